import PyProof.Rows.All
import Wide.All
import OpenK.AllK
import Wide.FinOn
import Lean
import PyProof.EqAt
import PyProof.EqKinds
import PyProof.TupleCall
import PyProof.FactsAll.list_3
import PyProof.EnumMake
import PyProof.Draws
import PyProof.Rows.CallKwBuiltin
import PyProof.ListRange
import PyProof.TupleIter
import PyProof.Rows.Range3
import PyProof.ZipIter
import PyProof.FactsAll.int_0
import PyProof.FactsAll.int_6
import PyProof.Rows.RuleM_int
import PyProof.ReprNest
import PyProof.ReprLen
import PyProof.StrOps
import KE.KDictOf
import PyProof.AttrMissHeap
import PyProof.MeetsDictList
import PyProof.DictRoadsH
import KE.KSortTup
import KE.KDictList
import PyProof.Rows.SortShell
import PyProof.MeetsSeq3
import PyProof.FactsAll.list_2
import KE.KSortAsk
import PyProof.TupleOfSeq
import PyProof.StrCalls2
import PyProof.StrCalls
import PyProof.Rows.StrJoin2
import KE.KIntText
import PyProof.CallStr
import PyProof.Rows.StrLen
import PyProof.StrBlockH
import PyProof.SliceStr2
import PyProof.StrWalks
import PyProof.StrLoop
import PyProof.Rows.FStr
import PyProof.StrOps2
import KE.KItemsList
import PyProof.StrLawsChain
import PyProof.Rows.StrBin
import PyProof.Rows.CatFin
import PySem.Challenge.RW_telltight_k75_sums_of_terms
set_option bootstrap.genMatcherCode false
set_option compiler.extract_closed false
open Option (bind_some map_some)
open PySem.W (InstAt callWith_K cellsFrom_some codeIn codeRec_of findIn fnOf hasDictIn hideAll hideAll_get hideAll_none hideAll_size instObj kIn_of keepIn ki_setAt ki_setBack kia_one kitOne kitx_bool kitx_dict kitx_float kitx_int kitx_list kitx_none kitx_own kitx_str kitx_tuple lookIn methodObj mg_none_of mg_of mroIn nsIn of_hideAll plainGet plainOver specialIn takesIn)
theorem oM {p : Prop} (h : p := by first | omega | (refine @id (@Ne Nat _ _) ?_; omega)) : p := h
theorem dC {p : Prop} (h : p := by decide) : p := h
set_option Elab.async false
set_option linter.all false
set_option maxRecDepth 100000
theorem oC (_ : True := by first | exact .inl rfl | exact .inr rfl | assumption) : True := trivial
theorem cG (_ : True := by decide) : True := trivial
theorem FX (_ : True := by first | exact xT _ dC dC | rfl) : True := trivial
theorem kP (_ : True := by intro _; rfl) : True := trivial
theorem aI (_ : True := by rfl) : True := trivial
theorem Ey (_ : True := by intros; rfl) : True := trivial
theorem zk (_ : True := by exact trivial) : True := trivial
theorem oA (_ : True := by first | exact Or.inl rfl | exact Or.inr (Or.inl rfl) | exact Or.inr (Or.inr rfl)) : True := trivial
theorem jF (_ : True := by intro _ _; rfl) : True := trivial
theorem zj (_ : True := by first | exact Or.inl rfl | exact Or.inr rfl) : True := trivial
theorem jP (_ : True := by (first | exact Le.refl | (repeat (first | exact Le.nil | refine Le.som inferInstance ?_ | refine Le.non ?_)))) : True := trivial
theorem jO (_ : True := by intro _; repeat (first | exact Fr.nil | refine Fr.som (fun _ _ h => h) ?_ | refine Fr.non ?_)) : True := trivial
theorem Fg (_ : True := by infer_instance) : True := trivial
theorem CO (_ : True := by intro _; repeat (first | exact Le.nil | refine Le.som inferInstance ?_ | refine Le.non ?_)) : True := trivial
namespace L2
open PySem PySem.Spec PyProof.Rows
noncomputable abbrev fI := Sum Int Str
noncomputable def yX : fI -> Value -> Bool
 | .inl k, v => Value.isInt k v
 | .inr x, v => Value.isStrOf x v
noncomputable def EY (w : World) : fI -> Int
 | .inl k => hashInt k
 | .inr x => hashStr w x
theorem dv : ∀ {k : fI} {v : Value}, yX k v = true -> (∃ i t, k = Sum.inl i /\ v = Value.int i t) \/ (∃ x t, k = Sum.inr x /\ v = Value.str x t)
 | .inl i, v, h => by
  obtain ⟨t, e⟩ := Value.isInt_shape (k := i) (v := v) h;exact .inl ⟨i, t, rfl, e⟩
 | .inr x, v, h => by
  obtain ⟨t, e⟩ := Value.isStrOf_shape (x := x) (v := v) h;exact .inr ⟨x, t, rfl, e⟩
theorem BY (a b : Int) : decide ((Sum.inl a : fI) = Sum.inl b) = (a == b) := by
 by_cases e : a = b
 ·subst e; simp
 ·have h : ¬ (Sum.inl a : fI) = Sum.inl b := fun q => e (Sum.inl.inj q)
  rw [decide_eq_false h];exact (beq_eq_false_iff_ne.mpr e).symm
theorem BV (a b : Str) : decide ((Sum.inr a : fI) = Sum.inr b) = decide (a = b) := by
 by_cases e : a = b
 ·subst e; simp
 ·have h : ¬ (Sum.inr a : fI) = Sum.inr b := fun q => e (Sum.inr.inj q)
  rw [decide_eq_false h, decide_eq_false e]
theorem BX (a : Int) (b : Str) : decide ((Sum.inl a : fI) = Sum.inr b) = false := decide_eq_false (fun q => nomatch q)
theorem BW (a : Str) (b : Int) : decide ((Sum.inr a : fI) = Sum.inl b) = false := decide_eq_false (fun q => nomatch q)
noncomputable def tY (prog : Program) (w : World) : PySem.KeyKind prog w fI where
 is := yX
 hash := EY w
 inj := fun v a b ha hb => by
  rcases dv ha with ⟨i, t, rfl, rfl⟩ | ⟨x, t, rfl, rfl⟩
  ·rcases dv hb with ⟨j, u, rfl, e⟩ | ⟨y, u, rfl, e⟩
   ·injection e with e1 _; rw [e1]
   ·exact nomatch e
  ·rcases dv hb with ⟨j, u, rfl, e⟩ | ⟨y, u, rfl, e⟩
   ·exact nomatch e
   ·injection e with e1 _; rw [e1]
 byValue := fun k v h => by
  rcases dv h with ⟨i, t, rfl, rfl⟩ | ⟨x, t, rfl, rfl⟩ <;> rfl
 pyHash := fun hv h => by
  rcases dv hv with ⟨i, t, rfl, rfl⟩ | ⟨x, t, rfl, rfl⟩
  ·exact wpAny_pyHash_int h
  ·exact wpAny_pyHash_str h
 eqBool := fun hu hv h => by
  rcases dv hu with ⟨i, t, rfl, rfl⟩ | ⟨x, t, rfl, rfl⟩
  ·rcases dv hv with ⟨j, u, rfl, rfl⟩ | ⟨y, u, rfl, rfl⟩
   ·rw [BY] at h; exact wpAny_eqBool_int h
   ·rw [BX] at h; exact SeqAt.EqAt.int_str i t y u _ _ _ _ h
  ·rcases dv hv with ⟨j, u, rfl, rfl⟩ | ⟨y, u, rfl, rfl⟩
   ·rw [BW] at h; exact SeqAt.EqAt.str_int x t j u _ _ _ _ h
   ·rw [BV] at h; exact wpAny_eqBool_str h
 «strs» := fun k x t v h => by
  rcases dv h with ⟨i, u, rfl, e⟩ | ⟨y, u, rfl, e⟩
  ·exact nomatch e
  ·injection e with e1 _
   subst e1;cases v <;> rfl
inductive V where
 | non | bl (b : Bool) | int (i : Int) | str (x : Str) | byt (b : Array UInt8) | flt (b : UInt64) | ref (a : Addr) | ty (n : String)
 deriving DecidableEq
noncomputable def RelV : V -> Value -> Prop
 | .non, u => u = Value.none
 | .bl b, u => u = Value.bool b
 | .int i, u => ∃ t, u = Value.int i t
 | .str x, u => ∃ t, u = Value.str x t
 | .byt b, u => ∃ t, u = Value.bytes b t
 | .flt b, u => ∃ t, u = Value.float b t
 | .ref a, u => u = Value.ref a
 | .ty n, u => u = Value.type n
noncomputable abbrev Vals : List V -> List Value -> Prop := Paired RelV
theorem Vals.length {xs : List V} {us : List Value} (r : Vals xs us) : xs.length = us.length := Paired.length r
theorem Vals.get : ∀ {xs : List V} {us : List Value} {i : Nat} {x : V}, Vals xs us -> xs[i]? = some x -> ∃ u, us[i]? = some u /\ RelV x u
 | _, _, _, _, .nil, e => by simp at e
 | _, _, 0, _, .cons r _, e => by simp at e; subst e; exact ⟨_, rfl, r⟩
 | _, _, i + 1, x, .cons _ t, e => by
  obtain ⟨u, h1, h2⟩ := Vals.get (i := i) (x := x) t (by simpa using e);exact ⟨u, by simpa using h1, h2⟩
theorem Vals.set {x : V} {u : Value} (r : RelV x u) : ∀ {xs : List V} {us : List Value} (i : Nat), Vals xs us -> Vals (xs.set i x) (us.set i u)
 | _, _, _, .nil => .nil
 | _, _, 0, .cons _ t => .cons r t
 | _, _, i + 1, .cons q t => .cons q (Vals.set r i t)
theorem Vals.append : ∀ {xs ys : List V} {us ws : List Value}, Vals xs us -> Vals ys ws -> Vals (xs ++ ys) (us ++ ws) := by
 intro xs ys us ws h s
 induction h with
 | nil => exact s
 | cons r t ih => exact .cons r ih
theorem Vals.take : ∀ {xs : List V} {us : List Value} (n : Nat), Vals xs us -> Vals (xs.take n) (us.take n) := by
 intro xs us n h
 induction h generalizing n with
 | nil => cases n <;> exact .nil
 | cons r t ih => cases n with
  | zero => exact .nil
  | succ n => exact .cons r (ih n)
theorem Vals.drop : ∀ {xs : List V} {us : List Value} (n : Nat), Vals xs us -> Vals (xs.drop n) (us.drop n) := by
 intro xs us n h
 induction h generalizing n with
 | nil => cases n <;> exact .nil
 | cons r t ih => cases n with
  | zero => exact .cons r t
  | succ n => exact ih n
noncomputable def yG : Option V -> Option Value -> Prop
 | some v, some u => RelV v u
 | none, none => True
 | _, _ => False
noncomputable def KV {κ : Type} : List (κ × V) -> List (κ × Value) -> Prop := Paired fun (p : κ × V) (q : κ × Value) => p.1 = q.1 /\ RelV p.2 q.2
noncomputable def kV : fI -> V
 | .inl i => .int i
 | .inr x => .str x
inductive HO where
  | lst (xs : List V)
  | tup (xs : List V)
  | dK (kvs : List (fI × V)) | dT (kvs : List (List fI × V))
  | set (S : Int -> Bool) (n : Nat)
  | ins (C dx : Addr) (fs : List (Str × V))
  | own (x : Addr)
  | xd (fs : List (Str × V))
  | met (f x : Addr)
  | rng (lo hi : Int)
  | frz (o : Obj) (u : HO)
  | tbl (ps : Array Value)
  | ext (φ : Heap -> Prop)
noncomputable abbrev Hp := Addr -> Option HO
noncomputable def aO (H : Hp) (a : Addr) (o : HO) : Hp := fun b => if b = a then some o else H b
theorem bX {H : Hp} {a : Addr} {o : HO} : aO H a o a = some o := by unfold aO; rw [if_pos rfl]
theorem aJ {H : Hp} {a b : Addr} {o : HO} (h : b ≠ a) : aO H a o b = H b := by unfold aO; rw [if_neg h]
theorem cE {H : Hp} {a b : Addr} {o : HO} (h : H a = some o) (h' : H b = none) : a ≠ b := by
 intro e; subst e; rw [h] at h'; cases h'
section
variable (P : Program) (w : World)
noncomputable def ObjOk (H : Hp) (h : Heap) (a : Addr) : HO -> Prop
 | .lst xs => xs.length <= sizeLine /\ ∃ (its : List Value) (n : Nat), Vals xs its /\ h.get? a = some { cls := .type "list", data := .seq its.toArray n }
 | .tup xs => xs.length <= sizeLine /\ ∃ its : List Value, Vals xs its /\ IsTup h a its.toArray
 | .dK kvs => kvs.length <= sizeLine /\ (a == sysModules) = false /\ ∃ vs, KV kvs vs /\ h.DictOf (tY P w) a vs
 | .dT kvs => kvs.length <= sizeLine /\ (a == sysModules) = false /\ ∃ xs : List (List fI × Addr × Value),
   Paired (fun (p : List fI × V) (q : List fI × Addr × Value) => p.1 = q.1 /\ H q.2.1 = some (.tup (p.1.map kV)) /\ RelV p.2 q.2.2) kvs xs /\
   ∃ o es ep, h.get? a = some o /\ o.ExactDict /\ o.data = .dict es ep /\ es.toList = xs.map (entryOfKey (tupleKind (tY P w))) /\ (xs.map (·.1)).Nodup
 | .set S n => h.SetOf (intKind P w) a S n
 | .ins C dx fs => H dx = some (.own a) /\ fs.length <= 1000 /\ dx ≠ a /\ h.get? a = some (instObj C dx) /\
   ∃ mA, h.Ns1 dx mA /\ (∀ f, yG (fs.lookup f) (mA f)) /\ PySem.Within mA (fs.map (·.1))
 | .own _ => ∃ o, h.get? a = some o
 | .xd fs => ∃ mA, h.Ns1 a mA /\ ∀ f, yG (fs.lookup f) (mA f)
 | .rng lo hi => ∃ t u v, h.get? a = some { cls := .type "range", data := .fields #[.int lo t, .int hi u, .int 1 v] }
 | .frz o u => h.get? a = some o /\ ObjOk H h a u
 | .tbl ps => h.get? a = some { cls := .none, data := .fields ps }
 | .met f x => h.get? a = some (methodObj (.ref f) (.ref x))
 | .ext φ => φ h /\ (∃ o, h.get? a = some o) /\ ∀ h1 h2 : Heap, φ h1 -> (∀ o, h1.get? a = some o -> h2.get? a = some o) -> φ h2
noncomputable def HOk (H : Hp) (h : Heap) : Prop := ∀ a o, H a = some o -> ObjOk P w H h a o
end
section
variable {P : Program} {w : World} {H H' : Hp} {h h' : Heap} {a : Addr} {o : HO}
theorem ObjOk.lt (x : ObjOk P w H h a o) : a < h.objs.size := by
 cases o with
 | lst xs => obtain ⟨_, _, _, _, e⟩ := x; exact Heap.lt_size e
 | tup xs => obtain ⟨_, _, _, p⟩ := x; exact p.lt
 | dK kvs => obtain ⟨_, _, _, _, o, _, _, e, _⟩ := x; exact Heap.lt_size e
 | dT kvs => obtain ⟨_, _, _, _, o, _, _, e, _⟩ := x; exact Heap.lt_size e
 | set S n => obtain ⟨o, _, _, _, e, _⟩ := x; exact Heap.lt_size e
 | ins C dx fs => obtain ⟨_, _, _, e, _⟩ := x; exact Heap.lt_size e
 | own y => obtain ⟨_, e⟩ := x; exact Heap.lt_size e
 | xd fs => obtain ⟨_, ⟨_, _, _, e, _⟩, _⟩ := x; exact Heap.lt_size e
 | rng lo hi => obtain ⟨_, _, _, e⟩ := x; exact Heap.lt_size e
 | frz ob u => obtain ⟨e, _⟩ := x; exact Heap.lt_size e
 | tbl ps => exact Heap.lt_size (show h.get? a = some _ from x)
 | met f y => exact Heap.lt_size (show h.get? a = some _ from x)
 | ext φ => obtain ⟨_, ⟨_, e⟩, _⟩ := x; exact Heap.lt_size e
theorem Paired.mapP {α β : Type} {F G : α -> β -> Prop} : ∀ {l₁ : List α} {l₂ : List β}, Paired F l₁ l₂ -> (∀ a b, F a b -> G a b) -> Paired G l₁ l₂ := by
 intro l₁ l₂ h f
 induction h with
 | nil => exact .nil
 | cons r t ih => exact .cons (f _ _ r) ih
theorem ObjOk.stay (x : ObjOk P w H h a o) (k : ∀ b u, (b = a \/ H b = some (.own a)) -> h.get? b = some u -> h'.get? b = some u)
  (ho : ∀ b, H b = some (.own a) -> H' b = some (.own a)) (ht : ∀ b xs, H b = some (.tup xs) -> H' b = some (.tup xs)) : ObjOk P w H' h' a o := by
 induction o with
 | lst xs => obtain ⟨z, its, n, r, e⟩ := x; exact ⟨z, its, n, r, k _ _ (.inl rfl) e⟩
 | tup xs => obtain ⟨z, its, r, ob, e, c⟩ := x; exact ⟨z, its, r, ob, k _ _ (.inl rfl) e, c⟩
 | dK kvs => obtain ⟨z, y, vs, r, ob, es, ep, e, c⟩ := x; exact ⟨z, y, vs, r, ob, es, ep, k _ _ (.inl rfl) e, c⟩
 | dT kvs =>
  obtain ⟨z, y, xs, r, ob, es, ep, e, c⟩ := x;exact ⟨z, y, xs, Paired.mapP r fun p q z => ⟨z.1, ht _ _ z.2.1, z.2.2⟩, ob, es, ep, k _ _ (.inl rfl) e, c⟩
 | set S n => obtain ⟨ob, es, ep, t, e, c⟩ := x; exact ⟨ob, es, ep, t, k _ _ (.inl rfl) e, c⟩
 | ins C dx fs =>
  obtain ⟨d, z, ne, e, mA, ⟨od, es, ep, e2, c⟩, r⟩ := x;exact ⟨ho _ d, z, ne, k _ _ (.inl rfl) e, mA, ⟨od, es, ep, k _ _ (.inr d) e2, c⟩, r⟩
 | own y => obtain ⟨ob, e⟩ := x; exact ⟨ob, k _ _ (.inl rfl) e⟩
 | xd fs => obtain ⟨mA, ⟨od, es, ep, e, c⟩, r⟩ := x; exact ⟨mA, ⟨od, es, ep, k _ _ (.inl rfl) e, c⟩, r⟩
 | rng lo hi => obtain ⟨t, u, v, e⟩ := x; exact ⟨t, u, v, k _ _ (.inl rfl) e⟩
 | frz ob u ih => obtain ⟨e, q⟩ := x; exact ⟨k _ _ (.inl rfl) e, ih q⟩
 | tbl ps =>
  have e : h.get? a = some { cls := .none, data := .fields ps } := x;show h'.get? a = some { cls := .none, data := .fields ps };exact k a _ (.inl rfl) e
 | met f y =>
  have e : h.get? a = some (methodObj (.ref f) (.ref y)) := x;show h'.get? a = some (methodObj (.ref f) (.ref y));exact k a _ (.inl rfl) e
 | ext φ => obtain ⟨p, ⟨o, e⟩, st⟩ := x; exact ⟨st _ _ p fun o q => k _ _ (.inl rfl) q, ⟨o, k _ _ (.inl rfl) e⟩, st⟩
theorem HOk.lt (x : HOk P w H h) (e : H a = some o) : a < h.objs.size := (x a o e).lt
theorem HOk.fresh (x : HOk P w H h) (e : h.objs.size <= a) : H a = none := by
 cases q : H a with
 | none => rfl
 | some u => exact absurd (Nat.lt_of_lt_of_le (x.lt q) e) (Nat.lt_irrefl _)
theorem HOk.kept (x : HOk P w H h) (k : ∀ b u, h.get? b = some u -> h'.get? b = some u) : HOk P w H h' := fun a o e =>
 (x a o e).stay (fun b u _ q => k b u q) (fun _ q => q) fun _ _ q => q
theorem HOk.laid (x : HOk P w H h) (k : ∀ b u, h.get? b = some u -> h'.get? b = some u) (hp : h.objs.size <= a) (new : ObjOk P w (aO H a o) h' a o) : HOk P w (aO H a o) h' := fun b u e => by
 have hn := x.fresh hp;by_cases hb : b = a
 ·subst hb; rw [bX] at e; cases e; exact new
 ·rw [aJ hb] at e
  exact (x b u e).stay (fun c v _ q => k c v q) (fun c q => by rw [aJ (cE q hn)]; exact q) fun c xs q => by rw [aJ (cE q hn)]; exact q
end
noncomputable def Rd (H : Hp) (a : Addr) (u : HO) : Prop := H a = some u \/ ∃ o, H a = some (.frz o u)
theorem Rd.ok {P : Program} {w : World} {H : Hp} {h : Heap} {a : Addr} {u : HO} (r : Rd H a u) (x : HOk P w H h) : ObjOk P w H h a u := by
 rcases r with r | ⟨o, r⟩
 ·exact x a u r
 ·obtain ⟨_, q⟩ := x a _ r
  exact q
noncomputable def ze : Option HO -> Prop
 | some (.lst _) => True
 | some (.dK _) => True
 | some (.dT _) => True
 | some (.set _ _) => True
 | some (.ins _ _ _) => True
 | some (.ext _) => True
 | _ => False
section
variable {P : Program} {w : World} {H : Hp} {h h' : Heap} {x e : Addr} {o' : HO}
theorem HOk.write (ok : HOk P w H h) (mu : ze (H x)) (he : e = x \/ H e = some (.own x)) (k : ∀ b u, b ≠ e -> h.get? b = some u -> h'.get? b = some u) (heo : ∃ u, h'.get? e = some u)
  (new : ObjOk P w (aO H x o') h' x o') : HOk P w (aO H x o') h' := fun b u q => by
 have nown : ∀ c y, H c = some (.own y) -> c ≠ x := fun c y r z => by subst z; rw [r] at mu; exact mu
 have ntup : ∀ c xs, H c = some (.tup xs) -> c ≠ x := fun c xs r z => by subst z; rw [r] at mu; exact mu
 by_cases hb : b = x
 ·subst hb; rw [bX] at q; cases q; exact new
 ·rw [aJ hb] at q
  by_cases hbe : b = e
  ·have q' : H b = some (.own x) := by
    rcases he with z | z
    ·exact absurd (hbe.trans z) hb
    ·rw [hbe]; exact z
   rw [q] at q'; cases q';obtain ⟨v, hv⟩ := heo;exact ⟨v, by rw [hbe]; exact hv⟩
  ·refine (ok b u q).stay (fun c v hc r => k c v ?_ r) (fun c r => by rw [aJ (nown c b r)]; exact r) fun c xs r => by rw [aJ (ntup c xs r)]; exact r
   rcases hc with rfl | hc
   ·exact hbe
   ·rintro rfl
    rcases he with z | z
    ·exact nown c b hc z
    ·rw [hc] at z; cases z; exact hb rfl
end
structure Un (fs ex : List Addr) (H H' : Hp) (h h' : Heap) : Prop where
 keep : ∀ b o, h.get? b = some o -> H b = none -> b ∉ fs -> b ∉ ex -> h'.get? b = some o
 slot : ∀ b o, h.get? b = some o -> H b = none -> b ∈ fs -> b ∉ ex -> ∃ sl, h'.get? b = some { o with slots := sl }
 free : ∀ b o, h.get? b = some o -> H b = none -> b ∉ ex -> H' b = none
 there : ∀ b o, h.get? b = some o -> b ∉ ex -> ∃ o', h'.get? b = some o'
 tups : ∀ b xs, H b = some (.tup xs) -> H' b = some (.tup xs)
 frzs : ∀ b o u, H b = some (.frz o u) -> H' b = some (.frz o u)
 tbls : ∀ b ps, H b = some (.tbl ps) -> ∃ more, H' b = some (.tbl (ps ++ more))
section
variable {fs fs' ex ex' : List Addr} {H H1 H2 : Hp} {h h1 h2 h' : Heap} {a x e : Addr} {o : HO}
theorem Un.any (u : Un fs ex H H1 h h1) {b : Addr} {ob : Obj} (q : h.get? b = some ob) (n : H b = none) (hx : b ∉ ex) : ∃ sl, h1.get? b = some { ob with slots := sl } := by
 by_cases hb : b ∈ fs
 ·exact u.slot b ob q n hb hx
 ·exact ⟨ob.slots, u.keep b ob q n hb hx⟩
theorem Un.kept (k : ∀ b u, h.get? b = some u -> h'.get? b = some u) : Un fs ex H H h h' :=
 ⟨fun b ob q _ _ _ => k b ob q, fun b ob q _ _ _ => ⟨ob.slots, k b ob q⟩, fun _ _ _ n _ => n, fun b ob q _ => ⟨ob, k b ob q⟩, fun _ _ q => q, fun _ _ _ q => q, fun _ ps q => ⟨#[], by rw [q]; simp⟩⟩
theorem Un.refl : Un fs ex H H h h := Un.kept fun _ _ q => q
theorem Un.laid (k : ∀ b u, h.get? b = some u -> h'.get? b = some u) (hp : h.objs.size <= a) (hn : H a = none) : Un fs ex H (aO H a o) h h' where
 keep := fun b u q _ _ _ => k b u q
 slot := fun b u q _ _ _ => ⟨u.slots, k b u q⟩
 free := fun b u q n _ => by rw [aJ (Nat.ne_of_lt (Nat.lt_of_lt_of_le (Heap.lt_size q) hp))]; exact n
 there := fun b u q _ => ⟨u, k b u q⟩
 tups := fun b xs q => by rw [aJ (cE q hn)]; exact q
 frzs := fun b u xs q => by rw [aJ (cE q hn)]; exact q
 tbls := fun b ps q => ⟨#[], by rw [aJ (cE q hn), q]; simp⟩
theorem Un.write (mu : ze (H x)) (he : e = x \/ H e = some (.own x)) (k : ∀ b u, b ≠ e -> h.get? b = some u -> h'.get? b = some u) (heo : ∃ u, h'.get? e = some u) : Un fs ex H (aO H x o) h h' := by
 have hx : ∀ b, H b = none -> b ≠ x := fun b n z => by subst z; rw [n] at mu; exact mu
 have hb : ∀ b, H b = none -> b ≠ e := fun b n z => by
  subst z;rcases he with r | r
  ·exact hx b n r
  ·rw [n] at r; cases r
 have hm : ∀ b u, H b = some u -> ¬ ze (some u) -> b ≠ x := fun b u q nm z => by subst z; rw [q] at mu; exact nm mu
 refine ⟨fun b u q n _ _ => k b u (hb b n) q, fun b u q n _ _ => ⟨u.slots, k b u (hb b n) q⟩, fun b u q n _ => by rw [aJ (hx b n)]; exact n, fun b u q _ => ?_,
  fun b xs q => by rw [aJ (hm b _ q fun z => z)]; exact q, fun b u xs q => by rw [aJ (hm b _ q fun z => z)]; exact q, fun b ps q => ⟨#[], by rw [aJ (hm b _ q fun z => z), q]; simp⟩⟩
 by_cases hbe : b = e
 ·subst hbe; exact heo
 ·exact ⟨u, k b u hbe q⟩
end
noncomputable def yL (h : Heap) (H : Hp) : List Addr := (List.range h.objs.size).filter fun a => (H a).isSome
noncomputable def kx (h : Heap) (H : Hp) : Heap := hideAll h (yL h H)
theorem wB (h : Heap) (H : Hp) : (kx h H).objs.size = h.objs.size := hideAll_size _ _
theorem yp {h : Heap} {H : Hp} {b : Addr} {o : Obj} (e : h.get? b = some o) (n : H b = none) : (kx h H).get? b = some o :=
 hideAll_get _ e fun hm => by
  have q : (H b).isSome = true := (List.mem_filter.mp hm).2;rw [n] at q; simp at q
theorem z5 {h : Heap} {H : Hp} {b : Addr} {o : Obj} (e : (kx h H).get? b = some o) : h.get? b = some o /\ H b = none := by
 have e' : h.get? b = some o := of_hideAll (yL h H) e;refine ⟨e', ?_⟩;cases q : H b with
 | none => rfl
 | some x =>
  have hm : b ∈ yL h H := List.mem_filter.mpr ⟨List.mem_range.mpr (Heap.lt_size e'), by simp [q]⟩;have z : (kx h H).get? b = none := hideAll_none (yL h H) hm;rw [z] at e; cases e
noncomputable def AG (g h : Heap) (L : Addr) : List (Addr × Obj) := (List.range h.objs.size).filterMap fun a => if a = L \/ (g.get? a).isSome = true then none else (h.get? a).map fun o => (a, o)
noncomputable def cY (g h : Heap) (L d : Addr) : List (Addr × Obj) := (AG g h L).filter fun p => decide (p.1 ≠ d)
structure Mod (K : PySem.W.Frag) (mg : Str -> Option Value) (base : Heap) : Prop where
 kin : K.In base
 glob : base.Ns mainGlobals mg
 blt : ∃ mb, base.Ns builtinsNs mb /\ ∀ x : Str, x ≠ "__name__" -> mb x = bootBuiltins x
 nolimit : base.NoLimit
structure Cx where
 prog : Program
 w : World
 K : PySem.W.Frag
 mg : Str -> Option Value
 base : Heap
 A : Around
 N : List Str
 s₀ : Shared
 H₀ : Hp
 env : Env
 outer : List Env
 stack : List Env
 ex : List Addr
 fn : Str -> Bool
 calm : Bool
 pn : List (Addr × Obj)
 xe : Value -> Shared -> Prop
noncomputable def j2 (l : List Env) : List Addr := l.filterMap (·.frame)
noncomputable abbrev Cx.fs (X : Cx) : List Addr := j2 X.outer
noncomputable def lO (sc : Scope) (x : Str) : Prop := sc.names.lookup x = some .local \/ sc.names.lookup x = some .cell \/ sc.names.lookup x = some .free
noncomputable def ou (sc : Scope) (x : Str) : Prop := sc.names.lookup x = some .local \/ sc.names.lookup x = some .cell
noncomputable def Fe (env : Env) (h : Heap) (m : Str -> Option Value) (x : Str) (u : Value) : Prop :=
 (env.kindOf x = some .local /\ m x = some u) \/ ((env.kindOf x = some .cell \/ env.kindOf x = some .free) /\ ∃ c, env.cells.lookup x = some c /\ h.IsCell c (some u))
structure Cx.Ok (X : Cx) : Prop where
 mod : Mod X.K X.mg X.base
 kind : X.env.scope.kind = .function
 glob : X.env.globals = mainGlobals
 blt : X.env.builtins = builtinsNs
 above : X.s₀.heap.objs.size <= X.env.locals
 inj : ∀ x y c, X.env.cells.lookup x = some c -> X.env.cells.lookup y = some c -> x = y
 has : ∀ x, (X.env.kindOf x = some .cell \/ X.env.kindOf x = some .free) -> ∃ c, X.env.cells.lookup x = some c
 cab : ∀ x c, X.fn x = true -> X.env.cells.lookup x = some c -> X.s₀.heap.objs.size <= c
 hd : X.calm = true -> X.A.handled = none
 frames : X.A.frames = some X.stack
 stk : X.stack = X.outer \/ (X.stack = X.env :: X.outer /\ X.env.frame = some X.env.locals)
 exf : ∀ b ∈ X.ex, b ≠ X.env.locals /\ ∀ x c, X.env.cells.lookup x = some c -> c ≠ b
 bs : ∀ b o, X.base.get? b = some o -> X.s₀.heap.get? b = some o /\ X.H₀ b = none
 bsz : X.base.objs.size <= X.s₀.heap.objs.size
 noex : ∀ b o, X.base.get? b = some o -> b ∉ X.ex
 exfs : ∀ b ∈ X.ex, b ∉ X.fs
 funs : X.s₀.heap.FunFrames X.base X.outer
 frf : ∀ b ∈ X.fs, X.H₀ b = none
structure Inv (X : Cx) (aa : List (Addr × Obj)) (σ : List (Option V)) (H : Hp) (s : Shared) : Prop where
 ok : X.Ok
 os : s.os = X.s₀.os
 bare : AllBare s.gens
 base : Un X.fs X.ex X.H₀ H X.s₀.heap s.heap
 loc : ∃ m, s.heap.Ns X.env.locals m /\ ∀ (i : Nat) (x : Str) (v : V), X.N[i]? = some x -> σ[i]? = some (some v) -> lO X.env.scope x -> ∃ u, RelV v u /\ Fe X.env s.heap m x u
 cell : ∀ x c, X.env.cells.lookup x = some c -> ∃ v, s.heap.IsCell c v
 free : H X.env.locals = none
 freeC : ∀ x c, X.env.cells.lookup x = some c -> H c = none
 pin : ∀ p ∈ X.pn ++ aa, s.heap.get? p.1 = some p.2 /\ H p.1 = none /\ p.1 ≠ X.env.locals /\ p.1 ∉ X.fs /\ ∀ v, p.2.data ≠ .cell v
 hok : HOk X.prog X.w H s.heap
 len : σ.length = X.N.length
section
variable {X : Cx} {aa : List (Addr × Obj)} {σ : List (Option V)} {H H' : Hp} {s : Shared} {h' : Heap}
theorem Cx.Ok.nofr (ok : X.Ok) {b : Addr} {o : Obj} (e : X.base.get? b = some o) : b ∉ X.fs := fun hb => by
 have := (ok.funs.mem hb).1
 rw [e] at this; cases this
theorem Inv.bs (I : Inv X aa σ H s) : ∀ b o, X.base.get? b = some o -> s.heap.get? b = some o /\ H b = none := fun b o e =>
 ⟨I.base.keep b o (I.ok.bs b o e).1 (I.ok.bs b o e).2 (I.ok.nofr e) (I.ok.noex b o e), I.base.free b o (I.ok.bs b o e).1 (I.ok.bs b o e).2 (I.ok.noex b o e)⟩
theorem Inv.bk (I : Inv X aa σ H s) : ∀ b o, X.base.get? b = some o -> s.heap.get? b = some o := fun b o e => (I.bs b o e).1
theorem Inv.mod (I : Inv X aa σ H s) : Mod X.K X.mg X.base := I.ok.mod
theorem Inv.kIn (I : Inv X aa σ H s) : X.K.In s.heap := I.ok.mod.kin.keeps I.bk
theorem Inv.lt (I : Inv X aa σ H s) : X.env.locals < s.heap.objs.size := let ⟨_, hn, _⟩ := I.loc; hn.lt
theorem Inv.sz (I : Inv X aa σ H s) : X.s₀.heap.objs.size <= s.heap.objs.size := Nat.le_trans I.ok.above (Nat.le_of_lt I.lt)
theorem Inv.nofs (I : Inv X aa σ H s) {a : Addr} (h : s.heap.objs.size <= a) : a ∉ X.fs := fun hb => by
 obtain ⟨_, o, ho, _⟩ := I.ok.funs.mem hb;exact absurd (Nat.lt_of_lt_of_le (Heap.lt_size ho) (Nat.le_trans I.sz h)) (Nat.lt_irrefl _)
theorem Inv.cne (I : Inv X aa σ H s) : ∀ x c, X.env.cells.lookup x = some c -> c ≠ X.env.locals := fun x c e z => by
 obtain ⟨v, o, ho, hd⟩ := I.cell x c e;obtain ⟨m, ⟨o', es, ep, ho', hd', _⟩, _⟩ := I.loc;rw [z, ho'] at ho; cases ho; rw [hd'] at hd; cases hd
theorem Inv.funs (I : Inv X aa σ H s) : s.heap.FunFrames X.base X.outer := by
 have all : ∀ (l : List Env), (∀ b ∈ j2 l, b ∈ X.fs) -> X.s₀.heap.FunFrames X.base l -> s.heap.FunFrames X.base l := by
  intro l
  induction l with
  | nil => intro _ _; trivial
  | cons env r ih =>
   intro hs hl;obtain ⟨hk, ⟨L, o, hf, hn, ho, hd⟩, hr⟩ := hl;have hL : L ∈ X.fs := hs L (by unfold j2; rw [List.filterMap_cons, hf]; exact List.mem_cons_self);obtain ⟨sl, e⟩ := I.base.slot L o ho (I.ok.frf L hL) hL fun z => I.ok.exfs L z hL
   exact ⟨hk, ⟨L, _, hf, hn, e, hd⟩, ih (fun b hb => hs b (by unfold j2; rw [List.filterMap_cons, hf]; exact List.mem_cons_of_mem _ hb)) hr⟩
 exact all X.outer (fun _ hb => hb) I.ok.funs
theorem Inv.stack (I : Inv X aa σ H s) : s.heap.FunFrames X.base X.stack := by
 rcases I.ok.stk with e | ⟨e, hf⟩
 ·rw [e]; exact I.funs
 ·rw [e]
  obtain ⟨m, hn, _⟩ := I.loc;refine .cons (by rw [I.ok.kind]; decide) hf hn ?_ I.funs;exact Heap.get?_none_of_le (Nat.le_trans I.ok.bsz I.ok.above)
theorem Inv.stkSub (I : Inv X aa σ H s) : ∀ b ∈ j2 X.stack, b ∈ X.env.locals :: X.fs := fun b hb => by
 rcases I.ok.stk with e | ⟨e, hf⟩
 ·rw [e] at hb; exact List.mem_cons_of_mem _ hb
 ·rw [e] at hb
  unfold j2 at hb;rw [List.filterMap_cons, hf] at hb;exact hb
theorem Inv.stkFree (I : Inv X aa σ H s) : ∀ b ∈ j2 X.stack, H b = none := fun b hb => by
 rcases List.mem_cons.mp (I.stkSub b hb) with e | hb
 ·rw [e]; exact I.free
 ·obtain ⟨_, o, ho, _⟩ := I.ok.funs.mem hb
  exact I.base.free b o ho (I.ok.frf b hb) fun z => I.ok.exfs b z hb
theorem Inv.step {g' : Array GenState} {t' : Nat} {d' : Drawn} {ch : List Addr} (I : Inv X aa σ H s)
  (hch : ∀ b ∈ ch, (b ∈ X.ex \/ X.s₀.heap.objs.size <= b) /\ b ≠ X.env.locals /\ (∀ x c, X.env.cells.lookup x = some c -> c ≠ b) /\ ∀ p ∈ X.pn ++ aa, p.1 ≠ b)
  (keep : ∀ b o, b ≠ X.env.locals -> b ∉ X.fs -> b ∉ ch -> s.heap.get? b = some o -> H b = none -> h'.get? b = some o)
  (slot : ∀ b o, b ≠ X.env.locals -> b ∈ X.fs -> b ∉ ch -> s.heap.get? b = some o -> H b = none -> ∃ sl, h'.get? b = some { o with slots := sl }) (free : ∀ b o, b ∉ ch -> s.heap.get? b = some o -> H b = none -> H' b = none)
  (there : ∀ b o, b ∉ ch -> s.heap.get? b = some o -> ∃ o', h'.get? b = some o')
  (tups : ∀ b xs, H b = some (.tup xs) -> H' b = some (.tup xs)) (frzs : ∀ b o u, H b = some (.frz o u) -> H' b = some (.frz o u)) (tbls : ∀ b ps, H b = some (.tbl ps) -> ∃ more, H' b = some (.tbl (ps ++ more)))
  (ns : ∀ m, s.heap.Ns X.env.locals m -> h'.Ns X.env.locals m) (hok : HOk X.prog X.w H' h') (hg : AllBare g') :
  Inv X aa σ H' { s with heap := h', gens := g', drawn := d', toks := t' } := by
 have neL : ∀ b o, X.s₀.heap.get? b = some o -> b ≠ X.env.locals := fun b o e => Nat.ne_of_lt (Nat.lt_of_lt_of_le (Heap.lt_size e) I.ok.above)
 have neC : ∀ b o, X.s₀.heap.get? b = some o -> b ∉ X.ex -> b ∉ ch := fun b o e hx hb => by
  rcases (hch b hb).1 with z | z
  ·exact hx z
  ·exact absurd (Nat.lt_of_lt_of_le (Heap.lt_size e) z) (Nat.lt_irrefl _)
 have cellK : ∀ x c, X.env.cells.lookup x = some c -> ∀ v, s.heap.IsCell c v -> h'.IsCell c v := fun x c e v hq0 => by
  obtain ⟨o, ho, hd⟩ := hq0;have nch : c ∉ ch := fun z => (hch c z).2.2.1 x c e rfl
  by_cases hc : c ∈ X.fs
  ·obtain ⟨sl, q⟩ := slot c o (I.cne x c e) hc nch ho (I.freeC x c e)
   exact ⟨_, q, hd⟩
  ·exact ⟨o, keep c o (I.cne x c e) hc nch ho (I.freeC x c e), hd⟩
 refine ⟨I.ok, I.os, hg, ⟨fun b o e n hb hx => ?_, fun b o e n hb hx => ?_, fun b o e n hx => ?_, fun b o e hx => ?_, fun b xs e => tups b xs (I.base.tups b xs e), fun b o xs e => frzs b o xs (I.base.frzs b o xs e), fun b ps e => ?_⟩, ?_, fun x c e => ?_, ?_, fun x c e => ?_, fun p hp => ?_, hok, I.len⟩
 ·exact keep b o (neL b o e) hb (neC b o e hx) (I.base.keep b o e n hb hx) (I.base.free b o e n hx)
 ·obtain ⟨sl, e1⟩ := I.base.slot b o e n hb hx
  obtain ⟨sl', e2⟩ := slot b _ (neL b o e) hb (neC b o e hx) e1 (I.base.free b o e n hx);exact ⟨sl', e2⟩
 ·obtain ⟨o', e1⟩ := I.base.there b o e hx
  exact free b o' (neC b o e hx) e1 (I.base.free b o e n hx)
 ·obtain ⟨o', e1⟩ := I.base.there b o e hx
  exact there b o' (neC b o e hx) e1
 ·obtain ⟨m1, e1⟩ := I.base.tbls b ps e
  obtain ⟨m2, e2⟩ := tbls b _ e1;exact ⟨m1 ++ m2, by rw [e2, Array.append_assoc]⟩
 ·obtain ⟨m, hn, hl⟩ := I.loc
  refine ⟨m, ns m hn, fun i x v e1 e2 e3 => ?_⟩;obtain ⟨u, r, l⟩ := hl i x v e1 e2 e3;refine ⟨u, r, ?_⟩;rcases l with l | ⟨k, c, e, z⟩
  ·exact .inl l
  ·exact .inr ⟨k, c, e, cellK x c e _ z⟩
 ·obtain ⟨v, z⟩ := I.cell x c e
  exact ⟨v, cellK x c e v z⟩
 ·obtain ⟨m, ⟨o, _, _, ho, _⟩, _⟩ := I.loc
  exact free _ o (fun z => (hch _ z).2.1 rfl) ho I.free
 ·obtain ⟨v, o, ho, hd⟩ := I.cell x c e
  exact free c o (fun z => (hch c z).2.2.1 x c e rfl) ho (I.freeC x c e)
 ·obtain ⟨e, n, ne, nf, d⟩ := I.pin p hp
  have nch : p.1 ∉ ch := fun z => (hch p.1 z).2.2.2 p hp rfl
  exact ⟨keep p.1 p.2 ne nf nch e n, free p.1 p.2 nch e n, ne, nf, d⟩
theorem Inv.un {t' : Nat} (I : Inv X aa σ H s) (u : Un X.fs [] H H' s.heap h') (hok : HOk X.prog X.w H' h') : Inv X aa σ H' { s with heap := h', toks := t' } := by
 obtain ⟨m, ⟨o, es, ep, ho, r⟩, _⟩ := id I.loc;obtain ⟨sl, hL⟩ := u.any ho I.free (by simp);exact I.step (g' := s.gens) (d' := s.drawn) (ch := []) (fun _ z => nomatch z) (fun b o _ hb _ e n => u.keep b o e n hb (by simp)) (fun b o _ hb _ e n => u.slot b o e n hb (by simp)) (fun b o _ e n => u.free b o e n (by simp)) (fun b o _ e => u.there b o e (by simp)) u.tups u.frzs u.tbls (fun m' hm => by
  obtain ⟨o', es', ep', ho', r'⟩ := hm;rw [ho] at ho'; cases ho';exact ⟨_, es', ep', hL, r'⟩) hok I.bare
theorem Inv.call {g' : Array GenState} {t' : Nat} {d' : Drawn} {ch : List Addr} (I : Inv X aa σ H s) (u : Un (j2 X.stack) ch H H' s.heap h') (hok : HOk X.prog X.w H' h') (hg : AllBare g')
  (hch : ∀ b ∈ ch, (b ∈ X.ex \/ X.s₀.heap.objs.size <= b) /\ b ≠ X.env.locals /\ (∀ x c, X.env.cells.lookup x = some c -> c ≠ b) /\ ∀ p ∈ X.pn ++ aa, p.1 ≠ b) :
  Inv X aa σ H' { s with heap := h', gens := g', drawn := d', toks := t' } := by
 obtain ⟨m, ⟨o, es, ep, ho, r⟩, _⟩ := id I.loc;obtain ⟨sl, hL⟩ := u.any ho I.free fun z => (hch _ z).2.1 rfl
 exact I.step (ch := ch) hch (fun b o hL hb hc e n => u.keep b o e n (fun z => (List.mem_cons.mp (I.stkSub b z)).elim hL hb) hc) (fun b o _ _ hc e n => u.any e n hc) (fun b o hc e n => u.free b o e n hc) (fun b o hc e => u.there b o e hc) u.tups u.frzs u.tbls (fun m' hm => by
  obtain ⟨o', es', ep', ho', r'⟩ := hm;rw [ho] at ho'; cases ho';exact ⟨_, es', ep', hL, r'⟩) hok hg
theorem Inv.turned {t' : Nat} {it : Addr} (I : Inv X aa σ H s) (k : ∀ b o, b ≠ it -> s.heap.get? b = some o -> h'.get? b = some o) (hn : H it = none) (hL : it ≠ X.env.locals)
  (h1 : it ∈ X.ex \/ X.s₀.heap.objs.size <= it) (h2 : ∀ x c, X.env.cells.lookup x = some c -> c ≠ it) (h3 : ∀ p ∈ X.pn ++ aa, p.1 ≠ it) : Inv X aa σ H { s with heap := h', toks := t' } := by
 have nit : ∀ b u, H b = some u -> b ≠ it := fun b u e z => by rw [z, hn] at e; cases e
 refine I.step (g' := s.gens) (d' := s.drawn) (ch := [it]) (fun b hb => ?_) (fun b o _ _ hc e _ => k b o (fun z => hc (by simp [z])) e) (fun b o _ _ hc e _ => ⟨o.slots, k b o (fun z => hc (by simp [z])) e⟩) (fun _ _ _ _ n => n)
  (fun b o hc e => ⟨o, k b o (fun z => hc (by simp [z])) e⟩) (fun _ _ e => e) (fun _ _ _ e => e) (fun b ps e => ⟨#[], by rw [e]; simp⟩) (fun m hm => ?_) (fun b u e => ?_) I.bare
 ·have e : b = it := by simpa using hb
  subst e;exact ⟨h1, hL, h2, h3⟩
 ·obtain ⟨o, es, ep, ho, r⟩ := hm
  exact ⟨o, es, ep, k _ o (Ne.symm hL) ho, r⟩
 ·refine (I.hok b u e).stay (fun c v hc q => k c v ?_ q) (fun _ q => q) fun _ _ q => q
  rcases hc with z | z
  ·rw [z]; exact nit b u e
  ·exact nit c _ z
theorem Inv.tok (I : Inv X aa σ H s) (t : Nat) : Inv X aa σ H { s with toks := t } := I.un (h' := s.heap) (t' := t) Un.refl I.hok
theorem Inv.kept {t' : Nat} (I : Inv X aa σ H s) (k : ∀ b u, s.heap.get? b = some u -> h'.get? b = some u) : Inv X aa σ H { s with heap := h', toks := t' } := I.un (Un.kept k) (I.hok.kept k)
theorem Inv.laid {a : Addr} {o : HO} {t' : Nat} (I : Inv X aa σ H s) (k : ∀ b u, s.heap.get? b = some u -> h'.get? b = some u) (hp : s.heap.objs.size <= a) (new : ObjOk X.prog X.w (aO H a o) h' a o) :
  Inv X aa σ (aO H a o) { s with heap := h', toks := t' } := I.un (Un.laid k hp (I.hok.fresh hp)) (I.hok.laid k hp new)
theorem Inv.write {x e : Addr} {o : HO} {t' : Nat} (I : Inv X aa σ H s) (mu : ze (H x)) (he : e = x \/ H e = some (.own x)) (k : ∀ b u, b ≠ e -> s.heap.get? b = some u -> h'.get? b = some u) (heo : ∃ u, h'.get? e = some u)
  (new : ObjOk X.prog X.w (aO H x o) h' x o) : Inv X aa σ (aO H x o) { s with heap := h', toks := t' } := I.un (Un.write mu he k heo) (I.hok.write mu he k heo new)
theorem Inv.pins_of {pins' : List (Addr × Obj)} (I : Inv X aa σ H s) (h : ∀ p ∈ pins', s.heap.get? p.1 = some p.2 /\ H p.1 = none /\ p.1 ≠ X.env.locals /\ p.1 ∉ X.fs /\ ∀ v, p.2.data ≠ .cell v) : Inv X pins' σ H s :=
 ⟨I.ok, I.os, I.bare, I.base, I.loc, I.cell, I.free, I.freeC, fun p hp => (List.mem_append.mp hp).elim (fun z => I.pin p (List.mem_append_left _ z)) (h p), I.hok, I.len⟩
theorem rW {N : List Str} (hN : N.Nodup) {i j : Nat} {x : Str} (a : N[i]? = some x) (b : N[j]? = some x) : i = j := by
 obtain ⟨h1, e1⟩ := List.getElem?_eq_some_iff.mp a;obtain ⟨h2, e2⟩ := List.getElem?_eq_some_iff.mp b;exact (List.getElem_inj hN).mp (e1.trans e2.symm)
theorem pD {M : Model} {A : Around} {E : Value -> Shared -> Prop} {i : Nat} {x : Str} {v : V} {u : Value} {Q : Unit -> Shared -> Prop} (I : Inv X aa σ H s) (hN : X.N.Nodup) (hi : X.N[i]? = some x) (hx : ou X.env.scope x) (r : RelV v u)
  (h : ∀ s', Inv X aa (σ.set i (some v)) H s' -> (∃ a, Heap.SameBut a s.heap s'.heap /\ (a = X.env.locals \/ X.env.cells.lookup x = some a)) -> Q () s') (hf : autoParam (X.fn x = true \/ X.env.scope.names.lookup x = some .local) oC._auto_1) : wpAny M A (storeName X.env x u) Q E s := by
 obtain ⟨m, hn, hl⟩ := id I.loc;have hcls : (X.env.scope.kind == .class || (X.env.scope.kind == .module && X.env.locals != X.env.globals)) = false := by rw [I.ok.kind]; rfl
 have hiσ : i < σ.length := by rw [I.len]; exact (List.getElem?_eq_some_iff.mp hi).1
 have cne := I.cne;have tracked : ∀ {a : Addr} {h' : Heap}, (∃ o, s.heap.get? a = some o /\ H a = none) -> Heap.SameBut a s.heap h' -> HOk X.prog X.w H h' := fun {a h'} ha hs b ob e => by
  obtain ⟨_, _, hfree⟩ := ha;refine (I.hok b ob e).stay (fun c w' hc q => (hs.2 c ?_).trans q) (fun _ q => q) fun _ _ q => q
  rintro rfl;rcases hc with rfl | hc
  ·rw [hfree] at e; cases e
  ·rw [hfree] at hc; cases hc
 rcases hx with hk | hk
 ·refine wpAny_storeName_local hk hn (fun h' hn' hs => ?_) hcls
  obtain ⟨oL, _, _, hoL, _⟩ := id hn;refine h _ ⟨I.ok, I.os, I.bare, ⟨fun b o e n hb hx => ?_, fun b o e n hb hx => ?_, I.base.free, fun b o e hx => ?_, I.base.tups, I.base.frzs, I.base.tbls⟩, ⟨_, hn', fun j y v' e1 e2 e3 => ?_⟩, fun y c e => ?_, I.free, I.freeC, fun p hp => ?_, tracked ⟨oL, hoL, I.free⟩ hs, by simpa using I.len⟩ ⟨_, hs, .inl rfl⟩
  ·exact (hs.2 b (Nat.ne_of_lt (Nat.lt_of_lt_of_le (Heap.lt_size e) I.ok.above))).trans (I.base.keep b o e n hb hx)
  ·obtain ⟨sl, e1⟩ := I.base.slot b o e n hb hx
   exact ⟨sl, (hs.2 b (Nat.ne_of_lt (Nat.lt_of_lt_of_le (Heap.lt_size e) I.ok.above))).trans e1⟩
  ·obtain ⟨o', e1⟩ := I.base.there b o e hx
   exact ⟨o', (hs.2 b (Nat.ne_of_lt (Nat.lt_of_lt_of_le (Heap.lt_size e) I.ok.above))).trans e1⟩
  ·by_cases hj : j = i
   ·subst hj
    rw [hi] at e1; cases e1;rw [List.getElem?_set_self hiσ] at e2;cases e2;exact ⟨u, r, .inl ⟨hk, by simp⟩⟩
   ·rw [List.getElem?_set_ne (Ne.symm hj)] at e2
    obtain ⟨u', r', q⟩ := hl j y v' e1 e2 e3;refine ⟨u', r', ?_⟩;rcases q with ⟨k, e⟩ | ⟨k, c, e, z⟩
    ·refine .inl ⟨k, ?_⟩
     have : y ≠ x := fun e => hj (rW hN e1 (e ▸ hi))
     simp [this, e]
    ·exact .inr ⟨k, c, e, z.sameBut hs (cne y c e)⟩
  ·obtain ⟨w', z⟩ := I.cell y c e
   exact ⟨w', z.sameBut hs (cne y c e)⟩
  ·obtain ⟨e, n, ne, nf, d⟩ := I.pin p hp
   exact ⟨(hs.2 p.1 ne).trans e, n, ne, nf, d⟩
 ·have hfn : X.fn x = true := by
   rcases hf with z | z
   ·exact z
   ·rw [z] at hk; cases hk
  obtain ⟨c, hc⟩ := I.ok.has x (.inl hk);obtain ⟨w', z⟩ := I.cell x c hc;refine wpAny_storeName_cell I.ok.kind hk hc z (fun h' hc' hs => ?_);obtain ⟨oc, hoc, hocd⟩ := id z;refine h { s with heap := h' } ⟨I.ok, I.os, I.bare, ⟨fun b o e n hb hx => ?_, fun b o e n hb hx => ?_, I.base.free, fun b o e hx => ?_, I.base.tups, I.base.frzs, I.base.tbls⟩, ⟨m, hn.sameBut hs (Ne.symm (cne x c hc)), fun j y v' e1 e2 e3 => ?_⟩, fun y c' e => ?_, I.free, I.freeC, fun p hp => ?_, tracked ⟨oc, hoc, I.freeC x c hc⟩ hs, by simpa using I.len⟩ ⟨c, hs, .inr hc⟩
  ·exact (hs.2 b (Nat.ne_of_lt (Nat.lt_of_lt_of_le (Heap.lt_size e) (I.ok.cab x c hfn hc)))).trans (I.base.keep b o e n hb hx)
  ·obtain ⟨sl, e1⟩ := I.base.slot b o e n hb hx
   exact ⟨sl, (hs.2 b (Nat.ne_of_lt (Nat.lt_of_lt_of_le (Heap.lt_size e) (I.ok.cab x c hfn hc)))).trans e1⟩
  ·obtain ⟨o', e1⟩ := I.base.there b o e hx
   exact ⟨o', (hs.2 b (Nat.ne_of_lt (Nat.lt_of_lt_of_le (Heap.lt_size e) (I.ok.cab x c hfn hc)))).trans e1⟩
  ·by_cases hj : j = i
   ·subst hj
    rw [hi] at e1; cases e1;rw [List.getElem?_set_self hiσ] at e2;cases e2;exact ⟨u, r, .inr ⟨.inl hk, c, hc, hc'⟩⟩
   ·rw [List.getElem?_set_ne (Ne.symm hj)] at e2
    obtain ⟨u', r', q⟩ := hl j y v' e1 e2 e3;refine ⟨u', r', ?_⟩;rcases q with q | ⟨k, c', e, z'⟩
    ·exact .inl q
    ·refine .inr ⟨k, c', e, z'.sameBut hs ?_⟩
     rintro rfl;exact hj (rW hN e1 (I.ok.inj _ _ _ e hc ▸ hi))
  ·by_cases hcc : c' = c
   ·subst hcc; exact ⟨_, hc'⟩
   ·obtain ⟨w2, z2⟩ := I.cell y c' e
    exact ⟨w2, z2.sameBut hs hcc⟩
  ·obtain ⟨e, n, ne, nf, d⟩ := I.pin p hp
   refine ⟨(hs.2 p.1 ?_).trans e, n, ne, nf, d⟩;intro q;rw [q, hoc] at e;have q' : oc = p.2 := Option.some.inj e;exact d w' (by rw [<- q']; exact hocd)
theorem qF {M : Model} {A : Around} {E : Value -> Shared -> Prop} {i : Nat} {x : Str} {v : V} {u : Value} {Q : Unit -> Shared -> Prop} (I : Inv X aa σ H s) (hN : X.N.Nodup) (hi : X.N[i]? = some x) (hx : ou X.env.scope x) (r : RelV v u)
  (h : ∀ s', Inv X aa (σ.set i (some v)) H s' -> Q () s') (hf : autoParam (X.fn x = true \/ X.env.scope.names.lookup x = some .local) oC._auto_1) : wpAny M A (storeName X.env x u) Q E s :=
 pD I hN hi hx r (fun s' I' _ => h s' I') hf
theorem Inv.call' {s' : Shared} {ch : List Addr} (I : Inv X aa σ H s) (ho : s'.os = s.os) (u : Un (j2 X.stack) ch H H' s.heap s'.heap) (hok : HOk X.prog X.w H' s'.heap) (hg : AllBare s'.gens)
  (hch : ∀ b ∈ ch, (b ∈ X.ex \/ X.s₀.heap.objs.size <= b) /\ b ≠ X.env.locals /\ (∀ x c, X.env.cells.lookup x = some c -> c ≠ b) /\ ∀ p ∈ X.pn ++ aa, p.1 ≠ b) : Inv X aa σ H' s' := by
 obtain ⟨h', g', d', t', o'⟩ := s';have e : o' = s.os := ho;subst e;exact I.call (g' := g') (t' := t') (d' := d') u hok hg hch
end
noncomputable abbrev XK := Value -> Option Addr -> Hp -> Prop
noncomputable abbrev St := List (Option V)
noncomputable abbrev VK := V -> Hp -> Prop
noncomputable abbrev TE := St -> Hp -> VK -> Prop
noncomputable abbrev TT := St -> Hp -> (Bool -> Hp -> Prop) -> Prop
noncomputable abbrev TA := St -> Hp -> (List V -> Hp -> Prop) -> Prop
structure lU where
 nx : St -> Hp -> Prop
 rt : VK
 bk : St -> Hp -> Prop := fun _ _ => False
 ct : St -> Hp -> Prop := fun _ _ => False
noncomputable abbrev TS := lU -> St -> Hp -> Prop
noncomputable def EP (X : Cx) (aa : List (Addr × Obj)) (σ : St) (Q : VK) (u : Value) (s' : Shared) : Prop := ∃ v H', Inv X aa σ H' s' /\ RelV v u /\ Q v H'
noncomputable def TP (X : Cx) (aa : List (Addr × Obj)) (σ : St) (Q : Bool -> Hp -> Prop) (b : Bool) (s' : Shared) : Prop := ∃ H', Inv X aa σ H' s' /\ Q b H'
noncomputable def AP (X : Cx) (aa : List (Addr × Obj)) (σ : St) (Q : List V -> Hp -> Prop) (us : List Value) (s' : Shared) : Prop := ∃ vs H', Inv X aa σ H' s' /\ Vals vs us /\ Q vs H'
noncomputable def SP (X : Cx) (aa : List (Addr × Obj)) (D : lU) (f : Flow) (s' : Shared) : Prop :=
 match f with
 | .next => ∃ σ' H', Inv X aa σ' H' s' /\ D.nx σ' H'
 | .brk => ∃ σ' H', Inv X aa σ' H' s' /\ D.bk σ' H'
 | .cont => ∃ σ' H', Inv X aa σ' H' s' /\ D.ct σ' H'
 | .ret u => ∃ v σ' H', Inv X aa σ' H' s' /\ RelV v u /\ D.rt v H'
noncomputable def PE (X : Cx) (e : Expr) (t : TE) : Prop :=
 ∀ (aa : List (Addr × Obj)) (s : Shared) (σ : St) (H : Hp) (Q : VK), Inv X aa σ H s -> t σ H Q -> wpAny (model X.prog X.w) X.A (eval e X.env) (EP X aa σ Q) X.xe s
noncomputable def PT (X : Cx) (e : Expr) (t : TT) : Prop :=
 ∀ (aa : List (Addr × Obj)) (s : Shared) (σ : St) (H : Hp) (Q : Bool -> Hp -> Prop), Inv X aa σ H s -> t σ H Q -> wpAny (model X.prog X.w) X.A (isTrue e X.env (eval e X.env)) (TP X aa σ Q) X.xe s
noncomputable def PW (X : Cx) (e : Expr) (t : TT) : Prop :=
 ∀ (whole : Sem Value) (aa : List (Addr × Obj)) (s : Shared) (σ : St) (H : Hp) (Q : Bool -> Hp -> Prop), Inv X aa σ H s -> t σ H Q -> wpAny (model X.prog X.w) X.A (isTrue e X.env whole) (TP X aa σ Q) X.xe s
theorem PW.pt {X : Cx} {e : Expr} {t : TT} (h : PW X e t) : PT X e t := h _
noncomputable def PA (X : Cx) (es : List Expr) (t : TA) : Prop :=
 ∀ (pos : Pos) (aa : List (Addr × Obj)) (s : Shared) (σ : St) (H : Hp) (Q : List V -> Hp -> Prop), Inv X aa σ H s -> t σ H Q -> wpAny (model X.prog X.w) X.A (spliced (backTo pos (starEach es X.env))) (AP X aa σ Q) X.xe s
noncomputable def PS (X : Cx) (st : Stmt) (t : TS) : Prop :=
 ∀ (aa : List (Addr × Obj)) (s : Shared) (σ : St) (H : Hp) (D : lU), Inv X aa σ H s -> t D σ H -> wpAny (model X.prog X.w) X.A (exec st X.env) (SP X aa D) X.xe s
noncomputable def PSs (X : Cx) (st : List Stmt) (t : TS) : Prop :=
 ∀ (aa : List (Addr × Obj)) (s : Shared) (σ : St) (H : Hp) (D : lU), Inv X aa σ H s -> t D σ H -> wpAny (model X.prog X.w) X.A (execs st X.env) (SP X aa D) X.xe s
theorem bH {α : Type} {t : Sem α} {Q Q' : α -> Shared -> Prop} {M : Model} {A : Around} {E : Value -> Shared -> Prop} {s : Shared} (h : wpAny M A t Q E s) (hQ : ∀ a s, Q a s -> Q' a s) : wpAny M A t Q' E s := wpAny_mono h hQ fun _ _ x => x
section
variable {X : Cx}
theorem Ga {a b : Expr} {ta tb : TE} (ha : PE X a ta) (hb : PE X b tb) {aa : List (Addr × Obj)} {s : Shared} {σ : St} {H : Hp} {R : V -> V -> Hp -> Prop} (I : Inv X aa σ H s) (h : ta σ H fun x H1 => tb σ H1 fun y H2 => R x y H2)
  {α : Type} {Q : α -> Shared -> Prop} {f : Value -> Value -> Sem α}
  (hf : ∀ v u s2 x y H2, Inv X aa σ H2 s2 -> RelV x v -> RelV y u -> R x y H2 -> wpAny (model X.prog X.w) X.A (f v u) Q X.xe s2) :
  wpAny (model X.prog X.w) X.A (eval a X.env) (fun v s₁ => wpAny (model X.prog X.w) X.A (eval b X.env) (fun u s₂ => wpAny (model X.prog X.w) X.A (f v u) Q X.xe s₂) X.xe s₁) X.xe s := by
 refine bH (ha aa s σ H _ I h) fun v s1 ⟨x, H1, I1, r1, q1⟩ => ?_
 refine bH (hb aa s1 σ H1 _ I1 q1) fun u s2 ⟨y, H2, I2, r2, q2⟩ => ?_
 exact hf v u s2 x y H2 I2 r1 r2 q2
noncomputable def AU (i : Nat) : TE := fun σ H Q => ∃ v, σ[i]? = some (some v) /\ Q v H
noncomputable def tC (v : V) : TE := fun _ H Q => Q v H
theorem gK {i : Nat} {x : Str} {pos : Pos} (hN : X.N[i]? = some x) (hv : lO X.env.scope x) (hd : autoParam ((x == ("__debug__" : Str)) = false) cG._auto_1) (hcd : autoParam ((x == ("__classdict__" : Str)) = false) cG._auto_1) : PE X (.Name x pos) (AU i) := by
 intro aa s σ H Q I h;obtain ⟨v, e, h⟩ := h;obtain ⟨m, hn, hl⟩ := I.loc;obtain ⟨u, r, l⟩ := hl i x v hN e hv;have fin : EP X aa σ Q u s := ⟨v, H, I, r, h⟩;rcases l with ⟨hk, hm⟩ | ⟨hk, c, hc, hcell⟩
 ·exact wpAny_Name (wpAny_loadName_local I.ok.kind hk hn hm fin) hd
 ·rcases hk with hk | hk
  ·exact wpAny_Name (wpAny_loadName_cell I.ok.kind hk hc hcell fin) hd
  ·exact wpAny_Name (wpAny_loadName_free I.ok.kind hk hc hcell fin hcd) hd
theorem BB {i j pos} : PE X (.Constant (.int i) j pos) (tC (.int i)) := fun _ _ _ H _ I h => wpAny_Constant_int ⟨.int i, H, I.tok _, ⟨_, rfl⟩, h⟩
theorem Do {b j pos} : PE X (.Constant (.bool b) j pos) (tC (.bl b)) := fun _ _ _ H _ I h => Constant_bool ⟨.bl b, H, I, rfl, h⟩
theorem BA {x j pos} : PE X (.Constant (.str x) j pos) (tC (.str x)) := fun _ _ _ H _ I h => Calls.Constant_str ⟨.str x, H, I.tok _, ⟨_, rfl⟩, h⟩
noncomputable def Gl (X : Cx) (x : Str) : Prop := X.env.kindOf x = some .globalImplicit
theorem t0 {E : Value -> Shared -> Prop} {aa : List (Addr × Obj)} {s : Shared} {σ : St} {H : Hp} {x : Str} {u : Value} {pos : Pos} {Q : Value -> Shared -> Prop} (I : Inv X aa σ H s) (hg : Gl X x) (hm : X.mg x = some u) (h : Q u s)
  (hd : autoParam ((x == ("__debug__" : Str)) = false) cG._auto_1) : wpAny (model X.prog X.w) X.A (eval (.Name x pos) X.env) Q E s :=
 Calls.Name_function_global I.ok.kind hg (Calls.loadGlobal_global (by rw [I.ok.glob]; exact I.mod.glob.keeps I.bk) hm h) hd
theorem gO {E : Value -> Shared -> Prop} {aa : List (Addr × Obj)} {s : Shared} {σ : St} {H : Hp} {x : Str} {u : Value} {pos : Pos} {Q : Value -> Shared -> Prop} (I : Inv X aa σ H s) (hg : Gl X x) (hm : X.mg x = none) (hv : bootBuiltins x = some u) (h : Q u s)
  (hn : autoParam (x ≠ "__name__") cG._auto_1) (hd : autoParam ((x == ("__debug__" : Str)) = false) cG._auto_1) : wpAny (model X.prog X.w) X.A (eval (.Name x pos) X.env) Q E s := by
 obtain ⟨mb, h1, h2⟩ := I.mod.blt;exact Calls.Name_function_global I.ok.kind hg (Calls.loadGlobal_builtin (by rw [I.ok.glob]; exact I.mod.glob.keeps I.bk) hm (by rw [I.ok.blt]; exact h1.keeps I.bk) ((h2 x hn).trans hv) h) hd
theorem tR {x : Str} {v : V} {u : Value} {pos : Pos} (hg : Gl X x) (hm : X.mg x = some u) (r : RelV v u) (hd : autoParam ((x == ("__debug__" : Str)) = false) cG._auto_1) : PE X (.Name x pos) (tC v) :=
 fun _ _ _ H _ I h => t0 I hg hm ⟨v, H, I, r, h⟩ hd
theorem zZ {x : Str} {v : V} {u : Value} {pos : Pos} (hg : Gl X x) (hm : X.mg x = none) (hv : bootBuiltins x = some u) (r : RelV v u) (hn : autoParam (x ≠ "__name__") cG._auto_1) (hd : autoParam ((x == ("__debug__" : Str)) = false) cG._auto_1) : PE X (.Name x pos) (tC v) :=
 fun _ _ _ H _ I h => gO I hg hm hv ⟨v, H, I, r, h⟩ hn hd
variable {a b : Expr} {ta tb : TE} {pos : Pos}
noncomputable def PC (X : Cx) (op : CmpOp) (a b : Expr) (t : TE) : Prop :=
 ∀ (aa : List (Addr × Obj)) (s : Shared) (σ : St) (H : Hp) (Q : VK), Inv X aa σ H s -> t σ H Q ->
  wpAny (model X.prog X.w) X.A (eval a X.env) (fun v s₁ => wpAny (model X.prog X.w) X.A (eval b X.env) (fun u s₂ => wpAny (model X.prog X.w) X.A (compareOp op v u) (EP X aa σ Q) X.xe s₂) X.xe s₁) X.xe s
theorem xT (b : Expr) {op : CmpOp} (h : op ≠ .In) (h2 : op ≠ .NotIn) : behindInMarks op b = false := by
 have e1 : (op == CmpOp.In) = false := by cases op <;> first | rfl | exact absurd rfl h
 have e2 : (op == CmpOp.NotIn) = false := by cases op <;> first | rfl | exact absurd rfl h2
 cases b <;> simp [behindInMarks, e1, e2]
noncomputable def tB (t : TE) : TT := fun σ H Q => t σ H fun x H1 => ∃ c, x = .bl c /\ Q c H1
theorem FA {op : CmpOp} {t : TE} (h : PC X op a b t) (h1 : autoParam (behindInMarks op b = false) FX._auto_1) : PT X (.Compare a [op] [b] pos) (tB t) := by
 intro aa s σ H Q I hw;refine wpAny_isTrue_Compare1 (bH (h aa s σ H _ I hw) fun v s1 h1 => bH h1 fun u s2 h2 => bH h2 fun c s3 ⟨x, H1, I1, r1, q1⟩ => ?_) h1;obtain ⟨d, rfl, q⟩ := q1;cases r1;exact wpAny_truthy_bool ⟨H1, I1, q⟩
theorem Bp {e : Expr} {t : TE} (h : PE X e t) (he : autoParam (∀ whole, isTrue e X.env whole = (do let v <- whole; standAt e.pos; holding [v] (truthy v))) kP._auto_1) : PT X e (tB t) := by
 intro aa s σ H Q I hw;refine isTrue_plain (bH (h aa s σ H _ I hw) fun v s1 ⟨x, H1, I1, r1, q1⟩ => ?_) (he _);obtain ⟨d, rfl, q⟩ := q1;cases r1;exact wpAny_truthy_bool ⟨H1, I1, q⟩
variable {tA tB' : TT} {cY : List Expr}
noncomputable def EJ (t u : TT) : TT := fun σ H Q => t σ H fun c H1 => if c = true then u σ H1 Q else Q false H1
noncomputable def Fm (t u : TT) : TT := fun σ H Q => t σ H fun c H1 => if c = true then Q true H1 else u σ H1 Q
noncomputable def ED (t : TT) : TT := fun σ H Q => t σ H fun c H1 => Q (!c) H1
theorem zN (ha : PT X a tA) : PW X (.BoolOp .And [a] pos) tA := by
 intro wh aa s σ H Q I h;refine isTrue_and (bH (ha aa s σ H Q I h) fun c s1 e => ?_);cases c with
 | true => exact isTrue_and_nil e
 | false => exact e
theorem Bn (ha : PT X a tA) : PW X (.BoolOp .Or [a] pos) tA := by
 intro wh aa s σ H Q I h;refine isTrue_or (bH (ha aa s σ H Q I h) fun c s1 e => ?_);cases c with
 | false => exact isTrue_or_nil e
 | true => exact e
theorem Bo (ha : PT X a tA) (hb : PW X (.BoolOp .And (b :: cY) pos) tB') : PW X (.BoolOp .And (a :: b :: cY) pos) (EJ tA tB') := by
 intro wh aa s σ H Q I h;refine isTrue_and (bH (ha aa s σ H _ I h) fun c s1 ⟨H1, I1, q1⟩ => ?_);cases c with
 | true => exact hb wh aa s1 σ H1 Q I1 q1
 | false => exact ⟨H1, I1, q1⟩
theorem Di (ha : PT X a tA) (hb : PW X (.BoolOp .Or (b :: cY) pos) tB') : PW X (.BoolOp .Or (a :: b :: cY) pos) (Fm tA tB') := by
 intro wh aa s σ H Q I h;refine isTrue_or (bH (ha aa s σ H _ I h) fun c s1 ⟨H1, I1, q1⟩ => ?_);cases c with
 | true => exact ⟨H1, I1, q1⟩
 | false => exact hb wh aa s1 σ H1 Q I1 q1
theorem Bq (ha : PT X a tA) : PT X (.UnaryOp .Not a pos) (ED tA) := by
 intro aa s σ H Q I h;exact isTrue_not (ha aa s σ H (fun c H1 => Q (!c) H1) I h)
noncomputable def Fo (t : TT) (ta tb : TE) : TE := fun σ H Q => t σ H fun c H1 => if c = true then ta σ H1 Q else tb σ H1 Q
theorem xI {c : Expr} (hc : PT X c tA) (ha : PE X a ta) (hb : PE X b tb) : PE X (.IfExp c a b pos) (Fo tA ta tb) := by
 intro aa s σ H Q I h;refine wpAny_IfExp (bH (hc aa s σ H _ I h) fun d s1 ⟨H1, I1, q1⟩ => ?_);cases d with
 | true => exact ha aa s1 σ H1 Q I1 q1
 | false => exact hb aa s1 σ H1 Q I1 q1
end
noncomputable def dH (K : PySem.W.Frag) (H : Hp) (a : Addr) (xs : List V) : Prop :=
 Rd H a (.lst xs) \/
  ∃ (o : Obj) (its : Array Value) (n : Nat), K.lookup a = some o /\ o.cls = .type "list" /\ o.dict = none /\ o.data = .seq its n /\ its.size <= sizeLine /\ Vals xs its.toList
noncomputable def sQ (K : PySem.W.Frag) (H : Hp) (a : Addr) (xs : List V) : Prop :=
 Rd H a (.tup xs) \/
  ∃ (o : Obj) (its : Array Value) (n : Nat), K.lookup a = some o /\ o.cls = .type "tuple" /\ o.data = .seq its n /\ its.size <= sizeLine /\ Vals xs its.toList
noncomputable def Fc : Value -> Option V
 | .none => some .non
 | .bool b => some (.bl b)
 | .int i _ => some (.int i)
 | .str x _ => some (.str x)
 | .bytes b _ => some (.byt b)
 | .float b _ => some (.flt b)
 | .ref a => some (.ref a)
 | .type n => some (.ty n)
 | _ => none
theorem RelV.abs {x : V} {u : Value} (r : RelV x u) : Fc u = some x := by
 cases x with
 | non => cases r; rfl
 | bl _ => cases r; rfl
 | int _ => obtain ⟨t, rfl⟩ := r; rfl
 | str _ => obtain ⟨t, rfl⟩ := r; rfl
 | byt _ => obtain ⟨t, rfl⟩ := r; rfl
 | flt _ => obtain ⟨t, rfl⟩ := r; rfl
 | ref _ => cases r; rfl
 | ty _ => cases r; rfl
theorem RelV.inj {x y : V} {u : Value} (r : RelV x u) (q : RelV y u) : x = y := Option.some.inj (r.abs.symm.trans q.abs)
theorem Vals.inj {xs ys : List V} {us : List Value} (h : Vals xs us) : Vals ys us -> xs = ys := by
 induction h generalizing ys with
 | nil => intro h'; cases h'; rfl
 | cons r t ih =>
  intro h';cases h' with
  | cons r' t' => rw [r.inj r', ih t']
section
variable {X : Cx} {aa : List (Addr × Obj)} {σ : St} {H : Hp} {s : Shared} {a : Addr} {xs ys : List V}
theorem Inv.list (I : Inv X aa σ H s) (h : dH X.K H a xs) : ∃ its : List Value, Vals xs its /\ PlainL s.heap a its.toArray /\ xs.length <= sizeLine := by
 rcases h with h | ⟨o, its, n, hk, hc, hd, hs, hz, r⟩
 ·obtain ⟨z, its, n, r, e⟩ := h.ok I.hok
  exact ⟨its, r, ⟨_, n, e, rfl, rfl, rfl⟩, z⟩
 ·refine ⟨its.toList, r, ⟨o, n, I.kIn a o hk, hc, hd, by simpa using hs⟩, ?_⟩
  have e := r.length;simp only [Array.length_toList] at e;omega
theorem Inv.tuple (I : Inv X aa σ H s) (h : sQ X.K H a xs) : ∃ its : List Value, Vals xs its /\ IsTup s.heap a its.toArray /\ xs.length <= sizeLine := by
 rcases h with h | ⟨o, its, n, hk, hc, hs, hz, r⟩
 ·obtain ⟨z, its, r, p⟩ := h.ok I.hok
  exact ⟨its, r, p, z⟩
 ·refine ⟨its.toList, r, ⟨o, I.kIn a o hk, hc, n, by simpa using hs⟩, ?_⟩
  have e := r.length;simp only [Array.length_toList] at e;omega
theorem Inv.list_inj (I : Inv X aa σ H s) (h : dH X.K H a xs) (h' : dH X.K H a ys) : xs = ys := by
 obtain ⟨its, r, ⟨o, n, e, _, _, d⟩, _⟩ := I.list h;obtain ⟨its', r', ⟨o', n', e', _, _, d'⟩, _⟩ := I.list h';rw [e] at e'; cases e';rw [d] at d';injection d' with d1 _;have : its = its' := by simpa using congrArg Array.toList d1
 subst this;exact r.inj r'
end
noncomputable abbrev Cx.wish (X : Cx) (E : Value -> Shared -> Prop) : Cx := { X with xe := E }
noncomputable abbrev Cx.nox (X : Cx) : Cx := X.wish fun _ _ => False
theorem Cx.Ok.wish {X : Cx} (ok : X.Ok) (E : Value -> Shared -> Prop) : (X.wish E).Ok :=
 ⟨ok.mod, ok.kind, ok.glob, ok.blt, ok.above, ok.inj, ok.has, ok.cab, ok.hd, ok.frames, ok.stk, ok.exf, ok.bs, ok.bsz, ok.noex, ok.exfs, ok.funs, ok.frf⟩
theorem Cx.Ok.unwish {X : Cx} {E : Value -> Shared -> Prop} (ok : (X.wish E).Ok) : X.Ok :=
 ⟨ok.mod, ok.kind, ok.glob, ok.blt, ok.above, ok.inj, ok.has, ok.cab, ok.hd, ok.frames, ok.stk, ok.exf, ok.bs, ok.bsz, ok.noex, ok.exfs, ok.funs, ok.frf⟩
section
variable {X : Cx} {aa : List (Addr × Obj)} {σ : St} {H : Hp} {s : Shared} {E : Value -> Shared -> Prop}
theorem Inv.wish (I : Inv X aa σ H s) (E : Value -> Shared -> Prop) : Inv (X.wish E) aa σ H s := ⟨I.ok.wish E, I.os, I.bare, I.base, I.loc, I.cell, I.free, I.freeC, I.pin, I.hok, I.len⟩
theorem Inv.unwish (I : Inv (X.wish E) aa σ H s) : Inv X aa σ H s := ⟨I.ok.unwish, I.os, I.bare, I.base, I.loc, I.cell, I.free, I.freeC, I.pin, I.hok, I.len⟩
theorem SP.unwish {D : lU} {f : Flow} {s' : Shared} (h : SP (X.wish E) aa D f s') : SP X aa D f s' := by
 cases f with
 | next => obtain ⟨σ', H', I, q⟩ := h; exact ⟨σ', H', I.unwish, q⟩
 | brk => obtain ⟨σ', H', I, q⟩ := h; exact ⟨σ', H', I.unwish, q⟩
 | cont => obtain ⟨σ', H', I, q⟩ := h; exact ⟨σ', H', I.unwish, q⟩
 | ret u => obtain ⟨v, σ', H', I, r, q⟩ := h; exact ⟨v, σ', H', I.unwish, r, q⟩
theorem PSs.nox {st : List Stmt} {t : TS} (h : PSs X.nox st t) : PSs X st t := fun aa s σ H D I hw =>
 wpAny_mono (h aa s σ H D (I.wish _) hw) (fun _ _ q => q.unwish) fun _ _ z => False.elim z
end
section
variable {X : Cx} {st : Stmt} {cY : List Stmt} {t u : TS} {e : Expr} {te : TE} {pos : Pos}
noncomputable def CW : TS := fun D σ H => D.nx σ H
noncomputable def tSeq (t u : TS) : TS := fun D σ H => t { D with nx := u D } σ H
theorem zP : PSs X [] CW := fun _ _ σ H _ I h => wpAny_execs_nil ⟨σ, H, I, h⟩
theorem xG (h1 : PS X st t) (h2 : PSs X cY u) : PSs X (st :: cY) (tSeq t u) := by
 intro aa s σ H D I h;refine wpAny_execs_cons (bH (h1 aa s σ H { D with nx := u D } I h) fun f s1 q => ?_);cases f with
 | next =>
  obtain ⟨σ', H', I', q⟩ := q;exact h2 aa s1 σ' H' D I' q
 | ret v => exact q
 | brk => exact q
 | cont => exact q
theorem zO (h1 : PS X st t) : PSs X [st] t := by
 intro aa s σ H D I h;refine wpAny_execs_cons (bH (h1 aa s σ H D I h) fun f s1 q => ?_);cases f with
 | next => exact wpAny_execs_nil q
 | ret v => exact q
 | brk => exact q
 | cont => exact q
theorem Inv.quiet {aa : List (Addr × Obj)} {σ : St} {H : Hp} {s : Shared} (I : Inv X aa σ H s) : interactive X.env = false := by simp [interactive, I.ok.kind]
noncomputable def CY (te : TE) : TS := fun D σ H => te σ H fun _ H1 => D.nx σ H1
theorem zQ (he : PE X e te) (hs : autoParam (swapsWith e none pos.line X.env = pure false) aI._auto_1) : PS X (.Expr e pos) (CY te) := by
 intro aa s σ H D I h;exact wpAny_Expr_any (bH (he aa s σ H _ I h) fun v s1 ⟨x, H1, I1, r1, q1⟩ => ⟨σ, H1, I1, q1⟩) I.quiet hs
noncomputable def EC (te : TE) : TS := fun D σ H => te σ H D.rt
theorem Bs (he : PE X e te) : PS X (.Return (some e) pos) (EC te) := by
 intro aa s σ H D I h;exact wpAny_Return_some (bH (he aa s σ H _ I h) fun v s1 ⟨x, H1, I1, r1, q1⟩ => ⟨x, σ, H1, I1, r1, q1⟩)
noncomputable def EG (c : TT) (t u : TS) : TS := fun D σ H => c σ H fun b H1 => if b = true then t D σ H1 else u D σ H1
theorem Dk {c : Expr} {a b : List Stmt} {tc : TT} (hc : PT X c tc) (ha : PSs X a t) (hb : PSs X b u) : PS X (.If c a b pos) (EG tc t u) := by
 intro aa s σ H D I h;refine wpAny_If (bH (hc aa s σ H _ I h) fun d s1 ⟨H1, I1, q1⟩ => ?_);cases d with
 | true => exact ha aa s1 σ H1 D I1 q1
 | false => exact hb aa s1 σ H1 D I1 q1
noncomputable def AV : TS := fun _ _ _ => False
theorem vV {sts : List Stmt} : PSs X sts AV := fun _ _ _ _ _ _ h => h.elim
end
noncomputable abbrev TG := V -> St -> Hp -> (St -> Hp -> Prop) -> Prop
noncomputable abbrev oq := List V -> St -> Hp -> (St -> Hp -> Prop) -> Prop
noncomputable def PG (X : Cx) (target : Expr) (t : TG) : Prop :=
 ∀ (aa : List (Addr × Obj)) (s : Shared) (σ : St) (H : Hp) (v : V) (u : Value) (Q : St -> Hp -> Prop), Inv X aa σ H s -> RelV v u -> t v σ H Q ->
  wpAny (model X.prog X.w) X.A (assign target X.env u) (fun _ s' => ∃ σ' H', Inv X aa σ' H' s' /\ Q σ' H') X.xe s
noncomputable def sS (X : Cx) (ts : List Expr) (t : oq) : Prop :=
 ∀ (aa : List (Addr × Obj)) (s : Shared) (σ : St) (H : Hp) (vs : List V) (us : List Value) (Q : St -> Hp -> Prop), Inv X aa σ H s -> Vals vs us -> t vs σ H Q ->
  wpAny (model X.prog X.w) X.A (assignInOrder ((assignEach ts X.env).map (·.2)) us) (fun _ s' => ∃ σ' H', Inv X aa σ' H' s' /\ Q σ' H') X.xe s
noncomputable abbrev sP := V -> V -> V -> Hp -> (Hp -> Prop) -> Prop
noncomputable def yH (X : Cx) (t : sP) : Prop :=
 ∀ (aa : List (Addr × Obj)) (s : Shared) (σ : St) (H : Hp) (o i v : V) (ov iv u : Value) (Q : Hp -> Prop), Inv X aa σ H s -> RelV o ov -> RelV i iv -> RelV v u -> t o i v H Q ->
  wpAny (model X.prog X.w) X.A (setItem ov iv u) (fun _ s' => ∃ H', Inv X aa σ H' s' /\ Q H') X.xe s
noncomputable abbrev CF := V -> V -> Hp -> VK -> Prop
noncomputable def FW (X : Cx) (op : Operator) (t : CF) : Prop :=
 ∀ (aa : List (Addr × Obj)) (s : Shared) (σ : St) (H : Hp) (x y : V) (v u : Value) (Q : VK), Inv X aa σ H s -> RelV x v -> RelV y u -> t x y H Q ->
  wpAny (model X.prog X.w) X.A (inplaceOp op v u) (EP X aa σ Q) X.xe s
section
variable {X : Cx} {pos : Pos}
noncomputable def nX (i : Nat) : TG := fun v σ H Q => Q (σ.set i (some v)) H
theorem zY {i : Nat} {x : Str} (hN : X.N.Nodup) (hi : X.N[i]? = some x) (hx : ou X.env.scope x) (hf : autoParam (X.fn x = true \/ X.env.scope.names.lookup x = some .local) oC._auto_1) : PG X (.Name x pos) (nX i) := by
 intro aa s σ H v u Q I r h;exact wpAny_assign_Name (qF I hN hi hx r (fun s' I' => ⟨_, H, I', h⟩) hf)
noncomputable def Fa : oq := fun vs σ H Q => vs = [] /\ Q σ H
noncomputable def DU (t : TG) (u : oq) : oq := fun vs σ H Q => ∃ v r, vs = v :: r /\ t v σ H fun σ' H' => u r σ' H' Q
theorem zX : sS X [] Fa := by
 intro aa s σ H vs us Q I r h;obtain ⟨e, h⟩ := h;subst e;cases r;exact assignInOrder_nil ⟨σ, H, I, h⟩
theorem xH {e : Expr} {es : List Expr} {t : TG} {u : oq} (h1 : PG X e t) (h2 : sS X es u)
  (hs : autoParam ((assignEach (e :: es) X.env).map (·.2) = assign e X.env :: (assignEach es X.env).map (·.2)) aI._auto_1) : sS X (e :: es) (DU t u) := by
 intro aa s σ H vs us Q I r h;obtain ⟨v, vr, e1, h⟩ := h;subst e1;cases r with
 | cons r rr =>
  rw [hs];refine assignInOrder_cons (bH (h1 aa s σ H _ _ _ I r h) fun _ s1 ⟨σ1, H1, I1, q1⟩ => ?_);exact h2 aa s1 σ1 H1 _ _ Q I1 rr q1
noncomputable def E8 (K : PySem.W.Frag) (n : Nat) (t : oq) : TG := fun v σ H Q => ∃ a xs, v = .ref a /\ sQ K H a xs /\ xs.length = n /\ t xs σ H Q
theorem Bx {es : List Expr} {k : Nat} {t : oq} {n : Nat} (hc : X.calm = true) (h : sS X es t)
  (hn : autoParam ((assignEach es X.env).length = n) aI._auto_1) (hst : autoParam ((assignEach es X.env).findIdx? (·.1) = none) aI._auto_1) : PG X (.Tuple es k pos) (E8 X.K n t) := by
 intro aa s σ H v u Q I r hw;obtain ⟨a, xs, e1, hq, hl, hw⟩ := hw;subst e1;cases r;obtain ⟨its, rv, ht, hz⟩ := I.tuple hq;refine assign_Tuple_tuple (I.ok.hd hc) ht (by simp [hn, <- hl, rv.length]) hst fun h' hx => ?_
 have I1 : Inv X aa σ H { s with heap := h' } := I.kept (t' := s.toks) fun b o e => hx b o (Nat.ne_of_lt (Heap.lt_size e)) e
 exact h aa _ σ H xs _ Q I1 (by simpa using rv) hw
noncomputable def jM (to ti : TE) (t : sP) : TG := fun v σ H Q => to σ H fun o H1 => ti σ H1 fun i H2 => t o i v H2 fun H3 => Q σ H3
theorem By {o i : Expr} {to ti : TE} {t : sP} (ho : PE X o to) (hi : PE X i ti) (hs : yH X t)
  (ha : autoParam (∀ v, assign (.Subscript o i pos) X.env v = (do
   let ov <- holding [v] (eval o X.env)
   let iv <- holding [v, ov] (eval i X.env)
   standAt pos
   holding [v, ov, iv] (setItem ov iv v)
   release [v, ov, iv] [])) kP._auto_1) : PG X (.Subscript o i pos) (jM to ti t) := by
 intro aa s σ H v u Q I r h;rw [ha];refine wpAny_bind (wpAny_holding (bH (ho aa s σ H _ I h) fun ov s1 ⟨x, H1, I1, r1, q1⟩ => ?_));refine wpAny_bind (wpAny_holding (bH (hi aa s1 σ H1 _ I1 q1) fun iv s2 ⟨y, H2, I2, r2, q2⟩ => ?_));refine wpAny_bind (wpAny_standAt (wpAny_bind (wpAny_holding (bH (hs aa s2 σ H2 x y v ov iv u _ I2 r1 r2 r q2) fun _ s3 ⟨H3, I3, q3⟩ => ?_))));exact wpAny_release ⟨σ, H3, I3, q3⟩
noncomputable def xj (te : TE) (g : TG) : TS := fun D σ H => te σ H fun x H1 => g x σ H1 D.nx
theorem Bu {tg e : Expr} {te : TE} {g : TG} (he : PE X e te) (hg : PG X tg g) (hs : autoParam (swapsWithSole [tg] e pos.line X.env = pure false) aI._auto_1) (hw : autoParam (swappedStores [tg] e X.env = pure none) aI._auto_1)
  (h1 : autoParam ((assignEach [tg] X.env).map (·.2) = [assign tg X.env]) aI._auto_1) : PS X (.Assign [tg] e pos) (xj te g) := by
 intro aa s σ H D I h;refine wpAny_Assign_stores (bH (he aa s σ H _ I h) fun v s1 ⟨x, H1, I1, r1, q1⟩ => ?_) hs hw;rw [h1];exact bH (hg aa s1 σ H1 x v _ I1 r1 q1) fun _ s2 q => q
theorem Br {i : Nat} {x : Str} {e : Expr} {te : TE} {pos' : Pos} (hN : X.N.Nodup) (hi : X.N[i]? = some x) (hx : ou X.env.scope x) (he : PE X e te) (hs : autoParam (swapsWith e (some (.Name x pos')) pos.line X.env = pure false) aI._auto_1) (hf : autoParam (X.fn x = true \/ X.env.scope.names.lookup x = some .local) oC._auto_1) :
  PS X (.Assign [.Name x pos'] e pos) (xj te (nX i)) := by
 intro aa s σ H D I h;refine wpAny_Assign_Name (bH (he aa s σ H _ I h) fun v s1 ⟨y, H1, I1, r1, q1⟩ => ?_) hs;exact qF I1 hN hi hx r1 (fun s2 I2 => ⟨_, H1, I2, q1⟩) hf
noncomputable def C0 (to ti te : TE) (tget : V -> V -> Hp -> VK -> Prop) (tip : CF) (tset : sP) : TS := fun D σ H => to σ H fun o H1 => ti σ H1 fun i H2 => tget o i H2 fun x H3 => te σ H3 fun y H4 => tip x y H4 fun z H5 => tset o i z H5 fun H6 => D.nx σ H6
noncomputable def CJ (X : Cx) (t : V -> V -> Hp -> VK -> Prop) : Prop :=
 ∀ (aa : List (Addr × Obj)) (s : Shared) (σ : St) (H : Hp) (o i : V) (ov iv : Value) (Q : VK), Inv X aa σ H s -> RelV o ov -> RelV i iv -> t o i H Q ->
  wpAny (model X.prog X.w) X.A (getItem ov iv) (EP X aa σ Q) X.xe s
theorem zR {o i e : Expr} {to ti te : TE} {tget : V -> V -> Hp -> VK -> Prop} {tip : CF} {tset : sP} {op : Operator} {tpos : Pos} (ho : PE X o to) (hi : PE X i ti) (hg : CJ X tget) (he : PE X e te) (hp : FW X op tip) (hs : yH X tset)
  (ha : autoParam (∀ ov iv new, augStore i ov iv new = (do holding [new, ov, iv] (setItem ov iv new); release [new, ov, iv] []; pure .next)) Ey._auto_1) : PS X (.AugAssign (.Subscript o i tpos) op e pos) (C0 to ti te tget tip tset) := by
 intro aa s σ H D I h;refine wpAny_AugAssign_SubscriptAny (bH (ho aa s σ H _ I h) fun ov s1 ⟨x1, H1, I1, r1, q1⟩ => ?_) ha;refine bH (hi aa s1 σ H1 _ I1 q1) fun iv s2 ⟨x2, H2, I2, r2, q2⟩ => ?_
 refine bH (hg aa s2 σ H2 x1 x2 ov iv _ I2 r1 r2 q2) fun old s3 ⟨x3, H3, I3, r3, q3⟩ => ?_
 refine bH (he aa s3 σ H3 _ I3 q3) fun v s4 ⟨x4, H4, I4, r4, q4⟩ => ?_
 refine bH (hp aa s4 σ H4 x3 x4 old v _ I4 r3 r4 q4) fun new s5 ⟨x5, H5, I5, r5, q5⟩ => ?_
 exact bH (hs aa s5 σ H5 x1 x2 x5 ov iv new _ I5 r1 r2 r5 q5) fun _ s6 ⟨H6, I6, q6⟩ => ⟨σ, H6, I6, q6⟩
end
section
variable {X : Cx} {pos : Pos}
end
structure It where
 go : Nat -> Hp -> Prop
 yld : Nat -> Hp -> V -> Hp -> Prop
 stop : Nat -> Hp -> Prop
noncomputable def fg (X : Cx) (aa : List (Addr × Obj)) (H : Hp) (b : Addr) : Prop :=
 H b = none /\ b ≠ X.env.locals /\ b ∉ X.fs /\ (b ∈ X.ex \/ X.s₀.heap.objs.size <= b) /\ (∀ x c, X.env.cells.lookup x = some c -> c ≠ b) /\ ∀ p ∈ X.pn ++ aa, p.1 ≠ b
theorem Inv.fpOk {X : Cx} {aa : List (Addr × Obj)} {σ : St} {H H' : Hp} {s : Shared} {b : Addr} (I : Inv X aa σ H s) (hb : s.heap.objs.size <= b) (hn : H' b = none) : fg X aa H' b := by
 refine ⟨hn, Nat.ne_of_gt (Nat.lt_of_lt_of_le I.lt hb), I.nofs hb, .inr (Nat.le_trans I.sz hb), fun x c e z => ?_, fun p hp z => ?_⟩
 ·obtain ⟨v, q⟩ := I.cell x c e
  exact absurd (Nat.lt_of_lt_of_le q.lt (by rw [z]; exact hb)) (Nat.lt_irrefl _)
 ·exact absurd (Nat.lt_of_lt_of_le (Heap.lt_size (I.pin p hp).1) (by rw [z]; exact hb)) (Nat.lt_irrefl _)
structure nh (P : Program) (w : World) (K : PySem.W.Frag) (tg : Expr) (J : It) (fp : List Addr) (it : Addr) (tn : Nat -> Heap -> Prop) : Prop where
 mem : it ∈ fp
 obj : ∀ i h, tn i h -> ∀ b ∈ fp, ∃ o, h.get? b = some o /\ ∀ v, o.data ≠ .cell v
 keep : ∀ i h h', tn i h -> (∀ b ∈ fp, ∀ o, h.get? b = some o -> h'.get? b = some o) -> tn i h'
 item : ∀ (X : Cx), X.prog = P -> X.w = w -> X.K = K -> X.calm = true -> ∀ (i : Nat) (aa : List (Addr × Obj)) (s : Shared) (σ : St) (H : Hp) (E : Value -> Shared -> Prop), Inv X aa σ H s -> (∀ b ∈ fp, fg X aa H b) -> tn i s.heap -> J.go i H ->
  wpAny (model P w) X.A (pyNext (.ref it)) (fun r s1 => ∃ u, r = some u /\
   wpAny (model P w) X.A (letOwnedTupleGo tg (.ref it) u) (fun _ s2 => ∃ x H', Inv X aa σ H' s2 /\ RelV x u /\ J.yld i H x H' /\ tn (i + 1) s2.heap /\ ∀ b ∈ fp, H' b = none) E s1) E s
 done : ∀ (X : Cx), X.prog = P -> X.w = w -> X.K = K -> X.calm = true -> ∀ (i : Nat) (aa : List (Addr × Obj)) (s : Shared) (σ : St) (H : Hp) (E : Value -> Shared -> Prop), Inv X aa σ H s -> (∀ b ∈ fp, fg X aa H b) -> tn i s.heap -> J.stop i H ->
  wpAny (model P w) X.A (pyNext (.ref it)) (fun r s1 => r = none /\ Inv X aa σ H s1) E s
 self : ∀ (A : Around) (i : Nat) (s : Shared) (Q : Value -> Shared -> Prop) (E : Value -> Shared -> Prop), tn i s.heap -> Q (.ref it) s -> wpAny (model P w) A (pyIter (.ref it)) Q E s
noncomputable abbrev TI := St -> Hp -> (It -> Hp -> Prop) -> Prop
noncomputable def Es (X : Cx) (aa : List (Addr × Obj)) (σ : St) (tg : Expr) (R : It -> Hp -> Prop) (itv : Value) (s2 : Shared) : Prop :=
 ∃ (it : Addr) (fp : List Addr) (tn : Nat -> Heap -> Prop) (J : It) (H' : Hp), itv = .ref it /\ Inv X aa σ H' s2 /\ nh X.prog X.w X.K tg J fp it tn /\ tn 0 s2.heap /\ (∀ b ∈ fp, fg X aa H' b) /\ R J H'
noncomputable def PI (X : Cx) (tg iter : Expr) (wi : TI) : Prop :=
 ∀ (aa : List (Addr × Obj)) (s : Shared) (σ : St) (H : Hp) (R : It -> Hp -> Prop), Inv X aa σ H s -> wi σ H R ->
  wpAny (model X.prog X.w) X.A (eval iter X.env) (fun v s1 => wpAny (model X.prog X.w) X.A (pyIter v) (Es X aa σ tg R) X.xe s1) X.xe s
theorem vj {M : Model} {A : Around} {E : Value -> Shared -> Prop} {s : Shared} {tg : Expr} {it : Addr} {u : Value} {o : Obj} {n : String} {vs : Array Value} {Q : Unit -> Shared -> Prop} (ho : s.heap.get? it = some o) (hc : o.cls = .type n) (hd : o.data = .fields vs)
  (hn : ["enumerate", "zip", "dict_itemiterator", "dict_reverseitemiterator", "odict_iterator", "itertools.zip_longest", "itertools.pairwise"].contains n = false) (hQ : Q () s) : wpAny M A (letOwnedTupleGo tg (.ref it) u) Q E s := by
 unfold letOwnedTupleGo;cases tg <;> first
  | exact wpAny_pure hQ
  | (cases u <;> first
    | exact wpAny_pure hQ
    | (refine wpAny_bind (wpAny_load ho ?_)
       rw [hc, hd];show wpAny M A (if (["enumerate", "zip", "dict_itemiterator", "dict_reverseitemiterator", "odict_iterator", "itertools.zip_longest", "itertools.pairwise"].contains n && vs[0]? == some (rawInt _)) = true then _ else _) Q E s;rw [if_neg (by intro h; rw [hn, Bool.false_and] at h; cases h)];exact wpAny_pure hQ))
noncomputable def CN (K : PySem.W.Frag) (a : Addr) : It :=
 ⟨fun i H => ∃ xs x, dH K H a xs /\ xs[i]? = some x, fun i H x H' => H' = H /\ ∀ xs, dH K H a xs -> xs[i]? = some x, fun i H => ∃ xs, dH K H a xs /\ xs.length <= i⟩
noncomputable def uJ (lo : Int) (n : Nat) : It := ⟨fun i _ => i < n, fun i H x H' => H' = H /\ x = .int (lo + i), fun i _ => n <= i⟩
theorem vH {P : Program} {w : World} {K : PySem.W.Frag} {tg : Expr} (a it : Addr) : nh P w K tg (CN K a) [it] it (fun i h => h.IsListIter it a i) where
 mem := by simp
 obj := fun i h st b hb => by
  have e : b = it := by simpa using hb
  subst e;obtain ⟨o, e, c, d⟩ := st;exact ⟨o, e, fun v z => by rw [d] at z; cases z⟩
 keep := fun i h h' st k => st.at fun o e => k it (by simp) o e
 item := by
  intro X hP hw hK hc i aa s σ H E I hf st hg;subst hP hw hK;obtain ⟨xs, x, hq, hx⟩ := hg;obtain ⟨its, rv, p, hz⟩ := I.list hq;obtain ⟨u, hu, ru⟩ := rv.get hx;obtain ⟨f0, f1, f2, f3, f4, f5⟩ := hf it (by simp);refine wpAny_pyNext_list_item st p.isList (x := u) (by simpa using hu) fun h' st' sb => ?_
  have I1 : Inv X aa σ H { s with heap := h' } := I.turned (t' := s.toks) (fun b o hb e => (sb.2 b hb).trans e) f0 f1 f3 f4 f5;obtain ⟨o, e, c, d⟩ := id st';exact ⟨u, rfl, vj (s := { s with heap := h' }) e c d dC ⟨x, H, I1, ru, ⟨rfl, fun ys hy => by rw [I.list_inj hy hq]; exact hx⟩, st', fun b hb => (hf b hb).1⟩⟩
 done := by
  intro X hP hw hK hc i aa s σ H E I hf st hg;subst hP hw hK;obtain ⟨xs, hq, hx⟩ := hg;obtain ⟨its, rv, p, hz⟩ := I.list hq;obtain ⟨f0, f1, f2, f3, f4, f5⟩ := hf it (by simp);have hl := rv.length;exact wpAny_pyNext_list_end (I.ok.hd hc) st p.isList (by simp; omega) fun h' eb => ⟨rfl, I.turned (t' := s.toks) (fun b o hb e => eb b o hb e) f0 f1 f3 f4 f5⟩
 self := fun _ _ _ _ _ st h => wpAny_pyIter_listiter st h
theorem uN {P : Program} {w : World} {K : PySem.W.Frag} {tg : Expr} (it : Addr) (lo : Int) (n : Nat) : nh P w K tg (uJ lo n) [it] it (fun i h => IsRangeIter h it (lo + (i : Nat) * 1) ((n : Int) - (i : Nat)) 1) where
 mem := by simp
 obj := fun i h st b hb => by
  have e : b = it := by simpa using hb
  subst e;exact ⟨_, st, fun v z => by
   have z' : Data.fields _ = Data.cell v := z;cases z'⟩
 keep := fun i h h' st k => k it (by simp) _ st
 item := by
  intro X hP hw hK hc i aa s σ H E I hf st hg;subst hP hw hK;obtain ⟨f0, f1, f2, f3, f4, f5⟩ := hf it (by simp);have W := Walks.range (prog := X.prog) (w := X.w) (I.ok.hd hc) it lo 1 n;refine W.item i s _ _ hg st fun v h' tk hv st' kk => ?_
  obtain ⟨t, rfl⟩ := hv;have I1 : Inv X aa σ H { s with heap := h', toks := tk } := I.turned (fun b o hb e => kk b o (by simpa using hb) e) f0 f1 f3 f4 f5;refine ⟨_, rfl, vj (s := { s with heap := h', toks := tk }) (n := "range_iterator") st' rfl rfl dC ⟨.int (lo + i), H, I1, ⟨t, ?_⟩, ⟨rfl, rfl⟩, st', fun b hb => (hf b hb).1⟩⟩;rw [Int.mul_one]
 done := by
  intro X hP hw hK hc i aa s σ H E I hf st hg;subst hP hw hK;obtain ⟨f0, f1, f2, f3, f4, f5⟩ := hf it (by simp);exact wpAny_pyNext_range_end (I.ok.hd hc) st (by have : n <= i := hg; omega) fun h' eb => ⟨rfl, I.turned (t' := s.toks) (fun b o hb e => eb b o hb e) f0 f1 f3 f4 f5⟩
 self := fun _ _ _ _ _ st h => wpAny_pyIter_rangeiter st h
section
variable {X : Cx} {tg : Expr}
noncomputable def DQ (K : PySem.W.Frag) (tl : TE) : TI := fun σ H R => tl σ H fun x H1 => ∃ a, x = .ref a /\ (∃ xs, dH K H1 a xs) /\ R (CN K a) H1
theorem zW {l : Expr} {tl : TE} (hl : PE X l tl) : PI X tg l (DQ X.K tl) := by
 intro aa s σ H R I h;refine bH (hl aa s σ H _ I h) fun v s1 ⟨x, H1, I1, r1, q1⟩ => ?_
 obtain ⟨a, e, ⟨xs, hq⟩, q⟩ := q1;subst e;cases r1;obtain ⟨its, rv, p, hz⟩ := I1.list hq;refine wpAny_pyIter_list p.isList ?_;refine ⟨s1.heap.objs.size, [s1.heap.objs.size], _, _, H1, rfl, I1.kept (t' := s1.toks) fun b o e => Heap.get?_push_of_some _ e, vH a _, ⟨_, Heap.get?_push_size _ rfl, rfl, rfl⟩, fun b hb => ?_, q⟩;have e : b = s1.heap.objs.size := by simpa using hb
 subst e;exact I1.fpOk (Nat.le_refl _) (I1.hok.fresh (Nat.le_refl _))
theorem qQ {aa : List (Addr × Obj)} {σ : St} {H : Hp} {s : Shared} {R : It -> Hp -> Prop} {E : Value -> Shared -> Prop} {lo hi : Int} {t u v : Tok} {tk : Nat} (I : Inv X aa σ H s) (h1 : -(2 ^ 62) <= lo) (h2 : lo < 2 ^ 62) (h3 : -(2 ^ 62) <= hi) (h4 : hi < 2 ^ 62)
  (q : R (uJ lo (hi - lo).toNat) H) : wpAny (model X.prog X.w) X.A (pyIter (.ref s.heap.objs.size)) (Es X aa σ tg R) E { s with heap := s.heap.push { cls := .type "range", data := .fields #[.int lo t, .int hi u, .int 1 v] }, toks := tk } := by
 refine wpAny_pyIter_range (IsRange.new ..) (small_one h1 h2 h3 h4) ?_;have I1 : Inv X aa σ H { s with heap := s.heap.push { cls := .type "range", data := .fields #[.int lo t, .int hi u, .int 1 v] }, toks := tk } := I.kept fun b o e => Heap.get?_push_of_some _ e
 refine ⟨(s.heap.push { cls := .type "range", data := .fields #[.int lo t, .int hi u, .int 1 v] }).objs.size, [(s.heap.push { cls := .type "range", data := .fields #[.int lo t, .int hi u, .int 1 v] }).objs.size], _, _, H, rfl,
  I1.kept (t' := tk) fun b o e => Heap.get?_push_of_some _ e, uN _ lo (hi - lo).toNat, ?_, fun b hb => ?_, q⟩
 ·have e1 : lo + ((0 : Nat) : Int) * 1 = lo := by simp
  have e2 : (((hi - lo).toNat : Nat) : Int) - ((0 : Nat) : Int) = Builtin.Range.rangeSize lo hi 1 := by rw [rangeSize_one]; split <;> omega
  show IsRangeIter _ _ (lo + ((0 : Nat) : Int) * 1) ((((hi - lo).toNat : Nat) : Int) - ((0 : Nat) : Int)) 1;rw [e1, e2];exact Heap.get?_push_size _ rfl
 ·have e : b = (s.heap.push { cls := .type "range", data := .fields #[.int lo t, .int hi u, .int 1 v] }).objs.size := by simpa using hb
  subst e;exact I1.fpOk (Nat.le_refl _) (I1.hok.fresh (Nat.le_refl _))
noncomputable def DO (ta : TA) : TI := fun σ H R => ta σ H fun vs H1 => ∃ j : Int, vs = [.int j] /\ -(2 ^ 62) <= j /\ j < 2 ^ 62 /\ R (uJ 0 j.toNat) H1
noncomputable def DN (ta : TA) : TI := fun σ H R => ta σ H fun vs H1 => ∃ i j : Int, vs = [.int i, .int j] /\ (-(2 ^ 62) <= i /\ i < 2 ^ 62 /\ -(2 ^ 62) <= j /\ j < 2 ^ 62) /\ R (uJ i (j - i).toNat) H1
theorem vZ {a : Expr} {ta : TA} {p pos : Pos} (hg : Gl X "range") (hm : X.mg "range" = none) (ha : PA X [a] ta) (hs : autoParam (starEach [a] X.env = [(false, eval a X.env)]) aI._auto_1) : PI X tg (.Call (.Name "range" p) [a] [] pos) (DO ta) := by
 intro aa s σ H R I h;refine Call_ (gO I hg hm boot_range (PyProof.Rows.callWith_type1 (bH (ha pos aa s σ H _ I h) fun us s1 ⟨vs, H1, I1, r1, q1⟩ => ?_) hs rfl));obtain ⟨j, e, q1, q2, q⟩ := q1;subst e;cases r1 with
 | cons r rr =>
  cases rr;obtain ⟨t, rfl⟩ := r;exact call_range_1 (qQ I1 oM oM q1 q2 (by simpa using q))
theorem vY {a b : Expr} {ta : TA} {p pos : Pos} (hg : Gl X "range") (hm : X.mg "range" = none) (ha : PA X [a, b] ta) (hs : autoParam (starEach [a, b] X.env = [(false, eval a X.env), (false, eval b X.env)]) aI._auto_1) (hs2 : autoParam (starEach [b] X.env = [(false, eval b X.env)]) aI._auto_1) :
  PI X tg (.Call (.Name "range" p) [a, b] [] pos) (DN ta) := by
 intro aa s σ H R I h;refine Call_ (gO I hg hm boot_range (PyProof.Rows.callWith_type1 (bH (ha pos aa s σ H _ I h) fun us s1 ⟨vs, H1, I1, r1, q1⟩ => ?_) (by rw [hs, hs2]) (by rw [hs2]; rfl)));obtain ⟨i, j, e, ⟨q1, q2, q3, q4⟩, q⟩ := q1;subst e;cases r1 with
 | cons r rr =>
  cases rr with
  | cons r' rr =>
   cases rr;obtain ⟨t, rfl⟩ := r;obtain ⟨t', rfl⟩ := r';exact call_range_2 (qQ I1 q1 q2 q3 q4 q)
noncomputable def EH (wi : TI) (g : TG) (tb : TS) : TS := fun D σ H => wi σ H fun J H1 => ∃ W : Nat -> Nat -> St -> Hp -> Prop, (∃ m, W 0 m σ H1) /\ ∀ i m σ H, W i m σ H ->
 (J.stop i H /\ D.nx σ H) \/ (J.go i H /\ ∃ N : St -> Hp -> Prop, (∀ σ' H', N σ' H' -> ∃ m', m' < m /\ W (i + 1) m' σ' H') /\ ∀ x H', J.yld i H x H' -> g x σ H' fun σ2 H2 => tb { D with nx := N, ct := N, bk := D.nx } σ2 H2)
noncomputable def kZ (fp : List Addr) (h : Heap) : List (Addr × Obj) := fp.filterMap fun b => (h.get? b).map fun o => (b, o)
theorem iO {fp : List Addr} {h : Heap} {b : Addr} {o : Obj} (hb : b ∈ fp) (e : h.get? b = some o) : (b, o) ∈ kZ fp h := List.mem_filterMap.mpr ⟨b, hb, by rw [e]; rfl⟩
theorem v9 {fp : List Addr} {h : Heap} {p : Addr × Obj} (hp : p ∈ kZ fp h) : p.1 ∈ fp /\ h.get? p.1 = some p.2 := by
 obtain ⟨b, hb, e⟩ := List.mem_filterMap.mp hp;cases q : h.get? b with
 | none => rw [q] at e; cases e
 | some o =>
  rw [q] at e;have e' : (b, o) = p := Option.some.inj e;subst e';exact ⟨hb, q⟩
theorem Inv.pinned {aa : List (Addr × Obj)} {σ : St} {H : Hp} {s : Shared} {fp : List Addr} (I : Inv X aa σ H s) (hf : ∀ b ∈ fp, fg X aa H b) (ho : ∀ b ∈ fp, ∃ o, s.heap.get? b = some o /\ ∀ v, o.data ≠ .cell v) : Inv X (aa ++ kZ fp s.heap) σ H s :=
 I.pins_of fun p hp => (List.mem_append.mp hp).elim (fun z => I.pin p (List.mem_append_right _ z)) fun z => by
  obtain ⟨hb, e⟩ := v9 z;obtain ⟨f0, f1, f2, _⟩ := hf p.1 hb;obtain ⟨o, e', d⟩ := ho p.1 hb;rw [e] at e'; cases e';exact ⟨e, f0, f1, f2, d⟩
theorem Inv.unpinned {aa pl : List (Addr × Obj)} {σ : St} {H : Hp} {s : Shared} (I : Inv X (aa ++ pl) σ H s) : Inv X aa σ H s := I.pins_of fun p hp => I.pin p (List.mem_append_right _ (List.mem_append_left _ hp))
theorem Bt {iter : Expr} {body : List Stmt} {wi : TI} {g : TG} {tb : TS} {pos : Pos} (hp : PassesOwn (model X.prog X.w) X.A X.env X.xe) (hc : X.calm = true) (hi : PI X tg iter wi) (hg : PG X tg g) (hb : PSs X body tb)
  (hs : autoParam (∀ x, foldedSetIterable iter X.env x = pure x) kP._auto_1) : PS X (.For tg iter body [] pos) (EH wi g tb) := by
 intro aa s σ H D I h;refine wpAny_For (bH (hi aa s σ H _ I h) fun v s1 h1 => bH h1 fun itv s2 h2 => ?_) hs;obtain ⟨it, fp, tn, J, H2, e, I2, T, st2, f2, W, ⟨m0, w0⟩, turn⟩ := h2;subst e
 -- what stays true of the iterator's objects through the loop
 have stat : ∀ {H' : Hp}, (∀ b ∈ fp, H' b = none) -> ∀ b ∈ fp, fg X aa H' b := fun hn b hb => ⟨hn b hb, (f2 b hb).2⟩
 refine codeAny_forLoop_any (fun n s' => ∃ i σ' H', Inv X aa σ' H' s' /\ tn i s'.heap /\ (∀ b ∈ fp, H' b = none) /\ W i n σ' H') ?_ m0 ⟨0, σ, H2, I2, st2, fun b hb => (f2 b hb).1, w0⟩;rintro n s3 ⟨i, σ3, H3, I3, st3, fr3, w3⟩;rcases turn i n σ3 H3 w3 with ⟨stop, qn⟩ | ⟨go, N, hN, step⟩
 ·refine wpAny_passesOwn hp (bH (T.done X rfl rfl rfl hc i aa s3 σ3 H3 X.xe I3 (stat fr3) st3 stop) fun r s4 ⟨hr, I4⟩ => ?_)
  subst hr;exact wpAny_execs_nil ⟨σ3, H3, I4, qn⟩
 ·refine wpAny_passesOwn hp (bH (T.item X rfl rfl rfl hc i aa s3 σ3 H3 X.xe I3 (stat fr3) st3 go) fun r s4 ⟨u, hr, h4⟩ => ?_)
  subst hr;refine wpAny_passesOwn hp (bH h4 fun _ s5 ⟨x, H5, I5, r5, y5, st5, fr5⟩ => ?_);have I5' := I5.pinned (stat fr5) (T.obj _ _ st5);refine wpAny_passesOwn hp (bH (hg _ s5 σ3 H5 x u _ I5' r5 (step x H5 y5)) fun _ s6 ⟨σ6, H6, I6, q6⟩ => ?_);refine wpAny_passesOwn hp (bH (hb _ s6 σ6 H6 _ I6 q6) fun f s7 q7 => ?_);have again : ∀ {σ7 : St} {H7 : Hp}, Inv X (aa ++ kZ fp s5.heap) σ7 H7 s7 -> N σ7 H7 -> ∃ m, m < n /\ ∃ i σ' H', Inv X aa σ' H' s7 /\ tn i s7.heap /\ (∀ b ∈ fp, H' b = none) /\ W i m σ' H' := fun {σ7 H7} I7 n7 => by
   obtain ⟨m', hm, w7⟩ := hN σ7 H7 n7;refine ⟨m', hm, i + 1, σ7, H7, I7.unpinned, T.keep _ _ _ st5 fun b hb o e => (I7.pin (b, o) (List.mem_append_right _ (List.mem_append_right _ (iO hb e)))).1, fun b hb => ?_, w7⟩;obtain ⟨o, e, d⟩ := T.obj _ _ st5 b hb;exact (I7.pin (b, o) (List.mem_append_right _ (List.mem_append_right _ (iO hb e)))).2.1
  cases f with
  | next => obtain ⟨σ7, H7, I7, n7⟩ := q7; exact again I7 n7
  | cont => obtain ⟨σ7, H7, I7, n7⟩ := q7; exact again I7 n7
  | brk => obtain ⟨σ7, H7, I7, q7⟩ := q7; exact ⟨σ7, H7, I7.unpinned, q7⟩
  | ret v => obtain ⟨x7, σ7, H7, I7, r7, q7⟩ := q7; exact ⟨x7, σ7, H7, I7.unpinned, r7, q7⟩
end
noncomputable abbrev R2 := V -> V -> Hp -> VK -> Prop
noncomputable def eD (X : Cx) (f : Value -> Value -> Sem Value) (r : R2) : Prop :=
 ∀ (aa : List (Addr × Obj)) (s : Shared) (σ : St) (H : Hp) (x y : V) (v u : Value) (Q : VK), Inv X aa σ H s -> RelV x v -> RelV y u -> r x y H Q ->
  wpAny (model X.prog X.w) X.A (f v u) (EP X aa σ Q) X.xe s
noncomputable def CC (X : Cx) (f : Value -> Sem Value) (r : V -> Hp -> VK -> Prop) : Prop :=
 ∀ (aa : List (Addr × Obj)) (s : Shared) (σ : St) (H : Hp) (x : V) (v : Value) (Q : VK), Inv X aa σ H s -> RelV x v -> r x H Q ->
  wpAny (model X.prog X.w) X.A (f v) (EP X aa σ Q) X.xe s
noncomputable def CallR (X : Cx) (f : Value) (r : List V -> Hp -> VK -> Prop) : Prop :=
 ∀ (aa : List (Addr × Obj)) (s : Shared) (σ : St) (H : Hp) (xs : List V) (us : List Value) (Q : VK), Inv X aa σ H s -> Vals xs us -> r xs H Q ->
  wpAny (model X.prog X.w) X.A (call f us) (EP X aa σ Q) X.xe s
noncomputable def mE (r : R2) (ta tb : TE) : TE := fun σ H Q => ta σ H fun x H1 => tb σ H1 fun y H2 => r x y H2 Q
noncomputable def Fj (r : V -> Hp -> VK -> Prop) (ta : TE) : TE := fun σ H Q => ta σ H fun x H1 => r x H1 Q
noncomputable def rI (C : Int -> Int -> Prop) (g : Int -> Int -> V) : R2 := fun x y H Q => ∃ i j, x = .int i /\ y = .int j /\ C i j /\ Q (g i j) H
noncomputable def kG (g : Int -> Int -> V) : R2 := fun x y H Q => ∃ i j, x = .int i /\ y = .int j /\ Q (g i j) H
noncomputable def rU (g : Int -> V) : V -> Hp -> VK -> Prop := fun x H Q => ∃ i, x = .int i /\ Q (g i) H
section
variable {X : Cx} {a b c : Expr} {ta tb tc : TE} {pos : Pos}
theorem yE (ha : PE X a ta) (hb : PE X b tb) {aa : List (Addr × Obj)} {s : Shared} {σ : St} {H : Hp} {R : V -> V -> Hp -> Prop} (I : Inv X aa σ H s)
  (h : ta σ H fun x H1 => tb σ H1 fun y H2 => R x y H2) {Q : Value -> Shared -> Prop} {f : Value -> Value -> Sem Value}
  (hf : ∀ v u s2 x y H2, Inv X aa σ H2 s2 -> RelV x v -> RelV y u -> R x y H2 -> wpAny (model X.prog X.w) X.A (f v u) Q X.xe s2) :
  wpAny (model X.prog X.w) X.A (eval a X.env) (fun v s₁ => wpAny (model X.prog X.w) X.A (eval b X.env) (fun u s₂ => wpAny (model X.prog X.w) X.A (f v u) Q X.xe s₂) X.xe s₁) X.xe s := by
 refine bH (ha aa s σ H _ I h) fun v s1 ⟨x, H1, I1, r1, q1⟩ => ?_
 refine bH (hb aa s1 σ H1 _ I1 q1) fun u s2 ⟨y, H2, I2, r2, q2⟩ => ?_
 exact hf v u s2 x y H2 I2 r1 r2 q2
theorem u4 {op : Operator} {r : R2} (ho : eD X (binaryOp op) r) (ha : PE X a ta) (hb : PE X b tb) : PE X (.BinOp a op b pos) (mE r ta tb) := by
 intro aa s σ H Q I h;exact wpAny_BinOp (yE ha hb I h fun v u s2 x y H2 I2 rx ry q => ho aa s2 σ H2 x y v u Q I2 rx ry q)
theorem Dm {op : UnaryOp} {r : V -> Hp -> VK -> Prop} (ho : CC X (unaryOp op) r) (ha : PE X a ta) : PE X (.UnaryOp op a pos) (Fj r ta) := by
 intro aa s σ H Q I h;exact UnaryOp_ (bH (ha aa s σ H _ I h) fun v s1 ⟨x, H1, I1, r1, q1⟩ => ho aa s1 σ H1 x v Q I1 r1 q1)
theorem tU {f : Value -> Value -> Sem Value} {C : Int -> Int -> Prop} {g : Int -> Int -> Int}
  (rule : ∀ (i j : Int) (t u : Tok) (s : Shared) (Q : Value -> Shared -> Prop) (E : Value -> Shared -> Prop), C i j -> Q (.int (g i j) s.toks) { s with toks := s.toks + 1 } -> wpAny (model X.prog X.w) X.A (f (.int i t) (.int j u)) Q E s) :
  eD X f (rI C fun i j => .int (g i j)) := by
 intro aa s σ H x y v u Q I rx ry h;obtain ⟨i, j, rfl, rfl, hc, q⟩ := h;obtain ⟨t, rfl⟩ := rx;obtain ⟨t', rfl⟩ := ry;exact rule i j t t' s _ _ hc ⟨.int (g i j), H, I.tok _, ⟨_, rfl⟩, q⟩
theorem rC {f : Value -> Value -> Sem Value} {g : Int -> Int -> Int}
  (rule : ∀ (i j : Int) (t u : Tok) (s : Shared) (Q : Value -> Shared -> Prop) (E : Value -> Shared -> Prop), Q (.int (g i j) s.toks) { s with toks := s.toks + 1 } -> wpAny (model X.prog X.w) X.A (f (.int i t) (.int j u)) Q E s) :
  eD X f (kG fun i j => .int (g i j)) := by
 intro aa s σ H x y v u Q I rx ry h;obtain ⟨i, j, rfl, rfl, q⟩ := h;obtain ⟨t, rfl⟩ := rx;obtain ⟨t', rfl⟩ := ry;exact rule i j t t' s _ _ ⟨.int (g i j), H, I.tok _, ⟨_, rfl⟩, q⟩
theorem xK {f : Value -> Value -> Sem Value} {g : Int -> Int -> Bool}
  (rule : ∀ (i j : Int) (t u : Tok) (s : Shared) (Q : Value -> Shared -> Prop) (E : Value -> Shared -> Prop), Q (.bool (g i j)) s -> wpAny (model X.prog X.w) X.A (f (.int i t) (.int j u)) Q E s) :
  eD X f (kG fun i j => .bl (g i j)) := by
 intro aa s σ H x y v u Q I rx ry h;obtain ⟨i, j, rfl, rfl, q⟩ := h;obtain ⟨t, rfl⟩ := rx;obtain ⟨t', rfl⟩ := ry;exact rule i j t t' s _ _ ⟨.bl (g i j), H, I, rfl, q⟩
noncomputable def vz (i j : Int) : Prop := 0 <= j /\ j <= 1000000 /\ i.natAbs < 2 ^ 64
noncomputable def CMul (i j : Int) : Prop := (-(2 ^ 64) < i /\ i < 2 ^ 64) \/ (-(2 ^ 64) < j /\ j < 2 ^ 64)
theorem CMul.ok {i j : Int} (h : CMul i j) : IntMulOk i j := by
 rcases h with ⟨h1, h2⟩ | ⟨h1, h2⟩
 ·exact .of_left (intBits_le_64 h1 h2)
 ·exact .of_right (intBits_le_64 h1 h2)
theorem uM (k : Nat) : (0 : Int) <= 2 ^ k := by
 rw [two_pow_cast];exact Int.natCast_nonneg _
theorem BL : eD X (binaryOp .Add) (kG fun i j => .int (i + j)) := rC fun _ _ _ _ _ _ _ q => add_int q
theorem BD : eD X (binaryOp .Sub) (kG fun i j => .int (i - j)) := rC fun _ _ _ _ _ _ _ q => sub_int q
theorem BI : eD X (binaryOp .Mult) (rI CMul fun i j => .int (i * j)) := tU fun _ _ _ _ _ _ _ hc q => mul_int q hc.ok
theorem BJ : eD X (binaryOp .Mod) (rI (fun _ j => 0 < j) fun i j => .int (i % j)) := tU fun i j _ _ _ _ _ hc q => by
 have h1 : (0 : Int) < j := hc;exact mod_int' oM (by rw [Int.fmod_eq_emod_of_nonneg i oM]; exact q)
theorem BH : eD X (binaryOp .Pow) (rI vz fun i j => .int (i ^ j.toNat)) := tU fun _ _ _ _ _ _ _ hc q => pow_int_small hc.1 hc.2.1 hc.2.2 q
theorem BF : eD X (binaryOp .LShift) (rI vz fun i j => .int (i * 2 ^ j.toNat)) := tU fun _ _ _ _ _ _ _ hc q => lshift_int_small hc.1 hc.2.1 hc.2.2 q
theorem BE : eD X (binaryOp .RShift) (rI (fun _ j => 0 <= j) fun i j => .int (i / 2 ^ j.toNat)) := tU fun i j _ _ _ _ _ hc q =>
 rshift_int hc (by rw [Int.fdiv_eq_ediv_of_nonneg i (uM _)]; exact q)
theorem BK : eD X (binaryOp .BitAnd) (kG fun i j => .int (Builtin.bitAnd i j)) := rC fun _ _ _ _ _ _ _ q => and_int q
theorem Dp : eD X (binaryOp .BitOr) (kG fun i j => .int (Builtin.bitOr i j)) := rC fun _ _ _ _ _ _ _ q => or_int q
theorem Au : eD X (inplaceOp .Add) (kG fun i j => .int (i + j)) := rC fun _ _ _ _ _ _ _ q => iadd_int q
theorem Fi {f : Value -> Sem Value} {g : Int -> Int}
  (rule : ∀ (i : Int) (t : Tok) (s : Shared) (Q : Value -> Shared -> Prop) (E : Value -> Shared -> Prop), Q (.int (g i) s.toks) { s with toks := s.toks + 1 } -> wpAny (model X.prog X.w) X.A (f (.int i t)) Q E s) :
  CC X f (rU fun i => .int (g i)) := by
 intro aa s σ H x v Q I rx h;obtain ⟨i, rfl, q⟩ := h;obtain ⟨t, rfl⟩ := rx;exact rule i t s _ _ ⟨.int (g i), H, I.tok _, ⟨_, rfl⟩, q⟩
theorem AQ : CC X (unaryOp .USub) (rU fun i => .int (-i)) := Fi fun _ _ _ _ _ q => neg_int q
end
noncomputable def scal : V -> V -> Bool
 | .non, .non => true | .non, .int _ => true | .int _, .non => true | .non, .bl _ => true | .bl _, .non => true | .non, .str _ => true | .str _, .non => true
 | .int _, .int _ => true | .bl _, .bl _ => true | .str _, .str _ => true | .byt _, .byt _ => true
 | .int _, .str _ => true | .str _, .int _ => true | .bl _, .str _ => true | .str _, .bl _ => true
 | _, _ => false
section
variable {X : Cx} {a b c : Expr} {ta tb tc : TE} {pos : Pos}
theorem Cn {aa : List (Addr × Obj)} {σ : St} {H : Hp} {s : Shared} {Q : VK} {k k' : Bool} (I : Inv X aa σ H s) (q : Q (.bl k) H) (e : k = k') : EP X aa σ Q (.bool k') s := by
 subst e;exact ⟨.bl k, H, I, rfl, q⟩
theorem Dq : eD X (compareOp .Lt) (kG fun i j => .bl (decide (i < j))) := xK fun _ _ _ _ _ _ _ q => lt_int q
theorem Dr : eD X (compareOp .Gt) (kG fun i j => .bl (decide (j < i))) := xK fun _ _ _ _ _ _ _ q => gt_int q
theorem Ds : eD X (compareOp .GtE) (kG fun i j => .bl (decide (j <= i))) := xK fun _ _ _ _ _ _ _ q => ge_int q
theorem v4 : eD X (compareOp .In) (fun x y H Q => ∃ i j, x = .str i /\ y = .str j /\ Q (.bl (!(Builtin.Str.occurrences j i 0 j.length 1).isEmpty)) H) := by
 intro aa s σ H x y v u Q I rx ry h;obtain ⟨i, j, rfl, rfl, q⟩ := h;obtain ⟨t, rfl⟩ := rx;obtain ⟨t', rfl⟩ := ry;exact in_str (Cn I q rfl)
theorem bz (b : Expr) {op : CmpOp} (h : autoParam (op ≠ .In) cG._auto_1) (h2 : autoParam (op ≠ .NotIn) cG._auto_1) : behindInMarks op b = false := by
 have e1 : (op == CmpOp.In) = false := by cases op <;> first | rfl | exact absurd rfl h
 have e2 : (op == CmpOp.NotIn) = false := by cases op <;> first | rfl | exact absurd rfl h2
 cases b <;> simp [behindInMarks, e1, e2]
theorem tS {op : CmpOp} {r : R2} (ho : eD X (compareOp op) r) (ha : PE X a ta) (hb : PE X b tb) (hm : behindInMarks op b = false) : PE X (.Compare a [op] [b] pos) (mE r ta tb) := by
 intro aa s σ H Q I h;exact wpAny_Compare1 (yE ha hb I h fun v u s2 x y H2 I2 rx ry q => ho aa s2 σ H2 x y v u Q I2 rx ry q) hm
noncomputable def CU (t : TE) : TT := fun σ H Q => t σ H fun x H' => ∃ k, x = .bl k /\ Q k H'
theorem oU {op : CmpOp} {r : R2} (ho : eD X (compareOp op) r) (ha : PE X a ta) (hb : PE X b tb) (hm : behindInMarks op b = false) : PT X (.Compare a [op] [b] pos) (CU (mE r ta tb)) := by
 intro aa s σ H Q I h;refine wpAny_isTrue_Compare1 (bH (ha aa s σ H _ I h) fun v s1 ⟨x, H1, I1, r1, q1⟩ => bH (hb aa s1 σ H1 _ I1 q1) fun u s2 ⟨y, H2, I2, r2, q2⟩ =>
  bH (ho aa s2 σ H2 x y v u _ I2 r1 r2 q2) fun c s3 ⟨z, H3, I3, r3, k, e, q3⟩ => ?_) hm
 subst e;cases r3;exact wpAny_truthy_bool ⟨H3, I3, q3⟩
theorem jf : (sizeLine : Nat) < 2 ^ 63 := by rw [sizeLine_eq]; decide
theorem u7 : eD X (binaryOp .Add) (fun x y H Q => ∃ i j, x = .str i /\ y = .str j /\ i.length + j.length <= sizeLine /\ Q (.str (i ++ j)) H) := by
 intro aa s σ H x y v u Q I rx ry h;obtain ⟨i, j, rfl, rfl, hz, q⟩ := h;obtain ⟨t, rfl⟩ := rx;obtain ⟨t', rfl⟩ := ry;exact add_str (fun t' tk => ⟨.str (i ++ j), H, I.tok _, ⟨_, rfl⟩, q⟩) hz
theorem iK {x : V} {us : List Value} (r : Vals [x] us) : ∃ u, us = [u] /\ RelV x u := by
 cases r with
 | cons r1 r2 => cases r2; exact ⟨_, rfl, r1⟩
theorem CQ {x y : V} {us : List Value} (r : Vals [x, y] us) : ∃ u w', us = [u, w'] /\ RelV x u /\ RelV y w' := by
 cases r with
 | cons r1 r2 =>
  cases r2 with
  | cons r3 r4 => cases r4; exact ⟨_, _, rfl, r1, r3⟩
theorem yB : CallR X (.builtin "abs") (fun xs H Q => ∃ i, xs = [.int i] /\ Q (.int (if i < 0 then -i else i)) H) := by
 intro aa s σ H xs us Q I r h;obtain ⟨i, rfl, q⟩ := h;obtain ⟨u, rfl, t, rfl⟩ := iK r;exact call_abs_int fun u tk => ⟨.int (if i < 0 then -i else i), H, I.tok _, ⟨_, rfl⟩, q⟩
theorem wK : CallR X (.type "int") (fun xs H Q => (∃ i, xs = [.int i] /\ Q (.int i) H) \/ ∃ k, xs = [.bl k] /\ Q (.int (if k then 1 else 0)) H) := by
 intro aa s σ H xs us Q I r h;rcases h with ⟨i, rfl, q⟩ | ⟨k, rfl, q⟩
 ·obtain ⟨u, rfl, t, rfl⟩ := iK r
  exact call_int_int ⟨.int i, H, I, ⟨_, rfl⟩, q⟩
 ·obtain ⟨u, rfl, r1⟩ := iK r
  cases r1;exact call_int_bool ⟨.int (if k then 1 else 0), H, I.tok _, ⟨_, rfl⟩, q⟩
end
structure ObjM (h : Heap) (x dx C : Addr) (mA : Str -> Option Value) : Prop where
 obj : h.get? x = some (instObj C dx)
 ns : h.Ns1 dx mA
 ne : dx ≠ x
theorem wf {h : Heap} {dx : Addr} {mA : Str -> Option Value} (n : h.Ns1 dx mA) : ∃ od, h.get? dx = some od /\ ∀ name, lookIn name od = some (mA name) := by
 obtain ⟨o, es, ep, ho, hd, hk, _, hm⟩ := n;refine ⟨o, ho, fun name => ?_⟩;have e := hm name;unfold nsFind findBy at e;rw [<- Array.find?_toList] at e;unfold lookIn;rw [hd];dsimp only;split
 ·rename_i y q
  rw [q] at e;exact congrArg some e
 ·rename_i q
  rw [q] at e;have a : es.toList.any (·.refKey) = false := by
   rw [List.any_eq_false];intro y hy;obtain ⟨z, t, hkey⟩ := hk y (Array.mem_toList_iff.mp hy);simp [DictEntry.refKey, hkey]
  have a' : ¬ es.toList.any (·.refKey) = true := by rw [a]; exact Bool.false_ne_true
  rw [if_neg a'];exact congrArg some e
theorem ObjM.look {h : Heap} {x dx C : Addr} {mA : Str -> Option Value} (I : ObjM h x dx C mA) : ∃ od, InstAt h x (instObj C dx) C (some od) /\ ∀ name, lookIn name od = some (mA name) :=
 let ⟨od, ho, hl⟩ := wf I.ns
 ⟨od, ⟨I.obj, rfl, rfl, ho⟩, hl⟩
section
variable {prog : Program} {w : World} {A : Around} {E : Value -> Shared -> Prop} {s : Shared} {K : PySem.W.Frag} {x dx C f : Addr} {mA : Str -> Option Value} {name : Str} {v : Value}
end
section
variable {P : Program} {w : World} {H H' : Hp} {h h' : Heap} {a C dx : Addr} {fs fs' : List (Str × V)}
theorem Av (hok : HOk P w H h) (e : H a = some (.ins C dx fs)) : ∃ mA, ObjM h a dx C mA /\ (∀ f, yG (fs.lookup f) (mA f)) /\ PySem.Within mA (fs.map (·.1)) /\ fs.length <= 1000 /\ H dx = some (.own a) := by
 obtain ⟨d, z, ne, ob, mA, n, r, q⟩ := (show ObjOk P w H h a (.ins C dx fs) from hok a _ e);exact ⟨mA, ⟨ob, n, ne⟩, r, q, z, d⟩
end
structure Cls (K : PySem.W.Frag) (C : Addr) : Prop where
 pg : plainGet K C Str.empty = true
 hd : hasDictIn K C = true
 po : plainOver K C = true
 sa : findIn K (.ref C) "__setattr__" = some (some (.builtin "object.__setattr__"))
theorem Cls.get {K : PySem.W.Frag} {C : Addr} (c : Cls K C) (f : Str) : plainGet K C f = true := c.pg
section
variable {X : Cx} {aa : List (Addr × Obj)} {σ : St} {H : Hp} {s : Shared} {a C dx : Addr} {fs : List (Str × V)} {f : Str} {v : V} {A : Around} {E : Value -> Shared -> Prop}
end
section
variable {X : Cx} {o e value : Expr} {f : Str} {pos pos' tpos : Pos} {ta tv : TE}
end
section
variable {X : Cx} {aa : List (Addr × Obj)} {σ : St} {H : Hp} {s : Shared} {A : Around} {E : Value -> Shared -> Prop} {Q : Value -> Shared -> Prop} {c : Value} {b : Bool}
inductive TyOf (K : PySem.W.Frag) (H : Hp) : V -> Value -> Prop where
 | non : TyOf K H .non (.type "NoneType")
 | bl (x : Bool) : TyOf K H (.bl x) (.type "bool")
 | int (i : Int) : TyOf K H (.int i) (.type "int")
 | str (x : Str) : TyOf K H (.str x) (.type "str")
 | flt (x : UInt64) : TyOf K H (.flt x) (.type "float")
 | lst {a : Addr} {xs : List V} (e : H a = some (.lst xs)) : TyOf K H (.ref a) (.type "list")
 | frz {a : Addr} {o : Obj} {xs : List V} (e : H a = some (.frz o (.lst xs))) : TyOf K H (.ref a) (.type "list")
 | tup {a : Addr} {xs : List V} (e : H a = some (.tup xs)) : TyOf K H (.ref a) (.type "tuple")
 | dK {a : Addr} {kvs : List (fI × V)} (e : H a = some (.dK kvs)) : TyOf K H (.ref a) (.type "dict")
 | dT {a : Addr} {kvs : List (List fI × V)} (e : H a = some (.dT kvs)) : TyOf K H (.ref a) (.type "dict")
 | ins {a C dx : Addr} {fs : List (Str × V)} (e : H a = some (.ins C dx fs)) (cl : Cls K C) (ha : findIn K (.ref C) "__class__" = some (some (.builtin "object.__class__")))
   (hn : specialIn K (.builtin "object.__class__") "__get__" = some (some (.builtin "getset_descriptor.__get__"))) (htk : takesIn K (.builtin "object.__class__") = some true)
   (hm : mroIn K C (.type "object") = some true) : TyOf K H (.ref a) (.ref C)
theorem jC {x : V} {u t : Value} (I : Inv X aa σ H s) (rx : RelV x u) (ty : TyOf X.K H x t) (e : kitOne X.K t c = some b) (h : ∀ tk, Q (.bool b) { s with toks := tk }) :
  wpAny (model X.prog X.w) A (call (.builtin "isinstance") [u, c]) Q E s := by
 cases ty with
 | non => cases (show u = Value.none from rx); exact kia_one kitx_none I.kIn True.intro e (fun z => nomatch z) h
 | bl y => cases (show u = Value.bool y from rx); exact kia_one kitx_bool I.kIn True.intro e (fun z => nomatch z) h
 | int i => obtain ⟨t, q⟩ := (show ∃ t, u = Value.int i t from rx); cases q; exact kia_one kitx_int I.kIn True.intro e (fun z => nomatch z) h
 | str y => obtain ⟨t, q⟩ := (show ∃ t, u = Value.str y t from rx); cases q; exact kia_one kitx_str I.kIn True.intro e (fun z => nomatch z) h
 | flt y => obtain ⟨t, q⟩ := (show ∃ t, u = Value.float y t from rx); cases q; exact kia_one kitx_float I.kIn True.intro e (fun z => nomatch z) h
 | @lst a xs ea =>
  cases (show u = Value.ref a from rx);obtain ⟨_, _, n, _, h1⟩ := (show ObjOk X.prog X.w H s.heap a (.lst xs) from I.hok a _ ea);exact kia_one kitx_list I.kIn ⟨_, h1, rfl⟩ e (fun z => nomatch z) h
 | @frz a ob xs ea =>
  cases (show u = Value.ref a from rx);obtain ⟨_, _, _, n, _, h1⟩ := (show ObjOk X.prog X.w H s.heap a (.frz ob (.lst xs)) from I.hok a _ ea);exact kia_one kitx_list I.kIn ⟨_, h1, rfl⟩ e (fun z => nomatch z) h
 | @tup a xs ea =>
  cases (show u = Value.ref a from rx);obtain ⟨_, _, _, p⟩ := (show ObjOk X.prog X.w H s.heap a (.tup xs) from I.hok a _ ea);obtain ⟨o, h1, h2, _⟩ := p;exact kia_one kitx_tuple I.kIn ⟨o, h1, h2⟩ e (fun z => nomatch z) h
 | @dK a kvs ea =>
  cases (show u = Value.ref a from rx);obtain ⟨_, _, vs, _, p⟩ := (show ObjOk X.prog X.w H s.heap a (.dK kvs) from I.hok a _ ea);obtain ⟨o, es, ep, h1, h2, _⟩ := p;exact kia_one kitx_dict I.kIn ⟨o, h1, h2.1⟩ e (fun z => nomatch z) h
 | @dT a kvs ea =>
  cases (show u = Value.ref a from rx);obtain ⟨_, _, xs, _, o, es, ep, h1, h2, _⟩ := (show ObjOk X.prog X.w H s.heap a (.dT kvs) from I.hok a _ ea);exact kia_one kitx_dict I.kIn ⟨o, h1, h2.1⟩ e (fun z => nomatch z) h
 | @ins a C dx fs ea cl ha hn htk hm =>
  cases (show u = Value.ref a from rx);obtain ⟨mA, O, _⟩ := Av I.hok ea;obtain ⟨od, J, _⟩ := O.look;exact kia_one (kitx_own (cl.get _) cl.hd ha hn htk hm) I.kIn J e (fun z => nomatch z) h
end
structure Room (k : Nat) (A : Around) : Prop where
 hd : A.handled = none
 dp : A.depth + 3 * k + 5 < recursionLimit
 un : A.units + 16 * k + 200 < cLine
 gd : A.guards = some []
theorem Room.mono {j k : Nat} {A : Around} (r : Room k A) (h : j <= k) : Room j A := ⟨r.hd, by have := r.dp; omega, by have := r.un; omega, r.gd⟩
theorem Room.deeper {k : Nat} {A : Around} (r : Room (k + 1) A) (env : Env) : Room k (A.deeper env) :=
 ⟨r.hd, by have := r.dp; show A.depth + 1 + 3 * k + 5 < _; omega, by have := r.un; show A.units + 3 + 16 * k + 200 < _; omega, r.gd⟩
theorem Room.depth {k : Nat} {A : Around} (r : Room k A) : A.depth < recursionLimit := by have := r.dp; omega
theorem Room.units {k : Nat} {A : Around} (r : Room k A) : A.units + 64 < cLine := by have := r.un; omega
noncomputable def EE : TA := fun _ H Q => Q [] H
noncomputable def CZ (ta : TE) (tr : TA) : TA := fun σ H Q => ta σ H fun x H1 => tr σ H1 fun xs H2 => Q (x :: xs) H2
section
variable {X : Cx} {e : Expr} {es : List Expr} {te : TE} {t : TA} {pos : Pos}
theorem eI : PA X [] EE := fun _ _ _ _ H Q I h => Calls.spliced_nil ⟨[], H, I, .nil, h⟩
theorem dj (ha : PE X e te) (hr : PA X es t) (hs : autoParam (starEach (e :: es) X.env = (false, eval e X.env) :: starEach es X.env) aI._auto_1) : PA X (e :: es) (CZ te t) := by
 intro pos aa s σ H Q I h;rw [hs];show wpAny _ _ (spliced ((false, eval e X.env) :: backTo pos (starEach es X.env))) _ _ s;refine Calls.spliced_cons (bH (ha aa s σ H _ I h) fun u s1 ⟨x, H1, I1, r1, q1⟩ => ?_);exact bH (hr pos aa s1 σ H1 _ I1 q1) fun us s2 ⟨xs, H2, I2, r2, q2⟩ => ⟨x :: xs, H2, I2, .cons r1 r2, q2⟩
noncomputable def EB (t : TA) : TE := fun σ H Q => t σ H fun xs H1 => xs.length <= sizeLine /\ ∀ p, H1 p = none -> Q (.ref p) (aO H1 p (.tup xs))
noncomputable def EF (t : TA) : TE := fun σ H Q => t σ H fun xs H1 => xs.length <= sizeLine /\ ∀ p, H1 p = none -> Q (.ref p) (aO H1 p (.lst xs))
theorem Bz {x1} (h : PA X es t) : PE X (.Tuple es x1 pos) (EB t) := by
 intro aa s σ H Q I hq;refine wpAny_Tuple_spliced (bH (h pos aa s σ H _ I hq) fun us s1 ⟨xs, H1, I1, r, z, q⟩ => ⟨by rw [<- r.length]; exact z, ?_⟩);have hf : H1 s1.heap.objs.size = none := I1.hok.fresh (Nat.le_refl _);refine ⟨.ref s1.heap.objs.size, aO H1 s1.heap.objs.size (.tup xs), I1.laid (t' := s1.toks) (fun b u e => Heap.get?_push_of_some _ e) (Nat.le_refl _) ?_, rfl, q _ hf⟩;exact ⟨z, us, r, ⟨_, Heap.get?_push_size _ rfl, rfl, _, rfl⟩⟩
theorem v3 (h : PA X es t) : PE X (.List es pos) (EF t) := by
 intro aa s σ H Q I hq;refine wpAny_List_spliced (bH (h pos aa s σ H _ I hq) fun us s1 ⟨xs, H1, I1, r, z, q⟩ => ⟨by rw [<- r.length]; exact z, ?_⟩);have hf : H1 s1.heap.objs.size = none := I1.hok.fresh (Nat.le_refl _);refine ⟨.ref s1.heap.objs.size, aO H1 s1.heap.objs.size (.lst xs), I1.laid (t' := s1.toks) (fun b u e => Heap.get?_push_of_some _ e) (Nat.le_refl _) ?_, rfl, q _ hf⟩;exact ⟨z, us, 0, r, Heap.get?_push_size _ rfl⟩
end
noncomputable abbrev Sp := List V -> Hp -> VK -> XK -> Prop
noncomputable abbrev lW := List Env -> Hp -> Shared -> XK -> Value -> Shared -> Prop
structure vy (P : Program) (w : World) (K : PySem.W.Frag) (mg : Str -> Option Value) (base : Heap) (A : Around) (outer : List Env) (s : Shared) (H : Hp) : Prop where
 frames : A.frames = some outer
 mod : Mod K mg base
 bs : ∀ b o, base.get? b = some o -> s.heap.get? b = some o /\ H b = none
 bsz : base.objs.size <= s.heap.objs.size
 funs : s.heap.FunFrames base outer
 frf : ∀ b ∈ j2 outer, H b = none
 hok : HOk P w H s.heap
 bare : AllBare s.gens
noncomputable def CE (outer : List Env) (P : Program) (w : World) (H : Hp) (s : Shared) (Q : VK) (u : Value) (s' : Shared) : Prop :=
 ∃ v H', s'.os = s.os /\ AllBare s'.gens /\ Un (j2 outer) [] H H' s.heap s'.heap /\ HOk P w H' s'.heap /\ RelV v u /\ Q v H'
noncomputable def CR (CX : lW) (outer : List Env) (P : Program) (w : World) (H : Hp) (s : Shared) (Q : VK) (E : XK) (r : Result) (s' : Shared) : Prop :=
 match r with
 | .ok (.ret u) => CE outer P w H s Q u s'
 | .ok _ => False
 | .error e => CX outer H s E e s'
structure ck (P : Program) (w : World) (K : PySem.W.Frag) (mg : Str -> Option Value) (base : Heap) (CX : lW) (k : Nat) (f : Addr) (fd : FuncData) (ps : List Str) (sp : Sp) : Prop where
 len : ∀ vs H Q E, sp vs H Q E -> vs.length = ps.length
 run : ∀ (A : Around) (outer : List Env) (s : Shared) (H : Hp) (args : Args) (us : List Value) (vs : List V) (Q : VK) (E : XK), Room k A -> vy P w K mg base A outer s H -> BindsTo s fd args (ps.zip us) -> Vals vs us -> sp vs H Q E ->
  codeAny (model P w) A (.call (.ref f) args) (CR CX outer P w H s Q E) s
section
variable {X : Cx} {aa : List (Addr × Obj)} {σ : St} {H : Hp} {s s' : Shared}
theorem Inv.env0 (I : Inv X aa σ H s) : vy X.prog X.w X.K X.mg X.base X.A X.stack s H :=
 ⟨I.ok.frames, I.ok.mod, I.bs, Nat.le_trans I.ok.bsz I.sz, I.stack, I.stkFree, I.hok, I.bare⟩
theorem Inv.after {Q : VK} {u : Value} (I : Inv X aa σ H s) (h : CE X.stack X.prog X.w H s Q u s') : EP X aa σ Q u s' := by
 obtain ⟨v, H', os, bare, un, hok, r, q⟩ := h;obtain ⟨hh, g, d, t, os'⟩ := s';obtain rfl : os' = s.os := os;exact ⟨v, H', I.call (h' := hh) (g' := g) (d' := d) (t' := t) (ch := []) un hok bare (fun b z => absurd z (by simp)), r, q⟩
end
noncomputable def uR (sp : Sp) (dvs : List V) (E : XK) (t : TA) : TE := fun σ H Q => t σ H fun vs H1 => sp (vs ++ dvs) H1 Q E
noncomputable def Binds (K : PySem.W.Frag) (fd : FuncData) (ps : List Str) (ds : List Value) : Prop :=
 ∀ (s : Shared) (us : List Value), K.In s.heap -> (us ++ ds).length = ps.length -> BindsTo s fd ⟨us, []⟩ (ps.zip (us ++ ds))
theorem Binds.all {K : PySem.W.Frag} {fd : FuncData} {ps : List Str} (h : ∀ us : List Value, us.length = ps.length -> bindArgs fd ⟨us, []⟩ = pure (ps.zip us)) : Binds K fd ps [] := fun s us _ hl => by
 rw [List.append_nil] at hl ⊢;exact .of_eq (h us hl)
noncomputable def sR (CX : lW) (X : Cx) (E : XK) : Prop := ∀ (aa : List (Addr × Obj)) (σ : St) (H : Hp) (s : Shared) (e : Value) (s' : Shared), Inv X aa σ H s -> CX X.stack H s E e s' -> X.xe e s'
section
variable {X : Cx} {CX : lW} {k : Nat} {f C : Addr} {fd : FuncData} {ps : List Str} {sp : Sp} {dvs : List V} {ds : List Value} {E : XK} {x m : Str} {p pos apos : Pos} {e o : Expr} {es : List Expr} {ta : TE} {t : TA}
theorem A4 {aa : List (Addr × Obj)} {σ : St} {H : Hp} {s : Shared} {Q : VK} {us : List Value} {vs : List V} (F : ck X.prog X.w X.K X.mg X.base CX k f fd ps sp) (hr : Room k X.A) (hb : Binds X.K fd ps ds) (hd : Vals dvs ds) (hx : sR CX X E)
  (I : Inv X aa σ H s) (r : Vals vs us) (h : sp (vs ++ dvs) H Q E) : wpAny (model X.prog X.w) X.A (call (.ref f) us) (EP X aa σ Q) X.xe s := by
 have r2 : Vals (vs ++ dvs) (us ++ ds) := r.append hd;have hl : (us ++ ds).length = ps.length := by rw [<- r2.length]; exact F.len _ _ _ _ h
 refine wpAny_call (codeAny_mono (F.run X.A X.stack s H ⟨us, []⟩ (us ++ ds) (vs ++ dvs) Q E hr I.env0 (hb s us I.kIn hl) r2 h) fun r s' hq => ?_);cases r with
 | error e => exact hx aa σ H s e s' I hq
 | ok fl =>
  cases fl with
  | ret u => exact I.after hq
  | next => exact False.elim hq
  | brk => exact False.elim hq
  | cont => exact False.elim hq
theorem tT (F : ck X.prog X.w X.K X.mg X.base CX k f fd ps sp) (hr : Room k X.A) (hg : Gl X x) (hm : X.mg x = some (.ref f)) (hk : keepIn X.K (.ref f) = true) (hb : Binds X.K fd ps ds) (hd : Vals dvs ds) (hx : sR CX X E)
  (ha : PA X (e :: es) t) (hdb : autoParam ((x == ("__debug__" : Str)) = false) cG._auto_1) (he : autoParam (starEach (e :: es) X.env = (false, eval e X.env) :: starEach es X.env) aI._auto_1) (hpl : autoParam ((backTo pos (starEach es X.env)).any (·.1) = false) aI._auto_1) :
  PE X (.Call (.Name x p) (e :: es) [] pos) (uR sp dvs E t) := by
 intro aa s σ H Q I h;refine wpAny_Call_Name_kw (t0 I hg hm ?_ hdb);refine callWith_K (h₀ := X.base) I.ok.mod.kin hk (bH (ha pos aa s σ H _ I h) fun us s1 ⟨vs, H1, I1, r, q⟩ => ⟨I1.kIn, ?_⟩) he hpl;exact A4 F hr hb hd hx I1 r q
end
section
variable {X : Cx} {CX : lW} {k : Nat} {f C : Addr} {fd : FuncData} {ps ks : List Str} {sp : Sp} {E : XK} {x m : Str} {p pos apos kpos : Pos} {e o : Expr} {es : List Expr} {kws : List Keyword} {te ta : TE} {t tk : TA} {nm : Option Str}
variable {g : List Value -> List Value -> List Value} {gV : List V -> List V -> List V}
end
structure bm (N P : List Str) (sc : Scope) : Prop where
 kind : sc.kind = .function
 co : sc.isCoroutine = false
 gen : sc.isGenerator = false
 nd : N.Nodup
 pre : N.take P.length = P
 par : ∀ x ∈ P, sc.names.lookup x = some .local \/ sc.names.lookup x = some .cell
 nofree : ∀ y ∈ sc.names, y.2 ≠ .free
theorem pS {kindOf : Str -> Option NameKind} {x : Str} : ∀ {binds : List (Str × Value)} {m : Str -> Option Value}, (∀ v, (x, v) ∉ binds) -> bindL kindOf binds m x = m x
 | [], _, _ => rfl
 | (n, v) :: r, m, h => by
  unfold bindL;rw [pS fun w hw => h w (List.mem_cons_of_mem _ hw)];split
  ·have : x ≠ n := by rintro rfl; exact h v List.mem_cons_self
   simp [this]
  ·rfl
theorem pU {kindOf : Str -> Option NameKind} {x : Str} : ∀ {binds : List (Str × Value)} {m : Str -> Option Value}, (∀ v, (x, v) ∉ binds) -> bindC kindOf binds m x = m x
 | [], _, _ => rfl
 | (n, v) :: r, m, h => by
  unfold bindC;rw [pU fun w hw => h w (List.mem_cons_of_mem _ hw)];split
  ·rfl
  ·have : x ≠ n := by rintro rfl; exact h v List.mem_cons_self
   simp [this]
theorem pT {kindOf : Str -> Option NameKind} {x : Str} {v : Value} : ∀ {P : List Str} {vs : List Value} {i : Nat} {m : Str -> Option Value}, P.Nodup -> P[i]? = some x -> vs[i]? = some v -> kindOf x = some .local ->
  bindL kindOf (P.zip vs) m x = some v
 | [], _, _, _, _, h, _, _ => by simp at h
 | _ :: _, [], _, _, _, _, h, _ => by simp at h
 | p :: P, w :: vs, 0, m, nd, h1, h2, hk => by
  simp at h1 h2; subst h1; subst h2;show bindL kindOf ((p, w) :: P.zip vs) m p = _;unfold bindL;rw [pS fun v hv => (List.nodup_cons.mp nd).1 (List.of_mem_zip hv).1, if_pos hk];simp
 | p :: P, w :: vs, i + 1, m, nd, h1, h2, hk => by
  show bindL kindOf ((p, w) :: P.zip vs) m x = _;unfold bindL;exact pT (i := i) (List.nodup_cons.mp nd).2 (by simpa using h1) (by simpa using h2) hk
theorem pW {kindOf : Str -> Option NameKind} {x : Str} {v : Value} : ∀ {P : List Str} {vs : List Value} {i : Nat} {m : Str -> Option Value}, P.Nodup -> P[i]? = some x -> vs[i]? = some v -> kindOf x ≠ some .local ->
  bindC kindOf (P.zip vs) m x = some v
 | [], _, _, _, _, h, _, _ => by simp at h
 | _ :: _, [], _, _, _, _, h, _ => by simp at h
 | p :: P, w :: vs, 0, m, nd, h1, h2, hk => by
  simp at h1 h2; subst h1; subst h2;show bindC kindOf ((p, w) :: P.zip vs) m p = _;unfold bindC;rw [pU fun v hv => (List.nodup_cons.mp nd).1 (List.of_mem_zip hv).1, if_neg hk];simp
 | p :: P, w :: vs, i + 1, m, nd, h1, h2, hk => by
  show bindC kindOf ((p, w) :: P.zip vs) m x = _;unfold bindC;exact pW (i := i) (List.nodup_cons.mp nd).2 (by simpa using h1) (by simpa using h2) hk
noncomputable def start (N : List Str) (vs : List V) : St := vs.map some ++ List.replicate (N.length - vs.length) none
noncomputable def nc (CX : lW) (P : Program) (w : World) (K : PySem.W.Frag) (mg : Str -> Option Value) (base : Heap) (N : List Str) (qual : Str) (scope : Scope) (f : Addr) (cd : Value) (A : Around) (outer : List Env) (s : Shared) (H : Hp) (E : XK) : Cx where
 prog := P
 w := w
 K := K
 mg := mg
 base := base
 A := A.deeper (envOfC qual scope s.heap.objs.size f cd)
 N := N
 s₀ := s
 H₀ := H
 env := envOfC qual scope s.heap.objs.size f cd
 outer := outer
 stack := envOfC qual scope s.heap.objs.size f cd :: outer
 ex := []
 calm := true
 fn := fun _ => true
 pn := []
 xe := fun e s' => wpAny (model P w) (A.deeper (envOfC qual scope s.heap.objs.size f cd)) (leaving (envOfC qual scope s.heap.objs.size f cd) e) (fun _ s'' => CX outer H s E e s'') (fun e' s'' => CX outer H s E e' s'') s'
theorem sF {sc : Scope} {n : Nat} {x : Str} (h : sc.names.lookup x = some .cell) : ∃ c, (cellsFrom n sc.names []).lookup x = some c := by
 have q := cellsFrom_some sc.names n [] (.inl h);exact Option.isSome_iff_exists.mp q
theorem wx {CX : lW} {P : Program} {w : World} {K : PySem.W.Frag} {mg : Str -> Option Value} {base : Heap} {N ps : List Str} {qual : Str} {scope : Scope} {f : Addr} {cd : Value} {A : Around} {outer : List Env} {s s1 : Shared} {H : Hp} {E : XK} {us : List Value} {vs : List V}
  (S : bm N ps scope) (hd : A.handled = none) (e0 : vy P w K mg base A outer s H) (hl : vs.length = ps.length) (r : Vals vs us)
  (x : InCallC s s.heap.objs.size (bindL (envOfC qual scope s.heap.objs.size f cd).kindOf (ps.zip us) fun _ => none) (cellsFrom (s.heap.objs.size + 1) scope.names []) (bindC (envOfC qual scope s.heap.objs.size f cd).kindOf (ps.zip us) fun _ => none) s1) :
  Inv (nc CX P w K mg base N qual scope f cd A outer s H E) [] (start N vs) H s1 := by
 have hpl : ps.length <= N.length := by have := congrArg List.length S.pre; rw [List.length_take] at this; omega
 obtain ⟨h1, tk, rfl, hk⟩ := x.done;have noA : ∀ b : Addr, b ∉ (nc CX P w K mg base N qual scope f cd A outer s H E).ex := fun b z => absurd (show b ∈ ([] : List Addr) from z) (by simp)
 refine ⟨⟨e0.mod, S.kind, rfl, rfl, Nat.le_refl _, fun y z c h1 h2 => ?_, fun y hy => ?_, fun y c _ h => ?_, fun _ => hd, Around.frames_deeper e0.frames, .inr ⟨rfl, rfl⟩, fun b z => absurd z (noA b), e0.bs, e0.bsz, fun b _ _ => noA b, fun b z => absurd z (noA b), e0.funs, e0.frf⟩,
  rfl, e0.bare, Un.kept hk, ⟨_, x.toInCall.ns, fun i y v h1 h2 h3 => ?_⟩, fun y c h => ⟨_, x.cell y c h⟩, e0.hok.fresh (Nat.le_refl _), fun y c h => ?_, fun p hp => absurd (show p ∈ ([] : List (Addr × Obj)) from hp) (by simp), e0.hok.kept hk, ?_⟩
 ·exact name_of_addr x.apart (PySem.mem_of_lookup h1) (PySem.mem_of_lookup h2)
 ·have hy : scope.names.lookup y = some .cell \/ scope.names.lookup y = some .free := hy
  rcases hy with hy | hy
  ·exact sF hy
  ·exact absurd rfl (S.nofree _ (PySem.mem_of_lookup hy))
 ·exact Nat.le_of_lt (x.above y c (PySem.mem_of_lookup h))
 ·have hi : i < vs.length := by
   unfold start at h2;by_cases hi : i < vs.length
   ·exact hi
   ·rw [List.getElem?_append_right (by simpa using hi)] at h2
    rw [List.getElem?_replicate] at h2;split at h2 <;> cases h2
  have ha : vs[i]? = some v := by
   unfold start at h2;rw [List.getElem?_append_left (by simpa using hi), List.getElem?_map] at h2;cases e : vs[i]? with
   | none => rw [e] at h2; cases h2
   | some a => rw [e] at h2; cases h2; rfl
  obtain ⟨u, hu, rv⟩ := r.get ha;have hp : ps[i]? = some y := by
   rw [<- S.pre, List.getElem?_take_of_lt oM]; exact h1
  have ndP : ps.Nodup := by rw [<- S.pre]; exact S.nd.sublist (List.take_sublist _ _)
  refine ⟨u, rv, ?_⟩;rcases S.par y (List.mem_of_getElem? hp) with k | k
  ·exact .inl ⟨k, pT ndP hp hu k⟩
  ·obtain ⟨c, e⟩ := sF (n := s.heap.objs.size + 1) k
   refine .inr ⟨.inl k, c, e, ?_⟩;have q := x.cell y c e;rw [pW ndP hp hu (by show scope.names.lookup y ≠ _; rw [k]; decide)] at q;exact q
 ·exact e0.hok.fresh (Nat.le_of_lt (x.above y c (PySem.mem_of_lookup h)))
 ·unfold start
  show _ = N.length;rw [List.length_append, List.length_map, List.length_replicate];omega
theorem DV {CX : lW} {P : Program} {w : World} {K : PySem.W.Frag} {mg : Str -> Option Value} {base : Heap} {k : Nat} {f : Addr} {name qual : Str} {params : Arguments} {body : List Stmt} {scope : Scope} {dV kV doc pm cdv ct oc : Value} {an od : Option Addr}
  {osl : Array (Option Value)} {N ps : List Str} {sp : Sp} (lk : K.lookup f = some ⟨oc, od, .func (fnOf name qual params body scope dV kV doc pm an cdv ct), osl⟩) (hcd : codeIn K cdv qual = true) (S : bm N ps scope)
  (len : ∀ vs H Q E, sp vs H Q E -> vs.length = ps.length)
  (hbody : ∀ (A : Around) (outer : List Env) (s : Shared) (H : Hp) (vs : List V) (Q : VK) (E : XK), Room k (A.deeper (envOfC qual scope s.heap.objs.size f cdv)) -> sp vs H Q E ->
   ∃ t, PSs (nc CX P w K mg base N qual scope f cdv A outer s H E) body t /\ t { nx := fun _ H' => Q .non H', rt := Q } (start N vs) H) :
  ck P w K mg base CX (k + 1) f (fnOf name qual params body scope dV kV doc pm an cdv ct) ps sp := by
 refine ⟨len, fun A outer s H args us vs Q E hr e0 hb r hsp => ?_⟩;have hl := len _ _ _ _ hsp;have KX : K.In s.heap := e0.mod.kin.keeps fun b o e => (e0.bs b o e).1
 have lim : s.heap.NoLimit := e0.mod.nolimit.keeps fun b o e => (e0.bs b o e).1
 have hkind : ∀ y ∈ ps.zip us, scope.names.lookup y.1 = some .local \/ (scope.names.lookup y.1 = some .cell /\ ((cellsFrom (s.heap.objs.size + 1) scope.names []).lookup y.1).isSome = true) := fun hq0 hy => by
  obtain ⟨n, v⟩ := hq0;rcases S.par n (List.of_mem_zip hy).1 with q | q
  ·exact .inl q
  ·exact .inr ⟨q, cellsFrom_some _ _ _ (.inl q)⟩
 refine codeAny_call_function hr.depth (KX _ _ lk) rfl S.co S.gen rfl (codeRec_of KX hcd) (hb _ _ _ _ ?_);refine wpAny_newFunctionEnv_cells S.kind hkind fun env he s1 x => ?_
 subst he;refine ⟨lim.keeps x.toInCall.keep, codeAny_func ?_⟩;obtain ⟨t, ht, hq⟩ := hbody A outer s H vs Q E (hr.deeper _) hsp;have I : Inv (nc CX P w K mg base N qual scope f cdv A outer s H E) [] (start N vs) H s1 := wx S hr.hd e0 hl r x;refine wpAny_mono (ht [] s1 (start N vs) H _ I hq) (fun fl s' hs => ?_) fun e s' hs => hs
 have fin : ∀ {σ' : St} {H' : Hp} {v : V} {u : Value}, Inv (nc CX P w K mg base N qual scope f cdv A outer s H E) [] σ' H' s' -> RelV v u -> Q v H' -> CE outer P w H s Q u s' :=
  fun {σ' H' v u} J rv q => ⟨v, H', J.os, J.bare, J.base, J.hok, rv, q⟩
 cases fl with
 | ret u =>
  obtain ⟨v, σ', H', J, rv, q⟩ := hs;exact fin J rv q
 | next =>
  obtain ⟨σ', H', J, q⟩ := hs;exact fin (v := V.non) (u := Value.none) J rfl q
 | brk =>
  obtain ⟨_, _, _, q⟩ := hs;exact False.elim q
 | cont =>
  obtain ⟨_, _, _, q⟩ := hs;exact False.elim q
section
variable {X : Cx} {x : Str} {p pos : Pos} {e : Expr} {es : List Expr} {t : TA} {id T : String} {r : List V -> Hp -> VK -> Prop}
noncomputable def yM (r : List V -> Hp -> VK -> Prop) (t : TA) : TE := fun σ H Q => t σ H fun vs H1 => r vs H1 Q
theorem qZ (hc : CallR X (.builtin id) r) (hg : Gl X x) (hm : X.mg x = none) (hv : bootBuiltins x = some (.builtin id)) (ha : PA X (e :: es) t) (hn : autoParam (x ≠ "__name__") cG._auto_1) (hdb : autoParam ((x == ("__debug__" : Str)) = false) cG._auto_1)
  (he : autoParam (starEach (e :: es) X.env = (false, eval e X.env) :: starEach es X.env) aI._auto_1) (hpl : autoParam ((backTo pos (starEach es X.env)).any (·.1) = false) aI._auto_1) : PE X (.Call (.Name x p) (e :: es) [] pos) (yM r t) := by
 intro aa s σ H Q I h;refine wpAny_Call_Name_kw (gO I hg hm hv ?_ hn hdb);exact PyProof.Rows.callWith_builtin1 (bH (ha pos aa s σ H _ I h) fun us s1 ⟨vs, H1, I1, r1, q1⟩ => hc aa s1 σ H1 vs us Q I1 r1 q1) he hpl
theorem pH (hc : CallR X (.type T) r) (hg : Gl X x) (hm : X.mg x = none) (hv : bootBuiltins x = some (.type T)) (ha : PA X (e :: es) t) (hn : autoParam (x ≠ "__name__") cG._auto_1) (hdb : autoParam ((x == ("__debug__" : Str)) = false) cG._auto_1)
  (he : autoParam (starEach (e :: es) X.env = (false, eval e X.env) :: starEach es X.env) aI._auto_1) (hpl : autoParam ((backTo pos (starEach es X.env)).any (·.1) = false) aI._auto_1) : PE X (.Call (.Name x p) (e :: es) [] pos) (yM r t) := by
 intro aa s σ H Q I h;refine wpAny_Call_Name_kw (gO I hg hm hv ?_ hn hdb);exact PyProof.Rows.callWith_type1 (bH (ha pos aa s σ H _ I h) fun us s1 ⟨vs, H1, I1, r1, q1⟩ => hc aa s1 σ H1 vs us Q I1 r1 q1) he hpl
end
end L2
namespace HT
open PySem PyProof.Rows
section
open PySem.SeqAt
open PySem.AutoSeq1 (wpAny_loadPart')
open PySem.MeetsSeq PySem.MeetsSeq2 PySem.MeetsSeq3
end
section
variable {prog : Program} {w : World} {A : Around} {E : Value -> Shared -> Prop} {s : Shared}
noncomputable def sIx (n d : Nat) : Option Int -> Nat
 | none => d
 | some v => if v < 0 then (v + (n : Int)).toNat else min v.toNat n
theorem sIx_none (n d : Nat) : sIx n d none = d := rfl
end
end HT
namespace L2
open PySem PySem.Spec PyProof.Rows
noncomputable abbrev TO := St -> Hp -> (Option Int -> Hp -> Prop) -> Prop
noncomputable def PO (X : Cx) (e : Option Expr) (t : TO) : Prop :=
 ∀ (aa : List (Addr × Obj)) (s : Shared) (σ : St) (H : Hp) (Q : Option Int -> Hp -> Prop), Inv X aa σ H s -> t σ H Q ->
  wpAny (model X.prog X.w) X.A (evalPart e X.env) (fun u s' => ∃ o H', Inv X aa σ H' s' /\ IsPart u o /\ Q o H') X.xe s
noncomputable def zx : TO := fun _ H Q => Q none H
noncomputable def CV (t : TE) : TO := fun σ H Q => t σ H fun x H1 => ∃ i, x = .int i /\ Q (some i) H1
section
variable {X : Cx} {e : Expr} {te : TE} {lo hi : Option Expr} {tl th : TO} {pos p2 : Pos}
theorem zT : PO X none zx := by
 intro aa s σ H Q I h;rw [evalPart_none];exact wpAny_pure ⟨none, H, I, .none, h⟩
theorem zS (h : PE X e te) : PO X (some e) (CV te) := by
 intro aa s σ H Q I hw;rw [evalPart_some];refine bH (h aa s σ H _ I hw) fun u s1 ⟨x, H1, I1, r1, q1⟩ => ?_
 obtain ⟨i, rfl, q⟩ := q1;obtain ⟨t, rfl⟩ := r1;exact ⟨some i, H1, I1, .int i t, q⟩
noncomputable def CH (X : Cx) (r : V -> Option Int -> Option Int -> Hp -> VK -> Prop) : Prop :=
 ∀ (aa : List (Addr × Obj)) (s : Shared) (σ : St) (H : Hp) (x : V) (v vl vu : Value) (lo hi : Option Int) (sl : Addr) (Q : VK), Inv X aa σ H s -> RelV x v -> s.heap.IsSliceOf sl vl vu .none -> IsPart vl lo -> IsPart vu hi -> r x lo hi H Q ->
  ∃ T id, typeLookup (.type T) "__getitem__" = pure (some (.builtin id)) /\ s.TypeIs v T /\ wpAny (model X.prog X.w) X.A (getItem v (.ref sl)) (EP X aa σ Q) X.xe s
noncomputable def Fl (r : V -> Option Int -> Option Int -> Hp -> VK -> Prop) (te : TE) (tl th : TO) : TE := fun σ H Q => te σ H fun x H1 => tl σ H1 fun l H2 => th σ H2 fun u H3 => r x l u H3 Q
theorem qY {r : V -> Option Int -> Option Int -> Hp -> VK -> Prop} (hr : CH X r) (he : PE X e te) (hl : PO X lo tl) (hu : PO X hi th) : PE X (.Subscript e (.Slice lo hi none p2) pos) (Fl r te tl th) := by
 intro aa s σ H Q I h;refine Subscript_ (bH (he aa s σ H _ I h) fun v s1 ⟨x, H1, I1, r1, q1⟩ => ?_);refine wpAny_Slice (bH (hl aa s1 σ H1 _ I1 q1) fun vl s2 ⟨l, H2, I2, pl, q2⟩ => bH (hu aa s2 σ H2 _ I2 q2) fun vu s3 ⟨u, H3, I3, pu, q3⟩ => ?_);rw [evalPart_none];refine wpAny_pure ?_;have I4 : Inv X aa σ H3 { s3 with heap := s3.heap.push { cls := .type "slice", data := .fields #[vl, vu, .none] } } := I3.kept (t' := s3.toks) fun b ob q => Heap.get?_push_of_some _ q
 obtain ⟨T, id, hT, ht, hg⟩ := hr aa { s3 with heap := s3.heap.push { cls := .type "slice", data := .fields #[vl, vu, .none] } } σ H3 x v vl vu l u s3.heap.objs.size Q I4 r1 (Heap.IsSliceOf.new ..) pl pu q3;show wpAny (model X.prog X.w) X.A (subscriptTail e (.Slice lo hi none p2) v (.ref s3.heap.objs.size)) (EP X aa σ Q) X.xe { s3 with heap := s3.heap.push { cls := .type "slice", data := .fields #[vl, vu, .none] } };exact tail_any (ops := [.ref s3.heap.objs.size, v]) ht hT hg (by with_unfolding_all rfl)
noncomputable def pf (xs : List V) (lo hi : Option Int) : List V := (xs.drop (HT.sIx xs.length 0 lo)).take (HT.sIx xs.length xs.length hi - HT.sIx xs.length 0 lo)
theorem tD (xs : List V) (lo hi : Option Int) : (pf xs lo hi).length <= xs.length := by
 unfold pf;rw [List.length_take, List.length_drop];omega
end
noncomputable def ixN (n : Nat) (i : Int) : Option Nat := if 0 <= i then (if i < n then some i.toNat else none) else if -(n : Int) <= i then some (i + n).toNat else none
noncomputable def atI {α : Type} (xs : List α) (i : Int) : Option α := (ixN xs.length i).bind fun j => xs[j]?
theorem mw {n : Nat} {i : Int} {j : Nat} (h : ixN n i = some j) : seqIndex? i n = some j /\ j < n /\ -(n : Int) <= i /\ i < n := by
 unfold ixN at h;by_cases h0 : 0 <= i
 ·rw [if_pos h0] at h
  by_cases h1 : i < n
  ·rw [if_pos h1] at h
   have e : i.toNat = j := Option.some.inj h;exact ⟨by rw [seqIndex_of h0 h1, e], by omega, by omega, h1⟩
  ·rw [if_neg h1] at h; cases h
 ·rw [if_neg h0] at h
  by_cases h1 : -(n : Int) <= i
  ·rw [if_pos h1] at h
   have e : (i + n).toNat = j := Option.some.inj h;exact ⟨by rw [seqIndex_neg oM h1, e], by omega, h1, by omega⟩
  ·rw [if_neg h1] at h; cases h
theorem mD {α : Type} {xs : List α} {i : Int} {v : α} (h : atI xs i = some v) : ∃ j, seqIndex? i xs.length = some j /\ xs[j]? = some v /\ j < xs.length /\ -(xs.length : Int) <= i /\ i < xs.length := by
 unfold atI at h;cases e : ixN xs.length i with
 | none => rw [e] at h; cases h
 | some j =>
  rw [e] at h;obtain ⟨h1, h2, h3, h4⟩ := mw e;exact ⟨j, h1, h, h2, h3, h4⟩
theorem atI_nat {α : Type} {xs : List α} {j : Nat} {v : α} (h : xs[j]? = some v) : atI xs (j : Int) = some v := by
 have hj : j < xs.length := (List.getElem?_eq_some_iff.mp h).1;have e : ixN xs.length (j : Int) = some j := by
  unfold ixN;rw [if_pos oM, if_pos oM]; simp
 unfold atI; rw [e]; exact h
theorem atI_last {α : Type} (xs : List α) (v : α) : atI (xs ++ [v]) (-1) = some v := by
 have hl : (xs ++ [v]).length = xs.length + 1 := by simp
 have e : ixN (xs ++ [v]).length (-1) = some xs.length := by
  unfold ixN;rw [hl, if_neg dC, if_pos oM];congr 1;omega
 unfold atI;rw [e];show (xs ++ [v])[xs.length]? = some v;simp
noncomputable def iX (b : Expr) : Prop := ∀ o i, subscripted b false o i = operate [o, i] (getItem o i)
noncomputable def IxR (X : Cx) (r : R2) : Prop :=
 ∀ (value slice : Expr) (aa : List (Addr × Obj)) (s : Shared) (σ : St) (H : Hp) (x y : V) (v u : Value) (Q : VK), Inv X aa σ H s -> RelV x v -> RelV y u -> r x y H Q ->
  subscripted slice false v u = operate [v, u] (getItem v u) -> wpAny (model X.prog X.w) X.A (subscriptTail value slice v u) (EP X aa σ Q) X.xe s
noncomputable def Eu (X : Cx) (id : String) (r : V -> List V -> Hp -> VK -> Prop) : Prop :=
 ∀ (aa : List (Addr × Obj)) (s : Shared) (σ : St) (H : Hp) (x : V) (xs : List V) (v : Value) (us : List Value) (Q : VK), Inv X aa σ H s -> RelV x v -> Vals xs us -> r x xs H Q ->
  wpAny (model X.prog X.w) X.A (call (.builtin id) (v :: us)) (EP X aa σ Q) X.xe s
section
variable {X : Cx} {a b : Expr} {ta tb : TE} {pos : Pos}
theorem IxR.or {r r' : R2} (h : IxR X r) (h' : IxR X r') : IxR X (fun x y H Q => r x y H Q \/ r' x y H Q) := by
 intro value slice aa s σ H x y v u Q I rx ry q hs;rcases q with q | q
 ·exact h value slice aa s σ H x y v u Q I rx ry q hs
 ·exact h' value slice aa s σ H x y v u Q I rx ry q hs
theorem u6 {r : R2} (hr : IxR X r) (ha : PE X a ta) (hb : PE X b tb) (hs : iX b) : PE X (.Subscript a b pos) (mE r ta tb) := by
 intro aa s σ H Q I h;exact Subscript_ (yE ha hb I h fun v u s2 x y H2 I2 rx ry q => hr a b aa s2 σ H2 x y v u Q I2 rx ry q (hs _ _))
noncomputable def Bb (K : PySem.W.Frag) : R2 := fun x y H Q => ∃ p xs i v, x = .ref p /\ y = .int i /\ dH K H p xs /\ atI xs i = some v /\ Q v H
noncomputable def A9 (K : PySem.W.Frag) : R2 := fun x y H Q => ∃ p xs i v, x = .ref p /\ y = .int i /\ sQ K H p xs /\ atI xs i = some v /\ Q v H
noncomputable def Ba : R2 := fun x y H Q => ∃ z i c, x = .str z /\ y = .int i /\ z.length <= sizeLine /\ atI z.cps.toList i = some c /\ Q (.str ⟨#[c]⟩) H
theorem ix_list : IxR X (Bb X.K) := by
 intro value slice aa s σ H x y v u Q I rx ry h hs;obtain ⟨p, xs, i, z, rfl, rfl, hq, he, q⟩ := h;cases rx;obtain ⟨t, rfl⟩ := ry;obtain ⟨its, r, pl, hz⟩ := I.list hq;obtain ⟨j, h1, h2, h3, h4, h5⟩ := mD he;obtain ⟨w, ew, rw'⟩ := r.get h2;have hl := r.length;have hn := jf;have fin : EP X aa σ Q w s := ⟨z, H, I, rw', q⟩;by_cases h0 : 0 <= i
 ·have hj : i.toNat = j := by
   rw [seqIndex_of h0 h5] at h1;exact Option.some.inj h1
  exact item_listR pl.isList h0 oM (by rw [hj]; simpa using ew) fin hs
 ·have hj : (i + (its.toArray.size : Int)).toNat = j := by
   rw [seqIndex_neg oM h4] at h1;rw [List.size_toArray, <- hl];exact Option.some.inj h1
  exact subscriptTail_builtinR (x := w) pl.isList.typeIs slot_list_getitem.lookup
   (wpAny_getItem_list_neg (Q := fun r s' => r = w /\ EP X aa σ Q r s') pl.isList oM (by rw [List.size_toArray] <;> omega) oM (by rw [hj]; simpa using ew) ⟨rfl, fin⟩) hs
theorem ix_tup : IxR X (A9 X.K) := by
 intro value slice aa s σ H x y v u Q I rx ry h hs;obtain ⟨p, xs, i, z, rfl, rfl, hq, he, q⟩ := h;cases rx;obtain ⟨t, rfl⟩ := ry;obtain ⟨its, r, pl, hz⟩ := I.tuple hq;obtain ⟨j, h1, h2, h3, h4, h5⟩ := mD he;obtain ⟨w, ew, rw'⟩ := r.get h2;have hl := r.length;have hn := jf;have fin : EP X aa σ Q w s := ⟨z, H, I, rw', q⟩;exact subscriptTail_builtinR (x := w) pl.typeIs slot_tuple_getitem.lookup
  (getItem_tuple (j := j) (Q := fun r s' => r = w /\ EP X aa σ Q r s') pl oM oM (by rw [List.size_toArray, <- hl]; exact h1) (by simpa using ew) ⟨rfl, fin⟩) hs
theorem Cd : IxR X Ba := by
 intro value slice aa s σ H x y v u Q I rx ry h hs;obtain ⟨z, i, c, rfl, rfl, hz, he, q⟩ := h;obtain ⟨t, rfl⟩ := rx;obtain ⟨t', rfl⟩ := ry;obtain ⟨j, h1, h2, h3, h4, h5⟩ := mD he;have hl : z.cps.toList.length = z.length := by simp [Str.length]
 rw [hl] at h1 h4 h5;have hn := jf;exact tail_any (typeIs_str s z t) slot_str_getitem.lookup (getItem_str (c := c) (by
  have e1 : decide (i < -(2 ^ 63 : Int)) = false := decide_eq_false oM;have e2 : decide (i ≥ 2 ^ 63) = false := decide_eq_false oM;rw [e1, e2, Bool.or_false]) (by rw [h1]; simpa using h2) ⟨.str ⟨#[c]⟩, H, I.tok _, ⟨_, rfl⟩, q⟩) hs
noncomputable def Ef (K : PySem.W.Frag) : R2 := fun x y H Q => Bb K x y H Q \/ A9 K x y H Q \/ Ba x y H Q
theorem sk : IxR X (Ef X.K) := ix_list.or (ix_tup.or Cd)
theorem va (its : List Value) (n j : Nat) (u : Value) : Obj.mapSeq (·.setIfInBounds j u) { cls := .type "list", data := .seq its.toArray n } = { cls := .type "list", data := .seq (its.set j u).toArray n } := by
 simp [Obj.mapSeq]
theorem Inv.lst {aa : List (Addr × Obj)} {σ : St} {H : Hp} {s : Shared} {p : Addr} {xs : List V} (I : Inv X aa σ H s) (h : H p = some (.lst xs)) :
  ∃ (its : List Value) (n : Nat), Vals xs its /\ s.heap.get? p = some { cls := .type "list", data := .seq its.toArray n } /\ xs.length <= sizeLine := by
 obtain ⟨z, its, n, r, e⟩ := I.hok p _ h;exact ⟨its, n, r, e, z⟩
theorem Inv.lstUpd {aa : List (Addr × Obj)} {σ : St} {H : Hp} {s : Shared} {p : Addr} {xs ys : List V} {its its' : List Value} {n n' : Nat} {f : Obj -> Obj} (I : Inv X aa σ H s) (h : H p = some (.lst xs))
  (ho : s.heap.get? p = some { cls := .type "list", data := .seq its.toArray n }) (hf : f { cls := .type "list", data := .seq its.toArray n } = { cls := .type "list", data := .seq its'.toArray n' }) (r : Vals ys its') (hz : ys.length <= sizeLine) (t : Nat) :
  Inv X aa σ (aO H p (.lst ys)) { s with heap := s.heap.update p f, toks := t } := by
 have e : (s.heap.update p f).get? p = some { cls := .type "list", data := .seq its'.toArray n' } := by
  rw [Heap.get?_update_self f ho (by rw [hf] <;> rfl), hf]
 refine I.write (x := p) (e := p) (by rw [h]; trivial) (.inl rfl) (fun b u hb q => (Heap.get?_update_other _ _ (Ne.symm hb)).trans q) ⟨_, e⟩ ?_;exact ⟨hz, its', n', r, e⟩
noncomputable def Db : V -> V -> V -> Hp -> (Hp -> Prop) -> Prop := fun o i v H Q => ∃ p xs k j, o = .ref p /\ i = .int k /\ H p = some (.lst xs) /\ ixN xs.length k = some j /\ Q (aO H p (.lst (xs.set j v)))
theorem qJ : yH X Db := by
 intro aa s σ H o i v ov iv u Q I ro ri rv h;obtain ⟨p, xs, k, j, rfl, rfl, hp, hj, q⟩ := h;cases ro;obtain ⟨t, rfl⟩ := ri;obtain ⟨its, n, r, ho, hz⟩ := I.lst hp;obtain ⟨h1, h2, h3, h4⟩ := mw hj;have hl := r.length;have hn := jf;have I' : Inv X aa σ (aO H p (.lst (xs.set j v))) { s with heap := s.heap.update p (Obj.mapSeq (·.setIfInBounds j u)) } :=
  I.lstUpd hp ho (va its n j u) (r.set rv j) (by rw [List.length_set]; exact hz) s.toks
 by_cases h0 : 0 <= k
 ·have hk : k.toNat = j := by
   rw [seqIndex_of h0 h4] at h1;exact Option.some.inj h1
  exact ki_setAt ho h0 oM (by rw [List.size_toArray, <- hl]; exact h4) (by rw [hk]; exact ⟨_, I', q⟩)
 ·have hk : (k + (its.toArray.size : Int)).toNat = j := by
   rw [seqIndex_neg oM h3] at h1;rw [List.size_toArray, <- hl];exact Option.some.inj h1
  exact ki_setBack ho oM (by rw [List.size_toArray, <- hl]; exact h3) oM (by rw [hk]; exact ⟨_, I', q⟩)
theorem qH (lo hi : Option Int) (n : Nat) : (sliceBounds lo hi none n).1 = ((HT.sIx n 0 lo : Nat) : Int) /\ (sliceBounds lo hi none n).2.1 = ((HT.sIx n n hi : Nat) : Int) /\ (sliceBounds lo hi none n).2.2 = 1 := by
 refine ⟨?_, ?_, rfl⟩
 ·cases lo with
  | none => simp [sliceBounds, HT.sIx]
  | some i =>
   simp only [sliceBounds, HT.sIx, Option.getD_none, show (1 : Int) > 0 by decide, if_true];by_cases h : i < 0
   ·simp only [h, if_true] <;> omega
   ·simp only [h, if_false] <;> omega
 ·cases hi with
  | none => simp [sliceBounds, HT.sIx]
  | some i =>
   simp only [sliceBounds, HT.sIx, Option.getD_none, show (1 : Int) > 0 by decide, if_true];by_cases h : i < 0
   ·simp only [h, if_true] <;> omega
   ·simp only [h, if_false] <;> omega
theorem qb (its : List Value) (lo hi : Option Int) : slicePick its.toArray lo hi none = ((its.drop (HT.sIx its.length 0 lo)).take (HT.sIx its.length its.length hi - HT.sIx its.length 0 lo)).toArray := by
 obtain ⟨h1, h2, h3⟩ := qH lo hi its.toArray.size;unfold slicePick;rw [h1, h2, h3];simp only [sliceRange_one, pick_run, List.size_toArray] <;> rfl
noncomputable def EQ (K : PySem.W.Frag) : V -> Option Int -> Option Int -> Hp -> VK -> Prop := fun x lo hi H Q => ∃ a xs, x = .ref a /\ dH K H a xs /\ ∀ p, H p = none -> Q (.ref p) (aO H p (.lst (pf xs lo hi)))
theorem zA : CH X (EQ X.K) := by
 intro aa s σ H x v vl vu lo hi sl Q I rx hs pl pu h;obtain ⟨a, xs, rfl, hx, q⟩ := h;cases rx;obtain ⟨its, r, ht, hz⟩ := I.list hx;have hlen := r.length;refine ⟨"list", _, slot_list_getitem.lookup, ht.isList.typeIs, ?_⟩;refine wpAny_getItem_list_slice ht.isList hs pl pu .none (by simp) ?_ (by rw [List.size_toArray] <;> omega);rw [qb, <- hlen];refine ⟨.ref s.heap.objs.size, _, I.laid (t' := s.toks) (o := .lst (pf xs lo hi)) (fun b ob q => Heap.get?_push_of_some _ q) (Nat.le_refl _) ?_, rfl, q _ (I.hok.fresh (Nat.le_refl _))⟩;exact ⟨Nat.le_trans (tD xs lo hi) hz, _, 0, (r.drop (HT.sIx xs.length 0 lo)).take (HT.sIx xs.length xs.length hi - HT.sIx xs.length 0 lo), Heap.get?_push_size _ rfl⟩
theorem call_len_seq : CallR X (.builtin "len") (fun xs H Q => ∃ p ys, xs = [.ref p] /\ (dH X.K H p ys \/ sQ X.K H p ys) /\ Q (.int ys.length) H) := by
 intro aa s σ H xs us Q I r h;obtain ⟨p, ys, rfl, hq, q⟩ := h;obtain ⟨u, rfl, rx⟩ := iK r;cases rx;have hn := jf;rcases hq with hq | hq
 ·obtain ⟨its, r', pl, hz⟩ := I.list hq
  have hlen := r'.length;exact Calls.call_len_list pl.isList (by simp only [List.size_toArray] <;> omega) ⟨.int ys.length, H, I.tok _, ⟨s.toks + 1, by rw [List.size_toArray, hlen]⟩, q⟩
 ·obtain ⟨its, r', pl, hz⟩ := I.tuple hq
  have hlen := r'.length;exact len_tuple pl (by simp only [List.size_toArray] <;> omega) ⟨.int ys.length, H, I.tok _, ⟨s.toks + 1, by rw [List.size_toArray, hlen]⟩, q⟩
theorem sH : CallR X (.builtin "len") (fun xs H Q => ∃ z, xs = [.str z] /\ z.length <= sizeLine /\ Q (.int z.length) H) := by
 intro aa s σ H xs us Q I r h;obtain ⟨z, rfl, hz, q⟩ := h;obtain ⟨u, rfl, t, rfl⟩ := iK r;have hn := jf;exact len_str oM ⟨.int z.length, H, I.tok _, ⟨_, rfl⟩, q⟩
theorem CallR.or {f : Value} {r r' : List V -> Hp -> VK -> Prop} (h : CallR X f r) (h' : CallR X f r') : CallR X f (fun xs H Q => r xs H Q \/ r' xs H Q) := by
 intro aa s σ H xs us Q I rs q;rcases q with q | q
 ·exact h aa s σ H xs us Q I rs q
 ·exact h' aa s σ H xs us Q I rs q
noncomputable def AR (K : PySem.W.Frag) (T : String) (x : V) (H : Hp) : Prop := match x with
 | .str _ => T = "str"
 | .int _ => T = "int"
 | .ref p => (T = "list" /\ ∃ xs, dH K H p xs) \/ (T = "tuple" /\ ∃ o, K.lookup p = some o /\ o.cls = .type "tuple" /\ o.dict = none) \/
   (T = "dict" /\ ((∃ kvs, H p = some (.dK kvs)) \/ ∃ kvs, H p = some (.dT kvs))) \/ (T = "set" /\ ∃ S n, H p = some (.set S n))
 | _ => False
theorem vF {aa : List (Addr × Obj)} {σ : St} {H : Hp} {s : Shared} {T : String} {x : V} {v : Value} (I : Inv X aa σ H s) (r : RelV x v) (ty : AR X.K T x H) :
  s.TypeIs v T /\ ∀ a, v = .ref a -> ∃ ob, s.heap.get? a = some ob /\ ob.dict = none := by
 cases x with
 | str z =>
  obtain ⟨t, rfl⟩ := r;cases (show T = "str" from ty);exact ⟨typeIs_str s z t, fun _ e => nomatch e⟩
 | int i =>
  obtain ⟨t, rfl⟩ := r;cases (show T = "int" from ty);exact ⟨typeIs_int s i t, fun _ e => nomatch e⟩
 | ref p =>
  cases r;rcases ty with ⟨rfl, xs, hq⟩ | ⟨rfl, o, hk, hc, hd⟩ | ⟨rfl, hk⟩ | ⟨rfl, S, n, hk⟩
  ·obtain ⟨its, _, pl, _⟩ := I.list hq
   refine ⟨pl.isList.typeIs, fun a e => ?_⟩;cases e;obtain ⟨o, n, e, c, hd, _⟩ := pl;exact ⟨o, e, hd⟩
  ·refine ⟨⟨o, I.kIn p o hk, hc⟩, fun a e => ?_⟩
   cases e;exact ⟨o, I.kIn _ o hk, hd⟩
  ·have z : ∃ o, s.heap.get? p = some o /\ o.ExactDict := by
    rcases hk with ⟨kvs, hk⟩ | ⟨kvs, hk⟩
    ·obtain ⟨_, _, _, _, o, _, _, e, ex, _⟩ := I.hok p _ hk
     exact ⟨o, e, ex⟩
    ·obtain ⟨_, _, _, _, o, _, _, e, ex, _⟩ := I.hok p _ hk
     exact ⟨o, e, ex⟩
   obtain ⟨o, e, ex⟩ := z;refine ⟨⟨o, e, ex.1⟩, fun a e2 => ?_⟩;cases e2;exact ⟨o, e, ex.2.1⟩
  ·obtain ⟨o, _, _, _, e, ex, _⟩ := I.hok p _ hk
   refine ⟨⟨o, e, ex.1⟩, fun a e2 => ?_⟩;cases e2;exact ⟨o, e, ex.2.1⟩
 | _ => exact False.elim ty
noncomputable def EI (K : PySem.W.Frag) (T : String) (r : V -> List V -> Hp -> VK -> Prop) (to : TE) : TE := fun σ H Q => to σ H fun x H1 => AR K T x H1 /\ r x [] H1 Q
noncomputable def Fp (K : PySem.W.Frag) (T : String) (r : V -> List V -> Hp -> VK -> Prop) (to : TE) (t : TA) : TE := fun σ H Q => to σ H fun x H1 => AR K T x H1 /\ t σ H1 fun xs H2 => r x xs H2 Q
variable {o e : Expr} {es : List Expr} {to : TE} {t : TA} {name : Str} {apos cpos : Pos} {T id : String} {r : V -> List V -> Hp -> VK -> Prop}
theorem BC (pa : PlainAttrs T) (slot : Slot T name id) (hty : typeOf (.builtin id) = pure (.type "method_descriptor")) (hm : Eu X id r) (ho : PE X o to)
  (hbase : autoParam (attributeBase o name X.env (eval o X.env) = eval o X.env) aI._auto_1) (hline : autoParam ((apos.endLine == cpos.line) = true) aI._auto_1) : PE X (.Call (.Attribute o name apos) [] [] cpos) (EI X.K T r to) := by
 intro aa s σ H Q I h;refine wpAny_Call_method0_late hbase hline (bH (ho aa s σ H _ I h) fun v s1 ⟨x, H1, I1, r1, ty, q1⟩ => ?_);obtain ⟨h1, h2⟩ := vF I1 r1 ty;exact ⟨T, id, pa, slot, hty, h1, h2, Calls.callWith_builtin rfl (PySem.evalArgs_none (hm aa s1 σ H1 x [] v [] Q I1 r1 .nil q1))⟩
theorem mh (pa : PlainAttrs T) (slot : Slot T name id) (hty : typeOf (.builtin id) = pure (.type "method_descriptor")) (hm : Eu X id r) (ho : PE X o to) (ha : PA X (e :: es) t)
  (hbase : autoParam (attributeBase o name X.env (eval o X.env) = eval o X.env) aI._auto_1)
  (hfew : autoParam (((backTo cpos (starEach (e :: es) X.env)).all (fun x => !x.1) && (backToKw cpos (keywordEach [] X.env)).all (fun x => x.1.isSome)
   && decide ((e :: es).length + ([] : List Keyword).length + (if ([] : List Keyword).isEmpty then 0 else 1) < 30)) = true) aI._auto_1)
  (hline : autoParam ((apos.endLine == cpos.line) = true) aI._auto_1) (hs : autoParam (starEach (e :: es) X.env = (false, eval e X.env) :: starEach es X.env) aI._auto_1) (hplain : autoParam ((backTo cpos (starEach es X.env)).any (·.1) = false) aI._auto_1) :
  PE X (.Call (.Attribute o name apos) (e :: es) [] cpos) (Fp X.K T r to t) := by
 intro aa s σ H Q I h;refine wpAny_Call_method_late hbase hfew hline rfl (bH (ho aa s σ H _ I h) fun v s1 ⟨x, H1, I1, r1, ty, q1⟩ => ?_);obtain ⟨h1, h2⟩ := vF I1 r1 ty;refine ⟨T, id, pa, slot, hty, h1, h2, ?_⟩;have hA := ha cpos aa s1 σ H1 _ I1 q1;rw [hs] at hA ⊢;refine Calls.callWith_builtin (by show (false || (backTo cpos (starEach es X.env)).any (·.1)) = false; rw [hplain] <;> rfl) (Calls.evalArgs_plain ?_);exact bH hA fun us s2 ⟨vs, H2, I2, r2, q2⟩ => hm aa s2 σ H2 x vs v us Q I2 r1 r2 q2
end
noncomputable def sV (X : Cx) (id : String) (r : V -> List V -> Hp -> VK -> Prop) : Prop :=
 ∀ (aa : List (Addr × Obj)) (s : Shared) (σ : St) (H : Hp) (x : V) (xs : List V) (v : Value) (us : List Value) (Q : VK), Inv X aa σ H s -> RelV x v -> Vals xs us -> r x xs H Q ->
  wpAny (model X.prog X.w) X.A (call (.builtin id) (v :: us)) (EP X aa σ Q) X.xe s
theorem Vals.one {x : V} {us : List Value} (h : Vals [x] us) : ∃ u, us = [u] /\ RelV x u := by
 cases h with
 | cons r h => cases h; exact ⟨_, rfl, r⟩
theorem Vals.zero : ∀ {us : List Value}, Vals [] us -> us = []
 | _, .nil => rfl
theorem Vals.dropLast {xs : List V} {us : List Value} (h : Vals xs us) : Vals xs.dropLast us.dropLast := by
 induction h with
 | nil => exact .nil
 | cons r t ih =>
  cases t with
  | nil => exact .nil
  | cons q t' => exact .cons r ih
theorem Vals.rep {xs : List V} {us : List Value} (h : Vals xs us) : ∀ k : Nat, Vals (List.replicate k xs).flatten (List.replicate k us).flatten
 | 0 => .nil
 | k + 1 => by
  rw [List.replicate_succ, List.replicate_succ, List.flatten_cons, List.flatten_cons];exact Vals.append h (Vals.rep h k)
theorem vp {α : Type} (l : List α) : l.eraseIdx (l.length - 1) = l.dropLast := by
 induction l with
 | nil => rfl
 | cons a r ih =>
  cases r with
  | nil => rfl
  | cons b r =>
   have e : (a :: b :: r).length - 1 = ((b :: r).length - 1) + 1 := by
    have h1 : (a :: b :: r).length = r.length + 2 := rfl;have h2 : (b :: r).length = r.length + 1 := rfl;omega
   rw [e, List.eraseIdx_cons_succ, ih]
   all_goals rfl
theorem pN (its : List Value) : ∀ (k : Nat) (acc : List Value),
  List.foldl (fun x1 x2 => x1 ++ x2) acc.toArray (List.replicate k its.toArray) = (acc ++ (List.replicate k its).flatten).toArray
 | 0, acc => by simp
 | k + 1, acc => by
  have e : acc.toArray ++ its.toArray = (acc ++ its).toArray := by simp
  have e2 : (acc ++ its) ++ (List.replicate k its).flatten = acc ++ (List.replicate (k + 1) its).flatten := by
   rw [List.replicate_succ, List.flatten_cons, List.append_assoc]
  rw [<- e2, <- pN its k (acc ++ its), <- e, List.replicate_succ, List.foldl_cons]
section
variable {X : Cx} {aa : List (Addr × Obj)} {σ : St} {H : Hp} {s : Shared} {l b : Addr} {xs ys zs : List V}
theorem Inv.lset {its its' : List Value} {n : Nat} {f : Array Value -> Array Value} {t' : Nat} (I : Inv X aa σ H s) (hH : H l = some (.lst xs))
  (e : s.heap.get? l = some { cls := .type "list", data := .seq its.toArray n }) (hf : f its.toArray = its'.toArray) (hv : Vals ys its') (hz : ys.length <= sizeLine) :
  Inv X aa σ (aO H l (.lst ys)) { s with heap := s.heap.update l (Obj.mapSeq f), toks := t' } := by
 have q := PySem.IsL.update e f;rw [hf] at q;refine I.write (x := l) (e := l) (by rw [hH]; exact trivial) (.inl rfl) (fun b' u hb hu => (Heap.get?_update_other s.heap (Obj.mapSeq f) (Ne.symm hb)).trans hu) ⟨_, q⟩ ?_;exact ⟨hz, its', _, hv, q⟩
theorem Inv.lnew {its : List Value} {t' : Nat} (I : Inv X aa σ H s) (hv : Vals ys its) (hz : ys.length <= sizeLine) :
  Inv X aa σ (aO H s.heap.objs.size (.lst ys)) { s with heap := s.heap.push { cls := .type "list", data := .seq its.toArray }, toks := t' } :=
 I.laid (fun _ _ q => Heap.get?_push_of_some _ q) (Nat.le_refl _) ⟨hz, its, 0, hv, Heap.get?_push_size _ rfl⟩
theorem Inv.fresh (I : Inv X aa σ H s) : H s.heap.objs.size = none := I.hok.fresh (Nat.le_refl _)
theorem Inv.lstM (I : Inv X aa σ H s) (hH : H l = some (.lst xs)) : xs.length <= sizeLine /\ ∃ (its : List Value) (n : Nat), Vals xs its /\ xs.length = its.length /\ s.heap.get? l = some { cls := .type "list", data := .seq its.toArray n } := by
 obtain ⟨z, its, n, r, e⟩ := I.hok l _ hH;exact ⟨z, its, n, r, r.length, e⟩
theorem xS {n : Nat} (h : n <= sizeLine) : Builtin.List.listTooLong n = false := by
 unfold Builtin.List.listTooLong;exact decide_eq_false oM
end
section
variable {X : Cx}
noncomputable def zF : V -> List V -> Hp -> VK -> Prop := fun x vs H Q => ∃ l xs y, x = .ref l /\ vs = [y] /\ H l = some (.lst xs) /\ xs.length < sizeLine /\ Q .non (aO H l (.lst (xs ++ [y])))
theorem lg : sV X "list.append" zF := by
 intro aa s σ H x vs v us Q I rx rv h;obtain ⟨l, xs, y, rfl, rfl, hH, hz, q⟩ := h;cases rx;obtain ⟨u, rfl, ru⟩ := rv.one;obtain ⟨z, its, n, r, hl, e⟩ := I.lstM hH;refine call_meets F.slot_list_append ⟨_, e, rfl⟩ F.entry_list_append (F.args_list_append_2 _ _) (PySem.list_append l its.toArray n u (by rw [List.size_toArray]; omega)) ⟨e, ?_⟩;refine ⟨.non, _, I.lset (its' := its ++ [u]) hH e (by simp) (r.append (.cons ru .nil)) ?_, rfl, q⟩;rw [List.length_append, List.length_singleton];omega
noncomputable def ES : V -> List V -> Hp -> VK -> Prop := fun x vs H Q => ∃ l xs y, x = .ref l /\ vs = [] /\ H l = some (.lst xs) /\ xs[xs.length - 1]? = some y /\ Q y (aO H l (.lst xs.dropLast))
theorem FF : sV X "list.pop" ES := by
 intro aa s σ H x vs v us Q I rx rv h;obtain ⟨l, xs, y, rfl, rfl, hH, hy, q⟩ := h;cases rx;have hus := rv.zero;subst hus;obtain ⟨z, its, n, r, hl, e⟩ := I.lstM hH;obtain ⟨u, hu, ru⟩ := r.get hy;have hy' : its.toArray[its.toArray.size - 1]? = some u := by
  show its.toArray[its.length - 1]? = some u;rw [<- Array.getElem?_toList, <- hl];exact hu
 refine call_meets F.slot_list_pop ⟨_, e, rfl⟩ F.entry_list_pop (F.args_list_pop_1 _) (MeetsSeq.list_pop_last l its.toArray n u hy' (by rw [List.size_toArray]; omega)) ⟨e, ?_⟩;refine ⟨y, _, I.lset (its' := its.dropLast) hH e ?_ r.dropLast ?_, ru, q⟩
 ·show its.toArray.eraseIdxIfInBounds (its.toArray.size - 1) = its.dropLast.toArray
  rw [List.size_toArray, List.eraseIdxIfInBounds_toArray, vp]
 ·rw [List.length_dropLast]
  omega
noncomputable def Bc : V -> List V -> Hp -> VK -> Prop := fun x vs H Q => ∃ l xs, x = .ref l /\ vs = [] /\ H l = some (.lst xs) /\ Q .non (aO H l (.lst []))
theorem xW : sV X "list.clear" Bc := by
 intro aa s σ H x vs v us Q I rx rv h;obtain ⟨l, xs, rfl, rfl, hH, q⟩ := h;cases rx;have hus := rv.zero;subst hus;obtain ⟨z, its, n, r, hl, e⟩ := I.lstM hH;refine call_meets F.slot_list_clear ⟨_, e, rfl⟩ F.entry_list_clear (F.args_list_clear_1 _) (AutoSeq1.list_clear_list_0 l its.toArray n (by rw [List.size_toArray]; omega)) ⟨e, ?_⟩;exact ⟨.non, _, I.lset (its' := []) (ys := []) hH e rfl .nil (Nat.zero_le _), rfl, q⟩
noncomputable def ER : R2 := fun x y H Q => ∃ l k xs, x = .ref l /\ y = .int k /\ H l = some (.lst xs) /\ -(2 ^ 63) <= k /\ k < 2 ^ 63 /\ xs.length * k.toNat <= sizeLine /\
 ∀ p, H p = none -> Q (.ref p) (aO H p (.lst (List.replicate k.toNat xs).flatten))
theorem Ad {α : Type} (xs : List α) (k : Nat) : (List.replicate k xs).flatten.length = k * xs.length := by
 induction k with
 | zero => simp
 | succ k ih => rw [List.replicate_succ, List.flatten_cons, List.length_append, ih, Nat.succ_mul, Nat.add_comm]
theorem BG : eD X (binaryOp .Mult) ER := by
 intro aa s σ H x y v u Q I rx ry h;obtain ⟨l, k, xs, rfl, rfl, hH, h1, h2, hz, q⟩ := h;cases rx;obtain ⟨t, rfl⟩ := ry;obtain ⟨z, its, n, r, hl, e⟩ := I.lstM hH;have hlen : its.toArray.size * k.toNat <= sizeLine := by rw [List.size_toArray, <- hl]; exact hz
 have hcap : ¬ its.toArray.size * k.toNat > (2 ^ 63 - 1) / 8 := by
  have : (sizeLine : Nat) <= (2 ^ 63 - 1) / 8 := by decide
  omega
 have hfit : ¬ (!Builtin.List.listFitsIndex k) = true := by
  rw [fitsIndex_both h1 h2];exact Bool.false_ne_true
 have hlong : ¬ Builtin.List.listTooLong (its.toArray.size * k.toNat) = true := by
  rw [xS hlen];exact Bool.false_ne_true
 have hnew : List.foldl (fun x1 x2 => x1 ++ x2) #[] (List.replicate (if its.toArray.isEmpty = true then 0 else k.toNat) its.toArray) = (List.replicate k.toNat its).flatten.toArray := by
  have f0 : ∀ m : Nat, List.foldl (fun x1 x2 => x1 ++ x2) #[] (List.replicate m its.toArray) = (List.replicate m its).flatten.toArray := fun m => by
   have := pN its m []
   rw [List.nil_append] at this;exact this
  rw [f0];cases its with
  | nil => simp
  | cons a r' => rw [if_neg (by simp)]
 refine wpAny_binaryOp_repeat_ref (T := "list") (U := "int") dC ⟨_, e, rfl⟩ (fun s' => typeIs_int s' k t) noFill_list_mul F.fills_int_mul F.slot_int_rmul repeat_list F.slot_int_index.lookup
  (call_meets F.slot_int_rmul (typeIs_int s k t) F.entry_int_rmul (F.args_int_rmul_2 _ _) (int___rmul___int_list k t l its.toArray n)
   ⟨e, rfl, ⟨_, e, rfl⟩, call_meets F.slot_list_mul ⟨_, e, rfl⟩ F.entry_list_mul (F.args_list_mul_2 _ _) (AutoListH.list___mul___list_int_3 l its.toArray n k t hfit hcap hlong) ⟨e, ?_⟩⟩)
 rw [hnew];exact ⟨.ref _, _, I.lnew (t' := s.toks) (r.rep k.toNat) (by rw [Ad, Nat.mul_comm]; exact hz), rfl, q _ I.fresh⟩
end
section
variable {prog : Program} {w : World} {A : Around} {E : Value -> Shared -> Prop} {s : Shared}
end
section
variable {X : Cx}
end
end L2
namespace Att
open PySem PySem.W PySem.Calls PyProof.Rows
theorem nP {P : Params} {h : Heap} : ∀ (ns : List Int) (vs : List Value), WellAll P h vs (ns.map WData.int) -> IntsAre vs ns := by
 intro ns
 induction ns with
 | nil =>
  intro vs w;rw [List.map_nil] at w;cases w;exact .nil
 | cons n ns ih =>
  intro vs w;rw [List.map_cons] at w;cases w with
  | cons a b =>
   cases a;exact .cons _ _ (ih _ b)
theorem vO {l : OpenLaw} {n : Nat} (hn : l.most = some n) {P : Params} {h : Heap} {args : List WData} {vals : List Value}
  (hpre : l.row.toRowW.claim.pre args = true) (hwl : WellAll P h vals args) :
  ∃ a vs ns, vals = [Value.ref a] /\ args = [WData.list (ns.map WData.int)] /\ h.get? a = some { cls := .type "list", data := .seq vs.toArray } /\ IntsAre vs ns /\ ns.length <= n := by
 have hsh : WShape.hasAll [] args [.list .int] = true := (pre_splitW hpre).1;have hc : l.pre.holds [] { args := args } = true := (pre_splitW hpre).2;obtain ⟨d, r, rfl, h1, h2⟩ := hasAllW_cons hsh;obtain rfl := hasAllW_nil h2;obtain ⟨xs, rfl, h3⟩ := hasW_list h1;obtain ⟨ns, rfl⟩ := items_int h3;have hlen : ns.length <= n := by
  unfold OpenLaw.pre at hc;have h4 : (WTm.not (.lt (.lit (.int (n : Int))) (.len (.arg 0)))).holds [] { args := [.list (ns.map .int)] } = true := by
   have h4 := (holds_andW hc).1;rw [hn] at h4;exact h4
  have h5 := condW_of h4 (w_not (w_lt w_lit (w_len_list (w_arg rfl))));rw [List.length_map] at h5;refine Nat.le_of_not_lt fun q => ?_
  have q' : (n : Int) < ((ns.length : Nat) : Int) := by omega
  first
   | (rw [decide_eq_true q'] at h5; exact absurd h5 dC)
   | (simp at h5; omega)
 cases hwl with
 | cons w1 w2 =>
  cases w2;cases w1 with
  | list ho hall => exact ⟨_, _, ns, rfl, rfl, ho, nP ns _ hall, hlen⟩
theorem vX (l : OpenLaw) (args : List WData) : l.row.toRowW.claim.post args (.bool true) args = true :=
 postW_of (r := l.row.toRowW) (X := (true == true))
  (show WShape.has [] (.bool true) .bool = true by first | rfl | decide | simp [WShape.has, WShape.arms, WShape.armsAll])
  (show (WTm.eq .res (.lit (.bool true))).value [] { args := args, res := some (.bool true), after := args } = some (.bool (true == true)) from w_eq_bool (w_res rfl) w_lit) rfl
theorem attach_call {l : OpenLaw} {n : Nat} {q : Program} {loose : List Str} {XP : (Str -> Option Value) -> Heap -> Prop} {YP : World -> Heap -> Prop} {d : DefRec}
  (hn : l.most = some n) (hdf : d.params.defaults = [])
  (call : ∀ (w : World) (s₀ s₁ : Shared) (mg mb : Str -> Option Value) (fa : Addr) (o : Obj) (pm cd doc : Value) (a : Addr) (vs : List Value) (ns : List Int),
   Ground q loose [] XP w s₀ mg mb s₁.heap -> YP w s₁.heap ->
   s₁.heap.get? fa = some o -> o.data = .func (docDef d.name d.params d.body d.scope pm cd doc) -> s₁.heap.CodeRec cd d.name -> mg d.name = some (.ref fa) ->
   s₁.heap.get? a = some { cls := .type "list", data := .seq vs.toArray } -> IntsAre vs ns -> ns.length <= n -> s₁.gens = #[] ->
   codeAny (model l.prog w) callerA (.call (.ref fa) ⟨[.ref a], []⟩) (fun r s' => r = .ok (.ret (.bool true)) /\ OldK s₁.heap s'.heap /\ s'.os = s₁.os /\ AllBare s'.gens) s₁) :
  WalkO q loose XP YP l.row.toRowW d [] (fun f vs => PySem.call f vs) := by
 intro w s₀ s₁ mg mb G Y fa o pm cd doc dV kV ho hd hcd hD hmg hg args vals as hpre hlay hrd hwl hlo;obtain rfl : dV = .none := Dflts.none hD hdf;obtain rfl : kV = .none := Dflts.noKw hD;obtain ⟨a, vs, ns, rfl, rfl, hobj, hints, hlen⟩ := vO hn hpre hwl;refine enter_call (codeAny_mono (call w s₀ s₁ mg mb fa o pm cd doc a vs ns G Y ho (fd_plain hd) hcd hmg hobj hints hlen hg) fun r s' hq => ?_);obtain ⟨rfl, h2, h3, h4⟩ := hq;exact ⟨.inl ⟨.bool true, .bool true, [], rfl, fun _ => rfl, .bool true, vX l _, fun _ => ⟨List.Pairwise.nil, fun _ hm => (nomatch hm)⟩⟩, h2, h3, h4⟩
section
variable {prog : Program} {w : World} {A : Around} {E : Value -> Shared -> Prop} {s : Shared} {K : Frag}
end
end Att
namespace L2
open PySem PySem.Spec PyProof.Rows
theorem vE : ∀ {vs : List Value} {ns : List Int}, IntsAre vs ns -> Vals (ns.map V.int) vs := by
 intro vs ns h
 induction h with
 | nil => exact .nil
 | cons n t h ih => exact .cons ⟨t, rfl⟩ ih
noncomputable def yI (H : Hp) : Prop := ∀ b, H b = none \/ ∃ o xs, H b = some (.frz o (.lst xs))
theorem xY {P : Program} {w : World} {K : PySem.W.Frag} {mg mb : Str -> Option Value} {CX : lW} {k : Nat} {fa a : Addr} {fd : FuncData} {x : Str} {sp : Sp} {s₁ : Shared} {vs : List Value} {ns : List Int}
  (KX : K.In s₁.heap) (hns : s₁.heap.Ns mainGlobals mg) (hb : s₁.heap.Ns builtinsNs mb) (hbb : ∀ x : Str, x ≠ "__name__" -> mb x = bootBuiltins x) (hlim : s₁.heap.NoLimit) (hg : s₁.gens = #[])
  (ha : s₁.heap.get? a = some { cls := .type "list", data := .seq vs.toArray }) (hi : IntsAre vs ns) (hl : ns.length <= sizeLine) (hr : Room k callerA)
  (F : ∀ base : Heap, K.In base -> base.Ns mainGlobals mg -> ck P w K mg base CX k fa fd [x] sp) (hbind : ∀ (s : Shared) (u : Value), BindsTo s fd ⟨[u], []⟩ [(x, u)])
  (hsp : ∀ H : Hp, yI H -> dH K H a (ns.map V.int) -> sp [.ref a] H (fun v _ => v = .bl true) fun _ _ _ => False)
  (hCX : ∀ H e s', CX [] H s₁ (fun _ _ _ => False) e s' -> False) :
  codeAny (model P w) callerA (.call (.ref fa) ⟨[.ref a], []⟩) (fun r s' => r = .ok (.ret (.bool true)) /\ OldK s₁.heap s'.heap /\ s'.os = s₁.os /\ AllBare s'.gens) s₁ := by
 have rv := vE hi;have lenV := hi.length
 -- from an abstract heap in which nothing but the script may be tracked
 have core : ∀ H : Hp, yI H -> dH K H a (ns.map V.int) -> HOk P w H s₁.heap -> (∀ b, H b ≠ none -> b = a) -> (H a ≠ none -> K.lookup a = none) ->
   codeAny (model P w) callerA (.call (.ref fa) ⟨[.ref a], []⟩) (fun r s' => r = .ok (.ret (.bool true)) /\ OldK s₁.heap s'.heap /\ s'.os = s₁.os /\ AllBare s'.gens) s₁ := by
  intro H hO hS hok hA hK;have base_of : ∀ {b : Addr} {o : Obj}, s₁.heap.get? b = some o -> H b = none -> (kx s₁.heap H).get? b = some o := fun e n => yp e n
  have noA : ∀ {b : Addr} {o : Obj} {es : Array DictEntry} {ep : Nat}, s₁.heap.get? b = some o -> o.data = .dict es ep -> H b = none := fun {b o es ep} e d => by
   cases q : H b with
   | none => rfl
   | some u =>
    have e' : b = a := hA b (by rw [q]; simp);subst e';rw [ha] at e; cases e;have d' : Data.seq vs.toArray _ = Data.dict es ep := d;cases d'
  have nsK : ∀ {b : Addr} {m : Str -> Option Value}, s₁.heap.Ns b m -> (kx s₁.heap H).Ns b m := fun {b m} ⟨o, es, ep, e, d, r⟩ => ⟨o, es, ep, base_of e (noA e d), d, r⟩
  have hKb : K.In (kx s₁.heap H) := fun b o e => base_of (KX b o e) (by
   cases q : H b with
   | none => rfl
   | some u =>
    have e' : b = a := hA b (by rw [q]; simp);subst e';rw [hK (by rw [q]; simp)] at e; cases e)
  have hM : Mod K mg (kx s₁.heap H) := ⟨hKb, nsK hns, ⟨mb, nsK hb, hbb⟩, let ⟨mc, h1, h2⟩ := hlim; ⟨mc, nsK h1, h2⟩⟩;have e0 : vy P w K mg (kx s₁.heap H) callerA [] s₁ H := ⟨rfl, hM, fun b o e => z5 e, Nat.le_of_eq (wB _ _), trivial, fun b hb => absurd (show b ∈ ([] : List Addr) from hb) (by simp), hok, .of_eq hg⟩;refine codeAny_mono ((F _ hKb (nsK hns)).run callerA [] s₁ H ⟨[.ref a], []⟩ [.ref a] [.ref a] _ _ hr e0 (hbind s₁ (.ref a)) (.cons rfl .nil) (hsp H hO hS)) fun r s' h => ?_
  cases r with
  | error e => exact (hCX H e s' h).elim
  | ok fl =>
   cases fl with
   | next => exact False.elim h
   | brk => exact False.elim h
   | cont => exact False.elim h
   | ret u =>
    obtain ⟨v, H', os, bare, un, hok', r', q⟩ := h;have q' : v = .bl true := q;subst q';obtain rfl : u = Value.bool true := r';refine ⟨rfl, OldK.of_keep fun b o e => ?_, os, bare⟩;cases q : H b with
    | none => exact un.keep b o e q (by intro z; exact absurd (show b ∈ ([] : List Addr) from z) (by simp)) (by simp)
    | some u =>
     rcases hO b with z | ⟨ob, xs, z⟩
     ·rw [q] at z; cases z
     ·have z2 := un.frzs b ob _ z
      obtain ⟨e1, _⟩ := hok b _ z;obtain ⟨e2, _⟩ := hok' b _ z2;rw [e] at e1; cases e1;exact e2
 cases hk : K.lookup a with
 | some o =>
  -- the script is one of the module's own objects
  have e := KX a o hk;rw [ha] at e;cases e;refine core (fun _ => none) (fun _ => .inl rfl) (.inr ⟨_, vs.toArray, _, hk, rfl, rfl, rfl, by rw [List.size_toArray, lenV]; exact hl, by simpa using rv⟩) (fun b u z => by have z' : (none : Option HO) = some u := z; cases z') (fun b z => absurd rfl z) fun z => absurd rfl z
 | none =>
  refine core (fun b => if b = a then some (.frz { cls := .type "list", data := .seq vs.toArray } (.lst (ns.map V.int))) else none) (fun b => ?_) (.inl (.inr ⟨{ cls := .type "list", data := .seq vs.toArray }, if_pos rfl⟩)) (fun b u z => ?_) (fun b z => ?_) fun _ => hk
  ·by_cases hb : b = a
   ·exact .inr ⟨_, _, if_pos hb⟩
   ·exact .inl (if_neg hb)
  ·by_cases hb : b = a
   ·have z' := (if_pos hb).symm.trans z
    cases z';subst hb;exact ⟨ha, by rw [List.length_map]; exact hl, vs, _, rv, ha⟩
   ·have z' := (if_neg hb).symm.trans z
    cases z'
  ·by_cases hb : b = a
   ·exact hb
   ·exact absurd (if_neg hb) z
noncomputable abbrev Gb {K : PySem.W.Frag} {h : Heap} (_ : K.In h) : PySem.W.Frag := K
theorem walk_of {l : PySem.W.OpenLaw} {n k : Nat} {q : Program} {loose : List Str} {XP : (Str -> Option Value) -> Heap -> Prop} {YP : World -> Heap -> Prop} {d : DefRec} {K : Params -> PySem.W.Frag} {CX : World -> lW} {sp : World -> Sp} {x : Str}
  (hn : l.most = some n) (hn2 : n <= sizeLine) (hdf : d.params.defaults = []) (hr : Room k callerA)
  (hY : ∀ (w : World) (h : Heap), YP w h -> (K w.params).In h)
  (F : ∀ (w : World) (mg : Str -> Option Value) (fa : Addr) (h : Heap), (K w.params).In h -> h.Ns mainGlobals mg -> mg d.name = some (.ref fa) ->
   ∃ fd : FuncData, (∀ (s : Shared) (u : Value), BindsTo s fd ⟨[u], []⟩ [(x, u)]) /\
    ∀ base : Heap, (K w.params).In base -> base.Ns mainGlobals mg -> ck l.prog w (K w.params) mg base (CX w) k fa fd [x] (sp w))
  (hsp : ∀ (w : World) (H : Hp) (a : Addr) (ns : List Int), ns.length <= n -> yI H -> dH (K w.params) H a (ns.map V.int) -> sp w [.ref a] H (fun v _ => v = .bl true) fun _ _ _ => False)
  (hCX : ∀ (w : World) (H : Hp) (s : Shared) (e : Value) (s' : Shared), CX w [] H s (fun _ _ _ => False) e s' -> False) :
  PySem.W.WalkO q loose XP YP l.row.toRowW d [] (fun f vs => PySem.call f vs) := by
 refine Att.attach_call hn hdf fun w s₀ s₁ mg mb fa o pm cd doc a vs ns G Y ho hd hcd hmg hobj hints hlen hg => ?_
 have KX := hY w _ Y;obtain ⟨fd, hb, hF⟩ := F w mg fa _ KX G.T.g hmg;exact xY KX G.T.g G.T.b G.T.builtins G.T.nolimit hg hobj hints (Nat.le_trans hlen hn2) hr hF hb (fun H hO hS => hsp w H a ns hlen hO hS) fun H e s' => hCX w H s₁ e s'
noncomputable def j4 (s : Stmt) : Arguments := match s with
 | .FunctionDef _ a _ _ _ _ _ _ _ _ => a
 | _ => { posonlyargs := [], args := [], vararg := none, kwonlyargs := [], kw_defaults := [], kwarg := none, defaults := [] }
noncomputable def hG (s : Stmt) : List Stmt := match s with
 | .FunctionDef _ _ b _ _ _ _ _ _ _ => b
 | _ => []
noncomputable def aM (s : Stmt) : Scope := match s with
 | .FunctionDef _ _ _ _ _ _ sc _ _ _ => sc
 | _ => { kind := .function, names := [], isGenerator := false, isCoroutine := false }
noncomputable abbrev dc : lW := fun _ _ _ _ _ _ => False
noncomputable abbrev E0 : XK := fun _ _ _ => False
theorem yS {X : Cx} : sR dc X E0 := fun _ _ _ _ _ _ _ h => h.elim
structure Fun (K : PySem.W.Frag) (x qual : Str) (st : Stmt) (f : Addr) (fd : FuncData) : Prop where
 ex : ∃ (oc : Value) (od : Option Addr) (kV doc pm : Value) (an : Option Addr) (cdv ct : Value) (osl : Array (Option Value)),
  fd = fnOf x qual (j4 st) (hG st) (aM st) .none kV doc pm an cdv ct /\ K.lookup f = some ⟨oc, od, .func fd, osl⟩ /\ codeIn K cdv qual = true
 kp : keepIn K (.ref f) = true
section
variable {P : Program} {w : World} {K : PySem.W.Frag} {mg : Str -> Option Value} {base : Heap}
theorem Fun.ok {x qual : Str} {st : Stmt} {f : Addr} {fd : FuncData} {N ps : List Str} {k : Nat} {sp : Sp} (F : Fun K x qual st f fd) (S : bm N ps (aM st)) (len : ∀ vs H Q E, sp vs H Q E -> vs.length = ps.length)
  (hbody : ∀ (cdv : Value) (A : Around) (outer : List Env) (s : Shared) (H : Hp) (vs : List V) (Q : VK) (E : XK), Room k (A.deeper (envOfC qual (aM st) s.heap.objs.size f cdv)) -> sp vs H Q E ->
   ∃ t, PSs (nc dc P w K mg base N qual (aM st) f cdv A outer s H E).nox (hG st) t /\ t { nx := fun _ H' => Q .non H', rt := Q } (start N vs) H) : ck P w K mg base dc (k + 1) f fd ps sp := by
 obtain ⟨oc, od, kV, doc, pm, an, cdv, ct, osl, rfl, lk, hcd⟩ := F.ex;refine DV lk hcd S len fun A outer s H vs Q E hr hsp => ?_
 obtain ⟨t, h, q⟩ := hbody cdv A outer s H vs Q E hr hsp;exact ⟨t, h.nox, q⟩
theorem Fun.binds {x qual : Str} {st : Stmt} {f : Addr} {fd : FuncData} {ps : List Str} (F : Fun K x qual st f fd)
  (h : ∀ (kV doc pm : Value) (an : Option Addr) (cdv ct : Value) (us : List Value), us.length = ps.length -> bindArgs (fnOf x qual (j4 st) (hG st) (aM st) .none kV doc pm an cdv ct) ⟨us, []⟩ = pure (ps.zip us)) : Binds K fd ps [] := by
 obtain ⟨oc, od, kV, doc, pm, an, cdv, ct, osl, rfl, lk, hcd⟩ := F.ex;exact .all (h kV doc pm an cdv ct)
theorem bV {x qual : Str} {st : Stmt} {f : Addr} {oc : Value} {od an : Option Addr} {osl : Array (Option Value)} {kV doc pm cdv ct : Value} (l : K.lookup f = some ⟨oc, od, .func (fnOf x qual (j4 st) (hG st) (aM st) .none kV doc pm an cdv ct), osl⟩)
  (c : codeIn K cdv qual = true) (k : keepIn K (.ref f) = true) : Fun K x qual st f (fnOf x qual (j4 st) (hG st) (aM st) .none kV doc pm an cdv ct) := ⟨⟨oc, od, kV, doc, pm, an, cdv, ct, osl, rfl, l, c⟩, k⟩
end
theorem small1000 {n : Nat} (h : n <= 1000) : n < sizeLine := Nat.lt_of_le_of_lt h dC
section
variable {X : Cx}
end
end L2
set_option maxHeartbeats 4000000
namespace DD
open PySem L2
noncomputable def NT : HO -> Prop
 | .tup _ => False
 | _ => True
inductive D where
 | hole | cell | node (a : Addr) (vs : List V) | pin (a : Addr) (o : {o : HO // NT o})
 | non | bl (b : Bool) | int (i : Int) | str (x : Str) | ty (n : String) | cls (a : Addr)
 | lst (own : Bool) (xs : List D)
 | tup (xs : List D)
 | obj (own : Bool) (C : Addr) (ks : List Str) (xs : List D)
 | dct (own : Bool) (ks : List (List fI)) (xs : List D)
noncomputable def FL (K : PySem.W.Frag) (F : Addr -> Prop) (H : Hp) (a : Addr) (vs : List V) : Prop := (F a /\ Rd H a (.lst vs)) \/ ∀ H', dH K H' a vs
noncomputable def FT (K : PySem.W.Frag) (F : Addr -> Prop) (H : Hp) (a : Addr) (vs : List V) (L : List Addr) : Prop := (F a /\ H a = some (.tup vs)) \/ ((∀ H' : Hp, False) /\ L = [])
mutual
noncomputable def Ow (K : PySem.W.Frag) (F : Addr -> Prop) (H : Hp) : D -> V -> List Addr -> Prop
 | .hole, _, L => L = []
 | .cell, v, L => ∃ (a : Addr) (o : {o : HO // NT o}), v = .ref a /\ H a = some o.1 /\ L = [a]
 | .node a vs, v, L => v = .ref a /\ H a = some (.lst vs) /\ L = [a]
 | .pin a o, v, L => v = .ref a /\ H a = some o.1 /\ L = [a]
 | .non, v, L => v = .non /\ L = []
 | .bl b, v, L => v = .bl b /\ L = []
 | .int i, v, L => v = .int i /\ L = []
 | .str x, v, L => v = .str x /\ L = []
 | .ty x, v, L => v = .ty x /\ L = []
 | .cls x, v, L => v = .ref x /\ L = []
 | .lst true xs, v, L => ∃ a vs L', v = .ref a /\ H a = some (.lst vs) /\ OwL K F H xs vs L' /\ L = a :: L'
 | .lst false xs, v, L => ∃ a vs, v = .ref a /\ FL K F H a vs /\ OwL K F H xs vs [] /\ L = []
 | .tup xs, v, L => ∃ a vs, v = .ref a /\ FT K F H a vs L /\ OwL K F H xs vs L
 | .obj true C ks xs, v, L => ∃ a dx vs L', v = .ref a /\ H a = some (.ins C dx (ks.zip vs)) /\ ks.length = vs.length /\ OwL K F H xs vs L' /\ L = a :: L'
 | .obj false C ks xs, v, L => ∃ a dx vs, v = .ref a /\ H a = some (.ins C dx (ks.zip vs)) /\ F a /\ ks.length = vs.length /\ OwL K F H xs vs [] /\ L = []
 | .dct true ks xs, v, L => ∃ a vs L', v = .ref a /\ H a = some (.dT (ks.zip vs)) /\ ks.length = vs.length /\ OwL K F H xs vs L' /\ L = a :: L'
 | .dct false ks xs, v, L => ∃ a vs, v = .ref a /\ H a = some (.dT (ks.zip vs)) /\ F a /\ ks.length = vs.length /\ OwL K F H xs vs [] /\ L = []
noncomputable def OwL (K : PySem.W.Frag) (F : Addr -> Prop) (H : Hp) : List D -> List V -> List Addr -> Prop
 | [], vs, L => vs = [] /\ L = []
 | x :: xs, vs, L => ∃ v ws L1 L2, vs = v :: ws /\ Ow K F H x v L1 /\ OwL K F H xs ws L2 /\ L = L1 ++ L2
end
mutual
noncomputable def D.fz : D -> D
 | .lst _ xs => .lst false (D.fzL xs)
 | .tup xs => .tup (D.fzL xs)
 | .obj _ C ks xs => .obj false C ks (D.fzL xs)
 | .dct _ ks xs => .dct false ks (D.fzL xs)
 | .cell => .hole
 | .node _ _ => .hole
 | .pin _ _ => .hole
 | d => d
noncomputable def D.fzL : List D -> List D
 | [] => []
 | x :: xs => D.fz x :: D.fzL xs
end
section
variable {K : PySem.W.Frag} {F F' : Addr -> Prop} {H H' : Hp}
mutual
theorem Ow.dom : ∀ {d : D} {v : V} {L : List Addr}, Ow K F H d v L -> ∀ a ∈ L, ∃ o, H a = some o
 | .hole, _, _, h, a, ha => by simp only [Ow] at h; subst h; cases ha
 | .cell, _, _, h, a, ha => by simp only [Ow] at h; obtain ⟨b, o, rfl, e, rfl⟩ := h; rw [List.mem_singleton.mp ha]; exact ⟨o, e⟩
 | .node _ _, _, _, h, a, ha => by simp only [Ow] at h; obtain ⟨rfl, e, rfl⟩ := h; rw [List.mem_singleton.mp ha]; exact ⟨_, e⟩
 | .pin _ _, _, _, h, a, ha => by simp only [Ow] at h; obtain ⟨rfl, e, rfl⟩ := h; rw [List.mem_singleton.mp ha]; exact ⟨_, e⟩
 | .non, _, _, h, a, ha => by simp only [Ow] at h; rw [h.2] at ha; cases ha
 | .bl _, _, _, h, a, ha => by simp only [Ow] at h; rw [h.2] at ha; cases ha
 | .int _, _, _, h, a, ha => by simp only [Ow] at h; rw [h.2] at ha; cases ha
 | .str _, _, _, h, a, ha => by simp only [Ow] at h; rw [h.2] at ha; cases ha
 | .ty _, _, _, h, a, ha => by simp only [Ow] at h; rw [h.2] at ha; cases ha
 | .cls _, _, _, h, a, ha => by simp only [Ow] at h; rw [h.2] at ha; cases ha
 | .lst true xs, _, _, h, a, ha => by
  simp only [Ow] at h;obtain ⟨b, vs, L', rfl, e, r, rfl⟩ := h;rcases List.mem_cons.mp ha with rfl | ha
  ·exact ⟨_, e⟩
  ·exact OwL.dom r a ha
 | .lst false xs, _, _, h, a, ha => by simp only [Ow] at h; obtain ⟨_, _, _, _, _, rfl⟩ := h; cases ha
 | .tup xs, _, _, h, a, ha => by simp only [Ow] at h; obtain ⟨_, _, _, _, r⟩ := h; exact OwL.dom r a ha
 | .obj true C ks xs, _, _, h, a, ha => by
  simp only [Ow] at h;obtain ⟨b, dx, vs, L', rfl, e, _, r, rfl⟩ := h;rcases List.mem_cons.mp ha with rfl | ha
  ·exact ⟨_, e⟩
  ·exact OwL.dom r a ha
 | .obj false C ks xs, _, _, h, a, ha => by simp only [Ow] at h; obtain ⟨_, _, _, _, _, _, _, _, rfl⟩ := h; cases ha
 | .dct true ks xs, _, _, h, a, ha => by
  simp only [Ow] at h;obtain ⟨b, vs, L', rfl, e, _, r, rfl⟩ := h;rcases List.mem_cons.mp ha with rfl | ha
  ·exact ⟨_, e⟩
  ·exact OwL.dom r a ha
 | .dct false ks xs, _, _, h, a, ha => by simp only [Ow] at h; obtain ⟨_, _, _, _, _, _, _, rfl⟩ := h; cases ha
theorem OwL.dom : ∀ {xs : List D} {vs : List V} {L : List Addr}, OwL K F H xs vs L -> ∀ a ∈ L, ∃ o, H a = some o
 | [], _, _, h, a, ha => by simp only [OwL] at h; rw [h.2] at ha; cases ha
 | x :: xs, _, _, h, a, ha => by
  simp only [OwL] at h;obtain ⟨v, ws, L1, L2, rfl, h1, h2, rfl⟩ := h;rcases List.mem_append.mp ha with ha | ha
  ·exact Ow.dom h1 a ha
  ·exact OwL.dom h2 a ha
end
noncomputable def Ext (F : Addr -> Prop) (H : Hp) (F' : Addr -> Prop) (H' : Hp) : Prop := ∀ a, F a -> F' a /\ H' a = H a
theorem Ext.refl : Ext F H F H := fun _ h => ⟨h, rfl⟩
theorem Ext.trans {F'' : Addr -> Prop} {H'' : Hp} (a : Ext F H F' H') (b : Ext F' H' F'' H'') : Ext F H F'' H'' := fun x h =>
 ⟨(b x (a x h).1).1, ((b x (a x h).1).2).trans (a x h).2⟩
theorem Rd.eq {a : Addr} {u : HO} (h : Rd H a u) (e : H' a = H a) : Rd H' a u := by
 rcases h with h | ⟨o, h⟩
 ·exact .inl (e.trans h)
 ·exact .inr ⟨o, e.trans h⟩
theorem FL.ext {a : Addr} {vs : List V} (h : FL K F H a vs) (x : Ext F H F' H') : FL K F' H' a vs := by
 rcases h with ⟨f, r⟩ | h
 ·exact .inl ⟨(x a f).1, Rd.eq r (x a f).2⟩
 ·exact .inr h
theorem FT.ext {a : Addr} {vs : List V} {L : List Addr} (h : FT K F H a vs L) (x : Ext F H F' H') : FT K F' H' a vs L := by
 rcases h with ⟨f, r⟩ | h
 ·exact .inl ⟨(x a f).1, (x a f).2.trans r⟩
 ·exact .inr h
theorem FT.nil {a : Addr} {vs : List V} {L : List Addr} (h : FT K F H a vs L) : FT K F H a vs [] := by
 rcases h with h | h
 ·exact .inl h
 ·exact .inr ⟨h.1, rfl⟩
theorem FL.sq {a : Addr} {vs : List V} (h : FL K F H a vs) : dH K H a vs := by
 rcases h with ⟨_, r⟩ | h
 ·exact .inl r
 ·exact h H
theorem FT.sq {a : Addr} {vs : List V} {L : List Addr} (h : FT K F H a vs L) : sQ K H a vs := by
 rcases h with ⟨_, r⟩ | h
 ·exact .inl (.inl r)
 ·exact (h.1 H).elim
mutual
theorem Ow.mono (x : Ext F H F' H') : ∀ {d : D} {v : V} {L : List Addr}, Ow K F H d v L -> (∀ a ∈ L, H' a = H a) -> Ow K F' H' d v L
 | .hole, _, _, h, _ => by simp only [Ow] at h ⊢; exact h
 | .cell, _, _, h, k => by simp only [Ow] at h ⊢; obtain ⟨b, o, rfl, e, rfl⟩ := h; exact ⟨b, o, rfl, (k b (by simp)).trans e, rfl⟩
 | .node _ _, _, _, h, k => by simp only [Ow] at h ⊢; obtain ⟨rfl, e, rfl⟩ := h; exact ⟨rfl, (k _ (by simp)).trans e, rfl⟩
 | .pin _ _, _, _, h, k => by simp only [Ow] at h ⊢; obtain ⟨rfl, e, rfl⟩ := h; exact ⟨rfl, (k _ (by simp)).trans e, rfl⟩
 | .non, _, _, h, _ => by simp only [Ow] at h ⊢; exact h
 | .bl _, _, _, h, _ => by simp only [Ow] at h ⊢; exact h
 | .int _, _, _, h, _ => by simp only [Ow] at h ⊢; exact h
 | .str _, _, _, h, _ => by simp only [Ow] at h ⊢; exact h
 | .ty _, _, _, h, _ => by simp only [Ow] at h ⊢; exact h
 | .cls _, _, _, h, _ => by simp only [Ow] at h ⊢; exact h
 | .lst true xs, _, _, h, k => by
  simp only [Ow] at h ⊢;obtain ⟨b, vs, L', rfl, e, r, rfl⟩ := h;exact ⟨b, vs, L', rfl, (k b (by simp)).trans e, OwL.mono x r fun a ha => k a (by simp [ha]), rfl⟩
 | .lst false xs, _, _, h, k => by
  simp only [Ow] at h ⊢;obtain ⟨b, vs, rfl, e, r, rfl⟩ := h;exact ⟨b, vs, rfl, e.ext x, OwL.mono x r (fun a ha => by cases ha), rfl⟩
 | .tup xs, _, _, h, k => by
  simp only [Ow] at h ⊢;obtain ⟨b, vs, rfl, e, r⟩ := h;exact ⟨b, vs, rfl, e.ext x, OwL.mono x r k⟩
 | .obj true C ks xs, _, _, h, k => by
  simp only [Ow] at h ⊢;obtain ⟨b, dx, vs, L', rfl, e, el, r, rfl⟩ := h;exact ⟨b, dx, vs, L', rfl, (k b (by simp)).trans e, el, OwL.mono x r fun a ha => k a (by simp [ha]), rfl⟩
 | .obj false C ks xs, _, _, h, k => by
  simp only [Ow] at h ⊢;obtain ⟨b, dx, vs, rfl, e, f, el, r, rfl⟩ := h;exact ⟨b, dx, vs, rfl, (x b f).2.trans e, (x b f).1, el, OwL.mono x r (fun a ha => by cases ha), rfl⟩
 | .dct true ks xs, _, _, h, k => by
  simp only [Ow] at h ⊢;obtain ⟨b, vs, L', rfl, e, el, r, rfl⟩ := h;exact ⟨b, vs, L', rfl, (k b (by simp)).trans e, el, OwL.mono x r fun a ha => k a (by simp [ha]), rfl⟩
 | .dct false ks xs, _, _, h, k => by
  simp only [Ow] at h ⊢;obtain ⟨b, vs, rfl, e, f, el, r, rfl⟩ := h;exact ⟨b, vs, rfl, (x b f).2.trans e, (x b f).1, el, OwL.mono x r (fun a ha => by cases ha), rfl⟩
theorem OwL.mono (x : Ext F H F' H') : ∀ {xs : List D} {vs : List V} {L : List Addr}, OwL K F H xs vs L -> (∀ a ∈ L, H' a = H a) -> OwL K F' H' xs vs L
 | [], _, _, h, _ => by simp only [OwL] at h ⊢; exact h
 | y :: xs, _, _, h, k => by
  simp only [OwL] at h ⊢;obtain ⟨v, ws, L1, L2, rfl, h1, h2, rfl⟩ := h;exact ⟨v, ws, L1, L2, rfl, Ow.mono x h1 fun a ha => k a (by simp [ha]), OwL.mono x h2 fun a ha => k a (by simp [ha]), rfl⟩
end
mutual
theorem Ow.fz (fs : ∀ a, F a -> F' a) : ∀ {d : D} {v : V} {L : List Addr}, Ow K F H d v L -> (∀ a ∈ L, F' a) -> Ow K F' H d.fz v []
 | .hole, _, _, h, _ => by simp only [Ow, D.fz] at h ⊢
 | .cell, _, _, h, k => by simp only [Ow, D.fz] at h ⊢
 | .node _ _, _, _, h, k => by simp only [Ow, D.fz] at h ⊢
 | .pin _ _, _, _, h, k => by simp only [Ow, D.fz] at h ⊢
 | .non, _, _, h, _ => by simp only [Ow, D.fz] at h ⊢; exact ⟨h.1, trivial⟩
 | .bl _, _, _, h, _ => by simp only [Ow, D.fz] at h ⊢; exact ⟨h.1, trivial⟩
 | .int _, _, _, h, _ => by simp only [Ow, D.fz] at h ⊢; exact ⟨h.1, trivial⟩
 | .str _, _, _, h, _ => by simp only [Ow, D.fz] at h ⊢; exact ⟨h.1, trivial⟩
 | .ty _, _, _, h, _ => by simp only [Ow, D.fz] at h ⊢; exact ⟨h.1, trivial⟩
 | .cls _, _, _, h, _ => by simp only [Ow, D.fz] at h ⊢; exact ⟨h.1, trivial⟩
 | .lst true xs, _, _, h, k => by
  simp only [Ow, D.fz] at h ⊢;obtain ⟨b, vs, L', rfl, e, r, rfl⟩ := h;exact ⟨b, vs, rfl, .inl ⟨k b (by simp), .inl e⟩, OwL.fz fs r fun a ha => k a (by simp [ha]), trivial⟩
 | .lst false xs, _, _, h, k => by
  simp only [Ow, D.fz] at h ⊢;obtain ⟨b, vs, rfl, e, r, rfl⟩ := h;exact ⟨b, vs, rfl, e.ext (fun a f => ⟨fs a f, rfl⟩), OwL.fz fs r (fun a ha => by cases ha), trivial⟩
 | .tup xs, _, _, h, k => by
  simp only [Ow, D.fz] at h ⊢;obtain ⟨b, vs, rfl, e, r⟩ := h;exact ⟨b, vs, rfl, (e.ext (fun a f => ⟨fs a f, rfl⟩)).nil, OwL.fz fs r k⟩
 | .obj true C ks xs, _, _, h, k => by
  simp only [Ow, D.fz] at h ⊢;obtain ⟨b, dx, vs, L', rfl, e, el, r, rfl⟩ := h;exact ⟨b, dx, vs, rfl, e, k b (by simp), el, OwL.fz fs r fun a ha => k a (by simp [ha]), trivial⟩
 | .obj false C ks xs, _, _, h, k => by
  simp only [Ow, D.fz] at h ⊢;obtain ⟨b, dx, vs, rfl, e, f, el, r, rfl⟩ := h;exact ⟨b, dx, vs, rfl, e, fs b f, el, OwL.fz fs r (fun a ha => by cases ha), trivial⟩
 | .dct true ks xs, _, _, h, k => by
  simp only [Ow, D.fz] at h ⊢;obtain ⟨b, vs, L', rfl, e, el, r, rfl⟩ := h;exact ⟨b, vs, rfl, e, k b (by simp), el, OwL.fz fs r fun a ha => k a (by simp [ha]), trivial⟩
 | .dct false ks xs, _, _, h, k => by
  simp only [Ow, D.fz] at h ⊢;obtain ⟨b, vs, rfl, e, f, el, r, rfl⟩ := h;exact ⟨b, vs, rfl, e, fs b f, el, OwL.fz fs r (fun a ha => by cases ha), trivial⟩
theorem OwL.fz (fs : ∀ a, F a -> F' a) : ∀ {xs : List D} {vs : List V} {L : List Addr}, OwL K F H xs vs L -> (∀ a ∈ L, F' a) -> OwL K F' H (D.fzL xs) vs []
 | [], _, _, h, _ => by simp only [OwL, D.fzL] at h ⊢; exact ⟨h.1, trivial⟩
 | y :: xs, _, _, h, k => by
  simp only [OwL, D.fzL] at h ⊢;obtain ⟨v, ws, L1, L2, rfl, h1, h2, rfl⟩ := h;exact ⟨v, ws, [], [], rfl, Ow.fz fs h1 fun a ha => k a (by simp [ha]), OwL.fz fs h2 fun a ha => k a (by simp [ha]), rfl⟩
end
noncomputable abbrev Ro := List (D × V)
noncomputable def OwP (K : PySem.W.Frag) (F : Addr -> Prop) (H : Hp) : Ro -> List Addr -> Prop
 | [], L => L = []
 | (d, v) :: R, L => ∃ L1 L2, Ow K F H d v L1 /\ OwP K F H R L2 /\ L = L1 ++ L2
theorem OwP.dom : ∀ {R : Ro} {L : List Addr}, OwP K F H R L -> ∀ a ∈ L, ∃ o, H a = some o
 | [], _, h, a, ha => by cases h; cases ha
 | (d, v) :: R, _, ⟨L1, L2, h1, h2, e⟩, a, ha => by
  subst e;rcases List.mem_append.mp ha with ha | ha
  ·exact h1.dom a ha
  ·exact OwP.dom h2 a ha
theorem OwP.mono (x : Ext F H F' H') : ∀ {R : Ro} {L : List Addr}, OwP K F H R L -> (∀ a ∈ L, H' a = H a) -> OwP K F' H' R L
 | [], _, h, _ => h
 | (d, v) :: R, _, ⟨L1, L2, h1, h2, e⟩, k => ⟨L1, L2, h1.mono x fun a ha => k a (by simp [e, ha]), OwP.mono x h2 fun a ha => k a (by simp [e, ha]), e⟩
theorem OwP.append : ∀ {R S : Ro} {L M : List Addr}, OwP K F H R L -> OwP K F H S M -> OwP K F H (R ++ S) (L ++ M)
 | [], _, _, _, h, k => by cases h; exact k
 | (d, v) :: R, _, _, _, ⟨L1, L2, h1, h2, e⟩, k => ⟨L1, L2 ++ _, h1, OwP.append h2 k, by rw [e, List.append_assoc]⟩
theorem OwP.split : ∀ {R S : Ro} {N : List Addr}, OwP K F H (R ++ S) N -> ∃ L M, N = L ++ M /\ OwP K F H R L /\ OwP K F H S M
 | [], _, N, h => ⟨[], N, rfl, rfl, h⟩
 | (d, v) :: R, _, _, ⟨L1, L2, h1, h2, e⟩ => by
  obtain ⟨L, M, e2, a, b⟩ := OwP.split h2;exact ⟨L1 ++ L, M, by rw [e, e2, List.append_assoc], ⟨L1, L, h1, a, rfl⟩, b⟩
theorem OwP.perm {R S : Ro} (p : R.Perm S) : ∀ {L : List Addr}, OwP K F H R L -> ∃ M, L.Perm M /\ OwP K F H S M := by
 induction p with
 | nil => intro L h; exact ⟨L, .refl _, h⟩
 | cons x _ ih =>
  rintro L ⟨L1, L2, h1, h2, e⟩;obtain ⟨M, pm, h3⟩ := ih h2;subst e;exact ⟨L1 ++ M, pm.append_left L1, L1, M, h1, h3, rfl⟩
 | swap x y l =>
  rintro L ⟨L1, L2, h1, ⟨L3, L4, h3, h4, e2⟩, e⟩;subst e; subst e2;refine ⟨L3 ++ (L1 ++ L4), ?_, L3, L1 ++ L4, h3, ⟨L1, L4, h1, h4, rfl⟩, rfl⟩;rw [<- List.append_assoc, <- List.append_assoc];exact List.perm_append_comm.append_right L4
 | trans _ _ ih1 ih2 =>
  intro L h;obtain ⟨M, p1, h1⟩ := ih1 h;obtain ⟨N, p2, h2⟩ := ih2 h1;exact ⟨N, p1.trans p2, h2⟩
theorem OwL.toP : ∀ {xs : List D} {vs : List V} {L : List Addr}, OwL K F H xs vs L -> xs.length = vs.length /\ OwP K F H (xs.zip vs) L
 | [], _, _, h => by simp only [OwL] at h; obtain ⟨rfl, rfl⟩ := h; exact ⟨rfl, rfl⟩
 | x :: xs, _, _, h => by
  simp only [OwL] at h;obtain ⟨v, ws, L1, L2, rfl, h1, h2, rfl⟩ := h;have r := h2.toP;exact ⟨by simp [r.1], L1, L2, h1, r.2, rfl⟩
theorem OwL.ofP : ∀ {xs : List D} {vs : List V} {L : List Addr}, xs.length = vs.length -> OwP K F H (xs.zip vs) L -> OwL K F H xs vs L
 | [], [], _, _, h => by simp only [OwL]; exact ⟨trivial, h⟩
 | x :: xs, v :: vs, _, e, h => by
  obtain ⟨L1, L2, h1, h2, e2⟩ := h;simp only [OwL];exact ⟨v, vs, L1, L2, rfl, h1, OwL.ofP (by simpa using e) h2, e2⟩
structure G (K : PySem.W.Frag) (F : Addr -> Prop) (H : Hp) (R : Ro) : Prop where
 own : ∃ L, OwP K F H R L /\ L.Nodup /\ ∀ a ∈ L, ¬ F a
 dom : ∀ a, F a -> ∃ o, H a = some o
variable {R S : Ro} {d : D} {v : V}
theorem G.perm (g : G K F H R) (p : R.Perm S) : G K F H S := by
 obtain ⟨L, h, n, f⟩ := g.own;obtain ⟨M, pm, h'⟩ := h.perm p;exact ⟨⟨M, h', pm.nodup_iff.mp n, fun a ha => f a (pm.mem_iff.mpr ha)⟩, g.dom⟩
theorem G.pop (g : G K F H ((d, v) :: R)) : G K F H R := by
 obtain ⟨L, ⟨L1, L2, h1, h2, rfl⟩, n, f⟩ := g.own;exact ⟨⟨L2, h2, (List.nodup_append.mp n).2.1, fun a ha => f a (by simp [ha])⟩, g.dom⟩
theorem G.popN (g : G K F H (S ++ R)) : G K F H R := by
 induction S with
 | nil => exact g
 | cons x S ih => exact ih (G.pop (d := x.1) (v := x.2) g)
noncomputable def Bor (K : PySem.W.Frag) (F : Addr -> Prop) (H : Hp) (d : D) (v : V) : Prop := ∃ L, Ow K F H d v L
theorem G.bor (g : G K F H R) (h : (d, v) ∈ R) : Bor K F H d v := by
 obtain ⟨A, B, rfl⟩ := List.append_of_mem h;obtain ⟨L, ⟨L1, L2, h1, h2, rfl⟩, n, f⟩ := (g.popN).own;exact ⟨L1, h1⟩
theorem G.push (g : G K F H R) (h : Ow K F H d v []) : G K F H ((d, v) :: R) := by
 obtain ⟨L, h1, n, f⟩ := g.own;exact ⟨⟨L, ⟨[], L, h, h1, rfl⟩, n, f⟩, g.dom⟩
theorem G.alloc {p : Addr} {o : HO} (g : G K F H R) (hp : H p = none) (hn : autoParam (NT o) zk._auto_1) : G K F (aO H p o) ((.cell, .ref p) :: R) /\ Ext F H F (aO H p o) := by
 obtain ⟨L, h1, n, f⟩ := g.own;have nF : ∀ a, F a -> a ≠ p := fun a fa e => by obtain ⟨o, h⟩ := g.dom a fa; rw [e, hp] at h; cases h
 have nL : ∀ a ∈ L, a ≠ p := fun a ha e => by obtain ⟨o, h⟩ := h1.dom a ha; rw [e, hp] at h; cases h
 have x : Ext F H F (aO H p o) := fun a fa => ⟨fa, aJ (nF a fa)⟩
 refine ⟨⟨⟨p :: L, ⟨[p], L, ?_, h1.mono x fun a ha => aJ (nL a ha), rfl⟩, List.nodup_cons.mpr ⟨fun h => nL p h rfl, n⟩, fun a ha fa => ?_⟩, fun a fa => ?_⟩, x⟩
 ·simp only [Ow]; exact ⟨p, ⟨o, hn⟩, rfl, bX, rfl⟩
 ·rcases List.mem_cons.mp ha with rfl | ha
  ·exact nF _ fa rfl
  ·exact f a ha fa
 ·rw [aJ (nF a fa)]; exact g.dom a fa
theorem G.write {a : Addr} {o : HO} (g : G K F H ((.cell, .ref a) :: R)) (hn : autoParam (NT o) zk._auto_1) : G K F (aO H a o) ((.cell, .ref a) :: R) /\ Ext F H F (aO H a o) := by
 obtain ⟨L, ⟨L1, L2, h1, h2, rfl⟩, n, f⟩ := g.own;simp only [Ow] at h1;obtain ⟨b, ob, e, hb, rfl⟩ := h1;cases e;have nF : ∀ c, F c -> c ≠ a := fun c fc e => f a (by simp) (e ▸ fc)
 have nL : ∀ c ∈ L2, c ≠ a := fun c hc e => (List.nodup_cons.mp n).1 (e ▸ hc)
 have x : Ext F H F (aO H a o) := fun c fc => ⟨fc, aJ (nF c fc)⟩
 refine ⟨⟨⟨[a] ++ L2, ⟨[a], L2, ?_, h2.mono x fun c hc => aJ (nL c hc), rfl⟩, n, f⟩, fun c fc => ?_⟩, x⟩
 ·simp only [Ow]; exact ⟨a, ⟨o, hn⟩, rfl, bX, rfl⟩
 ·rw [aJ (nF c fc)]; exact g.dom c fc
theorem G.openL {xs : List D} (g : G K F H ((.lst true xs, v) :: R)) : ∃ a vs, v = .ref a /\ H a = some (.lst vs) /\ xs.length = vs.length /\ G K F H ((.cell, .ref a) :: (xs.zip vs ++ R)) := by
 obtain ⟨L, ⟨L1, L2, h1, h2, rfl⟩, n, f⟩ := g.own;simp only [Ow] at h1;obtain ⟨a, vs, L', rfl, e, r, rfl⟩ := h1;refine ⟨a, vs, rfl, e, r.toP.1, ⟨a :: L' ++ L2, ⟨[a], L' ++ L2, ?_, r.toP.2.append h2, rfl⟩, n, f⟩, g.dom⟩;simp only [Ow]; exact ⟨a, ⟨.lst vs, trivial⟩, rfl, e, rfl⟩
theorem G.formL {xs : List D} {vs : List V} {a : Addr} (g : G K F H ((.cell, .ref a) :: (xs.zip vs ++ R))) (hl : xs.length = vs.length) (e : H a = some (.lst vs)) : G K F H ((.lst true xs, .ref a) :: R) := by
 obtain ⟨L, ⟨L1, L2, h1, h2, rfl⟩, n, f⟩ := g.own;simp only [Ow] at h1;obtain ⟨b, ob, e', hb, rfl⟩ := h1;cases e';obtain ⟨M, N, rfl, hm, hn⟩ := h2.split;refine ⟨⟨(a :: M) ++ N, ⟨a :: M, N, ?_, hn, rfl⟩, by simpa using n, fun c hc => f c (by simpa using hc)⟩, g.dom⟩;simp only [Ow];exact ⟨a, vs, M, rfl, e, OwL.ofP hl hm, rfl⟩
theorem G.openN {xs : List D} (g : G K F H ((.lst true xs, v) :: R)) : ∃ a vs, v = .ref a /\ H a = some (.lst vs) /\ xs.length = vs.length /\ G K F H ((.node a vs, .ref a) :: (xs.zip vs ++ R)) := by
 obtain ⟨L, ⟨L1, L2, h1, h2, rfl⟩, n, f⟩ := g.own;simp only [Ow] at h1;obtain ⟨a, vs, L', rfl, e, r, rfl⟩ := h1;refine ⟨a, vs, rfl, e, r.toP.1, ⟨a :: L' ++ L2, ⟨[a], L' ++ L2, ?_, r.toP.2.append h2, rfl⟩, n, f⟩, g.dom⟩;simp only [Ow]; exact ⟨trivial, e, trivial⟩
theorem G.formN {xs : List D} {vs : List V} {a : Addr} (g : G K F H ((.node a vs, .ref a) :: (xs.zip vs ++ R))) (hl : xs.length = vs.length) : H a = some (.lst vs) /\ G K F H ((.lst true xs, .ref a) :: R) := by
 obtain ⟨L, ⟨L1, L2, h1, h2, rfl⟩, n, f⟩ := g.own;simp only [Ow] at h1;obtain ⟨_, e, rfl⟩ := h1;obtain ⟨M, N, rfl, hm, hn⟩ := h2.split;refine ⟨e, ⟨⟨(a :: M) ++ N, ⟨a :: M, N, ?_, hn, rfl⟩, by simpa using n, fun c hc => f c (by simpa using hc)⟩, g.dom⟩⟩;simp only [Ow];exact ⟨a, vs, M, rfl, e, OwL.ofP hl hm, rfl⟩
theorem G.openT {xs : List D} (g : G K F H ((.tup xs, v) :: R)) : ∃ a vs, v = .ref a /\ FT K F H a vs [] /\ xs.length = vs.length /\ G K F H (xs.zip vs ++ R) := by
 obtain ⟨L, ⟨L1, L2, h1, h2, rfl⟩, n, f⟩ := g.own;simp only [Ow] at h1;obtain ⟨a, vs, rfl, e, r⟩ := h1;exact ⟨a, vs, rfl, e.nil, r.toP.1, ⟨L1 ++ L2, r.toP.2.append h2, n, f⟩, g.dom⟩
theorem G.formT {xs : List D} {vs : List V} {a : Addr} (g : G K F H (xs.zip vs ++ R)) (hl : xs.length = vs.length) (e : F a /\ H a = some (.tup vs)) : G K F H ((.tup xs, .ref a) :: R) := by
 obtain ⟨L, h, n, f⟩ := g.own;obtain ⟨M, N, rfl, hm, hn⟩ := h.split;refine ⟨⟨M ++ N, ⟨M, N, ?_, hn, rfl⟩, n, f⟩, g.dom⟩;simp only [Ow];exact ⟨a, vs, rfl, .inl e, OwL.ofP hl hm⟩
theorem G.freeze (g : G K F H ((d, v) :: R)) : ∃ F', Ext F H F' H /\ G K F' H ((d.fz, v) :: R) /\ Ow K F' H d.fz v [] := by
 obtain ⟨L, ⟨L1, L2, h1, h2, rfl⟩, n, f⟩ := g.own;have x : Ext F H (fun a => F a \/ a ∈ L1) H := fun a h => ⟨.inl h, rfl⟩
 have z : Ow K (fun a => F a \/ a ∈ L1) H d.fz v [] := h1.fz (fun a h => .inl h) fun a h => .inr h
 refine ⟨fun a => F a \/ a ∈ L1, x, ⟨⟨L2, ⟨[], L2, z, h2.mono x fun _ _ => rfl, rfl⟩, (List.nodup_append.mp n).2.1, fun a ha fa => ?_⟩, fun a fa => ?_⟩, z⟩
 ·rcases fa with fa | fa
  ·exact f a (by simp [ha]) fa
  ·exact (List.nodup_append.mp n).2.2 a fa a ha rfl
 ·rcases fa with fa | fa
  ·exact g.dom a fa
  ·exact h1.dom a fa
theorem G.layT {xs : List D} {vs : List V} {p : Addr} (g : G K F H (xs.zip vs ++ R)) (hl : xs.length = vs.length) (hp : H p = none) :
  ∃ F', Ext F H F' (aO H p (.tup vs)) /\ G K F' (aO H p (.tup vs)) ((.tup xs, .ref p) :: R) := by
 obtain ⟨L, h1, n, f⟩ := g.own;have nF : ∀ a, F a -> a ≠ p := fun a fa e => by obtain ⟨o, h⟩ := g.dom a fa; rw [e, hp] at h; cases h
 have nL : ∀ a ∈ L, a ≠ p := fun a ha e => by obtain ⟨o, h⟩ := h1.dom a ha; rw [e, hp] at h; cases h
 have x : Ext F H (fun a => F a \/ a = p) (aO H p (.tup vs)) := fun a fa => ⟨.inl fa, aJ (nF a fa)⟩
 refine ⟨_, x, G.formT (a := p) ⟨⟨L, h1.mono x fun a ha => aJ (nL a ha), n, fun a ha fa => ?_⟩, fun a fa => ?_⟩ hl ⟨.inr rfl, bX⟩⟩
 ·rcases fa with fa | fa
  ·exact f a ha fa
  ·exact nL a ha fa
 ·rcases fa with fa | fa
  ·rw [aJ (nF a fa)]; exact g.dom a fa
  ·subst fa; exact ⟨_, bX⟩
theorem G.ext (g : G K F H R) (x : Ext F H F' H') (k : ∀ a o, H a = some o -> H' a = some o) (fr : ∀ a, F' a -> F a \/ H a = none) (dm : ∀ a, F' a -> ∃ o, H' a = some o) : G K F' H' R := by
 obtain ⟨L, h, n, f⟩ := g.own;refine ⟨⟨L, h.mono x fun a ha => ?_, n, fun a ha fa => ?_⟩, dm⟩
 ·obtain ⟨o, e⟩ := h.dom a ha
  rw [e, k a o e]
 ·obtain ⟨o, e⟩ := h.dom a ha
  rcases fr a fa with z | z
  ·exact f a ha z
  ·rw [e] at z; cases z
end
section
variable {K : PySem.W.Frag} {F F' : Addr -> Prop} {H H' : Hp}
noncomputable abbrev aF := List (Option D)
noncomputable def sl : aF -> St -> Ro
 | some d :: σD, some v :: σ => (d, v) :: sl σD σ
 | some _ :: σD, none :: σ => sl σD σ
 | none :: σD, _ :: σ => sl σD σ
 | _, _ => []
noncomputable def Mt : aF -> St -> Prop
 | [], [] => True
 | none :: σD, _ :: σ => Mt σD σ
 | some _ :: σD, some _ :: σ => Mt σD σ
 | _, _ => False
theorem Mt.length : ∀ {σD : aF} {σ : St}, Mt σD σ -> σD.length = σ.length
 | [], [], _ => rfl
 | none :: σD, _ :: σ, h => by simp [Mt.length (σD := σD) (σ := σ) h]
 | some _ :: σD, some _ :: σ, h => by simp [Mt.length (σD := σD) (σ := σ) h]
theorem Mt.get : ∀ {σD : aF} {σ : St} {i : Nat} {d : D}, Mt σD σ -> σD[i]? = some (some d) -> ∃ v, σ[i]? = some (some v) := by
 intro σD
 induction σD with
 | nil => intro σ i d h e; simp at e
 | cons x σD ih =>
  intro σ i d h e;cases σ with
  | nil => cases x <;> exact h.elim
  | cons o σ =>
   cases i with
   | zero =>
    simp at e; subst e;cases o with
    | none => exact h.elim
    | some z => exact ⟨z, rfl⟩
   | succ i =>
    have e' : σD[i]? = some (some d) := by simpa using e
    cases x with
    | none => simpa using ih (σ := σ) h e'
    | some y => cases o with
     | none => exact h.elim
     | some z => simpa using ih (σ := σ) h e'
theorem Mt.clear : ∀ {σD : aF} {σ : St} (i : Nat), Mt σD σ -> Mt (σD.set i none) σ := by
 intro σD
 induction σD with
 | nil =>
  intro σ i h;exact h
 | cons x σD ih =>
  intro σ i h;cases σ with
  | nil => cases x <;> exact h.elim
  | cons o σ =>
   have h' : Mt σD σ := by
    cases x with
    | none => exact h
    | some y => cases o with
     | none => exact h.elim
     | some z => exact h
   cases i with
   | zero => exact h'
   | succ i =>
    have := ih i h'
    cases x with
    | none => exact this
    | some y => cases o with
     | none => exact h.elim
     | some z => exact this
theorem Mt.put : ∀ {σD : aF} {σ : St} {i : Nat} {v : V} (d : D), Mt σD σ -> σ[i]? = some (some v) -> Mt (σD.set i (some d)) σ := by
 intro σD
 induction σD with
 | nil =>
  intro σ i v d h e;cases σ with
  | nil => simp at e
  | cons o σ => exact h.elim
 | cons x σD ih =>
  intro σ i v d h e;cases σ with
  | nil => cases x <;> exact h.elim
  | cons o σ =>
   cases i with
   | zero =>
    simp at e; subst e;cases x <;> exact h
   | succ i =>
    have e' : σ[i]? = some (some v) := by simpa using e
    cases x with
    | none => exact ih (σ := σ) d h e'
    | some y => cases o with
     | none => exact h.elim
     | some z => exact ih (σ := σ) d h e'
theorem Mt.store : ∀ {σD : aF} {σ : St} (i : Nat) (v : V) (d : D), Mt σD σ -> Mt (σD.set i (some d)) (σ.set i (some v)) := by
 intro σD
 induction σD with
 | nil =>
  intro σ i v d h;cases σ with
  | nil => exact h
  | cons o σ => exact h.elim
 | cons x σD ih =>
  intro σ i v d h;cases σ with
  | nil => cases x <;> exact h.elim
  | cons o σ =>
   have h' : Mt σD σ := by
    cases x with
    | none => exact h
    | some y => cases o with
     | none => exact h.elim
     | some z => exact h
   cases i with
   | zero => exact h'
   | succ i =>
    have := ih i v d h'
    cases x with
    | none => exact this
    | some y => cases o with
     | none => exact h.elim
     | some z => exact this
theorem lZ : ∀ {σD : aF} {σ : St} {i : Nat} {d : D} {v : V}, σD[i]? = some (some d) -> σ[i]? = some (some v) -> (sl σD σ).Perm ((d, v) :: sl (σD.set i none) σ) := by
 intro σD
 induction σD with
 | nil => intro σ i d v e; simp at e
 | cons x σD ih =>
  intro σ i d v e e';cases σ with
  | nil => simp at e'
  | cons o σ =>
   cases i with
   | zero =>
    simp at e e'; subst e; subst e';exact .refl _
   | succ i =>
    have q := ih (σ := σ) (i := i) (d := d) (v := v) (by simpa using e) (by simpa using e');cases x with
    | none => exact q
    | some y => cases o with
     | none => exact q
     | some z => exact (q.cons _).trans (.swap _ _ _)
theorem ma : ∀ {σD : aF} {σ : St} {i : Nat}, σD[i]? = some none -> sl (σD.set i none) σ = sl σD σ
 | [], _, _, e => by simp at e
 | none :: σD, [], 0, _ => rfl
 | none :: σD, o :: σ, 0, _ => rfl
 | some _ :: σD, _, 0, e => by simp at e
 | x :: σD, [], i + 1, e => by cases x <;> rfl
 | none :: σD, _ :: σ, i + 1, e => ma (σD := σD) (σ := σ) (i := i) (by simpa using e)
 | some x :: σD, none :: σ, i + 1, e => ma (σD := σD) (σ := σ) (i := i) (by simpa using e)
 | some x :: σD, some y :: σ, i + 1, e => by
  show (x, y) :: sl (σD.set i none) σ = (x, y) :: sl σD σ;rw [ma (σD := σD) (σ := σ) (i := i) (by simpa using e)]
theorem vN : ∀ {σD : aF} {σ : St} {i : Nat} {v : V} (d : D), i < σD.length -> σ[i]? = some (some v) -> (sl (σD.set i (some d)) σ).Perm ((d, v) :: sl (σD.set i none) σ) := fun {σD σ i v} d h e => by
 have h1 := lZ (σD := σD.set i (some d)) (σ := σ) (i := i) (d := d) (v := v) (by simp [h]) e;rw [List.set_set] at h1;exact h1
theorem kn : ∀ {σD : aF} {σ : St} {i : Nat} {v : V}, sl (σD.set i none) (σ.set i (some v)) = sl (σD.set i none) σ
 | [], _, _, _ => by simp [sl]
 | x :: σD, [], i, _ => by simp
 | x :: σD, o :: σ, 0, _ => by cases o <;> rfl
 | none :: σD, o :: σ, i + 1, _ => kn (σD := σD) (σ := σ) (i := i)
 | some x :: σD, none :: σ, i + 1, _ => kn (σD := σD) (σ := σ) (i := i)
 | some x :: σD, some y :: σ, i + 1, _ => by
  show (x, y) :: sl (σD.set i none) (σ.set i _) = (x, y) :: sl (σD.set i none) σ;rw [kn (σD := σD) (σ := σ) (i := i)]
theorem G.clear {σD : aF} {σ : St} {R : Ro} (i : Nat) (m : Mt σD σ) (g : G K F H (sl σD σ ++ R)) : G K F H (sl (σD.set i none) σ ++ R) := by
 rcases h : σD[i]? with _ | _ | d
 ·rw [List.set_eq_of_length_le (List.getElem?_eq_none_iff.mp h)]; exact g
 ·rw [ma h]; exact g
 ·obtain ⟨v, hv⟩ := m.get h
  exact G.pop (d := d) (v := v) (g.perm ((lZ h hv).append_right R))
structure Rel (K : PySem.W.Frag) (F : Addr -> Prop) (H : Hp) (σD : aF) (σ : St) (R : Ro) : Prop where
 mt : Mt σD σ
 g : G K F H (sl σD σ ++ R)
variable {σD : aF} {σ : St} {R S : Ro} {d : D} {v : V} {i : Nat}
theorem Rel.perm (r : Rel K F H σD σ R) (p : R.Perm S) : Rel K F H σD σ S := ⟨r.mt, r.g.perm (p.append_left _)⟩
theorem Rel.front (r : Rel K F H σD σ R) : G K F H (R ++ sl σD σ) := r.g.perm List.perm_append_comm
theorem Rel.of (m : Mt σD σ) (g : G K F H (R ++ sl σD σ)) : Rel K F H σD σ R := ⟨m, g.perm List.perm_append_comm⟩
theorem Rel.get (r : Rel K F H σD σ R) (e : σD[i]? = some (some d)) : ∃ v, σ[i]? = some (some v) /\ Bor K F H d v := by
 obtain ⟨v, hv⟩ := r.mt.get e;exact ⟨v, hv, r.g.bor (List.mem_append_left _ ((lZ e hv).mem_iff.mpr (by simp)))⟩
theorem Rel.take (r : Rel K F H σD σ R) (e : σD[i]? = some (some d)) : ∃ v, σ[i]? = some (some v) /\ Rel K F H (σD.set i none) σ ((d, v) :: R) := by
 obtain ⟨v, hv⟩ := r.mt.get e;refine ⟨v, hv, r.mt.clear i, r.g.perm ?_⟩;exact ((lZ e hv).append_right R).trans List.perm_middle.symm
theorem Rel.put (r : Rel K F H σD σ ((d, v) :: R)) (e : σ[i]? = some (some v)) : Rel K F H (σD.set i (some d)) σ R := by
 have hi : i < σD.length := by rw [r.mt.length]; exact (List.getElem?_eq_some_iff.mp e).1
 refine ⟨r.mt.put d e, (r.g.clear i r.mt).perm ?_⟩;exact List.perm_middle.trans ((vN d hi e).append_right R).symm
theorem Rel.store (r : Rel K F H σD σ ((d, v) :: R)) (hi : i < σ.length) : Rel K F H (σD.set i (some d)) (σ.set i (some v)) R := by
 have hi' : i < σD.length := by rw [r.mt.length]; exact hi
 refine ⟨r.mt.store i v d, (r.g.clear i r.mt).perm ?_⟩;have h := vN (σD := σD) (σ := σ.set i (some v)) (i := i) (v := v) d hi' (by simp [hi]);rw [kn] at h;exact List.perm_middle.trans (h.append_right R).symm
theorem Rel.pop (r : Rel K F H σD σ ((d, v) :: R)) : Rel K F H σD σ R := Rel.of r.mt (r.front).pop
theorem Rel.popN (r : Rel K F H σD σ (S ++ R)) : Rel K F H σD σ R := Rel.of r.mt (by have h := r.front; rw [List.append_assoc] at h; exact h.popN)
theorem Rel.push (r : Rel K F H σD σ R) (h : Ow K F H d v []) : Rel K F H σD σ ((d, v) :: R) := Rel.of r.mt (r.front.push h)
theorem Rel.bor (r : Rel K F H σD σ R) (h : (d, v) ∈ R) : Bor K F H d v := r.g.bor (List.mem_append_right _ h)
theorem Rel.freeze (r : Rel K F H σD σ ((d, v) :: R)) : ∃ F', Ext F H F' H /\ Rel K F' H σD σ ((d.fz, v) :: R) /\ Ow K F' H d.fz v [] := by
 obtain ⟨F', x, g, o⟩ := r.front.freeze;exact ⟨F', x, Rel.of r.mt g, o⟩
theorem Rel.openL {xs : List D} (r : Rel K F H σD σ ((.lst true xs, v) :: R)) : ∃ a vs, v = .ref a /\ H a = some (.lst vs) /\ xs.length = vs.length /\ Rel K F H σD σ ((.cell, .ref a) :: (xs.zip vs ++ R)) := by
 obtain ⟨a, vs, e, h, l, g⟩ := r.front.openL;exact ⟨a, vs, e, h, l, Rel.of r.mt (by simpa using g)⟩
theorem Rel.formL {xs : List D} {vs : List V} {a : Addr} (r : Rel K F H σD σ ((.cell, .ref a) :: (xs.zip vs ++ R))) (hl : xs.length = vs.length) (e : H a = some (.lst vs)) : Rel K F H σD σ ((.lst true xs, .ref a) :: R) :=
 Rel.of r.mt (G.formL (vs := vs) (by simpa using r.front) hl e)
theorem Rel.openN {xs : List D} (r : Rel K F H σD σ ((.lst true xs, v) :: R)) : ∃ a vs, v = .ref a /\ H a = some (.lst vs) /\ xs.length = vs.length /\ Rel K F H σD σ ((.node a vs, .ref a) :: (xs.zip vs ++ R)) := by
 obtain ⟨a, vs, e, h, l, g⟩ := r.front.openN;exact ⟨a, vs, e, h, l, Rel.of r.mt (by simpa using g)⟩
theorem Rel.formN {xs : List D} {vs : List V} {a : Addr} (r : Rel K F H σD σ ((.node a vs, .ref a) :: (xs.zip vs ++ R))) (hl : xs.length = vs.length) : Rel K F H σD σ ((.lst true xs, .ref a) :: R) :=
 Rel.of r.mt (G.formN (vs := vs) (by simpa using r.front) hl).2
theorem Rel.openT {xs : List D} (r : Rel K F H σD σ ((.tup xs, v) :: R)) : ∃ a vs, v = .ref a /\ FT K F H a vs [] /\ xs.length = vs.length /\ Rel K F H σD σ (xs.zip vs ++ R) := by
 obtain ⟨a, vs, e, h, l, g⟩ := r.front.openT;exact ⟨a, vs, e, h, l, Rel.of r.mt (by simpa using g)⟩
theorem Rel.alloc {p : Addr} {o : HO} (r : Rel K F H σD σ R) (hp : H p = none) (hn : autoParam (NT o) zk._auto_1) : Rel K F (aO H p o) σD σ ((.cell, .ref p) :: R) /\ Ext F H F (aO H p o) := by
 obtain ⟨g, x⟩ := r.front.alloc (o := o) hp hn;exact ⟨Rel.of r.mt g, x⟩
theorem Rel.write {a : Addr} {o : HO} (r : Rel K F H σD σ ((.cell, .ref a) :: R)) (hn : autoParam (NT o) zk._auto_1) : Rel K F (aO H a o) σD σ ((.cell, .ref a) :: R) /\ Ext F H F (aO H a o) := by
 obtain ⟨g, x⟩ := r.front.write (o := o) hn;exact ⟨Rel.of r.mt g, x⟩
theorem Rel.layL {xs : List D} {vs : List V} {p : Addr} (r : Rel K F H σD σ (xs.zip vs ++ R)) (hl : xs.length = vs.length) (hp : H p = none) :
  Rel K F (aO H p (.lst vs)) σD σ ((.lst true xs, .ref p) :: R) /\ Ext F H F (aO H p (.lst vs)) := by
 obtain ⟨r1, x⟩ := r.alloc (o := .lst vs) hp;exact ⟨r1.formL hl bX, x⟩
theorem Rel.layT {xs : List D} {vs : List V} {p : Addr} (r : Rel K F H σD σ (xs.zip vs ++ R)) (hl : xs.length = vs.length) (hp : H p = none) :
  ∃ F', Ext F H F' (aO H p (.tup vs)) /\ Rel K F' (aO H p (.tup vs)) σD σ ((.tup xs, .ref p) :: R) := by
 obtain ⟨F', x, g⟩ := G.layT (R := R ++ sl σD σ) (by simpa using r.front) hl hp;exact ⟨F', x, Rel.of r.mt g⟩
structure Grow (F : Addr -> Prop) (H : Hp) (F' : Addr -> Prop) (H' : Hp) : Prop where
 x : Ext F H F' H'
 k : ∀ a o, H a = some o -> H' a = some o
 fr : ∀ a, F' a -> F a \/ H a = none
 dm : (∀ a, F a -> ∃ o, H a = some o) -> ∀ a, F' a -> ∃ o, H' a = some o
theorem Grow.refl : Grow F H F H := ⟨Ext.refl, fun _ _ e => e, fun _ h => .inl h, fun h => h⟩
theorem Grow.trans {F'' : Addr -> Prop} {H'' : Hp} (a : Grow F H F' H') (b : Grow F' H' F'' H'') : Grow F H F'' H'' :=
 ⟨a.x.trans b.x, fun x o e => b.k x o (a.k x o e), fun x h => by
  rcases b.fr x h with h | h
  ·exact a.fr x h
  ·refine .inr ?_
   rcases e : H x with _ | o
   ·rfl
   ·rw [a.k x o e] at h
    exact (nomatch h), fun d => b.dm (a.dm d)⟩
theorem Rel.grow (r : Rel K F H σD σ R) (g : Grow F H F' H') : Rel K F' H' σD σ R := ⟨r.mt, r.g.ext g.x g.k g.fr (g.dm r.g.dom)⟩
theorem Bor.grow (b : Bor K F H d v) (g : Grow F H F' H') : Bor K F' H' d v := by
 obtain ⟨L, h⟩ := b;exact ⟨L, h.mono g.x fun a ha => by obtain ⟨o, e⟩ := h.dom a ha; rw [e, g.k a o e]⟩
end
end DD
namespace DD
open PySem PySem.Spec PyProof.Rows L2
noncomputable abbrev St := L2.St
noncomputable def D.sc : D -> Option V
 | .non => some .non
 | .bl b => some (.bl b)
 | .int i => some (.int i)
 | .str x => some (.str x)
 | .ty n => some (.ty n)
 | .cls a => some (.ref a)
 | _ => none
section
variable {K : PySem.W.Frag} {F F' : Addr -> Prop} {H H' : Hp} {d : D} {v w : V} {L : List Addr} {R : Ro} {σD : aF} {σ : St}
theorem Ow.of_sc (h : d.sc = some w) : Ow K F H d w [] := by
 cases d <;> simp only [D.sc] at h <;> cases h <;> simp only [Ow] <;> exact ⟨trivial, trivial⟩
theorem Ow.sc (o : Ow K F H d v L) (h : d.sc = some w) : v = w /\ L = [] := by
 cases d <;> simp only [D.sc] at h <;> cases h <;> simp only [Ow] at o <;> exact o
theorem Bor.sc (b : Bor K F H d v) (h : d.sc = some w) : v = w := by obtain ⟨L, o⟩ := b; exact (o.sc h).1
theorem Rel.scal (r : Rel K F H σD σ R) (h : d.sc = some w) : Rel K F H σD σ ((d, w) :: R) := r.push (Ow.of_sc h)
theorem Bor.int {i : Int} (b : Bor K F H (.int i) v) : v = .int i := b.sc rfl
theorem Bor.bl {i : Bool} (b : Bor K F H (.bl i) v) : v = .bl i := b.sc rfl
theorem Bor.str {i : Str} (b : Bor K F H (.str i) v) : v = .str i := b.sc rfl
end
section
variable {X : Cx} {e : Expr} {es : List Expr} {st : Stmt} {sts : List Stmt}
theorem bc {t t' : TE} (h : PE X e t) (i : ∀ σ H Q, t' σ H Q -> t σ H Q) : PE X e t' := fun aa s σ H Q I h' => h aa s σ H Q I (i σ H Q h')
theorem lT {t t' : TT} (h : PT X e t) (i : ∀ σ H Q, t' σ H Q -> t σ H Q) : PT X e t' := fun aa s σ H Q I h' => h aa s σ H Q I (i σ H Q h')
theorem wY {t t' : TT} (h : PW X e t) (i : ∀ σ H Q, t' σ H Q -> t σ H Q) : PW X e t' := fun wh aa s σ H Q I h' => h wh aa s σ H Q I (i σ H Q h')
theorem gf {t t' : TA} (h : PA X es t) (i : ∀ σ H Q, t' σ H Q -> t σ H Q) : PA X es t' := fun p aa s σ H Q I h' => h p aa s σ H Q I (i σ H Q h')
theorem jq {t t' : TS} (h : PS X st t) (i : ∀ D σ H, t' D σ H -> t D σ H) : PS X st t' := fun aa s σ H D I h' => h aa s σ H D I (i D σ H h')
theorem pA {t t' : TS} (h : PSs X sts t) (i : ∀ D σ H, t' D σ H -> t D σ H) : PSs X sts t' := fun aa s σ H D I h' => h aa s σ H D I (i D σ H h')
theorem kh {f : Value -> Value -> Sem Value} {r r' : R2} (h : eD X f r) (i : ∀ x y H Q, r' x y H Q -> r x y H Q) : eD X f r' := fun aa s σ H x y v u Q I a b h' => h aa s σ H x y v u Q I a b (i x y H Q h')
end
noncomputable abbrev DE := aF -> Option (D × aF)
noncomputable abbrev DP := aF -> Option D
noncomputable abbrev DA := aF -> Option (List D × aF)
noncomputable abbrev DT := aF -> Option (Bool × aF)
inductive Out where
 | nx (σ : aF) | rt (d : D) (σ : aF) | bk (σ : aF) | ct (σ : aF)
noncomputable abbrev DS := aF -> Option Out
noncomputable def rE (K : PySem.W.Frag) (c : DE) : TE := fun σ H Q => ∃ F R σD d σD', Rel K F H σD σ R /\ c σD = some (d, σD') /\ ∀ F' H' v, Ext F H F' H' -> Rel K F' H' σD' σ ((d, v) :: R) -> Q v H'
noncomputable def rB (K : PySem.W.Frag) (c : DP) : TE := fun σ H Q => ∃ F R σD d, Rel K F H σD σ R /\ c σD = some d /\ ∀ F' H' v, Grow F H F' H' -> Bor K F' H' d v -> Q v H'
noncomputable def rA (K : PySem.W.Frag) (c : DA) : TA := fun σ H Q => ∃ F R σD xs σD', Rel K F H σD σ R /\ c σD = some (xs, σD') /\ ∀ F' H' vs, Ext F H F' H' -> xs.length = vs.length -> Rel K F' H' σD' σ (xs.zip vs ++ R) -> Q vs H'
noncomputable def rT (K : PySem.W.Frag) (c : DT) : TT := fun σ H Q => ∃ F R σD b σD', Rel K F H σD σ R /\ c σD = some (b, σD') /\ ∀ F' H', Ext F H F' H' -> Rel K F' H' σD' σ R -> Q b H'
noncomputable def Kp (W : List Nat) (σ σ' : St) : Prop := ∀ k, k ∉ W -> σ'[k]? = σ[k]?
noncomputable def Th (K : PySem.W.Frag) (En : lU) (R : Ro) (F : Addr -> Prop) (H : Hp) (σ : St) : Out -> Prop
 | .nx σD => Rel K F H σD σ R -> En.nx σ H
 | .bk σD => Rel K F H σD σ R -> En.bk σ H
 | .ct σD => Rel K F H σD σ R -> En.ct σ H
 | .rt d σD => ∀ v, Rel K F H σD σ ((d, v) :: R) -> En.rt v H
noncomputable def rS (K : PySem.W.Frag) (c : DS) (W : List Nat) : TS := fun En σ H => ∃ F R σD o, Rel K F H σD σ R /\ c σD = some o /\ ∀ F' H' σ', Ext F H F' H' -> Kp W σ σ' -> Th K En R F' H' σ' o
noncomputable def QE (X : Cx) (e : Expr) (c : DE) : Prop := PE X e (rE X.K c)
noncomputable def QB (X : Cx) (e : Expr) (c : DP) : Prop := PE X e (rB X.K c)
noncomputable def QA (X : Cx) (es : List Expr) (c : DA) : Prop := PA X es (rA X.K c)
noncomputable def QT (X : Cx) (e : Expr) (c : DT) : Prop := PT X e (rT X.K c)
noncomputable def QW (X : Cx) (e : Expr) (c : DT) : Prop := PW X e (rT X.K c)
noncomputable def QS (X : Cx) (st : Stmt) (c : DS) (W : List Nat) : Prop := PS X st (rS X.K c W)
noncomputable def ot (X : Cx) (sts : List Stmt) (c : DS) (W : List Nat) : Prop := PSs X sts (rS X.K c W)
theorem Kp.refl {W : List Nat} {σ : St} : Kp W σ σ := fun _ _ => rfl
theorem Kp.trans {W : List Nat} {σ σ1 σ2 : St} (a : Kp W σ σ1) (b : Kp W σ1 σ2) : Kp W σ σ2 := fun k h => (b k h).trans (a k h)
theorem Kp.mono {W W' : List Nat} {σ σ' : St} (a : Kp W σ σ') (h : ∀ k ∈ W, k ∈ W') : Kp W' σ σ' := fun k hk => a k fun z => hk (h k z)
theorem Kp.set {σ : St} {i : Nat} {o : Option V} : Kp [i] σ (σ.set i o) := fun k hk => by
 rw [List.getElem?_set_ne]; intro e; exact hk (by simp [e])
noncomputable def dS (p : DP) : DE := fun σ => (p σ).bind fun d => match d.sc with | some _ => some (d, σ) | none => none
noncomputable def bt (σ : aF) (i : Nat) : Option D := match σ[i]? with | some (some d) => some d | _ => none
theorem bG {σ : aF} {i : Nat} {d : D} (h : bt σ i = some d) : σ[i]? = some (some d) := by
 unfold bt at h;split at h
 ·cases h; assumption
 ·cases h
noncomputable def pV (i : Nat) : DP := fun σ => bt σ i
noncomputable def pC (d : D) : DP := fun _ => some d
noncomputable def j5 (i : Nat) : DE := fun σ => (bt σ i).map fun d => (d.fz, σ.set i (some d.fz))
noncomputable def sC (i : Nat) : DE := fun σ => (bt σ i).map fun d => (d, σ.set i none)
section
variable {X : Cx} {e a b : Expr} {es : List Expr} {p q : DP} {c c' : DE} {pos : Pos}
theorem ae (h : QB X e p) : QE X e (dS p) := bc h fun σ H Q hq0 => by
 obtain ⟨F, R, σD, d, σD', r, ec, k⟩ := hq0;unfold dS at ec;rcases hp : p σD with _ | x
 ·rw [hp] at ec; cases ec
 ·rw [hp] at ec
  simp only [bind_some] at ec;rcases hs : x.sc with _ | w
  ·rw [hs] at ec; cases ec
  ·rw [hs] at ec; cases ec
   refine ⟨F, R, σD, d, r, hp, fun F' H' v g b => k F' H' v g.x ?_⟩;rw [b.sc hs]; exact (r.grow g).scal hs
theorem ag (i : Nat) {x : Str} {pos : Pos} (hN : autoParam (X.N[i]? = some x) aI._auto_1) (hv : autoParam (lO X.env.scope x) oA._auto_1) (hd : autoParam ((x == ("__debug__" : Str)) = false) cG._auto_1)
  (hcd : autoParam ((x == ("__classdict__" : Str)) = false) cG._auto_1) : QB X (.Name x pos) (pV i) := bc (gK hN hv hd hcd) fun σ H Q hq0 => by
 obtain ⟨F, R, σD, d, r, ec, k⟩ := hq0;obtain ⟨v, hv, b⟩ := r.get (bG ec);exact ⟨v, hv, k F H v Grow.refl b⟩
theorem af {i : Int} {j pos} : QB X (.Constant (.int i) j pos) (pC (.int i)) := bc BB fun σ H Q hq0 => by
 obtain ⟨F, R, σD, d, r, ec, k⟩ := hq0;cases ec; exact k F H _ Grow.refl ⟨[], Ow.of_sc rfl⟩
theorem Dh {i : Bool} {j pos} : QB X (.Constant (.bool i) j pos) (pC (.bl i)) := bc Do fun σ H Q hq0 => by
 obtain ⟨F, R, σD, d, r, ec, k⟩ := hq0;cases ec; exact k F H _ Grow.refl ⟨[], Ow.of_sc rfl⟩
theorem aY {x : Str} {j pos} : QB X (.Constant (.str x) j pos) (pC (.str x)) := bc BA fun σ H Q hq0 => by
 obtain ⟨F, R, σD, d, r, ec, k⟩ := hq0;cases ec; exact k F H _ Grow.refl ⟨[], Ow.of_sc rfl⟩
theorem bP {α β γ : Type} {o : Option α} {f : α -> β × γ} {d : β} {s : γ} (h : o.map f = some (d, s)) : ∃ x, o = some x /\ f x = (d, s) := by
 cases o with
 | none => cases h
 | some x => exact ⟨x, rfl, Option.some.inj h⟩
theorem ia (i : Nat) {x : Str} {pos : Pos} (hN : autoParam (X.N[i]? = some x) aI._auto_1) (hv : autoParam (lO X.env.scope x) oA._auto_1) (hd : autoParam ((x == ("__debug__" : Str)) = false) cG._auto_1)
  (hcd : autoParam ((x == ("__classdict__" : Str)) = false) cG._auto_1) : QE X (.Name x pos) (j5 i) := bc (gK hN hv hd hcd) fun σ H Q hq0 => by
 obtain ⟨F, R, σD, d, σD', r, ec, k⟩ := hq0;obtain ⟨d0, e0, e1⟩ := bP ec;cases e1;obtain ⟨v, hv, r1⟩ := r.take (bG e0);obtain ⟨F', x, r2, o⟩ := r1.freeze;have r3 := (r2.push o).put hv;rw [List.set_set] at r3;exact ⟨v, hv, k F' H v x r3⟩
theorem qo (i : Nat) {x : Str} {pos : Pos} (hN : autoParam (X.N[i]? = some x) aI._auto_1) (hv : autoParam (lO X.env.scope x) oA._auto_1) (hd : autoParam ((x == ("__debug__" : Str)) = false) cG._auto_1)
  (hcd : autoParam ((x == ("__classdict__" : Str)) = false) cG._auto_1) : QE X (.Name x pos) (sC i) := bc (gK hN hv hd hcd) fun σ H Q hq0 => by
 obtain ⟨F, R, σD, d, σD', r, ec, k⟩ := hq0;obtain ⟨d0, e0, e1⟩ := bP ec;cases e1;obtain ⟨v, hv, r1⟩ := r.take (bG e0);exact ⟨v, hv, k F H v Ext.refl r1⟩
structure dI (X : Cx) (f : Value -> Value -> Sem Value) (g : D -> D -> Option D) : Prop where
 run : eD X f (fun x y H Q => ∃ F dx dy d w, Bor X.K F H dx x /\ Bor X.K F H dy y /\ g dx dy = some d /\ d.sc = some w /\ Q w H)
 sc : ∀ x y d, g x y = some d -> ∃ w, d.sc = some w
noncomputable def bN (g : D -> D -> Option D) (c c' : DE) : DE := fun σ => (c σ).bind fun p => (c' p.2).bind fun q => (g p.1 q.1).map fun d => (d, q.2)
noncomputable def aT (g : D -> D -> Option D) (p q : DP) : DP := fun σ => (p σ).bind fun x => (q σ).bind fun y => g x y
theorem yu {g : D -> D -> Option D} {σ σ' : aF} {d : D} (h : bN g c c' σ = some (d, σ')) : ∃ x y σ1, c σ = some (x, σ1) /\ c' σ1 = some (y, σ') /\ g x y = some d := by
 unfold bN at h;rcases h1 : c σ with _ | ⟨x, σ1⟩
 ·rw [h1] at h; cases h
 ·rw [h1] at h; simp only [bind_some] at h
  rcases h2 : c' σ1 with _ | ⟨y, σ2⟩
  ·rw [h2] at h; cases h
  ·rw [h2] at h; simp only [bind_some] at h
   obtain ⟨z, e, e2⟩ := bP h;cases e2;exact ⟨x, y, σ1, rfl, h2, e⟩
theorem q9 {g : D -> D -> Option D} {σ : aF} {d : D} (h : aT g p q σ = some d) : ∃ x y, p σ = some x /\ q σ = some y /\ g x y = some d := by
 unfold aT at h;rcases h1 : p σ with _ | x
 ·rw [h1] at h; cases h
 ·rw [h1] at h; simp only [bind_some] at h
  rcases h2 : q σ with _ | y
  ·rw [h2] at h; cases h
  ·rw [h2] at h; simp only [bind_some] at h
   exact ⟨x, y, rfl, rfl, h⟩
theorem A7 {f : Value -> Value -> Sem Value} {g : D -> D -> Option D} (o : dI X f g) {σ : St} {H : Hp} {Q : VK} (h : rE X.K (bN g c c') σ H Q) :
  mE (fun x y H Q => ∃ F dx dy d w, Bor X.K F H dx x /\ Bor X.K F H dy y /\ g dx dy = some d /\ d.sc = some w /\ Q w H) (rE X.K c) (rE X.K c') σ H Q := by
 obtain ⟨F, R, σD, d, σD', r, ec, k⟩ := h;obtain ⟨x, y, σ1, e1, e2, eg⟩ := yu ec;obtain ⟨w, hw⟩ := o.sc _ _ _ eg;refine ⟨F, R, σD, x, σ1, r, e1, fun F1 H1 v x1 r1 => ?_⟩;refine ⟨F1, _, σ1, y, σD', r1, e2, fun F2 H2 u x2 r2 => ?_⟩;refine ⟨F2, x, y, d, w, r2.bor (by simp), r2.bor (by simp), eg, hw, k F2 H2 w (x1.trans x2) ?_⟩;exact (r2.pop.pop).scal hw
theorem xB {f : Value -> Value -> Sem Value} {g : D -> D -> Option D} (o : dI X f g) {σ : St} {H : Hp} {Q : VK} (h : rB X.K (aT g p q) σ H Q) :
  mE (fun x y H Q => ∃ F dx dy d w, Bor X.K F H dx x /\ Bor X.K F H dy y /\ g dx dy = some d /\ d.sc = some w /\ Q w H) (rB X.K p) (rB X.K q) σ H Q := by
 obtain ⟨F, R, σD, d, r, ec, k⟩ := h;obtain ⟨x, y, e1, e2, eg⟩ := q9 ec;obtain ⟨w, hw⟩ := o.sc _ _ _ eg;refine ⟨F, R, σD, x, r, e1, fun F1 H1 v g1 b1 => ?_⟩;refine ⟨F1, R, σD, y, r.grow g1, e2, fun F2 H2 u g2 b2 => ?_⟩;exact ⟨F2, x, y, d, w, b1.grow g2, b2, eg, hw, k F2 H2 w (g1.trans g2) ⟨[], Ow.of_sc hw⟩⟩
theorem dn {op : Operator} {g : D -> D -> Option D} (o : dI X (binaryOp op) g) (ha : QE X a c) (hb : QE X b c') : QE X (.BinOp a op b pos) (bN g c c') :=
 bc (u4 o.run ha hb) fun _ _ _ h => A7 o h
theorem aQ {op : Operator} {g : D -> D -> Option D} (o : dI X (binaryOp op) g) (ha : QB X a p) (hb : QB X b q) : QB X (.BinOp a op b pos) (aT g p q) :=
 bc (u4 o.run ha hb) fun _ _ _ h => xB o h
theorem Bl {op : CmpOp} {g : D -> D -> Option D} (o : dI X (compareOp op) g) (ha : QE X a c) (hb : QE X b c') (hm : behindInMarks op b = false) : QE X (.Compare a [op] [b] pos) (bN g c c') :=
 bc (tS o.run ha hb hm) fun _ _ _ h => A7 o h
theorem vT {op : CmpOp} {g : D -> D -> Option D} (o : dI X (compareOp op) g) (ha : QB X a p) (hb : QB X b q) (hm : behindInMarks op b = false) : QB X (.Compare a [op] [b] pos) (aT g p q) :=
 bc (tS o.run ha hb hm) fun _ _ _ h => xB o h
noncomputable def gI (C : Int -> Int -> Bool) (f : Int -> Int -> Int) : D -> D -> Option D
 | .int i, .int j => if C i j = true then some (.int (f i j)) else none
 | _, _ => none
noncomputable def j1 (f : Int -> Int -> Int) : D -> D -> Option D
 | .int i, .int j => some (.int (f i j))
 | _, _ => none
noncomputable def mG (f : Int -> Int -> Bool) : D -> D -> Option D
 | .int i, .int j => some (.bl (f i j))
 | _, _ => none
theorem mi {f : Value -> Value -> Sem Value} {C : Int -> Int -> Prop} {Cb : Int -> Int -> Bool} {g : Int -> Int -> Int} (h : eD X f (rI C fun i j => .int (g i j))) (hC : ∀ i j, Cb i j = true -> C i j) : dI X f (gI Cb g) := by
 refine ⟨kh h fun x y H Q pz => ?_, fun x y d h => ?_⟩
 ·obtain ⟨F, dx, dy, d, w, b1, b2, eg, hw, q⟩ := pz
  unfold gI at eg;split at eg
  ·split at eg
   ·cases eg; cases hw
    exact ⟨_, _, b1.int, b2.int, hC _ _ (by assumption), q⟩
   ·cases eg
  ·cases eg
 ·unfold gI at h
  split at h
  ·split at h
   ·cases h; exact ⟨_, rfl⟩
   ·cases h
  ·cases h
theorem ld {f : Value -> Value -> Sem Value} {g : Int -> Int -> Int} (h : eD X f (kG fun i j => .int (g i j))) : dI X f (j1 g) := by
 refine ⟨kh h fun x y H Q pz => ?_, fun x y d h => ?_⟩
 ·obtain ⟨F, dx, dy, d, w, b1, b2, eg, hw, q⟩ := pz
  unfold j1 at eg;split at eg
  ·cases eg; cases hw
   exact ⟨_, _, b1.int, b2.int, q⟩
  ·cases eg
 ·unfold j1 at h
  split at h
  ·cases h; exact ⟨_, rfl⟩
  ·cases h
theorem rp {f : Value -> Value -> Sem Value} {g : Int -> Int -> Bool} (h : eD X f (kG fun i j => .bl (g i j))) : dI X f (mG g) := by
 refine ⟨kh h fun x y H Q pz => ?_, fun x y d h => ?_⟩
 ·obtain ⟨F, dx, dy, d, w, b1, b2, eg, hw, q⟩ := pz
  unfold mG at eg;split at eg
  ·cases eg; cases hw
   exact ⟨_, _, b1.int, b2.int, q⟩
  ·cases eg
 ·unfold mG at h
  split at h
  ·cases h; exact ⟨_, rfl⟩
  ·cases h
theorem eO : dI X (binaryOp .Add) (j1 fun i j => i + j) := ld BL
theorem jy : dI X (binaryOp .Sub) (j1 fun i j => i - j) := ld BD
theorem yU : dI X (binaryOp .BitAnd) (j1 Builtin.bitAnd) := ld BK
theorem je : dI X (binaryOp .BitOr) (j1 Builtin.bitOr) := ld Dp
theorem mj : dI X (binaryOp .Mod) (gI (fun _ j => decide (0 < j)) fun i j => i % j) := mi BJ fun i j h => by simpa using h
theorem qr : dI X (binaryOp .Pow) (gI (fun i j => decide (0 <= j /\ j <= 1000000 /\ i.natAbs < 2 ^ 64)) fun i j => i ^ j.toNat) := mi BH fun i j h => by simpa [vz] using h
theorem qq : dI X (binaryOp .LShift) (gI (fun i j => decide (0 <= j /\ j <= 1000000 /\ i.natAbs < 2 ^ 64)) fun i j => i * 2 ^ j.toNat) := mi BF fun i j h => by simpa [vz] using h
theorem Dt : dI X (binaryOp .RShift) (gI (fun _ j => decide (0 <= j)) fun i j => i / 2 ^ j.toNat) := mi BE fun i j h => by simpa using h
theorem u8 : dI X (compareOp .Lt) (mG fun i j => decide (i < j)) := rp Dq
theorem xP : dI X (compareOp .Gt) (mG fun i j => decide (j < i)) := rp Dr
theorem BQ : dI X (compareOp .GtE) (mG fun i j => decide (j <= i)) := rp Ds
noncomputable def bg : DA := fun σ => some ([], σ)
noncomputable def am (c : DE) (ca : DA) : DA := fun σ => (c σ).bind fun p => (ca p.2).map fun q => (p.1 :: q.1, q.2)
theorem aR : QA X [] bg := gf eI fun σ H Q hq0 => by
 obtain ⟨F, R, σD, xs, σD', r, ec, k⟩ := hq0;cases ec; exact k F H [] Ext.refl rfl r
theorem ai {ca : DA} (ha : QE X e c) (hr : QA X es ca) (hs : autoParam (starEach (e :: es) X.env = (false, eval e X.env) :: starEach es X.env) aI._auto_1) : QA X (e :: es) (am c ca) := gf (dj ha hr hs) fun σ H Q hq0 => by
 obtain ⟨F, R, σD, xs, σD', r, ec, k⟩ := hq0;unfold am at ec;rcases h1 : c σD with _ | ⟨x, σ1⟩
 ·rw [h1] at ec; cases ec
 ·rw [h1] at ec; simp only [bind_some] at ec
  obtain ⟨⟨ys, σ2⟩, e2, e3⟩ := bP ec;cases e3;refine ⟨F, R, σD, x, σ1, r, h1, fun F1 H1 v x1 r1 => ?_⟩;refine ⟨F1, _, σ1, ys, σ2, r1, e2, fun F2 H2 vs x2 hl r2 => ?_⟩;refine k F2 H2 (v :: vs) (x1.trans x2) (by simp [hl]) (r2.perm ?_);exact List.perm_middle
noncomputable def ez (ca : DA) : DE := fun σ => (ca σ).bind fun p => if p.1.length <= sizeLine then some (.lst true p.1, p.2) else none
noncomputable def cV (ca : DA) : DE := fun σ => (ca σ).bind fun p => if p.1.length <= sizeLine then some (.tup p.1, p.2) else none
theorem dA {ca : DA} (h : QA X es ca) : QE X (.List es pos) (ez ca) := bc (v3 h) fun σ H Q hq0 => by
 obtain ⟨F, R, σD, d, σD', r, ec, k⟩ := hq0;unfold ez at ec;rcases h1 : ca σD with _ | ⟨xs, σ1⟩
 ·rw [h1] at ec; cases ec
 ·rw [h1] at ec; simp only [bind_some] at ec
  split at ec
  ·rename_i hz
   cases ec;refine ⟨F, R, σD, xs, _, r, h1, fun F1 H1 vs x1 hl r1 => ⟨by rw [<- hl]; exact hz, fun p hp => ?_⟩⟩;obtain ⟨r2, x2⟩ := r1.layL hl hp;exact k F1 _ _ (x1.trans x2) r2
  ·cases ec
theorem cu {ca : DA} {x1} (h : QA X es ca) : QE X (.Tuple es x1 pos) (cV ca) := bc (Bz h) fun σ H Q hq0 => by
 obtain ⟨F, R, σD, d, σD', r, ec, k⟩ := hq0;unfold cV at ec;rcases h1 : ca σD with _ | ⟨xs, σ1⟩
 ·rw [h1] at ec; cases ec
 ·rw [h1] at ec; simp only [bind_some] at ec
  split at ec
  ·rename_i hz
   cases ec;refine ⟨F, R, σD, xs, _, r, h1, fun F1 H1 vs x1 hl r1 => ⟨by rw [<- hl]; exact hz, fun p hp => ?_⟩⟩;obtain ⟨F2, x2, r2⟩ := r1.layT hl hp;exact k F2 _ _ (x1.trans x2) r2
  ·cases ec
end
section
variable {K : PySem.W.Frag} {F F' : Addr -> Prop} {H H' : Hp} {d x : D} {v w : V} {L : List Addr} {R : Ro} {σD : aF} {σ : St} {xs : List D} {vs : List V}
theorem OwL.length : ∀ {xs : List D} {vs : List V} {L : List Addr}, OwL K F H xs vs L -> vs.length = xs.length := fun h => h.toP.1.symm
theorem OwL.kid : ∀ {xs : List D} {vs : List V} {L : List Addr} {j : Nat}, OwL K F H xs vs L -> xs[j]? = some x -> ∃ w La Lx Lb, vs[j]? = some w /\ L = La ++ Lx ++ Lb /\ Ow K F H x w Lx /\
  ∀ (F' : Addr -> Prop) (H' : Hp) (x' : D) (Lx' : List Addr), Ext F H F' H' -> (∀ a ∈ La ++ Lb, H' a = H a) -> Ow K F' H' x' w Lx' -> OwL K F' H' (xs.set j x') vs (La ++ Lx' ++ Lb) := by
 intro xs
 induction xs with
 | nil => intro vs L j h e; simp at e
 | cons y ys ih =>
  intro vs L j h e;simp only [OwL] at h;obtain ⟨u, ws, L1, L2, rfl, h1, h2, rfl⟩ := h;cases j with
  | zero =>
   simp at e; subst e;refine ⟨u, [], L1, L2, rfl, rfl, h1, fun F' H' x' Lx' x k o => ?_⟩;simp only [List.set_cons_zero, OwL];exact ⟨u, ws, Lx', L2, rfl, o, h2.mono x fun a ha => k a (by simp [ha]), rfl⟩
  | succ j =>
   obtain ⟨w, La, Lx, Lb, e1, rfl, o, k⟩ := ih (j := j) h2 (by simpa using e);refine ⟨w, L1 ++ La, Lx, Lb, by simpa using e1, by simp, o, fun F' H' x' Lx' x kk o' => ?_⟩;simp only [List.set_cons_succ, OwL];exact ⟨u, ws, L1, La ++ Lx' ++ Lb, rfl, h1.mono x fun a ha => kk a (by simp [ha]), k F' H' x' Lx' x (fun a ha => kk a (by simp at ha ⊢; rcases ha with ha | ha <;> simp [ha])) o', by simp⟩
theorem OwL.get (h : OwL K F H xs vs L) {j : Nat} (e : xs[j]? = some x) : ∃ w, vs[j]? = some w /\ Bor K F H x w := by
 obtain ⟨w, _, Lx, _, e1, _, o, _⟩ := h.kid e;exact ⟨w, e1, Lx, o⟩
theorem OwL.at (h : OwL K F H xs vs L) {i : Int} (e : atI xs i = some x) : ∃ w, atI vs i = some w /\ Bor K F H x w := by
 unfold atI at e ⊢;rw [h.length];rcases hj : ixN xs.length i with _ | j
 ·rw [hj] at e; cases e
 ·rw [hj] at e; exact h.get e
theorem Bor.lst {o : Bool} (b : Bor K F H (.lst o xs) v) : ∃ a vs, v = .ref a /\ dH K H a vs /\ ∃ L, OwL K F H xs vs L := by
 obtain ⟨L, h⟩ := b;cases o
 ·simp only [Ow] at h
  obtain ⟨a, vs, rfl, f, r, _⟩ := h;exact ⟨a, vs, rfl, f.sq, _, r⟩
 ·simp only [Ow] at h
  obtain ⟨a, vs, L', rfl, e, r, _⟩ := h;exact ⟨a, vs, rfl, .inl (.inl e), _, r⟩
theorem Bor.tup (b : Bor K F H (.tup xs) v) : ∃ a vs, v = .ref a /\ sQ K H a vs /\ ∃ L, OwL K F H xs vs L := by
 obtain ⟨L, h⟩ := b;simp only [Ow] at h;obtain ⟨a, vs, rfl, f, r⟩ := h;exact ⟨a, vs, rfl, f.sq, _, r⟩
noncomputable def dU : D -> D -> Option D
 | .lst _ xs, .int i => atI xs i
 | .tup xs, .int i => atI xs i
 | .str z, .int i => if z.length <= sizeLine then (atI z.cps.toList i).map fun c => .str ⟨#[c]⟩ else none
 | _, _ => none
end
section
variable {X : Cx} {e a b : Expr} {es : List Expr} {p q : DP} {c c' : DE} {pos : Pos}
theorem A8 {F : Addr -> Prop} {H : Hp} {dx dy d : D} {x y : V} {Q : VK} (b1 : Bor X.K F H dx x) (b2 : Bor X.K F H dy y) (e : dU dx dy = some d) (k : ∀ v, Bor X.K F H d v -> Q v H) : Ef X.K x y H Q := by
 unfold dU at e;split at e
 ·obtain ⟨a, vs, rfl, s, L, r⟩ := b1.lst
  obtain ⟨w, e1, bw⟩ := r.at e;exact .inl ⟨a, vs, _, w, rfl, b2.int, s, e1, k w bw⟩
 ·obtain ⟨a, vs, rfl, s, L, r⟩ := b1.tup
  obtain ⟨w, e1, bw⟩ := r.at e;exact .inr (.inl ⟨a, vs, _, w, rfl, b2.int, s, e1, k w bw⟩)
 ·split at e
  ·rename_i z i hz
   rcases h : atI z.cps.toList i with _ | ch
   ·rw [h] at e; cases e
   ·rw [h] at e; cases e
    exact .inr (.inr ⟨z, i, ch, b1.str, b2.int, hz, h, k _ ⟨[], Ow.of_sc rfl⟩⟩)
  ·cases e
 ·cases e
theorem df (ha : QB X a p) (hb : QB X b q) (hs : autoParam (iX b) jF._auto_1) : QB X (.Subscript a b pos) (aT dU p q) := bc (u6 sk ha hb hs) fun σ H Q hq0 => by
 obtain ⟨F, R, σD, d, r, ec, k⟩ := hq0;obtain ⟨x, y, e1, e2, eg⟩ := q9 ec;refine ⟨F, R, σD, x, r, e1, fun F1 H1 v g1 b1 => ?_⟩;refine ⟨F1, R, σD, y, r.grow g1, e2, fun F2 H2 u g2 b2 => ?_⟩;exact A8 (b1.grow g2) b2 eg fun v bv => k F2 H2 v (g1.trans g2) bv
noncomputable def wG (c c' : DE) : DE := fun σ => (c σ).bind fun p => (c' p.2).bind fun q => (dU p.1 q.1).map fun d => (d, q.2)
end
noncomputable def aV (c : DE) : DT := fun σ => (c σ).bind fun p => match p.1 with | .bl b => some (b, p.2) | _ => none
noncomputable def iM (t u : DT) : DT := fun σ => (t σ).bind fun p => if p.1 = true then u p.2 else some (false, p.2)
noncomputable def g8 (t u : DT) : DT := fun σ => (t σ).bind fun p => if p.1 = true then some (true, p.2) else u p.2
noncomputable def hX (t : DT) : DT := fun σ => (t σ).map fun p => (!p.1, p.2)
section
variable {X : Cx} {e a b : Expr} {es cY : List Expr} {p q : DP} {c c' : DE} {t u : DT} {pos : Pos}
theorem iT {σ σ' : aF} {k : Bool} (h : aV c σ = some (k, σ')) : c σ = some (.bl k, σ') := by
 unfold aV at h;rcases h1 : c σ with _ | ⟨x, σ1⟩
 ·rw [h1] at h; cases h
 ·rw [h1] at h; simp only [bind_some] at h
  split at h
  ·cases h; rfl
  ·cases h
theorem g9 (h : QE X e c) (he : autoParam (∀ whole, isTrue e X.env whole = (do let v <- whole; standAt e.pos; holding [v] (truthy v))) kP._auto_1) : QT X e (aV c) := lT (Bp h he) fun σ H Q hq0 => by
 obtain ⟨F, R, σD, k, σD', r, ec, kk⟩ := hq0;refine ⟨F, R, σD, _, σD', r, iT ec, fun F' H' v x r' => ⟨k, (r'.bor (by simp)).bl, kk F' H' x r'.pop⟩⟩
theorem bI {op : CmpOp} {g : D -> D -> Option D} (o : dI X (compareOp op) g) (ha : QE X a c) (hb : QE X b c') (hm : behindInMarks op b = false) : QT X (.Compare a [op] [b] pos) (aV (bN g c c')) :=
 lT (oU o.run ha hb hm) fun σ H Q hq0 => by
  obtain ⟨F, R, σD, k, σD', r, ec, kk⟩ := hq0;show mE _ _ _ σ H _;exact A7 o ⟨F, R, σD, _, σD', r, iT ec, fun F' H' v x r' => ⟨k, (r'.bor (by simp)).bl, kk F' H' x r'.pop⟩⟩
theorem jX (h : QT X e t) : QT X (.UnaryOp .Not e pos) (hX t) := lT (Bq h) fun σ H Q hq0 => by
 obtain ⟨F, R, σD, k, σD', r, ec, kk⟩ := hq0;unfold hX at ec;obtain ⟨⟨b, σ1⟩, e1, e2⟩ := bP ec;cases e2;exact ⟨F, R, σD, b, σ1, r, e1, fun F' H' x r' => kk F' H' x r'⟩
theorem jH (h : QW X e t) : QT X e t := h.pt
theorem md (h : QT X a t) : QW X (.BoolOp .And [a] pos) t := zN h
theorem jW (h : QT X a t) : QW X (.BoolOp .Or [a] pos) t := Bn h
theorem ny (ha : QT X a t) (hb : QW X (.BoolOp .And (b :: cY) pos) u) : QW X (.BoolOp .And (a :: b :: cY) pos) (iM t u) := wY (Bo ha hb) fun σ H Q hq0 => by
 obtain ⟨F, R, σD, k, σD', r, ec, kk⟩ := hq0;unfold iM at ec;rcases h1 : t σD with _ | ⟨x, σ1⟩
 ·rw [h1] at ec; cases ec
 ·rw [h1] at ec; simp only [bind_some] at ec
  refine ⟨F, R, σD, x, σ1, r, h1, fun F' H' x1 r' => ?_⟩;cases x
  ·simp only [Bool.false_eq_true, if_false] at ec ⊢
   cases ec;exact kk F' H' x1 r'
  ·simp only [if_true] at ec ⊢
   exact ⟨F', R, σ1, k, σD', r', ec, fun F2 H2 x2 r2 => kk F2 H2 (x1.trans x2) r2⟩
theorem jt (ha : QT X a t) (hb : QW X (.BoolOp .Or (b :: cY) pos) u) : QW X (.BoolOp .Or (a :: b :: cY) pos) (g8 t u) := wY (Di ha hb) fun σ H Q hq0 => by
 obtain ⟨F, R, σD, k, σD', r, ec, kk⟩ := hq0;unfold g8 at ec;rcases h1 : t σD with _ | ⟨x, σ1⟩
 ·rw [h1] at ec; cases ec
 ·rw [h1] at ec; simp only [bind_some] at ec
  refine ⟨F, R, σD, x, σ1, r, h1, fun F' H' x1 r' => ?_⟩;cases x
  ·simp only [Bool.false_eq_true, if_false] at ec ⊢
   exact ⟨F', R, σ1, k, σD', r', ec, fun F2 H2 x2 r2 => kk F2 H2 (x1.trans x2) r2⟩
  ·simp only [if_true] at ec ⊢
   cases ec;exact kk F' H' x1 r'
end
noncomputable def cH : DS := fun σ => some (.nx σ)
noncomputable def aL (c d : DS) : DS := fun σ => (c σ).bind fun o => match o with | .nx σ' => d σ' | o => some o
noncomputable def bE (i : Nat) (c : DE) : DS := fun σ => (c σ).bind fun p => if i < p.2.length then some (.nx (p.2.set i (some p.1))) else none
noncomputable def dw (t : DT) (c d : DS) : DS := fun σ => (t σ).bind fun p => if p.1 = true then c p.2 else d p.2
noncomputable def cf (c : DE) : DS := fun σ => (c σ).map fun p => .rt p.1 p.2
noncomputable def jr (c : DE) : DS := fun σ => (c σ).map fun p => .nx p.2
noncomputable def eE : DS := fun _ => none
section
variable {X : Cx} {e a b : Expr} {st : Stmt} {sts : List Stmt} {c c' : DE} {s s' : DS} {t u : DT} {pos : Pos} {W W' : List Nat}
theorem bR : ot X [] cH [] := pA zP fun En σ H hq0 => by
 obtain ⟨F, R, σD, o, r, ec, k⟩ := hq0;cases ec; exact k F H σ Ext.refl Kp.refl r
theorem aj (h1 : QS X st s W) (h2 : ot X sts s' W') : ot X (st :: sts) (aL s s') (W ++ W') := pA (xG h1 h2) fun En σ H hq0 => by
 obtain ⟨F, R, σD, o, r, ec, k⟩ := hq0;unfold aL at ec;rcases h : s σD with _ | o1
 ·rw [h] at ec; cases ec
 ·rw [h] at ec; simp only [bind_some] at ec
  refine ⟨F, R, σD, o1, r, h, fun F1 H1 σ1 x1 kp1 => ?_⟩;have kp1' : Kp (W ++ W') σ σ1 := kp1.mono fun k hk => by simp [hk]
  cases o1 with
  | nx σ2 =>
   intro r1;refine ⟨F1, R, σ2, o, r1, ec, fun F2 H2 σ3 x2 kp2 => ?_⟩;exact k F2 H2 σ3 (x1.trans x2) (kp1'.trans (kp2.mono fun k hk => by simp [hk]))
  | bk σ2 => cases ec; exact k F1 H1 σ1 x1 kp1'
  | ct σ2 => cases ec; exact k F1 H1 σ1 x1 kp1'
  | rt d σ2 => cases ec; exact k F1 H1 σ1 x1 kp1'
theorem av (h1 : QS X st s W) : ot X [st] s W := zO h1
theorem cI : ot X sts eE [] := pA vV fun En σ H hq0 => by obtain ⟨F, R, σD, o, r, ec, k⟩ := hq0; cases ec
theorem aX (i : Nat) {x : Str} {pos' : Pos} (hN : X.N.Nodup) (he : QE X e c) (hi : autoParam (X.N[i]? = some x) aI._auto_1) (hx : autoParam (ou X.env.scope x) zj._auto_1) (hs : autoParam (swapsWith e (some (.Name x pos')) pos.line X.env = pure false) aI._auto_1) (hf : autoParam (X.fn x = true \/ X.env.scope.names.lookup x = some .local) oC._auto_1) :
  QS X (.Assign [.Name x pos'] e pos) (bE i c) [i] := jq (Br hN hi hx he hs hf) fun En σ H hq0 => by
 obtain ⟨F, R, σD, o, r, ec, k⟩ := hq0;unfold bE at ec;rcases h : c σD with _ | ⟨d, σ1⟩
 ·rw [h] at ec; cases ec
 ·rw [h] at ec; simp only [bind_some] at ec
  split at ec
  ·rename_i hl
   cases ec;refine ⟨F, R, σD, d, σ1, r, h, fun F1 H1 v x1 r1 => ?_⟩;exact k F1 H1 _ x1 Kp.set (r1.store (by rw [<- r1.mt.length]; exact hl))
  ·cases ec
theorem cA {as bs : List Stmt} (ht : QT X e t) (ha : ot X as s W) (hb : ot X bs s' W') : QS X (.If e as bs pos) (dw t s s') (W ++ W') := jq (Dk ht ha hb) fun En σ H hq0 => by
 obtain ⟨F, R, σD, o, r, ec, k⟩ := hq0;unfold dw at ec;rcases h : t σD with _ | ⟨x, σ1⟩
 ·rw [h] at ec; cases ec
 ·rw [h] at ec; simp only [bind_some] at ec
  refine ⟨F, R, σD, x, σ1, r, h, fun F1 H1 x1 r1 => ?_⟩;cases x
  ·simp only [Bool.false_eq_true, if_false] at ec ⊢
   exact ⟨F1, R, σ1, o, r1, ec, fun F2 H2 σ2 x2 kp => k F2 H2 σ2 (x1.trans x2) (kp.mono fun k hk => by simp [hk])⟩
  ·simp only [if_true] at ec ⊢
   exact ⟨F1, R, σ1, o, r1, ec, fun F2 H2 σ2 x2 kp => k F2 H2 σ2 (x1.trans x2) (kp.mono fun k hk => by simp [hk])⟩
theorem bx (he : QE X e c) : QS X (.Return (some e) pos) (cf c) [] := jq (Bs he) fun En σ H hq0 => by
 obtain ⟨F, R, σD, o, r, ec, k⟩ := hq0;unfold cf at ec;rcases h : c σD with _ | ⟨d, σ1⟩
 ·rw [h] at ec; cases ec
 ·rw [h] at ec; cases ec
  exact ⟨F, R, σD, d, σ1, r, h, fun F1 H1 v x1 r1 => k F1 H1 σ x1 Kp.refl v r1⟩
theorem me (he : QE X e c) (hs : autoParam (swapsWith e none pos.line X.env = pure false) aI._auto_1) : QS X (.Expr e pos) (jr c) [] := jq (zQ he hs) fun En σ H hq0 => by
 obtain ⟨F, R, σD, o, r, ec, k⟩ := hq0;unfold jr at ec;rcases h : c σD with _ | ⟨d, σ1⟩
 ·rw [h] at ec; cases ec
 ·rw [h] at ec; cases ec
  exact ⟨F, R, σD, d, σ1, r, h, fun F1 H1 v x1 r1 => k F1 H1 σ x1 Kp.refl r1.pop⟩
end
noncomputable abbrev DG := D -> aF -> Option aF
noncomputable def rG (K : PySem.W.Frag) (g : DG) (W : List Nat) : TG := fun v σ H Q => ∃ F R σD d σD', Rel K F H σD σ ((d, v) :: R) /\ g d σD = some σD' /\ ∀ F' H' σ', Ext F H F' H' -> Kp W σ σ' -> Rel K F' H' σD' σ' R -> Q σ' H'
noncomputable def QG (X : Cx) (tg : Expr) (g : DG) (W : List Nat) : Prop := PG X tg (rG X.K g W)
theorem sU {X : Cx} {tg : Expr} {t t' : TG} (h : PG X tg t) (i : ∀ v σ H Q, t' v σ H Q -> t v σ H Q) : PG X tg t' := fun aa s σ H v u Q I rv h' => h aa s σ H v u Q I rv (i v σ H Q h')
noncomputable abbrev p9 := List D -> aF -> Option aF
noncomputable def Fx (K : PySem.W.Frag) (g : p9) (W : List Nat) : oq := fun vs σ H Q => ∃ F R σD ds σD', ds.length = vs.length /\ Rel K F H σD σ (ds.zip vs ++ R) /\ g ds σD = some σD' /\ ∀ F' H' σ', Ext F H F' H' -> Kp W σ σ' -> Rel K F' H' σD' σ' R -> Q σ' H'
noncomputable def zd (X : Cx) (ts : List Expr) (g : p9) (W : List Nat) : Prop := sS X ts (Fx X.K g W)
theorem uF {X : Cx} {ts : List Expr} {t t' : oq} (h : sS X ts t) (i : ∀ v σ H Q, t' v σ H Q -> t v σ H Q) : sS X ts t' := fun aa s σ H v u Q I rv h' => h aa s σ H v u Q I rv (i v σ H Q h')
noncomputable def du (i : Nat) : DG := fun d σ => if i < σ.length then some (σ.set i (some d)) else none
noncomputable def fM : p9 := fun ds σ => match ds with | [] => some σ | _ => none
noncomputable def cF (g : DG) (gs : p9) : p9 := fun ds σ => match ds with | d :: r => (g d σ).bind fun σ' => gs r σ' | [] => none
noncomputable def fm (n : Nat) (gs : p9) : DG := fun d σ => match d with | .tup xs => if xs.length = n then gs xs σ else none | _ => none
section
variable {X : Cx} {e tg : Expr} {ts : List Expr} {g : DG} {gs : p9} {pos : Pos} {W W' : List Nat}
theorem bO (i : Nat) {x : Str} {pos : Pos} (hN : X.N.Nodup) (hi : autoParam (X.N[i]? = some x) aI._auto_1) (hx : autoParam (ou X.env.scope x) zj._auto_1) (hf : autoParam (X.fn x = true \/ X.env.scope.names.lookup x = some .local) oC._auto_1) :
  QG X (.Name x pos) (du i) [i] := sU (zY hN hi hx hf) fun v σ H Q hq0 => by
 obtain ⟨F, R, σD, d, σD', r, ec, k⟩ := hq0;unfold du at ec;split at ec
 ·rename_i hl
  cases ec;exact k F H _ Ext.refl Kp.set (r.store (by rw [<- r.mt.length]; exact hl))
 ·cases ec
theorem gw : zd X [] fM [] := uF zX fun vs σ H Q hq0 => by
 obtain ⟨F, R, σD, ds, σD', hl, r, ec, k⟩ := hq0;cases ds with
 | nil => cases ec; exact ⟨List.length_eq_zero_iff.mp hl.symm, k F H σ Ext.refl Kp.refl (by simpa using r)⟩
 | cons d ds => cases ec
theorem cN (h1 : QG X e g W) (h2 : zd X ts gs W') (hs : autoParam ((assignEach (e :: ts) X.env).map (·.2) = assign e X.env :: (assignEach ts X.env).map (·.2)) aI._auto_1) : zd X (e :: ts) (cF g gs) (W ++ W') :=
 uF (xH h1 h2 hs) fun vs σ H Q hq0 => by
  obtain ⟨F, R, σD, ds, σD', hl, r, ec, k⟩ := hq0;cases ds with
  | nil => cases ec
  | cons d ds =>
   cases vs with
   | nil => simp at hl
   | cons v vs =>
    simp only [cF] at ec;rcases h : g d σD with _ | σ1
    ·rw [h] at ec; cases ec
    ·rw [h] at ec; simp only [bind_some] at ec
     refine ⟨v, vs, rfl, F, ds.zip vs ++ R, σD, d, σ1, by simpa using r, h, fun F1 H1 σ2 x1 kp1 r1 => ?_⟩;exact ⟨F1, R, σ1, ds, σD', by simpa using hl, r1, ec, fun F2 H2 σ3 x2 kp2 r2 => k F2 H2 σ3 (x1.trans x2) ((kp1.mono fun k hk => by simp [hk]).trans (kp2.mono fun k hk => by simp [hk])) r2⟩
theorem iu {n : Nat} {k : Nat} (hc : X.calm = true) (h : zd X ts gs W) (hn : autoParam ((assignEach ts X.env).length = n) aI._auto_1) (hst : autoParam ((assignEach ts X.env).findIdx? (·.1) = none) aI._auto_1) : QG X (.Tuple ts k pos) (fm n gs) W :=
 sU (Bx hc h hn hst) fun v σ H Q hq0 => by
  obtain ⟨F, R, σD, d, σD', r, ec, k⟩ := hq0;unfold fm at ec;split at ec
  ·rename_i xs
   split at ec
   ·rename_i hxn
    obtain ⟨a, vs, rfl, ft, hl, r1⟩ := r.openT;exact ⟨a, vs, rfl, ft.sq, by rw [<- hl]; exact hxn, F, R, σD, xs, σD', hl, r1, ec, k⟩
   ·cases ec
  ·cases ec
noncomputable def i7 (c : DE) (g : DG) : DS := fun σ => (c σ).bind fun p => (g p.1 p.2).map .nx
theorem kY {c : DE} (he : QE X e c) (hg : QG X tg g W) (hs : autoParam (swapsWithSole [tg] e pos.line X.env = pure false) aI._auto_1) (hw : autoParam (swappedStores [tg] e X.env = pure none) aI._auto_1)
  (h1 : autoParam ((assignEach [tg] X.env).map (·.2) = [assign tg X.env]) aI._auto_1) : QS X (.Assign [tg] e pos) (i7 c g) W := jq (Bu he hg hs hw h1) fun En σ H hq0 => by
 obtain ⟨F, R, σD, o, r, ec, k⟩ := hq0;unfold i7 at ec;rcases h : c σD with _ | ⟨d, σ1⟩
 ·rw [h] at ec; cases ec
 ·rw [h] at ec; simp only [bind_some] at ec
  rcases h2 : g d σ1 with _ | σ2
  ·rw [h2] at ec; cases ec
  ·rw [h2] at ec; cases ec
   refine ⟨F, R, σD, d, σ1, r, h, fun F1 H1 v x1 r1 => ?_⟩;exact ⟨F1, R, σ1, d, σ2, r1, h2, fun F2 H2 σ3 x2 kp r2 => k F2 H2 σ3 (x1.trans x2) kp r2⟩
end
noncomputable def eR (g : DG) (b : DS) : List D -> aF -> Option Out
 | [], σ => some (.nx σ)
 | x :: xs, σ => (g x σ).bind fun σ1 => (b σ1).bind fun o => match o with
  | .nx σ2 => eR g b xs σ2
  | .ct σ2 => eR g b xs σ2
  | .bk σ2 => some (.nx σ2)
  | .rt d σ2 => some (.rt d σ2)
noncomputable def i9 (lo hi : Int) : List D := (List.range (hi - lo).toNat).map fun (k : Nat) => D.int (lo + k)
noncomputable def qR (i : Int) : Bool := decide (-(2 ^ 62) <= i /\ i < 2 ^ 62)
section
variable {X : Cx} {e tg : Expr} {ts : List Expr} {g : DG} {c : DE} {s : DS} {pos : Pos} {W W' : List Nat} {body : List Stmt}
theorem zu {F0 F : Addr -> Prop} {H0 H : Hp} {R R0 : Ro} {σD : aF} {σ0 σ : St} {x : D} {v : V} {xs : List D} {En : lU} {N : St -> Hp -> Prop} {o : Out} (hR : ∀ F' H', Ext F H F' H' -> ∀ σD' σ' S, Rel X.K F' H' σD' σ' (S ++ R) -> Rel X.K F' H' σD' σ' (S ++ R0))
  (r : Rel X.K F H σD σ ((x, v) :: R)) (x0 : Ext F0 H0 F H) (kp : Kp (W ++ W') σ0 σ) (h : eR g s (x :: xs) σD = some o)
  (k : ∀ F' H' σ', Ext F0 H0 F' H' -> Kp (W ++ W') σ0 σ' -> Th X.K En R0 F' H' σ' o)
  (hN : ∀ F' H' σD' σ', Ext F H F' H' -> Kp (W ++ W') σ0 σ' -> Rel X.K F' H' σD' σ' R -> eR g s xs σD' = some o -> N σ' H') :
  rG X.K g W v σ H fun σ2 H2 => rS X.K s W' { En with nx := N, ct := N, bk := En.nx } σ2 H2 := by
 simp only [eR] at h;rcases h1 : g x σD with _ | σ1
 ·rw [h1] at h; cases h
 ·rw [h1] at h; simp only [bind_some] at h
  rcases h2 : s σ1 with _ | o1
  ·rw [h2] at h; cases h
  ·rw [h2] at h; simp only [bind_some] at h
   refine ⟨F, R, σD, x, σ1, r, h1, fun F1 H1 σ2 x1 kp1 r1 => ?_⟩;refine ⟨F1, R, σ1, o1, r1, h2, fun F2 H2 σ3 x2 kp2 => ?_⟩;have kp3 : Kp (W ++ W') σ0 σ3 := (kp.trans (kp1.mono fun k hk => by simp [hk])).trans (kp2.mono fun k hk => by simp [hk]);cases o1 with
   | nx σ4 => exact fun r2 => hN F2 H2 σ4 σ3 (x1.trans x2) kp3 r2 h
   | ct σ4 => exact fun r2 => hN F2 H2 σ4 σ3 (x1.trans x2) kp3 r2 h
   | bk σ4 =>
    cases h;exact fun r2 => k F2 H2 σ3 (x0.trans (x1.trans x2)) kp3 (hR F2 H2 (x1.trans x2) _ _ [] r2)
   | rt d σ4 =>
    cases h;exact fun v r2 => k F2 H2 σ3 (x0.trans (x1.trans x2)) kp3 v (hR F2 H2 (x1.trans x2) _ _ [(d, v)] r2)
end
noncomputable abbrev GF := List D -> Option (D × List D)
noncomputable def dd (K : PySem.W.Frag) (n : Nat) (g : GF) : Sp := fun vs H Q _ => vs.length = n /\ ∃ F R ds r ds', ds.length = vs.length /\ G K F H (ds.zip vs ++ R) /\ g ds = some (r, ds') /\
 ∀ F' H' v, Ext F H F' H' -> ds'.length = vs.length -> G K F' H' ((r, v) :: (ds'.zip vs ++ R)) -> Q v H'
noncomputable def kJ (W : List Nat) : Nat -> List D -> List D
 | _, [] => []
 | k, d :: ds => (if k ∈ W then d.fz else d) :: kJ W (k + 1) ds
noncomputable def gL (W : List Nat) (σ : aF) : Nat -> List D -> List D
 | _, [] => []
 | k, d :: ds => (if k ∈ W then d.fz else (bt σ k).getD .hole) :: gL W σ (k + 1) ds
noncomputable def dF (N : Nat) (W : List Nat) (c : DS) : GF := fun ds => (c ((kJ W 0 ds).map some ++ List.replicate (N - ds.length) none)).bind fun o => match o with
 | .rt d σ => some (d, gL W σ 0 ds)
 | .nx σ => some (.non, gL W σ 0 ds)
 | _ => none
section
variable {K : PySem.W.Frag} {F F' : Addr -> Prop} {H H' : Hp}
noncomputable def mH (W : List Nat) : Nat -> List D -> List V -> Ro
 | k, d :: ds, v :: vs => if k ∈ W then (d.fz, v) :: mH W (k + 1) ds vs else mH W (k + 1) ds vs
 | _, _, _ => []
theorem nR (W : List Nat) : ∀ (k : Nat) (ds : List D), (kJ W k ds).length = ds.length
 | _, [] => rfl
 | k, d :: ds => by simp [kJ, nR W (k + 1) ds]
theorem jI (W : List Nat) (σ : aF) : ∀ (k : Nat) (ds : List D), (gL W σ k ds).length = ds.length
 | _, [] => rfl
 | k, d :: ds => by simp [gL, jI W σ (k + 1) ds]
theorem pull {α : Type} {x : α} {A B C : List α} : (A ++ (B ++ x :: C)).Perm (x :: (A ++ (B ++ C))) := ((List.perm_middle (a := x) (l₁ := B) (l₂ := C)).append_left A).trans List.perm_middle
theorem vq (W : List Nat) : ∀ {ds : List D} {vs : List V} {k : Nat} {F : Addr -> Prop} {R : Ro}, ds.length = vs.length -> G K F H (ds.zip vs ++ R) -> ∃ F', Ext F H F' H /\ G K F' H ((kJ W k ds).zip vs ++ (mH W k ds vs ++ R))
 | [], [], _, F, R, _, g => ⟨F, Ext.refl, g⟩
 | d :: ds, v :: vs, k, F, R, hl, g => by
  have hl' : ds.length = vs.length := by simpa using hl
  have g0 : G K F H ((d, v) :: (ds.zip vs ++ R)) := by simpa using g
  by_cases hk : k ∈ W
  ·obtain ⟨F1, x1, g1, o1⟩ := g0.freeze
   have g2 : G K F1 H (ds.zip vs ++ ((d.fz, v) :: (d.fz, v) :: R)) := (g1.push o1).perm (((List.perm_middle).symm.cons _).trans (List.perm_middle).symm);obtain ⟨F2, x2, g3⟩ := vq W (k := k + 1) hl' g2;refine ⟨F2, x1.trans x2, ?_⟩;simp only [kJ, mH, hk, if_true, List.zip_cons_cons];exact g3.perm (pull.trans ((List.perm_middle.append_left _).cons _))
  ·obtain ⟨F2, x2, g3⟩ := vq W (k := k + 1) (R := (d, v) :: R) hl' (g0.perm (List.perm_middle.symm))
   refine ⟨F2, x2, ?_⟩;simp only [kJ, mH, hk, if_false, List.zip_cons_cons];exact g3.perm pull
theorem fY {σ : aF} {i j : Nat} {o : Option D} (h : i ≠ j) : bt (σ.set i o) j = bt σ j := by
 unfold bt; rw [List.getElem?_set_ne h]
theorem rj (W : List Nat) {σ : aF} {o : Option D} {i : Nat} : ∀ {k : Nat} {ds : List D}, i < k -> gL W (σ.set i o) k ds = gL W σ k ds
 | _, [], _ => rfl
 | k, d :: ds, h => by simp only [gL]; rw [fY oM, rj W (k := k + 1) oM]
theorem y8 (W : List Nat) {σ : St} : ∀ {ds : List D} {vs : List V} {k : Nat} {σD : aF} {R : Ro}, ds.length = vs.length -> (∀ (j : Nat) v, vs[j]? = some v -> k + j ∉ W -> σ[k + j]? = some (some v)) ->
  Rel K F H σD σ (mH W k ds vs ++ R) -> ∃ σD2, Rel K F H σD2 σ ((gL W σD k ds).zip vs ++ R) := by
 intro ds
 induction ds with
 | nil =>
  intro vs k σD R hl hv r;cases vs with
  | nil => exact ⟨σD, r⟩
  | cons _ _ => cases hl
 | cons d ds ih =>
  intro vs k σD R hl hv r;cases vs with
  | nil => cases hl
  | cons v vs =>
   have hl' : ds.length = vs.length := by simpa using hl
   have hv' : ∀ (j : Nat) u, vs[j]? = some u -> k + 1 + j ∉ W -> σ[k + 1 + j]? = some (some u) := fun j u e h => by
    have q := hv (j + 1) u (by simpa using e) (by rw [show k + (j + 1) = k + 1 + j by omega]; exact h);rw [show k + (j + 1) = k + 1 + j by omega] at q; exact q
   by_cases hk : k ∈ W
   ·simp only [mH, hk, if_true] at r
    obtain ⟨σ2, r2⟩ := ih (k := k + 1) (R := (d.fz, v) :: R) hl' hv' (r.perm List.perm_middle.symm);refine ⟨σ2, ?_⟩;simp only [gL, hk, if_true, List.zip_cons_cons];exact r2.perm List.perm_middle
   ·simp only [mH, hk, if_false] at r
    have e0 : σ[k]? = some (some v) := by simpa using hv 0 v rfl (by simpa using hk)
    rcases hd : bt σD k with _ | dk
    ·have r1 : Rel K F H σD σ ((.hole, v) :: (mH W (k + 1) ds vs ++ R)) := r.push (by simp only [Ow])
     obtain ⟨σ2, r2⟩ := ih (k := k + 1) (R := (.hole, v) :: R) hl' hv' (r1.perm List.perm_middle.symm);refine ⟨σ2, ?_⟩;simp only [gL, hk, if_false, List.zip_cons_cons, hd, Option.getD_none];exact r2.perm List.perm_middle
    ·obtain ⟨v', hv1, r1⟩ := r.take (bG hd)
     rw [e0] at hv1; cases hv1;obtain ⟨σ2, r2⟩ := ih (k := k + 1) (R := (dk, v) :: R) hl' hv' (r1.perm List.perm_middle.symm);refine ⟨σ2, ?_⟩;simp only [gL, hk, if_false, List.zip_cons_cons, hd, Option.getD_some];rw [rj W (Nat.lt_succ_self k)] at r2;exact r2.perm List.perm_middle
theorem mV : ∀ {n : Nat} {σ : St}, sl (List.replicate n none) σ = []
 | 0, σ => by cases σ <;> rfl
 | n + 1, [] => rfl
 | n + 1, o :: σ => by rw [List.replicate_succ]; exact mV (n := n) (σ := σ)
theorem qI : ∀ {ds : List D} {vs : List V} {n : Nat}, ds.length = vs.length -> sl (ds.map some ++ List.replicate n none) (vs.map some ++ List.replicate n none) = ds.zip vs
 | [], [], n, _ => by simpa using mV
 | d :: ds, v :: vs, n, h => by
  show (d, v) :: sl (ds.map some ++ List.replicate n none) (vs.map some ++ List.replicate n none) = _;rw [qI (by simpa using h)]; rfl
theorem o5 : ∀ {n : Nat}, Mt (List.replicate n none) (List.replicate n none)
 | 0 => trivial
 | n + 1 => by rw [List.replicate_succ, List.replicate_succ]; exact o5 (n := n)
theorem rX : ∀ {ds : List D} {vs : List V} {n : Nat}, ds.length = vs.length -> Mt (ds.map some ++ List.replicate n none) (vs.map some ++ List.replicate n none)
 | [], [], n, _ => by simpa using o5
 | d :: ds, v :: vs, n, h => rX (ds := ds) (vs := vs) (n := n) (by simpa using h)
end
section
variable {P : Program} {w : World} {K : PySem.W.Frag} {mg : Str -> Option Value} {base : Heap}
theorem db {x qual : Str} {st : Stmt} {f : Addr} {fd : FuncData} {N ps : List Str} {k : Nat} {W : List Nat} {c : DS} (F : Fun K x qual st f fd) (S : bm N ps (aM st)) (hnp : ps.length <= N.length)
  (hbody : ∀ (cdv : Value) (A : Around) (outer : List Env) (s : Shared) (H : Hp) (E : XK), Room k (A.deeper (envOfC qual (aM st) s.heap.objs.size f cdv)) ->
   ot (nc dc P w K mg base N qual (aM st) f cdv A outer s H E).nox (hG st) c W) :
  ck P w K mg base dc (k + 1) f fd ps (dd K ps.length (dF N.length W c)) := by
 refine F.ok S (fun vs H Q E h => h.1) (fun cdv A outer s H vs Q E hr h => ?_);obtain ⟨hlen, F0, R, ds, r, ds', hl, g, eg, kk⟩ := h;refine ⟨_, hbody cdv A outer s H E hr, ?_⟩;show rS K c W _ _ _;unfold dF at eg;obtain ⟨F1, x1, g1⟩ := vq W (k := 0) hl g;have hl2 : (kJ W 0 ds).length = vs.length := by rw [nR]; exact hl
 have est : L2.start N vs = vs.map some ++ List.replicate (N.length - ds.length) none := by unfold L2.start; rw [hl]
 have r0 : Rel K F1 H ((kJ W 0 ds).map some ++ List.replicate (N.length - ds.length) none) (L2.start N vs) (mH W 0 ds vs ++ R) := by
  rw [est];exact ⟨rX hl2, by rw [qI hl2]; exact g1⟩
 rcases h : c ((kJ W 0 ds).map some ++ List.replicate (N.length - ds.length) none) with _ | o
 ·rw [h] at eg; cases eg
 ·rw [h] at eg; simp only [bind_some] at eg
  refine ⟨F1, _, _, o, r0, h, fun F2 H2 σ2 x2 kp => ?_⟩;have hv : ∀ (j : Nat) v, vs[j]? = some v -> 0 + j ∉ W -> σ2[0 + j]? = some (some v) := fun j v e hj => by
   rw [kp (0 + j) hj, Nat.zero_add, est];have hjl : j < vs.length := (List.getElem?_eq_some_iff.mp e).1;rw [List.getElem?_append_left (by simpa using hjl)];simp [e]
  cases o with
  | nx σ3 =>
   cases eg;intro r3;obtain ⟨σ4, r4⟩ := y8 W (k := 0) hl hv r3;exact kk F2 H2 .non (x1.trans x2) (by rw [jI]; exact hl) ((r4.scal (d := .non) (w := .non) rfl).g.popN)
  | rt d σ3 =>
   cases eg;intro v r3;obtain ⟨σ4, r4⟩ := y8 W (k := 0) (R := (_, v) :: R) hl hv (r3.perm List.perm_middle.symm);exact kk F2 H2 v (x1.trans x2) (by rw [jI]; exact hl) ((r4.perm List.perm_middle).g.popN)
  | bk σ3 => cases eg
  | ct σ3 => cases eg
end
inductive Arg where
 | bo (i : Nat) | ex (c : DE)
noncomputable def mI : List Arg -> aF -> Option (List (Option D) × aF)
 | [], σ => some ([], σ)
 | .bo i :: as, σ => (bt σ i).bind fun _ => (mI as σ).map fun p => (none :: p.1, p.2)
 | .ex c :: as, σ => (c σ).bind fun q => (mI as q.2).map fun p => (some q.1 :: p.1, p.2)
noncomputable def fN : List Arg -> List (Option D) -> aF -> Option (List D × aF)
 | .bo i :: as, none :: os, σ => (bt σ i).bind fun d => match d.sc with
  | some _ => (fN as os σ).map fun p => (d :: p.1, p.2)
  | none => (fN as os (σ.set i none)).map fun p => (d :: p.1, p.2)
 | .ex _ :: as, some d :: os, σ => (fN as os σ).map fun p => (d :: p.1, p.2)
 | [], [], σ => some ([], σ)
 | _, _, _ => none
noncomputable def ij : List Arg -> List D -> aF -> aF
 | .bo i :: as, d :: ds, σ => match d.sc with
  | some _ => ij as ds σ
  | none => ij as ds (σ.set i (some d))
 | .ex _ :: as, _ :: ds, σ => ij as ds σ
 | _, _, σ => σ
noncomputable def aN (g : GF) (as : List Arg) : DE := fun σ => (mI as σ).bind fun p => (fN as p.1 p.2).bind fun q => (g q.1).map fun r => (r.1, ij as r.2 q.2)
noncomputable def OkM : List Arg -> List (Option D) -> List V -> St -> Prop
 | .bo i :: as, none :: os, v :: vs, σ => σ[i]? = some (some v) /\ OkM as os vs σ
 | .ex _ :: as, some _ :: os, _ :: vs, σ => OkM as os vs σ
 | [], [], [], _ => True
 | _, _, _, _ => False
noncomputable def tz : List (Option D) -> List V -> Ro
 | none :: os, _ :: vs => tz os vs
 | some d :: os, v :: vs => (d, v) :: tz os vs
 | _, _ => []
noncomputable def rM (K : PySem.W.Frag) (as : List Arg) : TA := fun σ H Q => ∃ F R σD os σD', Rel K F H σD σ R /\ mI as σD = some (os, σD') /\ ∀ F' H' vs, Ext F H F' H' -> OkM as os vs σ -> Rel K F' H' σD' σ (tz os vs ++ R) -> Q vs H'
noncomputable def QM (X : Cx) (es : List Expr) (as : List Arg) : Prop := PA X es (rM X.K as)
section
variable {X : Cx} {e : Expr} {es : List Expr} {as : List Arg} {c : DE}
theorem aH : QM X [] [] := gf eI fun σ H Q hq0 => by
 obtain ⟨F, R, σD, os, σD', r, ec, k⟩ := hq0;cases ec; exact k F H [] Ext.refl trivial r
theorem bL (ha : QE X e c) (hr : QM X es as) (hs : autoParam (starEach (e :: es) X.env = (false, eval e X.env) :: starEach es X.env) aI._auto_1) : QM X (e :: es) (.ex c :: as) := gf (dj ha hr hs) fun σ H Q hq0 => by
 obtain ⟨F, R, σD, os, σD', r, ec, k⟩ := hq0;simp only [mI] at ec;rcases h1 : c σD with _ | ⟨x, σ1⟩
 ·rw [h1] at ec; cases ec
 ·rw [h1] at ec; simp only [bind_some] at ec
  obtain ⟨⟨os2, σ2⟩, e2, e3⟩ := bP ec;cases e3;refine ⟨F, R, σD, x, σ1, r, h1, fun F1 H1 v x1 r1 => ?_⟩;refine ⟨F1, _, σ1, os2, σ2, r1, e2, fun F2 H2 vs x2 ok r2 => ?_⟩;exact k F2 H2 (v :: vs) (x1.trans x2) ok (r2.perm List.perm_middle)
theorem aK (i : Nat) {x : Str} {pos : Pos} (hr : QM X es as) (hN : autoParam (X.N[i]? = some x) aI._auto_1) (hv : autoParam (lO X.env.scope x) oA._auto_1) (hd : autoParam ((x == ("__debug__" : Str)) = false) cG._auto_1)
  (hcd : autoParam ((x == ("__classdict__" : Str)) = false) cG._auto_1) (hs : autoParam (starEach (.Name x pos :: es) X.env = (false, eval (.Name x pos) X.env) :: starEach es X.env) aI._auto_1) : QM X (.Name x pos :: es) (.bo i :: as) :=
 gf (dj (gK hN hv hd hcd) hr hs) fun σ H Q hq0 => by
  obtain ⟨F, R, σD, os, σD', r, ec, k⟩ := hq0;simp only [mI] at ec;rcases h1 : bt σD i with _ | d
  ·rw [h1] at ec; cases ec
  ·rw [h1] at ec; simp only [bind_some] at ec
   obtain ⟨⟨os2, σ2⟩, e2, e3⟩ := bP ec;cases e3;obtain ⟨v, hv, b⟩ := r.get (bG h1);refine ⟨v, hv, F, R, σD, os2, σ2, r, e2, fun F2 H2 vs x2 ok r2 => ?_⟩;exact k F2 H2 (v :: vs) x2 ⟨hv, ok⟩ r2
variable {K : PySem.W.Frag} {F F' : Addr -> Prop} {H H' : Hp}
theorem AA : ∀ {as : List Arg} {os : List (Option D)} {vs : List V} {σ : St} {σD : aF} {R : Ro} {ds : List D} {σD' : aF}, OkM as os vs σ -> fN as os σD = some (ds, σD') -> Rel K F H σD σ (tz os vs ++ R) ->
  ds.length = vs.length /\ Rel K F H σD' σ (ds.zip vs ++ R) := by
 intro as
 induction as with
 | nil =>
  intro os vs σ σD R ds σD' ok e r;cases os with
  | nil => cases vs with
   | nil => simp only [fN] at e; cases e; exact ⟨rfl, r⟩
   | cons _ _ => exact ok.elim
  | cons _ _ => exact ok.elim
 | cons a as ih =>
  intro os vs σ σD R ds σD' ok e r;cases os with
  | nil => cases a <;> exact ok.elim
  | cons o os => cases vs with
   | nil => cases a <;> cases o <;> exact ok.elim
   | cons v vs => cases a with
    | bo i => cases o with
     | some _ => exact ok.elim
     | none =>
      obtain ⟨hv, ok⟩ := ok;simp only [fN] at e;rcases h1 : bt σD i with _ | d
      ·rw [h1] at e; cases e
      ·rw [h1] at e; simp only [bind_some] at e
       obtain ⟨v', hv1, r1⟩ := r.take (bG h1);rw [hv] at hv1; cases hv1;rcases hs : d.sc with _ | wv
       ·rw [hs] at e
        obtain ⟨⟨ds2, σ2⟩, e2, e3⟩ := bP e;cases e3;obtain ⟨l, r2⟩ := ih (R := (d, v) :: R) ok e2 (r1.perm List.perm_middle.symm);exact ⟨by simp [l], r2.perm List.perm_middle⟩
       ·rw [hs] at e
        obtain ⟨⟨ds2, σ2⟩, e2, e3⟩ := bP e;cases e3;have ev : v = wv := (r1.bor (by simp)).sc hs;subst ev;obtain ⟨l, r2⟩ := ih (R := R) ok e2 r;exact ⟨by simp [l], r2.scal hs⟩
    | ex _ => cases o with
     | none => exact ok.elim
     | some d =>
      simp only [fN] at e;obtain ⟨⟨ds2, σ2⟩, e2, e3⟩ := bP e;cases e3;obtain ⟨l, r2⟩ := ih (os := os) (vs := vs) (R := (d, v) :: R) ok e2 (r.perm (List.perm_middle (l₁ := tz os vs)).symm);exact ⟨by simp [l], r2.perm List.perm_middle⟩
theorem AF : ∀ {as : List Arg} {os : List (Option D)} {vs : List V} {σ : St} {σD : aF} {R : Ro} {ds : List D}, OkM as os vs σ -> ds.length = vs.length -> Rel K F H σD σ (ds.zip vs ++ R) -> Rel K F H (ij as ds σD) σ R := by
 intro as
 induction as with
 | nil =>
  intro os vs σ σD R ds ok l r;cases os with
  | nil => cases vs with
   | nil => cases ds with
    | nil => exact r
    | cons _ _ => cases l
   | cons _ _ => exact ok.elim
  | cons _ _ => exact ok.elim
 | cons a as ih =>
  intro os vs σ σD R ds ok l r;cases os with
  | nil => cases a <;> exact ok.elim
  | cons o os => cases vs with
   | nil => cases a <;> cases o <;> exact ok.elim
   | cons v vs => cases ds with
    | nil => cases l
    | cons d ds =>
     have l' : ds.length = vs.length := by simpa using l
     cases a with
     | bo i => cases o with
      | some _ => exact ok.elim
      | none =>
       obtain ⟨hv, ok⟩ := ok;simp only [ij];rcases hs : d.sc with _ | wv
       ·exact ih ok l' (Rel.put (R := ds.zip vs ++ R) r hv)
       ·exact ih ok l' (Rel.pop (R := ds.zip vs ++ R) r)
     | ex _ => cases o with
      | none => exact ok.elim
      | some d' => exact ih (os := os) ok l' (Rel.pop (R := ds.zip vs ++ R) r)
theorem OkM.length : ∀ {as : List Arg} {os : List (Option D)} {vs : List V} {σ : St}, OkM as os vs σ -> vs.length = as.length := by
 intro as
 induction as with
 | nil =>
  intro os vs σ ok;cases os with
  | nil => cases vs with
   | nil => rfl
   | cons _ _ => exact ok.elim
  | cons _ _ => exact ok.elim
 | cons a as ih =>
  intro os vs σ ok;cases os with
  | nil => cases a <;> exact ok.elim
  | cons o os => cases vs with
   | nil => cases a <;> cases o <;> exact ok.elim
   | cons v vs => cases a with
    | bo i => cases o with
     | some _ => exact ok.elim
     | none => exact congrArg (· + 1) (ih (os := os) (vs := vs) ok.2)
    | ex _ => cases o with
     | none => exact ok.elim
     | some _ => exact congrArg (· + 1) (ih (os := os) (vs := vs) (σ := σ) ok)
theorem De {n : Nat} {g : GF} {E : XK} {σ : St} {H : Hp} {Q : VK} (hn : as.length = n) (h : rE K (aN g as) σ H Q) : uR (dd K n g) [] E (rM K as) σ H Q := by
 obtain ⟨F, R, σD, d, σD', r, ec, k⟩ := h;unfold aN at ec;rcases h1 : mI as σD with _ | ⟨os, σ1⟩
 ·rw [h1] at ec; cases ec
 ·rw [h1] at ec; simp only [bind_some] at ec
  rcases h2 : fN as os σ1 with _ | ⟨ds, σ2⟩
  ·rw [h2] at ec; cases ec
  ·rw [h2] at ec; simp only [bind_some] at ec
   obtain ⟨⟨d', ds'⟩, e2, e3⟩ := bP ec;cases e3;refine ⟨F, R, σD, os, σ1, r, h1, fun F1 H1 vs x1 ok r1 => ?_⟩;obtain ⟨l, r2⟩ := AA ok h2 r1;have lv : vs.length = n := by rw [<- hn]; exact ok.length
   refine ⟨by simpa using lv, F1, sl σ2 σ ++ R, ds, _, ds', by simpa using l, ?_, e2, fun F2 H2 v x2 l2 g2 => ?_⟩
   ·rw [List.append_nil]
    exact r2.g.perm (by rw [<- List.append_assoc, <- List.append_assoc]; exact List.perm_append_comm.append_right R)
   ·refine k F2 H2 v (x1.trans x2) ?_
    rw [List.append_nil] at l2 g2;refine AF (R := (_, v) :: R) ok l2 ⟨r2.mt, g2.perm ?_⟩;exact ((pull (x := (_, v)) (A := sl σ2 σ) (B := ds'.zip vs) (C := R)).trans ((List.perm_append_comm_assoc _ _ _).cons _)).symm
theorem aw {k : Nat} {f : Addr} {fd : FuncData} {ps : List Str} {g : GF} {x : Str} {p pos : Pos} (F : ck X.prog X.w X.K X.mg X.base dc k f fd ps (dd X.K ps.length g)) (hr : Room k X.A) (hg : Gl X x) (hm : X.mg x = some (.ref f)) (hk : keepIn X.K (.ref f) = true) (hb : Binds X.K fd ps [])
  (ha : QM X (e :: es) as) (hn : autoParam (as.length = ps.length) aI._auto_1) (hdb : autoParam ((x == ("__debug__" : Str)) = false) cG._auto_1) (he : autoParam (starEach (e :: es) X.env = (false, eval e X.env) :: starEach es X.env) aI._auto_1) (hpl : autoParam ((backTo pos (starEach es X.env)).any (·.1) = false) aI._auto_1) :
  QE X (.Call (.Name x p) (e :: es) [] pos) (aN g as) := bc (tT (E := E0) F hr hg hm hk hb .nil yS ha hdb he hpl) fun _ _ _ h => De hn h
end
end DD
namespace L2
open PySem PySem.Spec PyProof.Rows
theorem n8 : ∀ (names : List (Str × NameKind)) (n : Nat) (acc : List (Str × Addr)), ∃ own, cellsFrom n names acc = own ++ acc /\ (∀ p ∈ own, n <= p.2 /\ (p.1, NameKind.cell) ∈ names) /\
  (∀ x, (x, NameKind.cell) ∈ names -> ∃ c, (x, c) ∈ own) /\ own.Pairwise fun x y => x.2 ≠ y.2
 | [], n, acc => ⟨[], rfl, (fun _ h => by cases h), (fun _ h => by cases h), List.Pairwise.nil⟩
 | (name, kind) :: r, n, acc => by
  unfold cellsFrom;by_cases hk : kind = .cell
  ·subst hk
   obtain ⟨own, e, h1, h2, h3⟩ := n8 r (n + 1) ((name, n) :: acc);refine ⟨own ++ [(name, n)], ?_, ?_, ?_, ?_⟩
   ·rw [if_pos dC, e, List.append_assoc]; rfl
   ·intro p hp
    rcases List.mem_append.mp hp with hp | hp
    ·exact ⟨Nat.le_of_succ_le (h1 p hp).1, List.mem_cons_of_mem _ (h1 p hp).2⟩
    ·rw [List.mem_singleton.mp hp]; exact ⟨Nat.le_refl _, List.mem_cons_self⟩
   ·intro x hx
    rcases List.mem_cons.mp hx with hx | hx
    ·cases hx; exact ⟨n, List.mem_append_right _ List.mem_cons_self⟩
    ·obtain ⟨c, hc⟩ := h2 x hx; exact ⟨c, List.mem_append_left _ hc⟩
   ·refine List.pairwise_append.mpr ⟨h3, List.pairwise_singleton _ _, fun a ha b hb e => ?_⟩
    rw [List.mem_singleton.mp hb] at e;have h5 := (h1 a ha).1;rw [show a.2 = n from e] at h5;exact absurd h5 (Nat.not_succ_le_self n)
  ·obtain ⟨own, e, h1, h2, h3⟩ := n8 r n acc
   have hk' : (kind == NameKind.cell) = false := by cases kind <;> first | rfl | exact absurd rfl hk
   refine ⟨own, by rw [hk']; exact e, fun p hp => ⟨(h1 p hp).1, List.mem_cons_of_mem _ (h1 p hp).2⟩, fun x hx => ?_, h3⟩;rcases List.mem_cons.mp hx with hx | hx
   ·cases hx; exact absurd rfl hk
   ·exact h2 x hx
theorem n6 {scope : Scope} {env : Env} (h : ∀ x, (x, NameKind.free) ∈ scope.names -> ∃ c, env.cells.lookup x = some c) :
  ∃ cl, closureFor scope env = pure cl /\ (∀ p ∈ cl, env.cells.lookup p.1 = some p.2) /\ ∀ x, (x, NameKind.free) ∈ scope.names -> ∃ c, (x, c) ∈ cl := by
 have all : ∀ (names : List (Str × NameKind)) (acc : List (Str × Addr)), (∀ x, (x, NameKind.free) ∈ names -> ∃ c, env.cells.lookup x = some c) -> (∀ p ∈ acc, env.cells.lookup p.1 = some p.2) ->
   ∃ cl, (forIn (m := Sem) names acc fun (p : Str × NameKind) (cs : List (Str × Addr)) => if (p.2 == NameKind.free) = true then do let __do_lift <- cellOf env p.1; pure (ForInStep.yield ((p.1, __do_lift) :: cs)) else pure (ForInStep.yield cs)) = pure cl /\
    (∀ p ∈ cl, env.cells.lookup p.1 = some p.2) /\ (∀ p ∈ acc, p ∈ cl) /\ ∀ x, (x, NameKind.free) ∈ names -> ∃ c, (x, c) ∈ cl := by
  intro names
  induction names with
  | nil => intro acc _ ha; exact ⟨acc, by rw [List.forIn_nil], ha, fun _ h => h, (fun _ h => by cases h)⟩
  | cons p r ih =>
   obtain ⟨name, kind⟩ := p;intro acc hn ha;by_cases hk : kind = .free
   ·subst hk
    obtain ⟨c, hc⟩ := hn name List.mem_cons_self;obtain ⟨cl, e, h1, h2, h3⟩ := ih ((name, c) :: acc) (fun x hx => hn x (List.mem_cons_of_mem _ hx)) (fun p hp => by
     rcases List.mem_cons.mp hp with rfl | hp
     ·exact hc
     ·exact ha p hp)
    refine ⟨cl, ?_, h1, fun p hp => h2 p (List.mem_cons_of_mem _ hp), fun x hx => ?_⟩
    ·rw [List.forIn_cons]
     have ec : cellOf env name = pure c := by unfold cellOf; rw [hc]
     simp only [ec];exact e
    ·rcases List.mem_cons.mp hx with hx | hx
     ·cases hx; exact ⟨c, h2 _ List.mem_cons_self⟩
     ·exact h3 x hx
   ·obtain ⟨cl, e, h1, h2, h3⟩ := ih acc (fun x hx => hn x (List.mem_cons_of_mem _ hx)) ha
    have hk' : (kind == NameKind.free) = false := by cases kind <;> first | rfl | exact absurd rfl hk
    refine ⟨cl, ?_, h1, h2, fun x hx => ?_⟩
    ·rw [List.forIn_cons]; simp only [hk', Bool.false_eq_true, if_false]; exact e
    ·rcases List.mem_cons.mp hx with hx | hx
     ·cases hx; exact absurd rfl hk
     ·exact h3 x hx
 obtain ⟨cl, e, h1, _, h3⟩ := all scope.names [] h (fun _ h => by cases h);refine ⟨cl, ?_, h1, h3⟩;simp only [closureFor];rw [e];rfl
theorem xU {M : Model} {A : Around} {E : Value -> Shared -> Prop} {s : Shared} {scope : Scope} {env : Env} {cl : List (Str × Addr)} {Q : Env -> Shared -> Prop}
  (hQ : Q (newEnv scope s.heap.objs.size env.globals (cellsFrom (s.heap.objs.size + 1) scope.names cl) env.qual none .none (some env) builtinsNs) { s with heap := pushCells (s.heap.push { cls := .type "dict", data := .dict #[] }) scope.names }) :
  wpAny M A (newFunctionEnv scope env.globals cl [] env.qual none .none (some env)) Q E s := by
 simp only [newFunctionEnv, Option.isSome_some, if_true];refine wpAny_bind (wpAny_alloc ?_);refine wpAny_bind (wpAny_layCells _ (fun name kind cells => by cases hkc : kind == NameKind.cell <;> simp [hkc]) _ _ _ _ ?_);rw [show ({ s with heap := s.heap.push { cls := .type "dict", data := .dict #[] } } : Shared).heap.objs.size = s.heap.objs.size + 1 from Heap.size_push ..];refine wpAny_bind ?_;rw [List.forIn_nil];exact wpAny_pure (wpAny_pure hQ)
noncomputable def cS (X : Cx) (N' : List Str) (scope : Scope) (cl : List (Str × Addr)) (s : Shared) (H : Hp) (fp : List Addr) (aa : List (Addr × Obj)) : Cx :=
 { X with N := N', s₀ := s, H₀ := H, env := compEnvC scope (cellsFrom (s.heap.objs.size + 1) scope.names cl) s.heap.objs.size X.env, outer := X.stack, stack := X.stack, ex := fp,
          fn := fun x => scope.names.lookup x == some .cell, pn := X.pn ++ aa, xe := fun _ _ => False }
structure lV (X : Cx) (N' : List Str) (scope : Scope) : Prop where
 kind : scope.kind = .function
 nd : (scope.names.map (·.1)).Nodup
 len : X.N.length <= N'.length
 free : ∀ x, (x, NameKind.free) ∈ scope.names -> X.env.kindOf x = some .cell \/ X.env.kindOf x = some .free
 same : ∀ i x, i < X.N.length -> N'[i]? = some x -> (x, NameKind.free) ∈ scope.names -> X.N[i]? = some x
 hid : ∀ i x, i < X.N.length -> N'[i]? = some x -> (∃ k, (x, k) ∈ scope.names) -> (x, NameKind.free) ∈ scope.names
theorem eP {α : Type} : ∀ {l : List (Str × α)} {x : Str} {k : α}, (l.map (·.1)).Nodup -> (x, k) ∈ l -> l.lookup x = some k
 | (y, j) :: r, x, k, nd, h => by
  rw [List.map_cons, List.nodup_cons] at nd;rcases List.mem_cons.mp h with h | h
  ·cases h; rw [List.lookup_cons]; simp
  ·have ne : x ≠ y := fun e => nd.1 (e ▸ List.mem_map_of_mem (f := (·.1)) h)
   rw [List.lookup_cons];have : (x == y) = false := by simpa using ne
   rw [this];exact eP nd.2 h
theorem iw {α : Type} : ∀ {l : List (Str × α)} {x : Str} {k : α}, (x, k) ∈ l -> ∃ k', l.lookup x = some k'
 | (y, j) :: r, x, k, h => by
  rw [List.lookup_cons];cases hb : x == y with
  | true => exact ⟨j, rfl⟩
  | false =>
   rcases List.mem_cons.mp h with h | h
   ·cases h; simp at hb
   ·exact iw h
theorem hZ {scope : Scope} {env : Env} {x : Str} {k : NameKind} (h : (relabel scope env).names.lookup x = some k) : (x, k) ∈ scope.names \/ ((x, NameKind.free) ∈ scope.names /\ k = .cell) := by
 have h1 := mem_of_lookup h;unfold relabel at h1;obtain ⟨⟨n, j⟩, hm, e⟩ := List.mem_map.mp h1;dsimp only at e;split at e
 ·rename_i hc
  cases e;refine .inr ⟨?_, rfl⟩;have : j = .free := by
   cases j <;> simp at hc <;> rfl
  subst this; exact hm
 ·cases e; exact .inl hm
theorem qi {α : Type} {a b : List (Str × α)} {x : Str} (h : ∀ p ∈ a, p.1 ≠ x) : (a ++ b).lookup x = b.lookup x := by
 induction a with
 | nil => rfl
 | cons p r ih =>
  obtain ⟨y, j⟩ := p;rw [List.cons_append, List.lookup_cons];have : (x == y) = false := by
   have := h (y, j) List.mem_cons_self
   simpa using fun e : x = y => this e.symm
  rw [this];exact ih fun p hp => h p (List.mem_cons_of_mem _ hp)
section
variable {X : Cx} {N' : List Str} {scope : Scope} {cl : List (Str × Addr)} {s : Shared} {H : Hp} {fp : List Addr} {aa : List (Addr × Obj)} {σ : St}
theorem yy (T : lV X N' scope) (I : Inv X aa σ H s) (hcl : ∀ p ∈ cl, X.env.cells.lookup p.1 = some p.2) (hfr : ∀ x, (x, NameKind.free) ∈ scope.names -> ∃ c, (x, c) ∈ cl)
  (hf : ∀ b ∈ fp, fg X aa H b) (ho : ∀ b ∈ fp, ∃ o, s.heap.get? b = some o) :
  Inv (cS X N' scope cl s H fp aa) [] (σ ++ List.replicate (N'.length - X.N.length) none) H { s with heap := pushCells (s.heap.push { cls := .type "dict", data := .dict #[] }) scope.names } := by
 obtain ⟨own, eo, o1, o2, o3⟩ := n8 scope.names (s.heap.objs.size + 1) cl;have keep : ∀ b o, s.heap.get? b = some o -> (pushCells (s.heap.push { cls := .type "dict", data := .dict #[] }) scope.names).get? b = some o := fun b o e => pushCells_keeps _ _ b o (Heap.get?_push_of_some _ e)
 have clt : ∀ x c, (x, c) ∈ cl -> c < s.heap.objs.size := fun x c h => by
  obtain ⟨v, z⟩ := I.cell x c (hcl _ h);exact z.lt
 -- what a cell of the block is
 have cases_ : ∀ x c, (own ++ cl).lookup x = some c -> (s.heap.objs.size + 1 <= c /\ (x, c) ∈ own) \/ X.env.cells.lookup x = some c := fun x c h => by
  rcases List.mem_append.mp (mem_of_lookup h) with h | h
  ·exact .inl ⟨(o1 _ h).1, h⟩
  ·exact .inr (hcl _ h)
 have hst : ∀ b ∈ fp, b ∉ j2 X.stack := fun b hb z => by
  rcases List.mem_cons.mp (I.stkSub b z) with e | e
  ·exact (hf b hb).2.1 e
  ·exact (hf b hb).2.2.1 e
 have okc : CellsOk (pushCells (s.heap.push { cls := .type "dict", data := .dict #[] }) scope.names) (s.heap.objs.size + 1) (cellsFrom (s.heap.objs.size + 1) scope.names []) := by
  have q := cellsFrom_ok scope.names (s.heap.push { cls := .type "dict", data := .dict #[] }) (s.heap.objs.size + 1) [] ⟨(fun _ _ hm => by cases hm), List.Pairwise.nil⟩ (by rw [Heap.size_push]; exact Nat.le_refl _);rw [Heap.size_push] at q;exact q
 have eown : cellsFrom (s.heap.objs.size + 1) scope.names [] = own := by
  obtain ⟨own', e', _⟩ := n8 scope.names (s.heap.objs.size + 1) [];have gen : ∀ (names : List (Str × NameKind)) (n : Nat) (acc : List (Str × Addr)), cellsFrom n names acc = cellsFrom n names [] ++ acc := by
   intro names
   induction names with
   | nil => intro n acc; rfl
   | cons p r ih =>
    obtain ⟨name, kind⟩ := p;intro n acc;unfold cellsFrom;split
    ·rw [ih (n + 1) ((name, n) :: acc), ih (n + 1) [(name, n)], List.append_assoc]; rfl
    ·exact ih n acc
  have := gen scope.names (s.heap.objs.size + 1) cl
  rw [eo] at this;exact (List.append_cancel_right this).symm
 have ok : (cS X N' scope cl s H fp aa).Ok := by
  refine ⟨I.ok.mod, T.kind, I.ok.glob, I.ok.blt, Nat.le_refl _, fun x y c h1 h2 => ?_, fun x h => ?_, fun x c h1 h2 => ?_, I.ok.hd, I.ok.frames, .inl rfl, fun b hb => ⟨?_, fun x c h => ?_⟩, I.bs, Nat.le_trans I.ok.bsz I.sz, fun b o e hb => ?_, hst, I.stack, I.stkFree⟩
  ·have h1 : (own ++ cl).lookup x = some c := eo ▸ h1
   have h2 : (own ++ cl).lookup y = some c := eo ▸ h2;rcases cases_ x c h1 with ⟨l1, m1⟩ | e1
   ·rcases cases_ y c h2 with ⟨l2, m2⟩ | e2
    ·exact name_of_addr o3 m1 m2
    ·obtain ⟨v, z⟩ := I.cell y c e2
     exact absurd (Nat.lt_of_lt_of_le z.lt (Nat.le_of_succ_le (by first | exact l2 | exact l1))) (Nat.lt_irrefl _)
   ·rcases cases_ y c h2 with ⟨l2, m2⟩ | e2
    ·obtain ⟨v, z⟩ := I.cell x c e1
     exact absurd (Nat.lt_of_lt_of_le z.lt (Nat.le_of_succ_le (by first | exact l2 | exact l1))) (Nat.lt_irrefl _)
    ·exact I.ok.inj x y c e1 e2
  ·show ∃ c, (cellsFrom (s.heap.objs.size + 1) scope.names cl).lookup x = some c
   rw [eo];have fromFree : (x, NameKind.free) ∈ scope.names -> ∃ c, (own ++ cl).lookup x = some c := fun hm => by
    obtain ⟨c, hc⟩ := hfr x hm;exact iw (List.mem_append_right own hc)
   have fromCell : (x, NameKind.cell) ∈ scope.names -> ∃ c, (own ++ cl).lookup x = some c := fun hm => by
    obtain ⟨c, hc⟩ := o2 x hm;exact iw (List.mem_append_left cl hc)
   rcases h with h | h
   ·rcases hZ h with h | ⟨h, _⟩
    ·exact fromCell h
    ·exact fromFree h
   ·rcases hZ h with h | ⟨h, e⟩
    ·exact fromFree h
    ·cases e
  ·have h2 : (own ++ cl).lookup x = some c := eo ▸ h2
   have hc : scope.names.lookup x = some .cell := by
    have : (scope.names.lookup x == some NameKind.cell) = true := h1;simpa using this
   rcases cases_ x c h2 with ⟨l1, m1⟩ | e1
   ·exact Nat.le_of_succ_le l1
   ·-- x is one of the block's own: its cell stands ahead
    obtain ⟨c', hc'⟩ := o2 x (mem_of_lookup hc);obtain ⟨c2, hc2⟩ := iw hc';have : (own ++ cl).lookup x = some c2 := by
     have gen : ∀ l : List (Str × Addr), l.lookup x = some c2 -> (l ++ cl).lookup x = some c2 := by
      intro l
      induction l with
      | nil => intro h; cases h
      | cons p r ih =>
       obtain ⟨y, j⟩ := p;intro h;rw [List.cons_append, List.lookup_cons];rw [List.lookup_cons] at h;cases hb : x == y with
       | true => rw [hb] at h; exact h
       | false => rw [hb] at h; exact ih h
     exact gen own hc2
    rw [this] at h2;cases h2;exact Nat.le_of_succ_le (o1 _ (mem_of_lookup hc2)).1
  ·obtain ⟨o, e⟩ := ho b hb
   exact Nat.ne_of_lt (Heap.lt_size e)
  ·have h : (own ++ cl).lookup x = some c := eo ▸ h
   obtain ⟨o, e⟩ := ho b hb;have hlt := Heap.lt_size e;rcases cases_ x c h with ⟨l1, m1⟩ | e1
   ·intro z
    rw [z] at l1;exact absurd (Nat.lt_of_lt_of_le hlt (Nat.le_of_succ_le l1)) (Nat.lt_irrefl _)
   ·exact (hf b hb).2.2.2.2.1 x c e1
  ·rcases (hf b hb).2.2.2.1 with z | z
   ·exact I.ok.noex b o e z
   ·exact absurd (Nat.lt_of_lt_of_le (Heap.lt_size e) (Nat.le_trans I.ok.bsz z)) (Nat.lt_irrefl _)
 refine ⟨ok, rfl, I.bare, Un.kept keep, ⟨fun _ => none, (Heap.Ns.new s.heap (.type "dict")).keeps (pushCells_keeps _ _), fun i x v e1 e2 e3 => ?_⟩, fun x c h => ?_, I.hok.fresh (Nat.le_refl _), fun x c h => ?_, fun p hp => ?_, I.hok.kept keep, ?_⟩
 ·-- a name of the code around
  have hlen := I.len;have hi : i < σ.length := by
   rcases Nat.lt_or_ge i σ.length with h | h
   ·exact h
   ·rw [List.getElem?_append_right h] at e2
    rw [List.getElem?_replicate] at e2;split at e2 <;> cases e2
  rw [List.getElem?_append_left hi] at e2;have hmem : ∃ k, (x, k) ∈ scope.names := by
   have : ∃ k, (relabel scope X.env).names.lookup x = some k := by
    rcases e3 with h | h | h <;> exact ⟨_, h⟩
   obtain ⟨k, h⟩ := this;rcases hZ h with h | ⟨h, _⟩ <;> exact ⟨_, h⟩
  have hfree := T.hid i x oM e1 hmem;have eX := T.same i x oM e1 hfree;have kX := T.free x hfree;obtain ⟨m, hn, hl⟩ := I.loc;obtain ⟨u, ru, lk⟩ := hl i x v eX e2 (by rcases kX with h | h; exact .inr (.inl h); exact .inr (.inr h));refine ⟨u, ru, .inr ⟨?_, ?_⟩⟩
  ·-- its kind in the block
   have : ∃ k, (relabel scope X.env).names.lookup x = some k := by
    rcases e3 with h | h | h <;> exact ⟨_, h⟩
   obtain ⟨k, h⟩ := this;rcases hZ h with h' | ⟨h', e⟩
   ·have e5 := eP T.nd h'
    have e6 := eP T.nd hfree;rw [e5] at e6;cases e6;exact .inr h
   ·subst e; exact .inl h
  ·rcases lk with ⟨k1, _⟩ | ⟨_, c, hc, z⟩
   ·rcases kX with h | h <;> rw [h] at k1 <;> cases k1
   ·refine ⟨c, ?_, z.keeps keep⟩
    show (cellsFrom (s.heap.objs.size + 1) scope.names cl).lookup x = some c;rw [eo, qi fun p hp e => ?_]
    ·obtain ⟨c', hc'⟩ := hfr x hfree
     obtain ⟨c2, hc2⟩ := iw hc'
     have := hcl _ (mem_of_lookup hc2)
     rw [hc] at this;cases this;exact hc2
    ·have e5 := eP T.nd (o1 p hp).2
     rw [e] at e5;have e6 := eP T.nd hfree;rw [e5] at e6;cases e6
 ·have h : (own ++ cl).lookup x = some c := eo ▸ h
  rcases cases_ x c h with ⟨l1, m1⟩ | e1
  ·exact ⟨none, (okc.empty x c (eown ▸ m1)).1⟩
  ·obtain ⟨v, z⟩ := I.cell x c e1
   exact ⟨v, z.keeps keep⟩
 ·have h : (own ++ cl).lookup x = some c := eo ▸ h
  rcases cases_ x c h with ⟨l1, m1⟩ | e1
  ·exact I.hok.fresh (Nat.le_of_succ_le l1)
  ·exact I.freeC x c e1
 ·rw [List.append_nil] at hp
  obtain ⟨e, n, ne, nf, d⟩ := I.pin p hp;refine ⟨keep _ _ e, n, Nat.ne_of_lt (Heap.lt_size e), fun z => ?_, d⟩;rcases List.mem_cons.mp (I.stkSub p.1 z) with z | z
  ·exact ne z
  ·exact nf z
 ·show (σ ++ List.replicate (N'.length - X.N.length) none).length = N'.length
  rw [List.length_append, List.length_replicate, I.len]
  have := T.len
  omega
theorem Cs {σ1 : St} {H1 : Hp} {s1 : Shared} {h' : Heap} {pins1 : List (Addr × Obj)} (I : Inv X aa σ H s) (hf : ∀ b ∈ fp, fg X aa H b) (I1 : Inv (cS X N' scope cl s H fp aa) pins1 σ1 H1 s1) (hs : Heap.SameBut s.heap.objs.size s1.heap h') :
  Inv X aa σ H1 { s1 with heap := h' } := by
 have hC : ∀ b o, s.heap.get? b = some o -> b ≠ s.heap.objs.size := fun b o e => Nat.ne_of_lt (Heap.lt_size e)
 have u := I1.base;have u2 : Un (j2 X.stack) fp H H1 s.heap h' := by
  refine ⟨fun b o e n hb hx => ?_, fun b o e n hb hx => ?_, u.free, fun b o e hx => ?_, u.tups, u.frzs, u.tbls⟩
  ·rw [hs.2 b (hC b o e)]; exact u.keep b o e n hb hx
  ·obtain ⟨sl, q⟩ := u.slot b o e n hb hx
   exact ⟨sl, by rw [hs.2 b (hC b o e)]; exact q⟩
  ·obtain ⟨o', q⟩ := u.there b o e hx
   exact ⟨o', by rw [hs.2 b (hC b o e)]; exact q⟩
 have hCf : H1 s.heap.objs.size = none := I1.free;refine I.call' (s' := { s1 with heap := h' }) I1.os u2 (fun b o e => ?_) I1.bare fun b hb => ⟨(hf b hb).2.2.2.1, (hf b hb).2.1, (hf b hb).2.2.2.2.1, (hf b hb).2.2.2.2.2⟩
 refine (I1.hok b o e).stay (fun c v hc q => (hs.2 c ?_).trans q) (fun _ q => q) fun _ _ q => q
 rintro rfl;rcases hc with z | z
 ·rw [<- z, hCf] at e; cases e
 ·rw [hCf] at z; cases z
noncomputable def uE (X : Cx) (ifs : List Expr) (t : TT) : Prop :=
 ∀ (aa : List (Addr × Obj)) (s : Shared) (σ : St) (H : Hp) (Q : Bool -> Hp -> Prop), Inv X aa σ H s -> t σ H Q ->
  wpAny (model X.prog X.w) X.A (forIn ifs true fun c r => if r = true then do let ok <- isTrue c X.env (eval c X.env); pure (ForInStep.yield ok) else pure (ForInStep.yield r)) (TP X aa σ Q) X.xe s
theorem zV : uE X [] (fun _ H Q => Q true H) := fun aa s σ H Q I h => wpAny_tests_nil ⟨H, I, h⟩
theorem zU {c : Expr} {t : TT} (h : PT X c t) : uE X [c] t := fun aa s σ H Q I h' => wpAny_tests_one (h aa s σ H Q I h')
noncomputable def jQ (k : Nat) (wi : TI) (g : TG) (tt : TT) (te : TE) : TE := fun σ H Q => wi σ H fun J H1 => ∀ p, H1 p = none ->
 ∃ W : Nat -> Nat -> St -> Hp -> Prop, (∃ m, W 0 m (σ ++ List.replicate k none) (aO H1 p (.lst []))) /\ ∀ i m σ' H', W i m σ' H' ->
  (J.stop i H' /\ Q (.ref p) H') \/ (J.go i H' /\ ∀ x H2, J.yld i H' x H2 -> g x σ' H2 fun σ2 H3 => tt σ2 H3 fun ok H4 => if ok = true then
   te σ2 H4 fun y H5 => ∃ ys, H5 p = some (.lst ys) /\ ys.length < sizeLine /\ ∃ m', m' < m /\ W (i + 1) m' σ2 (aO H5 p (.lst (ys ++ [y])))
   else ∃ m', m' < m /\ W (i + 1) m' σ2 H4)
theorem sE {prog : Program} {w : World} {A : Around} {R : Result -> Shared -> Prop} {s : Shared} {elt target iter : Expr} {ifs : List Expr} {scope : Scope} {pos : Pos} {it acc : Value} {env : Env} (I : Nat -> Shared -> Prop)
  (turn : ∀ n s, I n s -> wpAny (model prog w) A (pyNext it) (fun r s₁ => match r with
   | none => R (.ok .next) s₁
   | some v => wpAny (model prog w) A (letOwnedTupleGo target it v) (fun _ s₁' => wpAny (model prog w) A (assign target env v) (fun _ s₂ =>
     wpAny (model prog w) A (forIn ifs true fun c r => if r = true then do let ok <- isTrue c env (eval c env); pure (ForInStep.yield ok) else pure (ForInStep.yield r)) (fun ok s₃ =>
      if ok = true then wpAny (model prog w) A (eval elt env) (fun x s₄ =>
       wpAny (model prog w) A (call (.builtin "list.append") [acc, x]) (fun _ s₅ => ∃ m, m < n /\ I m s₅) (fun _ _ => False) s₄) (fun _ _ => False) s₃
      else ∃ m, m < n /\ I m s₃) (fun _ _ => False) s₂) (fun _ _ => False) s₁') (fun _ _ => False) s₁) (fun _ _ => False) s)
  (n : Nat) (h : I n s) : codeAny (model prog w) A (.compLoop (.ListComp elt [⟨target, iter, ifs, 0⟩] scope pos) 0 it acc env) R s := by
 refine codeAny_loop rfl I (fun n s hI => ?_) n h;show wpAny _ A ((compTurn (.ListComp elt [⟨target, iter, ifs, 0⟩] scope pos) 0 it acc env).onRaise (fun x => do noteFrame x env; theTreesLotGoes x)) _ _ s;refine wpAny_noted ?_;rw [compTurn_list];refine wpAny_bind (wpAny_standAt (wpAny_bind (wpAny_mono (turn n s hI) (fun r s₁ h₁ => ?_) fun _ _ h' => h'.elim)));cases r with
 | none => exact wpAny_pure h₁
 | some v =>
  refine wpAny_bind (wpAny_mono h₁ (fun _ s₁' h₁' => ?_) fun _ _ h' => h'.elim);refine wpAny_bind (wpAny_mono h₁' (fun _ s₂ h₂ => wpAny_bind (wpAny_mono h₂ (fun ok s₃ h₃ => ?_) fun _ _ h' => h'.elim)) fun _ _ h' => h'.elim);cases ok with
  | false => exact wpAny_pure ⟨rfl, h₃⟩
  | true =>
   exact wpAny_bind (wpAny_bind (wpAny_mono h₃ (fun x s₄ h₄ => wpAny_bind (wpAny_mono h₄ (fun _ s₅ h₅ => wpAny_pure (wpAny_pure ⟨rfl, h₅⟩)) fun _ _ h' => h'.elim)) fun _ _ h' => h'.elim))
theorem rZ {elt iter tg : Expr} {ifs : List Expr} {pos : Pos} {g : TG} {tt : TT} {te : TE} {J : It} {it : Addr} {tn : Nat -> Heap -> Prop} {Q : VK} {E : Value -> Shared -> Prop} {RR : Value -> Addr -> Result -> Shared -> Prop}
  (hc : X.calm = true) (T : lV X N' scope) (hcl : ∀ p ∈ cl, X.env.cells.lookup p.1 = some p.2) (hfr : ∀ x, (x, NameKind.free) ∈ scope.names -> ∃ c, (x, c) ∈ cl)
  (hg : ∀ cl s H fp aa, PG (cS X N' scope cl s H fp aa) tg g) (ht : ∀ cl s H fp aa, uE (cS X N' scope cl s H fp aa) ifs tt) (he : ∀ cl s H fp aa, PE (cS X N' scope cl s H fp aa) elt te)
  (I : Inv X aa σ H s) (Tn : nh X.prog X.w X.K tg J fp it tn) (st0 : tn 0 s.heap) (hf : ∀ b ∈ fp, fg X aa H b)
  (h : ∀ p, H p = none -> ∃ W : Nat -> Nat -> St -> Hp -> Prop, (∃ m, W 0 m (σ ++ List.replicate (N'.length - X.N.length) none) (aO H p (.lst []))) /\ ∀ i m σ' H', W i m σ' H' ->
   (J.stop i H' /\ Q (.ref p) H') \/ (J.go i H' /\ ∀ x H2, J.yld i H' x H2 -> g x σ' H2 fun σ2 H3 => tt σ2 H3 fun ok H4 => if ok = true then
    te σ2 H4 fun y H5 => ∃ ys, H5 p = some (.lst ys) /\ ys.length < sizeLine /\ ∃ m', m' < m /\ W (i + 1) m' σ2 (aO H5 p (.lst (ys ++ [y])))
    else ∃ m', m' < m /\ W (i + 1) m' σ2 H4))
  (hRR : ∀ p C s1 H1, Inv X aa σ H1 s1 -> Q (.ref p) H1 -> (∃ m, s1.heap.Ns C m) -> H1 C = none -> s.heap.objs.size <= C -> RR (.ref p) C (.ok .next) s1) :
  wpAny (model X.prog X.w) X.A (newList []) (fun acc s₃ => wpAny (model X.prog X.w) X.A (newFunctionEnv scope X.env.globals cl [] X.env.qual none .none (some X.env)) (fun cenv s₄ =>
   codeAny (model X.prog X.w) X.A (.compStart (.ListComp elt [⟨tg, iter, ifs, 0⟩] scope pos) 0 (.ref it) acc { cenv with scope := relabel scope X.env }) (RR acc cenv.locals) s₄) E s₃) E s := by
 refine wpAny_newObj_type (xU ?_);have hp : H s.heap.objs.size = none := I.fresh;obtain ⟨W, ⟨m0, w0⟩, turn⟩ := h _ hp;have I2 : Inv X aa σ (aO H s.heap.objs.size (.lst [])) { s with heap := s.heap.push { cls := .type "list", data := .seq ([] : List Value).toArray } } := Inv.lnew (t' := s.toks) (its := []) (ys := []) I .nil (Nat.zero_le _);have hf2 : ∀ b ∈ fp, fg X aa (aO H s.heap.objs.size (.lst [])) b := fun b hb => by
  obtain ⟨o, e, _⟩ := Tn.obj _ _ st0 b hb;exact ⟨by rw [aJ (Nat.ne_of_lt (Heap.lt_size e))]; exact (hf b hb).1, (hf b hb).2⟩
 have ho2 : ∀ b ∈ fp, ∃ o, (s.heap.push { cls := .type "list", data := .seq ([] : List Value).toArray } : Heap).get? b = some o := fun b hb => by
  obtain ⟨o, e, _⟩ := Tn.obj _ _ st0 b hb;exact ⟨o, Heap.get?_push_of_some _ e⟩
 have I3 := yy T I2 hcl hfr hf2 ho2;have st3 : tn 0 (pushCells ((s.heap.push { cls := .type "list", data := .seq ([] : List Value).toArray }).push { cls := .type "dict", data := .dict #[] }) scope.names) :=
  Tn.keep _ _ _ st0 fun b hb o e => pushCells_keeps _ _ b o (Heap.get?_push_of_some _ (Heap.get?_push_of_some _ e))
 generalize hs2 : ({ s with heap := s.heap.push { cls := .type "list", data := .seq ([] : List Value).toArray } } : Shared) = s2 at I2 I3;have hC : s.heap.objs.size <= s2.heap.objs.size := by rw [<- hs2]; exact Nat.le_of_lt (by show _ < (s.heap.push _).objs.size; rw [Heap.size_push]; exact Nat.lt_succ_self _)
 have stat : ∀ {H' : Hp}, (∀ b ∈ fp, H' b = none) -> ∀ b ∈ fp, fg (cS X N' scope cl s2 (aO H s.heap.objs.size (.lst [])) fp aa) [] H' b := fun {H'} hn b hb => by
  refine ⟨hn b hb, (I3.ok.exf b hb).1, I3.ok.exfs b hb, .inl hb, (I3.ok.exf b hb).2, fun p hp => ?_⟩;rw [List.append_nil] at hp;exact (hf b hb).2.2.2.2.2 p hp
 have loop : ∀ s4, s4 = ({ s2 with heap := pushCells (s2.heap.push { cls := .type "dict", data := .dict #[] }) scope.names } : Shared) ->
   codeAny (model X.prog X.w) X.A (.compLoop (.ListComp elt [⟨tg, iter, ifs, 0⟩] scope pos) 0 (.ref it) (.ref s.heap.objs.size) (cS X N' scope cl s2 (aO H s.heap.objs.size (.lst [])) fp aa).env) (RR (.ref s.heap.objs.size) s2.heap.objs.size) s4 := by
  rintro s4 rfl;refine sE (fun n s' => ∃ i σ' H', Inv (cS X N' scope cl s2 (aO H s.heap.objs.size (.lst [])) fp aa) [] σ' H' s' /\ tn i s'.heap /\ (∀ b ∈ fp, H' b = none) /\ W i n σ' H') ?_ m0
   ⟨0, _, _, I3, by subst hs2; exact st3, fun b hb => (hf2 b hb).1, w0⟩
  rintro n s3 ⟨i, σ3, H3, I4, st4, fr4, w4⟩;rcases turn i n σ3 H3 w4 with ⟨stop, qn⟩ | ⟨go, step⟩
  ·refine bH (Tn.done (cS X N' scope cl s2 (aO H s.heap.objs.size (.lst [])) fp aa) rfl rfl rfl hc i [] s3 σ3 H3 (fun _ _ => False) I4 (stat fr4) st4 stop) fun r s5 ⟨hr, I5⟩ => ?_
   subst hr;obtain ⟨m, hn, _⟩ := I5.loc;exact hRR _ _ s5 H3 (Cs I2 hf2 I5 (Heap.SameBut.refl _ _)) qn ⟨m, hn⟩ I5.free hC
  ·refine bH (Tn.item (cS X N' scope cl s2 (aO H s.heap.objs.size (.lst [])) fp aa) rfl rfl rfl hc i [] s3 σ3 H3 (fun _ _ => False) I4 (stat fr4) st4 go) fun r s5 ⟨u, hr, h5⟩ => ?_
   subst hr;refine bH h5 fun _ s6 ⟨x, H6, I6, r6, y6, st6, fr6⟩ => ?_
   have I6' := I6.pinned (stat fr6) (Tn.obj _ _ st6);have again : ∀ {σ7 : St} {H7 : Hp} {s7 : Shared} {m' : Nat}, Inv (cS X N' scope cl s2 (aO H s.heap.objs.size (.lst [])) fp aa) ([] ++ kZ fp s6.heap) σ7 H7 s7 -> m' < n -> W (i + 1) m' σ7 H7 ->
     ∃ m, m < n /\ ∃ i σ' H', Inv (cS X N' scope cl s2 (aO H s.heap.objs.size (.lst [])) fp aa) [] σ' H' s7 /\ tn i s7.heap /\ (∀ b ∈ fp, H' b = none) /\ W i m σ' H' := fun {σ7 H7 s7 m'} I7 hm w7 => by
    refine ⟨m', hm, i + 1, σ7, H7, I7.unpinned, Tn.keep _ _ _ st6 fun b hb o e => (I7.pin (b, o) (List.mem_append_right _ (List.mem_append_right _ (iO hb e)))).1, fun b hb => ?_, w7⟩;obtain ⟨o, e, d⟩ := Tn.obj _ _ st6 b hb;exact (I7.pin (b, o) (List.mem_append_right _ (List.mem_append_right _ (iO hb e)))).2.1
   refine bH (hg _ _ _ _ _ _ s6 σ3 H6 x u _ I6' r6 (step x H6 y6)) fun _ s7 ⟨σ7, H7, I7, q7⟩ => ?_
   refine bH (ht _ _ _ _ _ _ s7 σ7 H7 _ I7 q7) fun ok s8 ⟨H8, I8, q8⟩ => ?_
   cases ok with
   | false =>
    simp only [Bool.false_eq_true, if_false] at q8 ⊢;obtain ⟨m', hm, w8⟩ := q8;exact again I8 hm w8
   | true =>
    simp only [if_true] at q8 ⊢;refine bH (he _ _ _ _ _ _ s8 σ7 H8 _ I8 q8) fun y s9 ⟨yv, H9, I9, r9, ys, e9, l9, m', hm, w9⟩ => ?_
    refine bH (lg _ s9 σ7 H9 (.ref s.heap.objs.size) [yv] (.ref s.heap.objs.size) [y] (fun _ H' => H' = aO H9 s.heap.objs.size (.lst (ys ++ [yv]))) I9 rfl (.cons r9 .nil) ⟨_, ys, yv, rfl, rfl, e9, l9, rfl⟩) fun _ s10 ⟨_, H10, I10, _, Cq⟩ => ?_
    subst Cq;exact again I10 hm w9
 have st5 : tn 0 (pushCells (s2.heap.push { cls := .type "dict", data := .dict #[] }) scope.names) := by subst hs2; exact st3
 have fin := codeAny_compStart_list (loop _ rfl) (Tn.self X.A 0 _ _ (notedBy (model X.prog X.w) X.A (cS X N' scope cl s2 (aO H s.heap.objs.size (.lst [])) fp aa).env fun x s' => RR (.ref s.heap.objs.size) s2.heap.objs.size (.error x) s') st5 (loop _ rfl));subst hs2;exact fin
end
section
variable {X : Cx} {N' : List Str} {scope : Scope} {aa : List (Addr × Obj)} {σ : St} {elt iter tg : Expr} {ifs : List Expr} {pos : Pos} {wi : TI} {g : TG} {tt : TT} {te : TE}
theorem rY (T : lV X N' scope) : ∀ x ∈ scope.names, x.2 = .local -> scope.names.lookup x.1 = some .local := fun x hx e => by
 obtain ⟨n, k⟩ := x;cases e;exact eP T.nd hx
theorem Dn (hc : X.calm = true) (T : lV X N' scope) (hi : PI X tg iter wi) (hg : ∀ cl s H fp aa, PG (cS X N' scope cl s H fp aa) tg g) (ht : ∀ cl s H fp aa, uE (cS X N' scope cl s H fp aa) ifs tt)
  (he : ∀ cl s H fp aa, PE (cS X N' scope cl s H fp aa) elt te) (hs : autoParam (∀ x, foldedSetIterable iter X.env x = pure x) kP._auto_1) :
  PE X (.ListComp elt [⟨tg, iter, ifs, 0⟩] scope pos) (jQ (N'.length - X.N.length) wi g tt te) := by
 intro aa s σ H Q I h;obtain ⟨cl, hclos, hcl, hfr⟩ := n6 (scope := scope) (env := X.env) fun x hx => I.ok.has x (T.free x hx)
 rw [eval_ListComp];refine wpAny_comprehension_free (use := none) rfl hs hclos T.kind (rY T) (wpAny_mono (hi aa s σ H _ I h) (fun xv s1 h1 => wpAny_mono h1 (fun itv s2 h2 => ?_) fun _ _ e => e) fun _ _ e => e);obtain ⟨it, fp, tn, J, H2, rfl, I2, Tn, st2, f2, R⟩ := h2;refine rZ (Q := Q) (RR := fun acc C => compPost (model X.prog X.w) X.A X.xe none (EP X aa σ Q) acc C) hc T hcl hfr hg ht he I2 Tn st2 f2 R ?_;rintro p C s3 H3 I3 q ⟨m, hn⟩ hC hle;refine ⟨m, hn, fun h' hs' => ⟨.ref p, H3, ?_, rfl, q⟩⟩;refine I3.turned (t' := s3.toks) (it := C) (fun b o hb e => (hs'.2 b hb).trans e) hC ?_ (.inr (Nat.le_trans I2.sz hle)) (fun x c e => ?_) fun p hp => ?_
 ·exact Ne.symm (Nat.ne_of_lt (Nat.lt_of_lt_of_le I2.lt hle))
 ·obtain ⟨v, z⟩ := I2.cell x c e
  exact Nat.ne_of_lt (Nat.lt_of_lt_of_le z.lt hle)
 ·exact Nat.ne_of_lt (Nat.lt_of_lt_of_le (Heap.lt_size (I2.pin p hp).1) hle)
theorem vW {i : Nat} {y : Str} {py spos : Pos} (hN : X.N.Nodup) (hiN : X.N[i]? = some y) (hx : ou X.env.scope y) (hsw : swapsWith (.ListComp elt [⟨tg, iter, ifs, 0⟩] scope pos) (some (.Name y py)) spos.line X.env = pure true)
  (hc : X.calm = true) (T : lV X N' scope) (hi : PI X tg iter wi) (hg : ∀ cl s H fp aa, PG (cS X N' scope cl s H fp aa) tg g) (ht : ∀ cl s H fp aa, uE (cS X N' scope cl s H fp aa) ifs tt)
  (he : ∀ cl s H fp aa, PE (cS X N' scope cl s H fp aa) elt te) (hs : autoParam (∀ x, foldedSetIterable iter X.env x = pure x) kP._auto_1) (hf : autoParam (X.fn y = true \/ X.env.scope.names.lookup y = some .local) oC._auto_1) :
  PS X (.Assign [.Name y py] (.ListComp elt [⟨tg, iter, ifs, 0⟩] scope pos) spos) (xj (jQ (N'.length - X.N.length) wi g tt te) (nX i)) := by
 intro aa s σ H D I h;obtain ⟨cl, hclos, hcl, hfr⟩ := n6 (scope := scope) (env := X.env) fun x hx => I.ok.has x (T.free x hx)
 rw [exec_Assign_Name_used _ _ _ _ hsw];refine wpAny_bind (wpAny_standAt (wpAny_bind ?_));show wpAny _ X.A (do let _ <- comprehension (.ListComp elt [⟨tg, iter, ifs, 0⟩] scope pos) scope X.env _ (newList []) false (eval iter X.env) (some (assign (.Name y py) X.env))) _ _ s;refine wpAny_bind (wpAny_mono (wpAny_comprehension_free (use := some (assign (.Name y py) X.env)) (Q := fun _ s' => SP X aa D .next s') rfl hs hclos T.kind (rY T)
  (wpAny_mono (hi aa s σ H _ I h) (fun xv s1 h1 => wpAny_mono h1 (fun itv s2 h2 => ?_) fun _ _ e => e) fun _ _ e => e)) (fun _ s' hq => wpAny_pure (wpAny_pure hq)) fun _ _ e => e)
 obtain ⟨it, fp, tn, J, H2, rfl, I2, Tn, st2, f2, R⟩ := h2;refine rZ (Q := fun x H1 => nX i x σ H1 D.nx) (RR := fun acc C => compPost (model X.prog X.w) X.A X.xe (some (assign (.Name y py) X.env)) (fun _ s' => SP X aa D .next s') acc C) hc T hcl hfr hg ht he I2 Tn st2 f2 R ?_;rintro p C s3 H3 I3 q ⟨m, hn⟩ hC hle;have hCL : C ≠ X.env.locals := Ne.symm (Nat.ne_of_lt (Nat.lt_of_lt_of_le I2.lt hle));have hCc : ∀ x c, X.env.cells.lookup x = some c -> c ≠ C := fun x c e => by
  obtain ⟨v, z⟩ := I2.cell x c e;exact Nat.ne_of_lt (Nat.lt_of_lt_of_le z.lt hle)
 show wpAny _ X.A (assign (.Name y py) X.env (.ref p)) _ _ _;refine wpAny_assign_Name (pD (v := .ref p) I3 hN hiN hx rfl (fun s4 I4 ⟨a, sb, ha⟩ => ?_) hf);have hne : C ≠ a := by
  rcases ha with e | e
  ·rw [e]; exact hCL
  ·exact (hCc _ _ e).symm
 refine ⟨m, hn.sameBut sb hne, fun h' hs' => ⟨_, H3, ?_, q⟩⟩;refine I4.turned (t' := s4.toks) (it := C) (fun b o hb e => (hs'.2 b hb).trans e) hC hCL (.inr (Nat.le_trans I2.sz hle)) hCc fun p hp => ?_
 exact Nat.ne_of_lt (Nat.lt_of_lt_of_le (Heap.lt_size (I2.pin p hp).1) hle)
theorem kg {t t' : TI} (h : PI X tg iter t) (i : ∀ σ H R, t' σ H R -> t σ H R) : PI X tg iter t' := fun aa s σ H R I h' => h aa s σ H R I (i σ H R h')
end
end L2
namespace DD
open PySem PySem.Spec PyProof.Rows L2
structure oz (K : PySem.W.Frag) (J : It) (xs : List D) (F : Addr -> Prop) (H : Hp) : Prop where
 item : ∀ i d F1 H1, Ext F H F1 H1 -> (∀ a, F1 a -> ∃ o, H1 a = some o) -> xs[i]? = some d -> J.go i H1 /\ ∀ x H2, J.yld i H1 x H2 -> ∃ F2, Grow F1 H1 F2 H2 /\ Ow K F2 H2 d x []
 done : ∀ F1 H1, Ext F H F1 H1 -> J.stop xs.length H1
noncomputable abbrev DI := aF -> Option (List D × aF)
noncomputable def Fw (K : PySem.W.Frag) (c : DI) : TI := fun σ H R => ∃ F Ro σD xs σD', Rel K F H σD σ Ro /\ c σD = some (xs, σD') /\ ∀ F' H' J, Ext F H F' H' -> Rel K F' H' σD' σ Ro -> oz K J xs F' H' -> R J H'
noncomputable def QI (X : Cx) (tg iter : Expr) (c : DI) : Prop := PI X tg iter (Fw X.K c)
noncomputable def iF (c : DE) : DI := fun σ => (c σ).bind fun p => match p.1 with | .lst _ xs => some (D.fzL xs, p.2) | _ => none
noncomputable def nU (c : DA) : DI := fun σ => (c σ).bind fun p => match p.1 with | [.int j] => if qR j = true then some (i9 0 j, p.2) else none | _ => none
noncomputable def wA (c : DA) : DI := fun σ => (c σ).bind fun p => match p.1 with | [.int i, .int j] => if (qR i && qR j) = true then some (i9 i j, p.2) else none | _ => none
section
variable {X : Cx} {tg e a b : Expr} {c : DE} {ca : DA} {p1 pos1 : Pos}
theorem pL {K : PySem.W.Frag} {F : Addr -> Prop} {H : Hp} {lo hi : Int} : oz K (uJ lo (hi - lo).toNat) (i9 lo hi) F H where
 item := fun i d F1 H1 _ _ e => by
  have hl : (i9 lo hi).length = (hi - lo).toNat := by simp [i9]
  have hi' : i < (hi - lo).toNat := by rw [<- hl]; exact (List.getElem?_eq_some_iff.mp e).1
  have ed : d = .int (lo + i) := by
   unfold i9 at e;rw [List.getElem?_map, List.getElem?_range hi'] at e;exact (Option.some.inj e).symm
  subst ed;exact ⟨hi', fun x H2 hq0 => by obtain ⟨e1, e2⟩ := hq0; subst e1; subst e2; exact ⟨F1, Grow.refl, Ow.of_sc rfl⟩⟩
 done := fun F1 H1 _ => by show (hi - lo).toNat <= (i9 lo hi).length; simp [i9]
theorem Ej {α β : Type} {a : α} {vs : List β} (h : [a].length = vs.length) : ∃ v, vs = [v] := by
 cases vs with
 | nil => cases h
 | cons v vs => cases vs with
  | nil => exact ⟨v, rfl⟩
  | cons _ _ => simp at h
theorem FG {α β : Type} {a b : α} {vs : List β} (h : [a, b].length = vs.length) : ∃ v u, vs = [v, u] := by
 cases vs with
 | nil => cases h
 | cons v vs =>
  obtain ⟨u, rfl⟩ := Ej (a := a) (vs := vs) (Nat.succ.inj h);exact ⟨v, u, rfl⟩
theorem nz (hgl : Gl X "range") (hm : X.mg "range" = none) (ha : QA X [a] ca) (hs : autoParam (starEach [a] X.env = [(false, eval a X.env)]) aI._auto_1) : QI X tg (.Call (.Name "range" p1) [a] [] pos1) (nU ca) :=
 kg (vZ hgl hm ha hs) fun σ H R hq0 => by
  obtain ⟨F, Ro, σD, xs, σD', r, ec, k⟩ := hq0;unfold nU at ec;rcases h : ca σD with _ | ⟨ys, σ1⟩
  ·rw [h] at ec; cases ec
  ·rw [h] at ec; simp only [bind_some] at ec
   refine ⟨F, Ro, σD, ys, σ1, r, h, fun F1 H1 vs x1 hl r1 => ?_⟩;split at ec
   ·rename_i j
    split at ec
    ·rename_i hj
     cases ec;obtain ⟨v, rfl⟩ := Ej hl;have hv : v = .int j := (r1.bor (d := .int j) (v := v) (by simp)).int;subst hv;unfold qR at hj;simp only [decide_eq_true_eq] at hj;have q : oz X.K (uJ 0 (j - 0).toNat) (i9 0 j) F1 H1 := pL;rw [Int.sub_zero] at q;exact ⟨j, rfl, hj.1, hj.2, k F1 H1 _ x1 (r1.popN (S := [(D.int j, V.int j)])) q⟩
    ·cases ec
   ·cases ec
theorem Df (hgl : Gl X "range") (hm : X.mg "range" = none) (ha : QA X [a, b] ca) (hs : autoParam (starEach [a, b] X.env = [(false, eval a X.env), (false, eval b X.env)]) aI._auto_1) (hs2 : autoParam (starEach [b] X.env = [(false, eval b X.env)]) aI._auto_1) : QI X tg (.Call (.Name "range" p1) [a, b] [] pos1) (wA ca) :=
 kg (vY hgl hm ha hs hs2) fun σ H R hq0 => by
  obtain ⟨F, Ro, σD, xs, σD', r, ec, k⟩ := hq0;unfold wA at ec;rcases h : ca σD with _ | ⟨ys, σ1⟩
  ·rw [h] at ec; cases ec
  ·rw [h] at ec; simp only [bind_some] at ec
   refine ⟨F, Ro, σD, ys, σ1, r, h, fun F1 H1 vs x1 hl r1 => ?_⟩;split at ec
   ·rename_i i j
    split at ec
    ·rename_i hj
     cases ec;obtain ⟨v, u, rfl⟩ := FG hl;have hv : v = .int i := (r1.bor (d := .int i) (v := v) (by simp)).int;have hu : u = .int j := (r1.bor (d := .int j) (v := u) (by simp)).int;subst hv; subst hu;unfold qR at hj;simp only [Bool.and_eq_true, decide_eq_true_eq] at hj;exact ⟨i, j, rfl, ⟨hj.1.1, hj.1.2, hj.2.1, hj.2.2⟩, k F1 H1 _ x1 (r1.popN (S := [(D.int i, V.int i), (D.int j, V.int j)])) pL⟩
    ·cases ec
   ·cases ec
theorem yi {K : PySem.W.Frag} {F : Addr -> Prop} {H : Hp} {xs : List D} {a : Addr} {vs : List V} (fl : FL K F H a vs) (ol : OwL K F H xs vs []) : oz K (CN K a) xs F H where
 item := fun i d F1 H1 x1 _ e => by
  obtain ⟨w, La, Lx, Lb, e1, eL, o, _⟩ := ol.kid e;have eLx : Lx = [] := (List.append_eq_nil_iff.mp (List.append_eq_nil_iff.mp eL.symm).1).2;subst eLx;refine ⟨⟨vs, w, (fl.ext x1).sq, e1⟩, fun x H2 ⟨e2, hx⟩ => ?_⟩;subst e2
  have := hx vs (fl.ext x1).sq
  rw [e1] at this;cases this;exact ⟨F1, Grow.refl, o.mono x1 (fun a ha => by cases ha)⟩
 done := fun F1 H1 x1 => ⟨vs, (fl.ext x1).sq, by rw [ol.length]; exact Nat.le_refl _⟩
theorem ir (he : QE X e c) : QI X tg e (iF c) := kg (zW he) fun σ H R hq0 => by
 obtain ⟨F, Ro, σD, xs, σD', r, ec, k⟩ := hq0;unfold iF at ec;rcases h : c σD with _ | ⟨d, σ1⟩
 ·rw [h] at ec; cases ec
 ·rw [h] at ec; simp only [bind_some] at ec
  refine ⟨F, Ro, σD, d, σ1, r, h, fun F1 H1 v x1 r1 => ?_⟩;split at ec
  ·cases ec
   obtain ⟨F2, x2, r2, o2⟩ := r1.freeze;simp only [D.fz, Ow] at o2;obtain ⟨a, vs, rfl, fl, ol, _⟩ := o2;exact ⟨a, rfl, ⟨vs, fl.sq⟩, k F2 H1 _ (x1.trans x2) r2.pop (yi fl ol)⟩
  ·cases ec
end
noncomputable def fk (c : DI) (g : DG) (b : DS) : DS := fun σ => (c σ).bind fun p => eR g b p.1 p.2
section
variable {X : Cx} {e tg : Expr} {g : DG} {s : DS} {pos : Pos} {W W' : List Nat} {body : List Stmt}
theorem Ar {F : Addr -> Prop} {H : Hp} {R : Ro} {σD : aF} {σ : St} {xs : List D} {J : It} {En : lU} {o : Out} (r : Rel X.K F H σD σ R) (j : oz X.K J xs F H) (h : eR g s xs σD = some o)
  (k : ∀ F' H' σ', Ext F H F' H' -> Kp (W ++ W') σ σ' -> Th X.K En R F' H' σ' o) :
  ∃ W1 : Nat -> Nat -> St -> Hp -> Prop, (∃ m, W1 0 m σ H) /\ ∀ i m σ H, W1 i m σ H ->
   (J.stop i H /\ En.nx σ H) \/ (J.go i H /\ ∃ N : St -> Hp -> Prop, (∀ σ' H', N σ' H' -> ∃ m', m' < m /\ W1 (i + 1) m' σ' H') /\ ∀ x H', J.yld i H x H' -> rG X.K g W x σ H' fun σ2 H2 => rS X.K s W' { En with nx := N, ct := N, bk := En.nx } σ2 H2) := by
 refine ⟨fun i m σ1 H1 => m = xs.length - i /\ i <= xs.length /\ ∃ F1 σD1, Ext F H F1 H1 /\ Kp (W ++ W') σ σ1 /\ Rel X.K F1 H1 σD1 σ1 R /\ eR g s (xs.drop i) σD1 = some o, ⟨_, rfl, Nat.zero_le _, F, σD, Ext.refl, Kp.refl, r, by simpa using h⟩, ?_⟩;rintro i m σ1 H1 ⟨rfl, hle, F1, σD1, x1, kp1, r1, h1⟩;rcases Nat.lt_or_ge i xs.length with hi | hi
 ·right
  obtain ⟨go, yl⟩ := j.item i _ F1 H1 x1 r1.g.dom (List.getElem?_eq_getElem hi);refine ⟨go, fun σ' H' => ∃ F1 σD1, Ext F H F1 H' /\ Kp (W ++ W') σ σ' /\ Rel X.K F1 H' σD1 σ' R /\ eR g s (xs.drop (i + 1)) σD1 = some o, fun σ' H' q => ⟨xs.length - (i + 1), by omega, rfl, hi, q⟩, fun x H2 hy => ?_⟩;obtain ⟨F2, gr, ox⟩ := yl x H2 hy;rw [List.drop_eq_getElem_cons hi] at h1;exact zu (R := R) (R0 := R) (W := W) (W' := W') (fun _ _ _ _ _ _ h => h) ((r1.grow gr).push ox) (x1.trans gr.x) kp1 h1 k fun F3 H3 σD3 σ3 x3 kp3 r3 h3 => ⟨F3, σD3, (x1.trans gr.x).trans x3, kp3, r3, h3⟩
 ·left
  have ei : i = xs.length := Nat.le_antisymm hle hi;subst ei;rw [List.drop_length] at h1;simp only [eR] at h1;cases h1;exact ⟨j.done F1 H1 x1, k F1 H1 σ1 x1 kp1 r1⟩
theorem eZ {c : DI} (hc : X.calm = true) (hi : QI X tg e c) (hg : QG X tg g W) (hb : ot X body s W') (hp : PassesOwn (model X.prog X.w) X.A X.env X.xe) (hf : autoParam (∀ x, foldedSetIterable e X.env x = pure x) kP._auto_1) : QS X (.For tg e body [] pos) (fk c g s) (W ++ W') :=
 jq (Bt hp hc hi hg hb hf) fun En σ H hq0 => by
  obtain ⟨F, R, σD, o, r, ec, k⟩ := hq0;unfold fk at ec;rcases h : c σD with _ | ⟨xs, σ1⟩
  ·rw [h] at ec; cases ec
  ·rw [h] at ec; simp only [bind_some] at ec
   refine ⟨F, R, σD, xs, σ1, r, h, fun F1 H1 J x1 r1 j => ?_⟩;exact Ar (X := X) (W := W) (W' := W') (g := g) (s := s) (En := En) r1 j ec fun F2 H2 σ2 x2 kp => k F2 H2 σ2 (x1.trans x2) kp
end
noncomputable def jJ (g : DG) (t : DT) (c : DE) : List D -> aF -> Option (List D × aF)
 | [], σ => some ([], σ)
 | x :: xs, σ => (g x σ).bind fun σ1 => (t σ1).bind fun p => if p.1 = true then (c p.2).bind fun q => (jJ g t c xs q.2).map fun r => (q.1 :: r.1, r.2) else jJ g t c xs p.2
noncomputable def iJ (k : Nat) (i : DI) (g : DG) (t : DT) (c : DE) : DE := fun σ => (i σ).bind fun p => if p.1.length <= sizeLine then (jJ g t c p.1 (p.2 ++ List.replicate k none)).map fun r => (.lst true r.1, r.2.take p.2.length) else none
noncomputable def lX : DT := fun σ => some (true, σ)
noncomputable def uC (X : Cx) (ifs : List Expr) (t : DT) : Prop := uE X ifs (rT X.K t)
section
variable {X : Cx} {e tg elt iter : Expr} {ifs : List Expr} {g : DG} {t : DT} {c : DE} {i : DI} {pos : Pos} {W : List Nat} {N' : List Str} {scope : Scope}
theorem mf : uC X [] lX := by
 intro aa s σ H Q I hh;obtain ⟨F, R, σD, b, σD', r, ec, k⟩ := hh;exact zV aa s σ H Q I (by cases ec; exact k F H Ext.refl r)
theorem oR (h : QT X e t) : uC X [e] t := zU h
theorem Rel.ext0 {K : PySem.W.Frag} {F : Addr -> Prop} {H : Hp} {σD : aF} {σ : St} {R : Ro} {k : Nat} (r : Rel K F H σD σ R) : Rel K F H (σD ++ List.replicate k none) (σ ++ List.replicate k none) R := by
 have hm : ∀ {σD : aF} {σ : St}, Mt σD σ -> Mt (σD ++ List.replicate k none) (σ ++ List.replicate k none) /\ sl (σD ++ List.replicate k none) (σ ++ List.replicate k none) = sl σD σ := by
  intro σD
  induction σD with
  | nil => intro σ h; cases σ with | nil => exact ⟨o5, mV⟩ | cons _ _ => cases h
  | cons o σD ih =>
   intro σ h;cases σ with
   | nil => cases o <;> cases h
   | cons v σ =>
    cases o with
    | none => exact ih (σ := σ) h
    | some d =>
     cases v with
     | none => cases h
     | some v =>
      have q := ih (σ := σ) h;exact ⟨q.1, congrArg ((d, v) :: ·) q.2⟩
 obtain ⟨h1, h2⟩ := hm r.mt;exact ⟨h1, by rw [h2]; exact r.g⟩
theorem Rel.cut {K : PySem.W.Frag} {F : Addr -> Prop} {H : Hp} {R : Ro} : ∀ {σD : aF} {σ σ0 : St} {n : Nat}, σ0.length = n -> σ.take n = σ0 -> Rel K F H σD σ R -> Rel K F H (σD.take n) σ0 R := by
 intro σD σ σ0 n hn he r;subst he;have hm : ∀ {σD : aF} {σ : St} (n : Nat), Mt σD σ -> Mt (σD.take n) (σ.take n) /\ ∃ S, (sl σD σ) = sl (σD.take n) (σ.take n) ++ S := by
  intro σD
  induction σD with
  | nil => intro σ n h; cases σ with | nil => simp [Mt, sl] | cons _ _ => cases h
  | cons o σD ih =>
   intro σ n h;cases σ with
   | nil => cases o <;> cases h
   | cons v σ =>
    cases n with
    | zero => exact ⟨trivial, _, rfl⟩
    | succ n =>
     cases o with
     | none => exact ih (σ := σ) n h
     | some d =>
      cases v with
      | none => cases h
      | some v =>
       obtain ⟨h1, S, h2⟩ := ih (σ := σ) n h;refine ⟨h1, S, ?_⟩;show (d, v) :: sl σD σ = (d, v) :: sl (σD.take n) (σ.take n) ++ S;rw [h2]; rfl
 obtain ⟨h1, S, h2⟩ := hm n r.mt;refine ⟨h1, ?_⟩;have g := r.g;rw [h2] at g;have g2 : G K F H (S ++ (sl (σD.take n) (σ.take n) ++ R)) := g.perm (by rw [List.append_assoc]; exact List.perm_append_comm_assoc _ _ _);exact g2.popN
theorem yW {F : Addr -> Prop} {H : Hp} {R : Ro} {σD σD' : aF} {σ : St} {xs ys : List D} {J : It} {k : Nat} {Q : VK} (r : Rel X.K F H σD σ R) (j : oz X.K J xs F H) (hz : xs.length <= sizeLine) (hw : ∀ i ∈ W, σ.length <= i)
  (h : jJ g t c xs (σD ++ List.replicate k none) = some (ys, σD')) (kk : ∀ F' H' v, Ext F H F' H' -> Rel X.K F' H' (σD'.take σD.length) σ ((.lst true ys, v) :: R) -> Q v H') (p : Addr) (hp : H p = none) :
  ∃ W1 : Nat -> Nat -> St -> Hp -> Prop, (∃ m, W1 0 m (σ ++ List.replicate k none) (aO H p (.lst []))) /\ ∀ i m σ' H', W1 i m σ' H' ->
   (J.stop i H' /\ Q (.ref p) H') \/ (J.go i H' /\ ∀ x H2, J.yld i H' x H2 -> rG X.K g W x σ' H2 fun σ2 H3 => rT X.K t σ2 H3 fun ok H4 => if ok = true then
    rE X.K c σ2 H4 fun y H5 => ∃ ys, H5 p = some (.lst ys) /\ ys.length < sizeLine /\ ∃ m', m' < m /\ W1 (i + 1) m' σ2 (aO H5 p (.lst (ys ++ [y])))
    else ∃ m', m' < m /\ W1 (i + 1) m' σ2 H4) := by
 have hlen := r.mt.length;obtain ⟨r0, x0⟩ := (r.ext0 (k := k)).alloc (o := .lst []) hp;have r1 : Rel X.K F (aO H p (.lst [])) (σD ++ List.replicate k none) (σ ++ List.replicate k none) ((.lst true [], .ref p) :: R) := r0.formL (xs := []) (vs := []) rfl bX;refine ⟨fun i m σ1 H1 => m = xs.length - i /\ i <= xs.length /\ ∃ F1 σD1 ds zs, Ext F H F1 H1 /\ Kp W (σ ++ List.replicate k none) σ1 /\ Rel X.K F1 H1 σD1 σ1 ((.lst true ds, .ref p) :: R) /\ ds.length <= i /\ jJ g t c (xs.drop i) σD1 = some (zs, σD') /\ ds ++ zs = ys,
  ⟨_, rfl, Nat.zero_le _, F, _, [], ys, x0, Kp.refl, r1, Nat.zero_le _, by simpa using h, rfl⟩, ?_⟩
 rintro i m σ1 H1 ⟨rfl, hle, F1, σD1, ds, zs, x1, kp1, r2, hds, h1, hys⟩;rcases Nat.lt_or_ge i xs.length with hi | hi
 ·right
  obtain ⟨go, yl⟩ := j.item i _ F1 H1 x1 r2.g.dom (List.getElem?_eq_getElem hi);refine ⟨go, fun x H2 hy => ?_⟩;obtain ⟨F2, gr, ox⟩ := yl x H2 hy;rw [List.drop_eq_getElem_cons hi] at h1;simp only [jJ] at h1;rcases e1 : g xs[i] σD1 with _ | σ3
  ·rw [e1] at h1; cases h1
  ·rw [e1] at h1; simp only [bind_some] at h1
   refine ⟨F2, _, σD1, xs[i], σ3, (r2.grow gr).push ox, e1, fun F3 H3 σ4 x3 kp3 r3 => ?_⟩;rcases e2 : t σ3 with _ | ⟨ok, σ5⟩
   ·rw [e2] at h1; cases h1
   ·rw [e2] at h1; simp only [bind_some] at h1
    refine ⟨F3, _, σ3, ok, σ5, r3, e2, fun F4 H4 x4 r4 => ?_⟩;have xx := ((x1.trans gr.x).trans x3).trans x4;have kp5 := kp1.trans kp3;cases ok with
    | false =>
     simp only [Bool.false_eq_true, if_false] at h1 ⊢;exact ⟨xs.length - (i + 1), by omega, rfl, hi, F4, σ5, ds, zs, xx, kp5, r4, by omega, h1, hys⟩
    | true =>
     simp only [if_true] at h1 ⊢;rcases e3 : c σ5 with _ | ⟨d, σ6⟩
     ·rw [e3] at h1; cases h1
     ·rw [e3] at h1; simp only [bind_some] at h1
      obtain ⟨⟨ws, σ7⟩, e4, e5⟩ := bP h1;cases e5;refine ⟨F4, _, σ5, d, σ6, r4, e3, fun F5 H5 v x5 r5 => ?_⟩;obtain ⟨a, vs, ea, he, hl, r6⟩ := (r5.perm (.swap _ _ _)).openL;cases ea;refine ⟨vs, he, by omega, xs.length - (i + 1), by omega, rfl, hi, ?_⟩;have r7 : Rel X.K F5 H5 σ6 σ4 ((.cell, .ref p) :: ((ds ++ [d]).zip (vs ++ [v]) ++ R)) := by
       refine r6.perm (.cons _ ?_);rw [List.zip_append hl];simp
      obtain ⟨r8, x8⟩ := r7.write (o := .lst (vs ++ [v]));exact ⟨F5, σ6, ds ++ [d], ws, (xx.trans x5).trans x8, kp5, r8.formL (by simp [hl]) bX, by simp; omega, e4, by rw [<- hys]; simp⟩
 ·left
  have ei : i = xs.length := Nat.le_antisymm hle hi;subst ei;rw [List.drop_length] at h1;simp only [jJ] at h1;cases h1;rw [List.append_nil] at hys;subst hys;refine ⟨j.done F1 H1 x1, kk F1 H1 _ x1 ?_⟩;rw [hlen];refine r2.cut rfl ?_;apply List.ext_getElem?;intro n;rcases Nat.lt_or_ge n σ.length with hn | hn
  ·rw [List.getElem?_take_of_lt hn, kp1 n (fun z => absurd (hw n z) oM), List.getElem?_append_left hn]
  ·rw [List.getElem?_eq_none (by simp; omega), List.getElem?_eq_none hn]
theorem Dg (hc : X.calm = true) (T : lV X N' scope) (hi : QI X tg iter i) (hg : ∀ cl s H fp aa, QG (cS X N' scope cl s H fp aa) tg g W) (ht : ∀ cl s H fp aa, uC (cS X N' scope cl s H fp aa) ifs t)
  (he : ∀ cl s H fp aa, QE (cS X N' scope cl s H fp aa) elt c) (hw : ∀ i ∈ W, X.N.length <= i) (hs : autoParam (∀ x, foldedSetIterable iter X.env x = pure x) kP._auto_1) :
  QE X (.ListComp elt [⟨tg, iter, ifs, 0⟩] scope pos) (iJ (N'.length - X.N.length) i g t c) := by
 rintro aa s σ H Q I ⟨F, R, σD, d, σD', r, ec, k⟩;have hlen : σ.length = X.N.length := I.len;refine Dn (X := X) (N' := N') (g := rG X.K g W) (tt := rT X.K t) (te := rE X.K c) hc T hi hg ht he hs aa s σ H Q I ?_;unfold iJ at ec;rcases h : i σD with _ | ⟨xs, σ1⟩
 ·rw [h] at ec; cases ec
 ·rw [h] at ec; simp only [bind_some] at ec
  split at ec
  ·rename_i hz
   obtain ⟨⟨ys, σ2⟩, e1, e2⟩ := bP ec;cases e2;refine ⟨F, R, σD, xs, σ1, r, h, fun F1 H1 J x1 r1 j p hp => ?_⟩;exact yW (X := X) (W := W) r1 j hz (fun i hi => by rw [hlen]; exact hw i hi) e1 (fun F2 H2 v x2 r2 => k F2 H2 v (x1.trans x2) r2) p hp
  ·cases ec
theorem vS (ix : Nat) {y : Str} {py spos : Pos} (hN : X.N.Nodup) (hc : X.calm = true) (T : lV X N' scope) (hi : QI X tg iter i) (hg : ∀ cl s H fp aa, QG (cS X N' scope cl s H fp aa) tg g W) (ht : ∀ cl s H fp aa, uC (cS X N' scope cl s H fp aa) ifs t)
  (he : ∀ cl s H fp aa, QE (cS X N' scope cl s H fp aa) elt c) (hw : ∀ i ∈ W, X.N.length <= i) (hsw : swapsWith (.ListComp elt [⟨tg, iter, ifs, 0⟩] scope pos) (some (.Name y py)) spos.line X.env = pure true)
  (hiN : autoParam (X.N[ix]? = some y) aI._auto_1) (hx : autoParam (ou X.env.scope y) zj._auto_1) (hs : autoParam (∀ x, foldedSetIterable iter X.env x = pure x) kP._auto_1) (hf : autoParam (X.fn y = true \/ X.env.scope.names.lookup y = some .local) oC._auto_1) :
  QS X (.Assign [.Name y py] (.ListComp elt [⟨tg, iter, ifs, 0⟩] scope pos) spos) (bE ix (iJ (N'.length - X.N.length) i g t c)) [ix] := by
 rintro aa s σ H En I ⟨F, R, σD, o, r, ec, k⟩;have hlen : σ.length = X.N.length := I.len;refine vW (X := X) (N' := N') (g := rG X.K g W) (tt := rT X.K t) (te := rE X.K c) hN hiN hx hsw hc T hi hg ht he hs hf aa s σ H En I ?_;unfold bE at ec;rcases h0 : iJ (N'.length - X.N.length) i g t c σD with _ | ⟨d0, σ0⟩
 ·rw [h0] at ec; cases ec
 ·rw [h0] at ec; simp only [bind_some] at ec
  split at ec
  ·rename_i hl
   cases ec;unfold iJ at h0;rcases h : i σD with _ | ⟨xs, σ1⟩
   ·rw [h] at h0; cases h0
   ·rw [h] at h0; simp only [bind_some] at h0
    split at h0
    ·rename_i hz
     obtain ⟨⟨ys, σ2⟩, e1, e2⟩ := bP h0;cases e2;refine ⟨F, R, σD, xs, σ1, r, h, fun F1 H1 J x1 r1 j p hp => ?_⟩;exact yW (X := X) (W := W) (Q := fun x H1 => nX ix x σ H1 En.nx) r1 j hz (fun i hi => by rw [hlen]; exact hw i hi) e1 (fun F2 H2 v x2 r2 => k F2 H2 _ (x1.trans x2) Kp.set (r2.store (by rw [<- r2.mt.length]; exact hl))) p hp
    ·cases h0
  ·cases ec
end
mutual
noncomputable def D.py : D -> Option PyData
 | .non => some .none
 | .bl b => some (.bool b)
 | .int i => some (.int i)
 | .str x => some (.str x)
 | .lst _ xs => (D.pyL xs).map .list
 | .tup xs => (D.pyL xs).map .tuple
 | _ => none
noncomputable def D.pyL : List D -> Option (List PyData)
 | [] => some []
 | x :: xs => (D.py x).bind fun p => (D.pyL xs).map fun ps => p :: ps
end
section
variable {X : Cx} {aa : List (Addr × Obj)} {σ : St} {H : Hp} {s : Shared} {F : Addr -> Prop}
theorem rQ (I : L2.Inv X aa σ H s) {a : Addr} {vs : List V} (h : dH X.K H a vs) : ∃ its o n, Vals vs its /\ s.heap.get? a = some o /\ o.cls = .type "list" /\ o.data = .seq its.toArray n := by
 obtain ⟨its, r, ⟨o, n, e, c, _, d⟩, _⟩ := I.list h;exact ⟨its, o, n, r, e, c, d⟩
theorem tV (I : L2.Inv X aa σ H s) {a : Addr} {vs : List V} (h : sQ X.K H a vs) : ∃ its o n, Vals vs its /\ s.heap.get? a = some o /\ o.cls = .type "tuple" /\ o.data = .seq its.toArray n := by
 obtain ⟨its, r, ⟨o, e, c, n, d⟩, _⟩ := I.tuple h;exact ⟨its, o, n, r, e, c, d⟩
mutual
theorem qO (I : L2.Inv X aa σ H s) : ∀ {d : D} {v : V} {L : List Addr} {p : PyData} {u : Value}, Ow X.K F H d v L -> d.py = some p -> RelV v u -> ∃ as, Reads s.heap u p as
 | .non, v, L, p, u, o, e, r => by simp only [D.py, Ow] at e o; cases e; obtain ⟨rfl, _⟩ := o; cases r; exact ⟨_, .none⟩
 | .bl b, v, L, p, u, o, e, r => by simp only [D.py, Ow] at e o; cases e; obtain ⟨rfl, _⟩ := o; cases r; exact ⟨_, .bool b⟩
 | .int i, v, L, p, u, o, e, r => by simp only [D.py, Ow] at e o; cases e; obtain ⟨rfl, _⟩ := o; obtain ⟨t, rfl⟩ := r; exact ⟨_, .int i t⟩
 | .str x, v, L, p, u, o, e, r => by simp only [D.py, Ow] at e o; cases e; obtain ⟨rfl, _⟩ := o; obtain ⟨t, rfl⟩ := r; exact ⟨_, .str x t⟩
 | .lst own xs, v, L, p, u, o, e, r => by
  simp only [D.py] at e;rcases h : D.pyL xs with _ | ps
  ·rw [h] at e; cases e
  ·rw [h] at e; cases e
   obtain ⟨a, vs, rfl, sq, L', ol⟩ := Bor.lst ⟨L, o⟩;cases r;obtain ⟨its, ob, n, rv, e1, e2, e3⟩ := rQ I sq;obtain ⟨as, ra⟩ := kW I ol h rv;exact ⟨_, .list e1 e2 e3 ra⟩
 | .tup xs, v, L, p, u, o, e, r => by
  simp only [D.py] at e;rcases h : D.pyL xs with _ | ps
  ·rw [h] at e; cases e
  ·rw [h] at e; cases e
   obtain ⟨a, vs, rfl, sq, L', ol⟩ := Bor.tup ⟨L, o⟩;cases r;obtain ⟨its, ob, n, rv, e1, e2, e3⟩ := tV I sq;obtain ⟨as, ra⟩ := kW I ol h rv;exact ⟨_, .tuple e1 e2 e3 ra⟩
 | .hole, _, _, _, _, _, e, _ => by simp only [D.py] at e; cases e
 | .cell, _, _, _, _, _, e, _ => by simp only [D.py] at e; cases e
 | .node _ _, _, _, _, _, _, e, _ => by simp only [D.py] at e; cases e
 | .pin _ _, _, _, _, _, _, e, _ => by simp only [D.py] at e; cases e
 | .ty _, _, _, _, _, _, e, _ => by simp only [D.py] at e; cases e
 | .cls _, _, _, _, _, _, e, _ => by simp only [D.py] at e; cases e
 | .obj _ _ _ _, _, _, _, _, _, e, _ => by simp only [D.py] at e; cases e
 | .dct _ _ _, _, _, _, _, _, e, _ => by simp only [D.py] at e; cases e
theorem kW (I : L2.Inv X aa σ H s) : ∀ {xs : List D} {vs : List V} {L : List Addr} {ps : List PyData} {us : List Value}, OwL X.K F H xs vs L -> D.pyL xs = some ps -> Vals vs us -> ∃ as, ReadsAll s.heap us ps as
 | [], vs, L, ps, us, o, e, r => by
  simp only [D.pyL, OwL] at e o;cases e;obtain ⟨rfl, _⟩ := o;cases r;exact ⟨_, .nil⟩
 | x :: xs, vs, L, ps, us, o, e, r => by
  simp only [D.pyL, OwL] at e o;obtain ⟨v, ws, L1, L2, rfl, o1, o2, _⟩ := o;rcases h1 : D.py x with _ | p
  ·rw [h1] at e; cases e
  ·rw [h1] at e; simp only [bind_some] at e
   rcases h2 : D.pyL xs with _ | qs
   ·rw [h2] at e; cases e
   ·rw [h2] at e; cases e
    cases r with
    | cons r1 r2 =>
     obtain ⟨as, ra⟩ := qO I o1 h1 r1;obtain ⟨bs, rb⟩ := kW I o2 h2 r2;exact ⟨_, .cons ra rb⟩
end
theorem Bor.reads (I : L2.Inv X aa σ H s) {d : D} {v : V} {p : PyData} {u : Value} (b : Bor X.K F H d v) (e : d.py = some p) (r : RelV v u) : ∃ as, Reads s.heap u p as := by
 obtain ⟨L, o⟩ := b;exact qO I o e r
end
noncomputable def ko (p q : PyData) : Bool := p.canLay0 && q.canLay0 && decide (min p.depth q.depth <= 50)
noncomputable def eC : D -> D -> Option D := fun x y => x.py.bind fun p => y.py.bind fun q => if ko p q = true then some (.bl (PyData.eqv p q)) else none
noncomputable def lq : D -> D -> Option D := fun x y => x.py.bind fun p => y.py.bind fun q => if ko p q = true then some (.bl (!PyData.eqv p q)) else none
section
variable {X : Cx}
theorem ss {x y d : D} (h : eC x y = some d) : ∃ p q, x.py = some p /\ y.py = some q /\ p.canLay0 = true /\ q.canLay0 = true /\ min p.depth q.depth <= 50 /\ d = .bl (PyData.eqv p q) := by
 unfold eC at h;rcases h1 : x.py with _ | p
 ·rw [h1] at h; cases h
 ·rw [h1] at h; simp only [bind_some] at h
  rcases h2 : y.py with _ | q
  ·rw [h2] at h; cases h
  ·rw [h2] at h; simp only [bind_some] at h
   split at h
   ·rename_i hk
    cases h;simp only [ko, Bool.and_eq_true, decide_eq_true_eq] at hk;exact ⟨p, q, rfl, rfl, hk.1.1, hk.1.2, hk.2, rfl⟩
   ·cases h
theorem so {x y d : D} (h : lq x y = some d) : ∃ p q, x.py = some p /\ y.py = some q /\ p.canLay0 = true /\ q.canLay0 = true /\ min p.depth q.depth <= 50 /\ d = .bl (!PyData.eqv p q) := by
 unfold lq at h;rcases h1 : x.py with _ | p
 ·rw [h1] at h; cases h
 ·rw [h1] at h; simp only [bind_some] at h
  rcases h2 : y.py with _ | q
  ·rw [h2] at h; cases h
  ·rw [h2] at h; simp only [bind_some] at h
   split at h
   ·rename_i hk
    cases h;simp only [ko, Bool.and_eq_true, decide_eq_true_eq] at hk;exact ⟨p, q, rfl, rfl, hk.1.1, hk.1.2, hk.2, rfl⟩
   ·cases h
theorem dR (hu : X.A.units + 64 < cLine) : dI X (compareOp .Eq) eC := by
 refine ⟨fun aa s σ H x y v u Q I rx ry pz => ?_, fun x y d h => ?_⟩
 ·obtain ⟨F, dx, dy, d, w, b1, b2, eg, hw, q⟩ := pz
  obtain ⟨p, r, e1, e2, c1, c2, hd, rfl⟩ := ss eg;cases hw;obtain ⟨as, ra⟩ := b1.reads I e1 rx;obtain ⟨bs, rb⟩ := b2.reads I e2 ry;exact SeqAt.eqOverData _ _ _ _ _ _ _ _ _ _ _ _ ra rb c1 c2 oM ⟨.bl _, H, I, rfl, q⟩
 ·obtain ⟨p, r, _, _, _, _, _, rfl⟩ := ss h
  exact ⟨_, rfl⟩
theorem oZ (hu : X.A.units + 64 < cLine) : dI X (compareOp .NotEq) lq := by
 refine ⟨fun aa s σ H x y v u Q I rx ry pz => ?_, fun x y d h => ?_⟩
 ·obtain ⟨F, dx, dy, d, w, b1, b2, eg, hw, q⟩ := pz
  obtain ⟨p, r, e1, e2, c1, c2, hd, rfl⟩ := so eg;cases hw;obtain ⟨as, ra⟩ := b1.reads I e1 rx;obtain ⟨bs, rb⟩ := b2.reads I e2 ry;exact SeqAt.neOverData _ _ _ _ _ _ _ _ _ _ _ _ ra rb c1 c2 oM ⟨.bl _, H, I, rfl, q⟩
 ·obtain ⟨p, r, _, _, _, _, _, rfl⟩ := so h
  exact ⟨_, rfl⟩
end
noncomputable def BorL (K : PySem.W.Frag) (F : Addr -> Prop) (H : Hp) : List D -> List V -> Prop
 | [], [] => True
 | d :: ds, v :: vs => Bor K F H d v /\ BorL K F H ds vs
 | _, _ => False
theorem BorL.of {K : PySem.W.Frag} {F : Addr -> Prop} {H : Hp} {σD : aF} {σ : St} : ∀ {ds : List D} {vs : List V} {R : Ro}, ds.length = vs.length -> Rel K F H σD σ (ds.zip vs ++ R) -> BorL K F H ds vs := by
 intro ds
 induction ds with
 | nil =>
  intro vs R h r;cases vs with
  | nil => trivial
  | cons _ _ => cases h
 | cons d ds ih =>
  intro vs R h r;cases vs with
  | nil => cases h
  | cons v vs => exact ⟨r.bor List.mem_cons_self, ih (R := R) (Nat.succ.inj h) (Rel.pop (R := ds.zip vs ++ R) r)⟩
structure gq (X : Cx) (f : Value) (g : List D -> Option D) : Prop where
 run : CallR X f (fun vs H Q => ∃ F ds d w, BorL X.K F H ds vs /\ g ds = some d /\ d.sc = some w /\ Q w H)
 sc : ∀ ds d, g ds = some d -> ∃ w, d.sc = some w
noncomputable def kK : List DP -> aF -> Option (List D)
 | [], _ => some []
 | p :: ps, σ => (p σ).bind fun d => (kK ps σ).map fun ds => d :: ds
noncomputable def cM (g : List D -> Option D) (ps : List DP) : DP := fun σ => (kK ps σ).bind g
noncomputable def jk (g : List D -> Option D) (ca : DA) : DE := fun σ => (ca σ).bind fun p => (g p.1).map fun d => (d, p.2)
noncomputable def Eg (K : PySem.W.Frag) (ps : List DP) : TA := fun σ H Q => ∃ F R σD ds, Rel K F H σD σ R /\ kK ps σD = some ds /\ ∀ F' H' vs, Grow F H F' H' -> BorL K F' H' ds vs -> Q vs H'
noncomputable def uD (X : Cx) (es : List Expr) (ps : List DP) : Prop := PA X es (Eg X.K ps)
section
variable {X : Cx} {e : Expr} {es : List Expr} {p : DP} {ps : List DP} {x : Str} {p1 pos : Pos} {id T : String} {g : List D -> Option D} {ca : DA}
theorem cj : uD X [] [] := gf eI fun σ H Q hq0 => by
 obtain ⟨F, R, σD, ds, r, ec, k⟩ := hq0;cases ec; exact k F H [] Grow.refl trivial
theorem bf (ha : QB X e p) (hr : uD X es ps) (hs : autoParam (starEach (e :: es) X.env = (false, eval e X.env) :: starEach es X.env) aI._auto_1) : uD X (e :: es) (p :: ps) := gf (dj ha hr hs) fun σ H Q hq0 => by
 obtain ⟨F, R, σD, ds, r, ec, k⟩ := hq0;simp only [kK] at ec;rcases h1 : p σD with _ | d
 ·rw [h1] at ec; cases ec
 ·rw [h1] at ec; simp only [bind_some] at ec
  rcases h2 : kK ps σD with _ | ds2
  ·rw [h2] at ec; cases ec
  ·rw [h2] at ec; cases ec
   refine ⟨F, R, σD, d, r, h1, fun F1 H1 v g1 b1 => ?_⟩;exact ⟨F1, R, σD, ds2, r.grow g1, h2, fun F2 H2 vs g2 b2 => k F2 H2 (v :: vs) (g1.trans g2) ⟨b1.grow g2, b2⟩⟩
theorem rf {f : Value} (hc : gq X f g) {σ : St} {H : Hp} {Q : VK} (h : rB X.K (cM g ps) σ H Q) : yM (fun vs H Q => ∃ F ds d w, BorL X.K F H ds vs /\ g ds = some d /\ d.sc = some w /\ Q w H) (Eg X.K ps) σ H Q := by
 obtain ⟨F, R, σD, d, r, ec, k⟩ := h;unfold cM at ec;rcases h1 : kK ps σD with _ | ds
 ·rw [h1] at ec; cases ec
 ·rw [h1] at ec; simp only [bind_some] at ec
  obtain ⟨w, hw⟩ := hc.sc _ _ ec;exact ⟨F, R, σD, ds, r, h1, fun F1 H1 vs g1 b1 => ⟨F1, ds, d, w, b1, ec, hw, k F1 H1 w g1 ⟨[], Ow.of_sc hw⟩⟩⟩
theorem yx {f : Value} (hc : gq X f g) {σ : St} {H : Hp} {Q : VK} (h : rE X.K (jk g ca) σ H Q) : yM (fun vs H Q => ∃ F ds d w, BorL X.K F H ds vs /\ g ds = some d /\ d.sc = some w /\ Q w H) (rA X.K ca) σ H Q := by
 obtain ⟨F, R, σD, d, σD', r, ec, k⟩ := h;unfold jk at ec;rcases h1 : ca σD with _ | ⟨ds, σ1⟩
 ·rw [h1] at ec; cases ec
 ·rw [h1] at ec; simp only [bind_some] at ec
  obtain ⟨z, e1, e2⟩ := bP ec;cases e2;obtain ⟨w, hw⟩ := hc.sc _ _ e1;exact ⟨F, R, σD, ds, _, r, h1, fun F1 H1 vs x1 hl r1 => ⟨F1, ds, _, w, BorL.of hl r1, e1, hw, k F1 H1 w x1 ((r1.popN).scal hw)⟩⟩
theorem eN (hc : gq X (.builtin id) g) (hg : Gl X x) (hm : X.mg x = none) (hv : bootBuiltins x = some (.builtin id)) (ha : uD X (e :: es) ps) (hn : autoParam (x ≠ "__name__") cG._auto_1) (hdb : autoParam ((x == ("__debug__" : Str)) = false) cG._auto_1)
  (he : autoParam (starEach (e :: es) X.env = (false, eval e X.env) :: starEach es X.env) aI._auto_1) (hpl : autoParam ((backTo pos (starEach es X.env)).any (·.1) = false) aI._auto_1) : QB X (.Call (.Name x p1) (e :: es) [] pos) (cM g ps) :=
 bc (qZ hc.run hg hm hv ha hn hdb he hpl) fun _ _ _ h => rf hc h
theorem yR (hc : gq X (.builtin id) g) (hg : Gl X x) (hm : X.mg x = none) (hv : bootBuiltins x = some (.builtin id)) (ha : QA X (e :: es) ca) (hn : autoParam (x ≠ "__name__") cG._auto_1) (hdb : autoParam ((x == ("__debug__" : Str)) = false) cG._auto_1)
  (he : autoParam (starEach (e :: es) X.env = (false, eval e X.env) :: starEach es X.env) aI._auto_1) (hpl : autoParam ((backTo pos (starEach es X.env)).any (·.1) = false) aI._auto_1) : QE X (.Call (.Name x p1) (e :: es) [] pos) (jk g ca) :=
 bc (qZ hc.run hg hm hv ha hn hdb he hpl) fun _ _ _ h => yx hc h
theorem qp (hc : gq X (.type T) g) (hg : Gl X x) (hm : X.mg x = none) (hv : bootBuiltins x = some (.type T)) (ha : uD X (e :: es) ps) (hn : autoParam (x ≠ "__name__") cG._auto_1) (hdb : autoParam ((x == ("__debug__" : Str)) = false) cG._auto_1)
  (he : autoParam (starEach (e :: es) X.env = (false, eval e X.env) :: starEach es X.env) aI._auto_1) (hpl : autoParam ((backTo pos (starEach es X.env)).any (·.1) = false) aI._auto_1) : QB X (.Call (.Name x p1) (e :: es) [] pos) (cM g ps) :=
 bc (pH hc.run hg hm hv ha hn hdb he hpl) fun _ _ _ h => rf hc h
theorem jv {T : String} (hg : Gl X x) (hm : X.mg x = none) (hv : bootBuiltins x = some (.type T)) (hn : autoParam (x ≠ "__name__") cG._auto_1) (hd : autoParam ((x == ("__debug__" : Str)) = false) cG._auto_1) : QB X (.Name x pos) (pC (.ty T)) :=
 bc (zZ (v := .ty T) hg hm hv rfl hn hd) fun σ H Q hq0 => by obtain ⟨F, R, σD, d, r, ec, k⟩ := hq0; cases ec; exact k F H _ Grow.refl ⟨[], Ow.of_sc rfl⟩
end
section
variable {X : Cx}
theorem iA {f : Value} {r r' : List V -> Hp -> VK -> Prop} (h : CallR X f r) (i : ∀ xs H Q, r' xs H Q -> r xs H Q) : CallR X f r' := fun aa s σ H xs us Q I rv h' => h aa s σ H xs us Q I rv (i xs H Q h')
theorem BorL.one {K : PySem.W.Frag} {F : Addr -> Prop} {H : Hp} {d : D} : ∀ {vs : List V}, BorL K F H [d] vs -> ∃ v, vs = [v] /\ Bor K F H d v
 | [v], h => ⟨v, rfl, h.1⟩
theorem BorL.two {K : PySem.W.Frag} {F : Addr -> Prop} {H : Hp} {d e : D} : ∀ {vs : List V}, BorL K F H [d, e] vs -> ∃ v w, vs = [v, w] /\ Bor K F H d v /\ Bor K F H e w := by
 intro vs h;cases vs with
 | nil => exact h.elim
 | cons v vs => cases vs with
  | nil => exact h.2.elim
  | cons w vs => cases vs with
   | nil => exact ⟨v, w, rfl, h.1, h.2.1⟩
   | cons _ _ => exact h.2.2.elim
noncomputable def fO : List D -> Option D
 | [.lst _ xs] => some (.int xs.length)
 | [.tup xs] => some (.int xs.length)
 | [.str z] => if z.length <= sizeLine then some (.int z.length) else none
 | _ => none
theorem iU : gq X (.builtin "len") fO := by
 refine ⟨iA (call_len_seq.or sH) fun vs H Q pz => ?_, fun ds d h => ?_⟩
 ·obtain ⟨F, ds, d, w, b, eg, hw, q⟩ := pz
  unfold fO at eg;split at eg
  ·cases eg; cases hw
   obtain ⟨v, rfl, bv⟩ := b.one;obtain ⟨a, us, rfl, sq, L, ol⟩ := bv.lst;exact .inl ⟨a, us, rfl, .inl sq, by rw [ol.length]; exact q⟩
  ·cases eg; cases hw
   obtain ⟨v, rfl, bv⟩ := b.one;obtain ⟨a, us, rfl, sq, L, ol⟩ := bv.tup;exact .inl ⟨a, us, rfl, .inr sq, by rw [ol.length]; exact q⟩
  ·split at eg
   ·rename_i hz
    cases eg; cases hw;obtain ⟨v, rfl, bv⟩ := b.one;exact .inr ⟨_, by rw [bv.str], hz, q⟩
   ·cases eg
  ·cases eg
 ·unfold fO at h
  split at h
  ·cases h; exact ⟨_, rfl⟩
  ·cases h; exact ⟨_, rfl⟩
  ·split at h
   ·cases h; exact ⟨_, rfl⟩
   ·cases h
  ·cases h
noncomputable def sm : List D -> Option D
 | [.int i] => some (.int i)
 | [.bl b] => some (.int (if b then 1 else 0))
 | _ => none
theorem DX : gq X (.type "int") sm := by
 refine ⟨iA wK fun vs H Q pz => ?_, fun ds d h => ?_⟩
 ·obtain ⟨F, ds, d, w, b, eg, hw, q⟩ := pz
  unfold sm at eg;split at eg
  ·cases eg; cases hw
   obtain ⟨v, rfl, bv⟩ := b.one;exact .inl ⟨_, by rw [bv.int], q⟩
  ·cases eg; cases hw
   obtain ⟨v, rfl, bv⟩ := b.one;exact .inr ⟨_, by rw [bv.bl], q⟩
  ·cases eg
 ·unfold sm at h
  split at h <;> first | (cases h; exact ⟨_, rfl⟩) | cases h
noncomputable def ng : List D -> Option D
 | [.int i] => some (.int (if i < 0 then -i else i))
 | _ => none
theorem vv : gq X (.builtin "abs") ng := by
 refine ⟨iA yB fun vs H Q pz => ?_, fun ds d h => ?_⟩
 ·obtain ⟨F, ds, d, w, b, eg, hw, q⟩ := pz
  unfold ng at eg;split at eg
  ·cases eg; cases hw
   obtain ⟨v, rfl, bv⟩ := b.one;exact ⟨_, by rw [bv.int], q⟩
  ·cases eg
 ·unfold ng at h
  split at h <;> first | (cases h; exact ⟨_, rfl⟩) | cases h
noncomputable def qu : D -> Option Value
 | .non => some (.type "NoneType")
 | .bl _ => some (.type "bool")
 | .int _ => some (.type "int")
 | .str _ => some (.type "str")
 | .lst _ _ => some (.type "list")
 | .tup _ => some (.type "tuple")
 | _ => none
noncomputable def isiA : List String := ["NoneType", "bool", "int", "str", "list", "tuple"]
noncomputable def isiB : List String := ["int", "bool", "str", "list", "tuple"]
noncomputable def jL (a b : String) : Option Bool := if (isiA.contains a && isiB.contains b) = true then some (a == b || (a == "bool" && b == "int")) else none
noncomputable def qt : D -> Option String
 | .non => some "NoneType"
 | .bl _ => some "bool"
 | .int _ => some "int"
 | .str _ => some "str"
 | .lst _ _ => some "list"
 | .tup _ => some "tuple"
 | _ => none
theorem Ae {x : D} {a : String} (h : qt x = some a) : qu x = some (.type a) := by
 cases x <;> first | (cases h; rfl) | cases h
noncomputable def kw (ds : List D) : Option D := match ds with
 | [x, .ty t] => (qt x).bind fun a => (jL a t).map .bl
 | _ => none
theorem yj {K : PySem.W.Frag} {a b : String} {k : Bool} (h : jL a b = some k) : kitOne K (.type a) (.type b) = some k := by
 unfold jL at h;split at h
 ·rename_i hc
  rw [Bool.and_eq_true, List.contains_iff_mem, List.contains_iff_mem] at hc;obtain ⟨ha, hb⟩ := hc;simp only [isiA, isiB, List.mem_cons, List.not_mem_nil, or_false] at ha hb;rcases ha with rfl | rfl | rfl | rfl | rfl | rfl <;> rcases hb with rfl | rfl | rfl | rfl | rfl <;> (cases h; rfl)
 ·cases h
theorem wc {o : Option Bool} {d : D} (h : o.map D.bl = some d) : ∃ k, o = some k /\ d = .bl k := by
 cases o with
 | none => cases h
 | some k => cases h; exact ⟨k, rfl, rfl⟩
theorem As {aa : List (Addr × Obj)} {σ : St} {H : Hp} {s : Shared} {F : Addr -> Prop} {x : D} {v : V} {u : Value} {t c : Value} {b : Bool} {Q : Value -> Shared -> Prop} {E : Value -> Shared -> Prop} (I : L2.Inv X aa σ H s) (bo : Bor X.K F H x v) (rv : RelV v u) (hk : qu x = some t)
  (e : kitOne X.K t c = some b) (h : ∀ tk, Q (.bool b) { s with toks := tk }) : wpAny (model X.prog X.w) X.A (call (.builtin "isinstance") [u, c]) Q E s := by
 unfold qu at hk;split at hk
 ·cases hk; rw [bo.sc (w := .non) rfl] at rv; exact jC I rv (.non) e h
 ·cases hk; rw [bo.bl] at rv; exact jC I rv (.bl _) e h
 ·cases hk; rw [bo.int] at rv; exact jC I rv (.int _) e h
 ·cases hk; rw [bo.str] at rv; exact jC I rv (.str _) e h
 ·cases hk
  obtain ⟨a, vs, rfl, sq, L, ol⟩ := bo.lst;cases rv;obtain ⟨its, o, n, _, e1, e2, e3⟩ := rQ I sq;exact kia_one kitx_list I.kIn ⟨_, e1, e2⟩ e (fun z => nomatch z) h
 ·cases hk
  obtain ⟨a, vs, rfl, sq, L, ol⟩ := bo.tup;cases rv;obtain ⟨its, o, n, _, e1, e2, e3⟩ := tV I sq;exact kia_one kitx_tuple I.kIn ⟨_, e1, e2⟩ e (fun z => nomatch z) h
 ·cases hk
theorem qA : gq X (.builtin "isinstance") kw := by
 refine ⟨fun aa s σ H vs us Q I rv pz => ?_, fun ds d h => ?_⟩
 ·obtain ⟨F, ds, d, w, b, eg, hw, q⟩ := pz
  have key : ∀ {x : D} {a t : String}, ds = [x, .ty t] -> qu x = some (.type a) -> (jL a t).map D.bl = some d -> wpAny (model X.prog X.w) X.A (call (.builtin "isinstance") us) (EP X aa σ Q) X.xe s := fun {x a t} e1 e2 e3 => by
   subst e1;obtain ⟨k, e4, rfl⟩ := wc e3;cases hw;obtain ⟨v, u, rfl, bv, bu⟩ := b.two;obtain ⟨u1, u2, rfl, r1, r2⟩ := CQ rv;have hu : u = .ty t := bu.sc rfl;subst hu;cases r2;exact As I bv r1 e2 (yj e4) fun tk => ⟨.bl k, H, I.tok tk, rfl, q⟩
  unfold kw at eg;split at eg
  ·rename_i x t
   rcases hk : qt x with _ | a
   ·rw [hk] at eg; cases eg
   ·rw [hk] at eg
    exact key rfl (Ae hk) eg
  ·cases eg
 ·unfold kw at h
  split at h
  ·rename_i x t
   rcases hk : qt x with _ | a
   ·rw [hk] at h; cases h
   ·rw [hk] at h
    obtain ⟨k, _, rfl⟩ := wc h;exact ⟨_, rfl⟩
  ·cases h
end
noncomputable def cZ : D -> List Int -> Option D
 | t, [] => some t
 | .lst _ xs, j :: js => (atI xs j).bind fun x => cZ x js
 | .tup xs, j :: js => (atI xs j).bind fun x => cZ x js
 | _, _ :: _ => none
noncomputable def ey : D -> List Int -> D -> D
 | _, [], d => d
 | .lst o xs, j :: js, d => match ixN xs.length j with | some k => (match xs[k]? with | some x => .lst o (xs.set k (ey x js d)) | none => .lst o xs) | none => .lst o xs
 | .tup xs, j :: js, d => match ixN xs.length j with | some k => (match xs[k]? with | some x => .tup (xs.set k (ey x js d)) | none => .tup xs) | none => .tup xs
 | t, _ :: _, _ => t
noncomputable def Lc (H : Hp) : V -> List Int -> V -> Prop
 | v, [], w => w = v
 | v, j :: js, w => ∃ a vs u, v = .ref a /\ (H a = some (.lst vs) \/ H a = some (.tup vs)) /\ atI vs j = some u /\ Lc H u js w
theorem j9 {α : Type} {xs : List α} {j : Int} {x : α} (h : atI xs j = some x) : ∃ k, ixN xs.length j = some k /\ xs[k]? = some x := by
 unfold atI at h;rcases hk : ixN xs.length j with _ | k
 ·rw [hk] at h; cases h
 ·rw [hk] at h; exact ⟨k, rfl, h⟩
section
variable {K : PySem.W.Frag} {F F' : Addr -> Prop} {H H' : Hp} {σD : aF} {σ : St} {R S S' : Ro}
theorem Lc.grow {H H' : Hp} (k : ∀ a o, H a = some o -> H' a = some o) : ∀ {js : List Int} {v w : V}, Lc H v js w -> Lc H' v js w
 | [], _, _, h => h
 | j :: js, _, _, ⟨a, vs, u, e, h, hu, r⟩ => ⟨a, vs, u, e, by rcases h with h | h; exact .inl (k _ _ h); exact .inr (k _ _ h), hu, Lc.grow k r⟩
theorem Lc.snoc : ∀ {js : List Int} {j : Int} {v w : V}, Lc H v (js ++ [j]) w -> ∃ u, Lc H v js u /\ Lc H u [j] w := by
 intro js
 induction js with
 | nil => intro j v w h; exact ⟨v, rfl, h⟩
 | cons i js ih =>
  intro j v w h;obtain ⟨a, vs, u, e, h, hu, r⟩ := h;obtain ⟨z, h1, h2⟩ := ih r;exact ⟨z, ⟨a, vs, u, e, h, hu, h1⟩, h2⟩
theorem Ow.focus : ∀ {js : List Int} {t : D} {v : V} {L : List Addr} {xs : List D}, Ow K F H t v L -> cZ t js = some (.lst true xs) ->
  ∃ l La Lx Lb, Lc H v js (.ref l) /\ L = La ++ (l :: Lx) ++ Lb /\ (∃ vs, H l = some (.lst vs) /\ OwL K F H xs vs Lx) /\
   ∀ (F' : Addr -> Prop) (H' : Hp) (d' : D) (Lx' : List Addr), Ext F H F' H' -> (∀ a ∈ La ++ Lb, H' a = H a) -> Ow K F' H' d' (.ref l) Lx' -> Ow K F' H' (ey t js d') v (La ++ Lx' ++ Lb) := by
 intro js
 induction js with
 | nil =>
  intro t v L xs o e;simp only [cZ] at e;cases e;simp only [Ow] at o;obtain ⟨l, vs, L', rfl, h, ol, rfl⟩ := o;refine ⟨l, [], L', [], rfl, (List.append_nil _).symm, ⟨vs, h, ol⟩, fun F' H' d' Lx' x k o' => ?_⟩;simp only [ey, List.nil_append, List.append_nil];exact o'
 | cons j js ih =>
  intro t v L xs o e;cases t with
  | lst b ys =>
   simp only [cZ] at e;rcases h1 : atI ys j with _ | y
   ·rw [h1] at e; cases e
   rw [h1] at e; simp only [bind_some] at e;obtain ⟨k, hk, hy⟩ := j9 h1;cases b with
   | true =>
    simp only [Ow] at o;obtain ⟨a, vs, L', rfl, ha, ol, rfl⟩ := o;obtain ⟨w, La, Ly, Lb, ew, rfl, oy, back⟩ := ol.kid hy;obtain ⟨l, Ma, Mx, Mb, lc, rfl, hl, back2⟩ := ih oy e;refine ⟨l, a :: (La ++ Ma), Mx, Mb ++ Lb, ⟨a, vs, w, rfl, .inl ha, ?_, lc⟩, by simp, hl, fun F' H' d' Lx' x kk o' => ?_⟩
    ·unfold atI; rw [ol.length, hk]; exact ew
    ·have o2 := back2 F' H' d' Lx' x (fun b hb => kk b (by simp at hb ⊢; rcases hb with hb | hb <;> simp [hb])) o'
     have o3 := back F' H' _ _ x (fun b hb => kk b (by simp at hb ⊢; rcases hb with hb | hb <;> simp [hb])) o2;simp only [ey, hk, hy, Ow];exact ⟨a, vs, _, rfl, (kk a (by simp)).trans ha, o3, by simp⟩
   | false =>
    exfalso;simp only [Ow] at o;obtain ⟨a, vs, rfl, _, ol, rfl⟩ := o;obtain ⟨w, La, Ly, Lb, ew, eL, oy, back⟩ := ol.kid hy;obtain ⟨l, Ma, Mx, Mb, lc, rfl, hl, back2⟩ := ih oy e;simp at eL
  | tup ys =>
   simp only [cZ] at e;rcases h1 : atI ys j with _ | y
   ·rw [h1] at e; cases e
   rw [h1] at e; simp only [bind_some] at e;obtain ⟨k, hk, hy⟩ := j9 h1;simp only [Ow] at o;obtain ⟨a, vs, rfl, ft, ol⟩ := o;obtain ⟨w, La, Ly, Lb, ew, rfl, oy, back⟩ := ol.kid hy;obtain ⟨l, Ma, Mx, Mb, lc, rfl, hl, back2⟩ := ih oy e;have ft' : F a /\ H a = some (.tup vs) := by
    rcases ft with h | ⟨_, h⟩
    ·exact h
    ·simp at h
   refine ⟨l, La ++ Ma, Mx, Mb ++ Lb, ⟨a, vs, w, rfl, .inr ft'.2, ?_, lc⟩, by simp, hl, fun F' H' d' Lx' x kk o' => ?_⟩
   ·unfold atI; rw [ol.length, hk]; exact ew
   ·have o2 := back2 F' H' d' Lx' x (fun b hb => kk b (by simp at hb ⊢; rcases hb with hb | hb <;> simp [hb])) o'
    have o3 := back F' H' _ _ x (fun b hb => kk b (by simp at hb ⊢; rcases hb with hb | hb <;> simp [hb])) o2;simp only [ey, hk, hy, Ow];exact ⟨a, vs, rfl, .inl ⟨(x a ft'.1).1, (x a ft'.1).2.trans ft'.2⟩, by simpa using o3⟩
  | _ => simp only [cZ] at e; cases e
theorem Rel.listAt {t : D} {v : V} {js : List Int} {xs : List D} (r : Rel K F H σD σ ((t, v) :: (S ++ R))) (e : cZ t js = some (.lst true xs)) :
  ∃ l vs, Lc H v js (.ref l) /\ H l = some (.lst vs) /\ xs.length = vs.length /\ ∀ (ys : List D) (ws : List V) (S' : Ro), (xs.zip vs ++ S).Perm (ys.zip ws ++ S') -> ys.length = ws.length ->
   Rel K F (aO H l (.lst ws)) σD σ ((ey t js (.lst true ys), v) :: (S' ++ R)) /\ Ext F H F (aO H l (.lst ws)) := by
 obtain ⟨L, ⟨L1, L23, o1, h23, rfl⟩, nd, nf⟩ := r.front.own;obtain ⟨l, La, Lx, Lb, lc, rfl, ⟨vs, hl, ol⟩, back⟩ := o1.focus e;refine ⟨l, vs, lc, hl, ol.toP.1, fun ys ws S' p hlen => ?_⟩;have h23' : OwP K F H (S ++ (R ++ sl σD σ)) L23 := by rw [<- List.append_assoc]; exact h23
 obtain ⟨L2, L3, rfl, h2, h3⟩ := h23'.split;obtain ⟨M, pm, hM⟩ := (ol.toP.2.append h2).perm p;obtain ⟨M1, M2, rfl, hM1, hM2⟩ := hM.split;have all : ((La ++ (l :: Lx) ++ Lb) ++ (L2 ++ L3)).Perm (l :: (La ++ Lb ++ (Lx ++ L2) ++ L3)) := by
  have h1 : ((La ++ (l :: Lx) ++ Lb) ++ (L2 ++ L3)) = La ++ l :: (Lx ++ (Lb ++ (L2 ++ L3))) := by simp
  rw [h1];refine List.perm_middle.trans (.cons _ ?_);have h2 : La ++ Lb ++ (Lx ++ L2) ++ L3 = La ++ (Lb ++ (Lx ++ (L2 ++ L3))) := by simp
  rw [h2];exact (List.perm_append_comm_assoc _ _ _).append_left La
 have nd1 := all.nodup_iff.mp nd;have nl : ∀ a ∈ La ++ Lb ++ (Lx ++ L2) ++ L3, a ≠ l := fun a ha z => (List.nodup_cons.mp nd1).1 (z ▸ ha)
 have nF : ∀ a, F a -> a ≠ l := fun a fa z => nf l (all.mem_iff.mpr (by simp)) (z ▸ fa)
 have x : Ext F H F (aO H l (.lst ws)) := fun a fa => ⟨fa, aJ (nF a fa)⟩
 have kM : ∀ a ∈ M1 ++ M2, aO H l (.lst ws) a = H a := fun a ha => aJ (nl a (by
  have := pm.mem_iff.mpr ha
  simp at this ⊢;rcases this with h | h <;> simp [h]))
 have o2 : Ow K F (aO H l (.lst ws)) (.lst true ys) (.ref l) (l :: M1) := by
  simp only [Ow];exact ⟨l, ws, M1, rfl, bX, OwL.ofP hlen (hM1.mono x fun a ha => kM a (by simp [ha])), rfl⟩
 have o3 := back F (aO H l (.lst ws)) (.lst true ys) (l :: M1) x (fun a ha => aJ (nl a (by simp at ha ⊢; rcases ha with h | h <;> simp [h]))) o2;refine ⟨Rel.of r.mt ⟨⟨(La ++ (l :: M1) ++ Lb) ++ (M2 ++ L3), ⟨_, M2 ++ L3, o3, ?_, rfl⟩, ?_, ?_⟩, fun a fa => ?_⟩, x⟩
 ·show OwP K F (aO H l (.lst ws)) ((S' ++ R) ++ sl σD σ) (M2 ++ L3)
  rw [List.append_assoc];exact (hM2.mono x fun a ha => kM a (by simp [ha])).append (h3.mono x fun a ha => aJ (nl a (by simp [ha])))
 ·have p2 : ((La ++ (l :: M1) ++ Lb) ++ (M2 ++ L3)).Perm ((La ++ (l :: Lx) ++ Lb) ++ (L2 ++ L3)) := by
   refine List.Perm.trans ?_ all.symm;have h1 : ((La ++ (l :: M1) ++ Lb) ++ (M2 ++ L3)) = La ++ l :: (M1 ++ (Lb ++ (M2 ++ L3))) := by simp
   rw [h1];refine List.perm_middle.trans (.cons _ ?_);have h2 : La ++ Lb ++ (Lx ++ L2) ++ L3 = La ++ (Lb ++ ((Lx ++ L2) ++ L3)) := by simp
   rw [h2];refine List.Perm.append_left La ?_;refine (List.perm_append_comm_assoc _ _ _).trans (List.Perm.append_left Lb ?_);rw [<- List.append_assoc];exact pm.symm.append_right L3
  exact p2.nodup_iff.mpr nd
 ·intro a ha fa
  refine nf a ?_ fa;simp only [List.mem_append, List.mem_cons] at ha ⊢;rcases ha with ((h | h | h) | h) | h | h
  ·simp [h]
  ·simp [h]
  ·have := pm.mem_iff.mpr (List.mem_append_left M2 h)
   rcases List.mem_append.mp this with z | z <;> simp [z]
  ·simp [h]
  ·have := pm.mem_iff.mpr (List.mem_append_right M1 h)
   rcases List.mem_append.mp this with z | z <;> simp [z]
  ·simp [h]
 ·rw [aJ (nF a fa)]; exact r.g.dom a fa
end
noncomputable def gZ : List DP -> aF -> Option (List Int)
 | [], _ => some []
 | p :: ps, σ => (p σ).bind fun d => match d with | .int i => (gZ ps σ).map fun r => i :: r | _ => none
theorem sw : ∀ {js : List DP} {p : DP} {σ : aF} {path : List Int}, gZ (js ++ [p]) σ = some path -> ∃ pre i, path = pre ++ [i] /\ gZ js σ = some pre /\ p σ = some (.int i)
 | [], p, σ, path, h => by
  simp only [List.nil_append, gZ] at h;rcases hp : p σ with _ | d
  ·rw [hp] at h; cases h
  ·rw [hp] at h
   cases d <;> first | (cases h; exact ⟨[], _, rfl, rfl, rfl⟩) | cases h
 | q :: js, p, σ, path, h => by
  simp only [List.cons_append, gZ] at h;rcases hq : q σ with _ | d
  ·rw [hq] at h; cases h
  ·rw [hq] at h
   simp only [bind_some] at h;cases d with
   | int i =>
    simp only at h;rcases hr : gZ (js ++ [p]) σ with _ | r
    ·rw [hr] at h; cases h
    ·rw [hr] at h; cases h
     obtain ⟨pre, k, rfl, h2, h3⟩ := sw hr;refine ⟨i :: pre, k, rfl, ?_, h3⟩;simp only [gZ, hq, bind_some, h2, map_some]
   | _ => cases h
theorem Lc.uniq {H : Hp} : ∀ {js : List Int} {v w w' : V}, Lc H v js w -> Lc H v js w' -> w = w' := by
 intro js
 induction js with
 | nil => intro v w w' h h'; exact h.trans h'.symm
 | cons j js ih =>
  intro v w w' q q';obtain ⟨a, vs, u, e, h, hu, r⟩ := q;obtain ⟨a', vs', u', e', h', hu', r'⟩ := q';subst e;cases e';have ev : vs = vs' := by
   rcases h with h | h <;> rcases h' with h' | h' <;> rw [h] at h' <;> cases h' <;> rfl
  subst ev;rw [hu] at hu';cases hu';exact ih r r'
noncomputable def rP (K : PySem.W.Frag) (i : Nat) (js : List DP) : TE := fun σ H Q => ∃ F R σD v0 path w, Rel K F H σD σ R /\ σ[i]? = some (some v0) /\ gZ js σD = some path /\ Lc H v0 path w /\ ∀ F' H', Grow F H F' H' -> Q w H'
noncomputable def QP (X : Cx) (e : Expr) (i : Nat) (js : List DP) : Prop := PE X e (rP X.K i js)
section
variable {X : Cx} {e o a b : Expr} {es : List Expr} {p q : DP} {c c' : DE} {pos apos cpos : Pos} {i : Nat} {js : List DP}
theorem oP (i : Nat) {x : Str} {pos : Pos} (hN : autoParam (X.N[i]? = some x) aI._auto_1) (hv : autoParam (lO X.env.scope x) oA._auto_1) (hd : autoParam ((x == ("__debug__" : Str)) = false) cG._auto_1)
  (hcd : autoParam ((x == ("__classdict__" : Str)) = false) cG._auto_1) : QP X (.Name x pos) i [] := bc (gK hN hv hd hcd) fun σ H Q hq0 => by
 obtain ⟨F, R, σD, v0, path, w, r, hv0, ep, lc, k⟩ := hq0;cases ep;cases lc;exact ⟨_, hv0, k F H Grow.refl⟩
theorem yP (ho : QP X a i js) (hb : QB X b q) (hs : autoParam (iX b) jF._auto_1) : QP X (.Subscript a b pos) i (js ++ [q]) := bc (u6 sk ho hb hs) fun σ H Q hq0 => by
 obtain ⟨F, R, σD, v0, path, w, r, hv0, ep, lc, k⟩ := hq0;obtain ⟨pre, j, rfl, e1, e2⟩ := sw ep;obtain ⟨u, l1, l2⟩ := lc.snoc;refine ⟨F, R, σD, v0, pre, u, r, hv0, e1, l1, fun F1 H1 g1 => ?_⟩;refine ⟨F1, R, σD, _, r.grow g1, e2, fun F2 H2 y g2 b2 => ?_⟩;obtain ⟨ad, vs, z, rfl, hh, hz, rfl⟩ := l2.grow (g1.trans g2).k;rcases hh with hh | hh
 ·exact .inl ⟨ad, vs, j, _, rfl, b2.int, .inl (.inl hh), hz, k F2 H2 (g1.trans g2)⟩
 ·exact .inr (.inl ⟨ad, vs, j, _, rfl, b2.int, .inl (.inl hh), hz, k F2 H2 (g1.trans g2)⟩)
noncomputable def sD (i : Nat) (js : List DP) (p : DP) : DE := fun σ => (bt σ i).bind fun t => (gZ js σ).bind fun path => (cZ t path).bind fun n => match n with
 | .lst true xs => (p σ).bind fun y => match y.sc with
  | some _ => if xs.length < sizeLine then some (.non, σ.set i (some (ey t path (.lst true (xs ++ [y]))))) else none
  | none => none
 | _ => none
theorem zM (ho : QP X o i js) (he : QB X e p) (hbase : autoParam (attributeBase o "append" X.env (eval o X.env) = eval o X.env) aI._auto_1) (hfew : autoParam (((backTo cpos (starEach [e] X.env)).all (fun x => !x.1) && (backToKw cpos (keywordEach [] X.env)).all (fun x => x.1.isSome)
   && decide (([e] : List Expr).length + ([] : List Keyword).length + (if ([] : List Keyword).isEmpty then 0 else 1) < 30)) = true) aI._auto_1) (hline : autoParam ((apos.endLine == cpos.line) = true) aI._auto_1)
  (hst : autoParam (starEach [e] X.env = (false, eval e X.env) :: starEach [] X.env) aI._auto_1) : QE X (.Call (.Attribute o "append" apos) [e] [] cpos) (sD i js p) :=
 bc (mh PySem.F.plainAttrs_list PySem.F.slot_list_append PySem.F.type_list_append lg ho (dj he eI hst) hbase hfew hline hst rfl) fun σ H Q hq0 => by
  obtain ⟨F, R, σD, d, σD', r, ec, k⟩ := hq0;unfold sD at ec;rcases h1 : bt σD i with _ | t
  ·rw [h1] at ec; cases ec
  ·rw [h1] at ec; simp only [bind_some] at ec
   rcases h2 : gZ js σD with _ | path
   ·rw [h2] at ec; cases ec
   ·rw [h2] at ec; simp only [bind_some] at ec
    rcases h3 : cZ t path with _ | n
    ·rw [h3] at ec; cases ec
    ·rw [h3] at ec; simp only [bind_some] at ec
     split at ec
     ·rename_i xs
      rcases h4 : p σD with _ | y
      ·rw [h4] at ec; cases ec
      ·rw [h4] at ec; simp only [bind_some] at ec
       rcases h5 : y.sc with _ | yw
       ·rw [h5] at ec; cases ec
       ·rw [h5] at ec
        simp only at ec;split at ec
        ·rename_i hz
         cases ec;obtain ⟨v0, hv0, r0⟩ := r.take (bG h1);obtain ⟨l0, vs0, lc0, hl0, _⟩ := Rel.listAt (S := []) r0 h3;refine ⟨F, R, σD, v0, path, .ref l0, r, hv0, h2, lc0, fun F1 H1 g1 => ⟨.inl ⟨rfl, vs0, .inl (.inl (g1.k _ _ hl0))⟩, ?_⟩⟩;refine ⟨F1, R, σD, y, r.grow g1, h4, fun F2 H2 u g2 b2 => ?_⟩;have hu : u = yw := b2.sc h5;subst hu;have g3 := g1.trans g2;obtain ⟨v1, hv1, r1⟩ := (r.grow g3).take (bG h1);rw [hv0] at hv1; cases hv1;have r2 : Rel X.K F2 H2 (σD.set i none) σ ((t, v0) :: ([(y, u)] ++ R)) := (r1.scal (d := y) h5).perm (.swap _ _ _);obtain ⟨l, vs, lc, hl, hlen, upd'⟩ := r2.listAt h3;have el : l0 = l := by
          have := (lc0.grow g3.k).uniq lc
          injection this
         subst el;obtain ⟨r3, x3⟩ := upd' (xs ++ [y]) (vs ++ [u]) [] (by rw [List.zip_append hlen]; simp) (by simp [hlen]);refine ⟨l0, vs, u, rfl, rfl, hl, by omega, ?_⟩;have r4 := (Rel.put (R := R) r3 hv0);rw [List.set_set] at r4;exact k F2 _ .non (g3.x.trans x3) (r4.scal rfl)
        ·cases ec
     ·cases ec
end
section
variable {X : Cx} {e o a b : Expr} {es : List Expr} {p q : DP} {c c' : DE} {pos apos cpos : Pos} {i : Nat} {js : List DP}
noncomputable def mB (i : Nat) (c : DE) : DE := fun σ => match bt σ i with
 | some (.lst _ _) => (c σ).bind fun p => match bt p.2 i with
  | some (.lst true xs) => if xs.length < sizeLine then some (.non, p.2.set i (some (.lst true (xs ++ [p.1])))) else none
  | _ => none
 | _ => none
theorem tN (i : Nat) {x : Str} {npos : Pos} (he : QE X e c) (hN : autoParam (X.N[i]? = some x) aI._auto_1) (hv : autoParam (lO X.env.scope x) oA._auto_1) (hd : autoParam ((x == ("__debug__" : Str)) = false) cG._auto_1)
  (hcd : autoParam ((x == ("__classdict__" : Str)) = false) cG._auto_1) (hbase : autoParam (attributeBase (.Name x npos) "append" X.env (eval (.Name x npos) X.env) = eval (.Name x npos) X.env) aI._auto_1) (hfew : autoParam (((backTo cpos (starEach [e] X.env)).all (fun x => !x.1) && (backToKw cpos (keywordEach [] X.env)).all (fun x => x.1.isSome)
   && decide (([e] : List Expr).length + ([] : List Keyword).length + (if ([] : List Keyword).isEmpty then 0 else 1) < 30)) = true) aI._auto_1) (hline : autoParam ((apos.endLine == cpos.line) = true) aI._auto_1)
  (hst : autoParam (starEach [e] X.env = (false, eval e X.env) :: starEach [] X.env) aI._auto_1) : QE X (.Call (.Attribute (.Name x npos) "append" apos) [e] [] cpos) (mB i c) :=
 bc (mh PySem.F.plainAttrs_list PySem.F.slot_list_append PySem.F.type_list_append lg (gK hN hv hd hcd) (dj he eI hst) hbase hfew hline hst rfl) fun σ H Q hq0 => by
  obtain ⟨F, R, σD, d, σD', r, ec, k⟩ := hq0;unfold mB at ec;split at ec
  ·rename_i own ys h0
   obtain ⟨v0, hv0, b0⟩ := r.get (bG h0);obtain ⟨a0, vs0, rfl, sq0, _⟩ := b0.lst;rcases h1 : c σD with _ | ⟨y, σ1⟩
   ·rw [h1] at ec; cases ec
   ·rw [h1] at ec; simp only [bind_some] at ec
    split at ec
    ·rename_i xs h2
     split at ec
     ·rename_i hz
      cases ec;refine ⟨_, hv0, .inl ⟨rfl, vs0, sq0⟩, F, R, σD, y, σ1, r, h1, fun F1 H1 v x1 r1 => ?_⟩;obtain ⟨v1, hv1, r2⟩ := r1.take (bG h2);rw [hv0] at hv1; cases hv1;obtain ⟨l, vs, lc, hl, hlen, upd'⟩ := Rel.listAt (S := [(y, v)]) (js := []) (xs := xs) r2 rfl;cases lc;obtain ⟨r3, x3⟩ := upd' (xs ++ [y]) (vs ++ [v]) [] (by rw [List.zip_append hlen]; simp) (by simp [hlen]);refine ⟨_, vs, v, rfl, rfl, hl, by omega, ?_⟩;have r4 := (Rel.put (R := R) r3 hv0);rw [List.set_set] at r4;exact k F1 _ .non (x1.trans x3) (r4.scal rfl)
     ·cases ec
    ·cases ec
  ·cases ec
noncomputable def m6 (i : Nat) (js : List DP) (q : DP) : DG := fun d σ => (bt σ i).bind fun t => (gZ js σ).bind fun path => (cZ t path).bind fun n => match n with
 | .lst true xs => (q σ).bind fun y => match y with
  | .int k => (ixN xs.length k).map fun j => σ.set i (some (ey t path (.lst true (xs.set j d))))
  | _ => none
 | _ => none
theorem tF : ∀ {xs : List D} {vs : List V} {j : Nat} {d : D} {v : V}, xs.length = vs.length -> j < xs.length -> ∃ x w, ((xs.zip vs) ++ [(d, v)]).Perm ((xs.set j d).zip (vs.set j v) ++ [(x, w)]) := by
 intro xs
 induction xs with
 | nil => intro vs j d v hl hj; exact absurd hj (Nat.not_lt_zero _)
 | cons x xs ih =>
  intro vs j d v hl hj;cases vs with
  | nil => cases hl
  | cons w vs => cases j with
   | zero =>
    refine ⟨x, w, ?_⟩;show ((x, w) :: (xs.zip vs ++ [(d, v)])).Perm ((d, v) :: (xs.zip vs ++ [(x, w)]));have h1 : ((x, w) :: (xs.zip vs ++ [(d, v)])).Perm ((x, w) :: (d, v) :: xs.zip vs) := (List.perm_append_comm).cons _;have h2 : ((d, v) :: (xs.zip vs ++ [(x, w)])).Perm ((d, v) :: (x, w) :: xs.zip vs) := (List.perm_append_comm).cons _;exact (h1.trans (.swap _ _ _)).trans h2.symm
   | succ j =>
    obtain ⟨y, u, h⟩ := ih (vs := vs) (j := j) (d := d) (v := v) (Nat.succ.inj hl) (Nat.lt_of_succ_lt_succ hj);exact ⟨y, u, h.cons _⟩
theorem qS (ho : QP X o i js) (hq : QB X a q) (ha : autoParam (∀ v, assign (.Subscript o a pos) X.env v = (do
   let ov <- holding [v] (eval o X.env)
   let iv <- holding [v, ov] (eval a X.env)
   standAt pos
   holding [v, ov, iv] (setItem ov iv v)
   release [v, ov, iv] [])) kP._auto_1) : QG X (.Subscript o a pos) (m6 i js q) [] := sU (By ho hq qJ ha) fun v σ H Q hq0 => by
 obtain ⟨F, R, σD, d, σD', r, ec, k⟩ := hq0;unfold m6 at ec;rcases h1 : bt σD i with _ | t
 ·rw [h1] at ec; cases ec
 ·rw [h1] at ec; simp only [bind_some] at ec
  rcases h2 : gZ js σD with _ | path
  ·rw [h2] at ec; cases ec
  ·rw [h2] at ec; simp only [bind_some] at ec
   rcases h3 : cZ t path with _ | n
   ·rw [h3] at ec; cases ec
   ·rw [h3] at ec; simp only [bind_some] at ec
    split at ec
    ·rename_i xs
     rcases h4 : q σD with _ | y
     ·rw [h4] at ec; cases ec
     ·rw [h4] at ec; simp only [bind_some] at ec
      split at ec
      ·rename_i kk
       rcases h5 : ixN xs.length kk with _ | j
       ·rw [h5] at ec; cases ec
       ·rw [h5] at ec; cases ec
        obtain ⟨v0, hv0, r0⟩ := r.take (bG h1);obtain ⟨l0, vs0, lc0, hl0, _⟩ := Rel.listAt (S := [(d, v)]) r0 h3;refine ⟨F, _, σD, v0, path, .ref l0, r, hv0, h2, lc0, fun F1 H1 g1 => ?_⟩;refine ⟨F1, _, σD, _, r.grow g1, h4, fun F2 H2 u g2 b2 => ?_⟩;have g3 := g1.trans g2;obtain ⟨v1, hv1, r1⟩ := (r.grow g3).take (bG h1);rw [hv0] at hv1; cases hv1;obtain ⟨l, vs, lc, hl, hlen, upd'⟩ := Rel.listAt (S := [(d, v)]) r1 h3;have el : l0 = l := by
         have := (lc0.grow g3.k).uniq lc
         injection this
        subst el;have hj : j < xs.length := (mw h5).2.1;obtain ⟨xo, wo, pm⟩ := tF (d := d) (v := v) hlen hj;obtain ⟨r3, x3⟩ := upd' (xs.set j d) (vs.set j v) [(xo, wo)] pm (by simp [hlen]);refine ⟨l0, vs, kk, j, rfl, b2.int, hl, by rw [<- hlen]; exact h5, ?_⟩;have r4 := (Rel.put (R := (xo, wo) :: R) r3 hv0);rw [List.set_set] at r4;exact k F2 _ σ (g3.x.trans x3) Kp.refl r4.pop
      ·cases ec
    ·cases ec
end
section
variable {K : PySem.W.Frag} {F F' : Addr -> Prop} {H H' : Hp} {σD : aF} {σ : St} {R S : Ro}
theorem OwL.drop : ∀ {n : Nat} {xs : List D} {vs : List V}, OwL K F H xs vs [] -> OwL K F H (xs.drop n) (vs.drop n) []
 | 0, _, _, h => h
 | n + 1, [], vs, h => by simp only [OwL] at h; rw [h.1]; simp [OwL]
 | n + 1, x :: xs, vs, h => by
  simp only [OwL] at h;obtain ⟨v, ws, L1, L2, rfl, h1, h2, e⟩ := h;obtain ⟨rfl, rfl⟩ := List.append_eq_nil_iff.mp e.symm;exact OwL.drop (n := n) h2
theorem OwL.take : ∀ {n : Nat} {xs : List D} {vs : List V}, OwL K F H xs vs [] -> OwL K F H (xs.take n) (vs.take n) []
 | 0, _, _, _ => by simp [OwL]
 | n + 1, [], vs, h => by simp only [OwL] at h; rw [h.1]; simp [OwL]
 | n + 1, x :: xs, vs, h => by
  simp only [OwL] at h;obtain ⟨v, ws, L1, L2, rfl, h1, h2, e⟩ := h;obtain ⟨rfl, rfl⟩ := List.append_eq_nil_iff.mp e.symm;simp only [List.take_succ_cons, OwL];exact ⟨v, ws.take n, [], [], rfl, h1, OwL.take (n := n) h2, rfl⟩
theorem Rel.pushL : ∀ {xs : List D} {vs : List V}, OwL K F H xs vs [] -> Rel K F H σD σ R -> Rel K F H σD σ (xs.zip vs ++ R)
 | [], vs, h, r => by simp only [OwL] at h; rw [h.1]; exact r
 | x :: xs, vs, h, r => by
  simp only [OwL] at h;obtain ⟨v, ws, L1, L2, rfl, h1, h2, e⟩ := h;obtain ⟨rfl, rfl⟩ := List.append_eq_nil_iff.mp e.symm;exact (Rel.pushL h2 r).push h1
end
noncomputable def jl {α : Type} (xs : List α) (lo hi : Option Int) : List α := (xs.drop (HT.sIx xs.length 0 lo)).take (HT.sIx xs.length xs.length hi - HT.sIx xs.length 0 lo)
noncomputable def j3 : Option DP -> aF -> Option (Option Int)
 | none, _ => some none
 | some p, σ => (p σ).bind fun d => match d with | .int i => some (some i) | _ => none
noncomputable def rO (K : PySem.W.Frag) (p : Option DP) : TO := fun σ H Q => ∃ F R σD o, Rel K F H σD σ R /\ j3 p σD = some o /\ ∀ F' H', Grow F H F' H' -> Q o H'
noncomputable def QO (X : Cx) (e : Option Expr) (p : Option DP) : Prop := PO X e (rO X.K p)
theorem wZ {X : Cx} {e : Option Expr} {t t' : TO} (h : PO X e t) (i : ∀ σ H Q, t' σ H Q -> t σ H Q) : PO X e t' := fun aa s σ H Q I h' => h aa s σ H Q I (i σ H Q h')
section
variable {X : Cx} {e a b : Expr} {lo hi : Option Expr} {pl ph : Option DP} {p q : DP} {c c' : DE} {pos p2 : Pos} {i : Nat}
theorem oQ : QO X none none := wZ zT fun σ H Q hq0 => by obtain ⟨F, R, σD, o, r, ec, k⟩ := hq0; cases ec; exact k F H Grow.refl
theorem hB (h : QB X e p) : QO X (some e) (some p) := wZ (zS h) fun σ H Q hq0 => by
 obtain ⟨F, R, σD, o, r, ec, k⟩ := hq0;simp only [j3] at ec;rcases h1 : p σD with _ | d
 ·rw [h1] at ec; cases ec
 ·rw [h1] at ec; simp only [bind_some] at ec
  split at ec
  ·cases ec
   exact ⟨F, R, σD, _, r, h1, fun F' H' v g b => ⟨_, b.int, k F' H' g⟩⟩
  ·cases ec
noncomputable def FZ (c : DE) (pl ph : Option DP) : DE := fun σ => (c σ).bind fun p => match p.1 with
 | .lst _ xs => (j3 pl p.2).bind fun l => (j3 ph p.2).map fun h => (.lst true (jl (D.fzL xs) l h), p.2)
 | _ => none
noncomputable def FY (c c' : DE) : DE := fun σ => (c σ).bind fun p => (c' p.2).bind fun q => match p.1, q.1 with
 | .lst true xs, .lst true ys => if xs.length + ys.length <= sizeLine then some (.lst true (xs ++ ys), q.2) else none
 | _, _ => none
noncomputable def gm (xs : List D) : Bool := xs.all fun d => d.sc.isSome
noncomputable def m8 (c c' : DE) : DE := fun σ => (c σ).bind fun p => (c' p.2).bind fun q => match p.1, q.1 with
 | .lst true xs, .int n => if gm xs = true /\ -(2 ^ 63) <= n /\ n < 2 ^ 63 /\ xs.length * n.toNat <= sizeLine then some (.lst true (List.replicate n.toNat xs).flatten, q.2) else none
 | _, _ => none
theorem OwL.sc {K : PySem.W.Frag} {F : Addr -> Prop} {H : Hp} : ∀ {xs : List D} {vs : List V} {L : List Addr}, OwL K F H xs vs L -> gm xs = true -> L = [] /\ ∀ F' H', OwL K F' H' xs vs []
 | [], vs, L, h, _ => by simp only [OwL] at h ⊢; exact ⟨h.2, fun _ _ => ⟨h.1, trivial⟩⟩
 | x :: xs, vs, L, h, s => by
  simp only [OwL] at h;obtain ⟨v, ws, L1, L2, rfl, h1, h2, rfl⟩ := h;simp only [gm, List.all_cons, Bool.and_eq_true] at s;obtain ⟨w, hw⟩ := Option.isSome_iff_exists.mp s.1;obtain ⟨rfl, rfl⟩ := h1.sc hw;obtain ⟨rfl, h3⟩ := OwL.sc h2 s.2;exact ⟨rfl, fun F' H' => by simp only [OwL]; exact ⟨v, ws, [], [], rfl, Ow.of_sc hw, h3 F' H', rfl⟩⟩
theorem OwL.app {K : PySem.W.Frag} {F : Addr -> Prop} {H : Hp} : ∀ {xs ys : List D} {vs ws : List V}, OwL K F H xs vs [] -> OwL K F H ys ws [] -> OwL K F H (xs ++ ys) (vs ++ ws) []
 | [], ys, vs, ws, h, h' => by simp only [OwL] at h; rw [h.1]; exact h'
 | x :: xs, ys, vs, ws, h, h' => by
  simp only [OwL] at h;obtain ⟨v, us, L1, L2, rfl, h1, h2, e⟩ := h;obtain ⟨rfl, rfl⟩ := List.append_eq_nil_iff.mp e.symm;simp only [List.cons_append, OwL];exact ⟨v, us ++ ws, [], [], rfl, h1, OwL.app h2 h', rfl⟩
theorem OwL.rep {K : PySem.W.Frag} {F : Addr -> Prop} {H : Hp} {xs : List D} {vs : List V} (h : OwL K F H xs vs []) : ∀ n : Nat, OwL K F H (List.replicate n xs).flatten (List.replicate n vs).flatten []
 | 0 => by simp [OwL]
 | n + 1 => by
  rw [List.replicate_succ, List.replicate_succ, List.flatten_cons, List.flatten_cons];exact OwL.app h (OwL.rep h n)
theorem qT (ha : QE X a c) (hb : QE X b c') : QE X (.BinOp a .Mult b pos) (m8 c c') := bc (u4 BG ha hb) fun σ H Q hq0 => by
 obtain ⟨F, R, σD, d, σD', r, ec, k⟩ := hq0;unfold m8 at ec;rcases h1 : c σD with _ | ⟨x, σ1⟩
 ·rw [h1] at ec; cases ec
 ·rw [h1] at ec; simp only [bind_some] at ec
  rcases h2 : c' σ1 with _ | ⟨y, σ2⟩
  ·rw [h2] at ec; cases ec
  ·rw [h2] at ec; simp only [bind_some] at ec
   split at ec
   ·rename_i xs n
    split at ec
    ·rename_i hz
     cases ec;refine ⟨F, R, σD, _, σ1, r, h1, fun F1 H1 v x1 r1 => ?_⟩;refine ⟨F1, _, σ1, _, _, r1, h2, fun F2 H2 u x2 r2 => ?_⟩;have hu : u = .int n := (r2.bor (by simp)).int;have r3 := r2.pop;obtain ⟨l, vs, rfl, hw, hlw, r4⟩ := r3.openL;obtain ⟨L, ⟨L1, L2, o1, h12, _⟩, _, _⟩ := r3.front.own;simp only [Ow] at o1;obtain ⟨l', vs', L', e1, e2, ol, _⟩ := o1;cases e1;rw [hw] at e2; cases e2;have os := (ol.sc hz.1).2 F2 H2;refine ⟨l, n, vs, rfl, hu, hw, hz.2.1, hz.2.2.1, by rw [<- hlw]; exact hz.2.2.2, fun p hp => ?_⟩;have orp := os.rep n.toNat;obtain ⟨r6, x6⟩ := (Rel.pushL orp r3.pop).layL orp.length.symm hp;exact k F2 _ _ ((x1.trans x2).trans x6) r6
    ·cases ec
   ·cases ec
noncomputable def yr : D -> Option D
 | .int i => some (.int (-i))
 | _ => none
noncomputable def dJ (p : DP) : DP := fun σ => (p σ).bind yr
theorem wC {x d : D} (h : yr x = some d) : ∃ i, x = .int i /\ d = .int (-i) := by
 cases x <;> first | (cases h; exact ⟨_, rfl, rfl⟩) | cases h
theorem cW (ha : QB X a p) : QB X (.UnaryOp .USub a pos) (dJ p) := bc (Dm AQ ha) fun σ H Q hq0 => by
 obtain ⟨F, R, σD, d, r, ec, k⟩ := hq0;unfold dJ at ec;rcases h1 : p σD with _ | x
 ·rw [h1] at ec; cases ec
 ·rw [h1] at ec; simp only [bind_some] at ec
  obtain ⟨i, rfl, rfl⟩ := wC ec;exact ⟨F, R, σD, _, r, h1, fun F1 H1 v g1 b1 => ⟨i, b1.int, k F1 H1 _ g1 ⟨[], Ow.of_sc rfl⟩⟩⟩
noncomputable def jN (t : DT) (c c' : DE) : DE := fun σ => (t σ).bind fun p => if p.1 = true then c p.2 else c' p.2
theorem nB {t : DT} {cnd : Expr} (ht : QT X cnd t) (ha : QE X a c) (hb : QE X b c') : QE X (.IfExp cnd a b pos) (jN t c c') := bc (xI ht ha hb) fun σ H Q hq0 => by
 obtain ⟨F, R, σD, d, σD', r, ec, k⟩ := hq0;unfold jN at ec;rcases h : t σD with _ | ⟨x, σ1⟩
 ·rw [h] at ec; cases ec
 ·rw [h] at ec; simp only [bind_some] at ec
  refine ⟨F, R, σD, x, σ1, r, h, fun F1 H1 x1 r1 => ?_⟩;cases x
  ·simp only [Bool.false_eq_true, if_false] at ec ⊢
   exact ⟨F1, R, σ1, d, σD', r1, ec, fun F2 H2 v x2 r2 => k F2 H2 v (x1.trans x2) r2⟩
  ·simp only [if_true] at ec ⊢
   exact ⟨F1, R, σ1, d, σD', r1, ec, fun F2 H2 v x2 r2 => k F2 H2 v (x1.trans x2) r2⟩
variable {cY : List Expr}
end
end DD
namespace L2
open PySem PySem.Spec PyProof.Rows
noncomputable def CK (K : PySem.W.Frag) (a b : Addr) : It :=
 ⟨fun i H => ∃ xs ys x y, dH K H a xs /\ dH K H b ys /\ xs[i]? = some x /\ ys[i]? = some y,
  fun i H x H' => ∃ p u w, (∀ xs, dH K H a xs -> xs[i]? = some u) /\ (∀ ys, dH K H b ys -> ys[i]? = some w) /\ H p = none /\ H' = aO H p (.tup [u, w]) /\ x = .ref p,
  fun i H => ∃ xs ys, dH K H a xs /\ dH K H b ys /\ (xs.length <= i \/ ys.length <= i)⟩
theorem Inv.turnT {X : Cx} {aa : List (Addr × Obj)} {σ : St} {H : Hp} {s : Shared} {h' : Heap} {ch : List Addr} {u w : V} {x y : Value} (I : Inv X aa σ H s) (hf : ∀ b ∈ ch, fg X aa H b) (ru : RelV u x) (rw' : RelV w y)
  (hk : ∀ c o, c ∉ ch -> s.heap.get? c = some o -> h'.get? c = some o) (hT : IsPair h' s.heap.objs.size x y) (hth : ∀ b ∈ ch, ∃ o, h'.get? b = some o) : Inv X aa σ (aO H s.heap.objs.size (.tup [u, w])) { s with heap := h' } := by
 have hfr : H s.heap.objs.size = none := I.fresh;have nch : ∀ b o, H b = some o -> b ∉ ch := fun b o e hb => by rw [(hf b hb).1] at e; cases e
 have ne : ∀ b o, s.heap.get? b = some o -> b ≠ s.heap.objs.size := fun b o e => Nat.ne_of_lt (Heap.lt_size e)
 refine I.step (g' := s.gens) (d' := s.drawn) (t' := s.toks) (ch := ch) (fun b hb => ⟨(hf b hb).2.2.2.1, (hf b hb).2.1, (hf b hb).2.2.2.2.1, (hf b hb).2.2.2.2.2⟩) (fun b o _ _ hc e _ => hk b o hc e)
  (fun b o _ _ hc e _ => ⟨o.slots, hk b o hc e⟩) (fun b o _ e n => by rw [aJ (ne b o e)]; exact n) (fun b o hc e => ⟨o, hk b o hc e⟩) (fun b xs e => by rw [aJ (cE e hfr)]; exact e)
  (fun b o v e => by rw [aJ (cE e hfr)]; exact e) (fun b ps e => ⟨#[], by rw [aJ (cE e hfr), e]; simp⟩) (fun m hm => ?_) (fun b o e => ?_) I.bare
 ·obtain ⟨o, es, ep, ho, r⟩ := hm
  exact ⟨o, es, ep, hk _ o (fun z => (hf _ z).2.1 rfl) ho, r⟩
 ·by_cases hb : b = s.heap.objs.size
  ·subst hb
   rw [bX] at e;cases e;refine ⟨by show 2 <= sizeLine; decide, [x, y], .cons ru (.cons rw' .nil), ⟨_, hT, rfl, _, rfl⟩⟩
  ·rw [aJ hb] at e
   refine (I.hok b o e).stay (fun c v hc q => hk c v ?_ q) (fun c q => by rw [aJ (cE q hfr)]; exact q) fun c xs q => by rw [aJ (cE q hfr)]; exact q
   rcases hc with rfl | hc
   ·exact nch _ _ e
   ·exact nch _ _ hc
theorem Inv.turnN {X : Cx} {aa : List (Addr × Obj)} {σ : St} {H : Hp} {s : Shared} {h' : Heap} {ch : List Addr} (I : Inv X aa σ H s) (hf : ∀ b ∈ ch, fg X aa H b)
  (hk : ∀ c o, c ∉ ch -> s.heap.get? c = some o -> h'.get? c = some o) : Inv X aa σ H { s with heap := h' } := by
 have nch : ∀ b o, H b = some o -> b ∉ ch := fun b o e hb => by rw [(hf b hb).1] at e; cases e
 refine I.step (g' := s.gens) (d' := s.drawn) (t' := s.toks) (ch := ch) (fun b hb => ⟨(hf b hb).2.2.2.1, (hf b hb).2.1, (hf b hb).2.2.2.2.1, (hf b hb).2.2.2.2.2⟩) (fun b o _ _ hc e _ => hk b o hc e)
  (fun b o _ _ hc e _ => ⟨o.slots, hk b o hc e⟩) (fun b o _ e n => n) (fun b o hc e => ⟨o, hk b o hc e⟩) (fun b xs e => e)
  (fun b o v e => e) (fun b ps e => ⟨#[], by rw [e]; simp⟩) (fun m hm => ?_) (fun b o e => ?_) I.bare
 ·obtain ⟨o, es, ep, ho, r⟩ := hm
  exact ⟨o, es, ep, hk _ o (fun z => (hf _ z).2.1 rfl) ho, r⟩
 ·refine (I.hok b o e).stay (fun c v hc q => hk c v ?_ q) (fun c q => q) fun c xs q => q
  rcases hc with rfl | hc
  ·exact nch _ _ e
  ·exact nch _ _ hc
theorem gN {X : Cx} {aa : List (Addr × Obj)} {σ : St} {H : Hp} {s : Shared} {a b : Addr} {xs : List V} (I : Inv X aa σ H s) (h : dH X.K H a xs) (hb : fg X aa H b) (hob : ∃ o, s.heap.get? b = some o /\ o.cls ≠ .type "list") : a ≠ b := by
 rintro rfl;obtain ⟨its, r, ⟨o, n, e, c, _⟩, _⟩ := I.list h;obtain ⟨o', e', c'⟩ := hob;rw [e] at e'; cases e';exact c' c
theorem xg {P : Program} {w : World} {K : PySem.W.Frag} {elts : List Expr} {x1 : Nat} {tpos : Pos} (a b z TI TO i1 i2 : Addr) (D1 : TI ≠ z) (D2 : TO ≠ z) (D3 : i1 ≠ z) (D4 : i2 ≠ z) (D5 : TI ≠ TO) (D6 : TI ≠ i1) (D7 : TI ≠ i2) (D8 : TO ≠ i1) (D9 : TO ≠ i2) (D10 : i1 ≠ i2) :
  nh P w K (.Tuple elts x1 tpos) (CK K a b) [z, TI, TO, i1, i2] z (fun i h => IsZip h z TI TO .none /\ IsPair h TI (.ref i1) (.ref i2) /\ (∃ u v, IsPair h TO u v) /\ h.IsListIter i1 a i /\ h.IsListIter i2 b i) where
 mem := by simp
 obj := fun i h hq0 c hc => by
  obtain ⟨hz, hTI, ⟨u, v, hTO⟩, ⟨o1, e1, c1, d1⟩, ⟨o2, e2, c2, d2⟩⟩ := hq0;simp only [List.mem_cons, List.not_mem_nil, or_false] at hc;rcases hc with rfl | rfl | rfl | rfl | rfl
  ·exact ⟨_, hz, fun v z => nomatch z⟩
  ·exact ⟨_, hTI, fun v z => nomatch z⟩
  ·exact ⟨_, hTO, fun v z => nomatch z⟩
  ·exact ⟨_, e1, fun v z => by rw [d1] at z; cases z⟩
  ·exact ⟨_, e2, fun v z => by rw [d2] at z; cases z⟩
 keep := fun i h h' ⟨hz, hTI, ⟨u, v, hTO⟩, h1, h2⟩ k => ⟨k z (by simp) _ hz, k TI (by simp) _ hTI, ⟨u, v, k TO (by simp) _ hTO⟩, h1.at fun o e => k i1 (by simp) o e, h2.at fun o e => k i2 (by simp) o e⟩
 item := by
  rintro X hP hw hK hc i aa s σ H E I hf ⟨hz, hTI, ⟨ua, ub, hTO⟩, h1, h2⟩ ⟨xs, ys, x, y, hq1, hq2, hx, hy⟩;subst hP hw hK;obtain ⟨its1, rv1, p1, _⟩ := I.list hq1;obtain ⟨its2, rv2, p2, _⟩ := I.list hq2;obtain ⟨u1, hu1, ru1⟩ := rv1.get hx;obtain ⟨u2, hu2, ru2⟩ := rv2.get hy;have ob : ∀ c ∈ [z, TO, i1, i2], ∃ o, s.heap.get? c = some o /\ o.cls ≠ .type "list" := fun c hc => by
   obtain ⟨o1, e1, c1, d1⟩ := id h1;obtain ⟨o2, e2, c2, d2⟩ := id h2;simp only [List.mem_cons, List.not_mem_nil, or_false] at hc;rcases hc with rfl | rfl | rfl | rfl
   ·exact ⟨_, hz, by simp⟩
   ·exact ⟨_, hTO, by simp⟩
   ·exact ⟨_, e1, by rw [c1]; simp⟩
   ·exact ⟨_, e2, by rw [c2]; simp⟩
  have na : ∀ c ∈ [z, TO, i1, i2], a ≠ c := fun c hc => gN I hq1 (hf c (by simp at hc ⊢; rcases hc with h | h | h | h <;> simp [h])) (ob c hc)
  have nb : ∀ c ∈ [z, TO, i1, i2], b ≠ c := fun c hc => gN I hq2 (hf c (by simp at hc ⊢; rcases hc with h | h | h | h <;> simp [h])) (ob c hc)
  have D : ZipApart z TI TO i1 i2 a b := ⟨D1, D2, D3, D4, D5, D6, D7, D8, D9, D10, na z (by simp), na TO (by simp), na i1 (by simp), na i2 (by simp), nb z (by simp), nb TO (by simp), nb i1 (by simp), nb i2 (by simp)⟩;refine wpAny_pyNext_zip_item D hz hTI hTO h1 h2 p1.isList p2.isList (x := u1) (y := u2) (by simpa using hu1) (by simpa using hu2) fun h' a1 a2 a3 a4 a5 a6 hk => ?_
  have hf4 : ∀ c ∈ [z, TO, i1, i2], fg X aa H c := fun c hc => hf c (by simp at hc ⊢; rcases hc with h | h | h | h <;> simp [h])
  have hk' : ∀ c o, c ∉ [z, TO, i1, i2] -> s.heap.get? c = some o -> h'.get? c = some o := fun c o hc e => hk c o (fun q => hc (by simp [q])) (fun q => hc (by simp [q])) (fun q => hc (by simp [q])) (fun q => hc (by simp [q])) e
  have I1 : Inv X aa σ (aO H s.heap.objs.size (.tup [x, y])) { s with heap := h' } := I.turnT hf4 ru1 ru2 hk' a5 (fun c hc => by
   obtain ⟨o1, e1, _⟩ := id a3;obtain ⟨o2, e2, _⟩ := id a4;simp only [List.mem_cons, List.not_mem_nil, or_false] at hc;rcases hc with rfl | rfl | rfl | rfl
   ·exact ⟨_, a1⟩
   ·exact ⟨_, a2⟩
   ·exact ⟨_, e1⟩
   ·exact ⟨_, e2⟩)
  have hfr : H s.heap.objs.size = none := I.fresh;refine ⟨_, rfl, wpAny_letOwnedTupleGo_zip (s := { s with heap := h' }) a1 fun h'' z1 sb => ?_⟩;have hf5 : ∀ c ∈ [z, TI, TO, i1, i2], (aO H s.heap.objs.size (.tup [x, y])) c = none := fun c hc => by
   have lt : c < s.heap.objs.size := by
    obtain ⟨o1, e1, _⟩ := id h1;obtain ⟨o2, e2, _⟩ := id h2;simp only [List.mem_cons, List.not_mem_nil, or_false] at hc;rcases hc with rfl | rfl | rfl | rfl | rfl
    ·exact Heap.lt_size hz
    ·exact Heap.lt_size hTI
    ·exact Heap.lt_size hTO
    ·exact Heap.lt_size e1
    ·exact Heap.lt_size e2
   rw [aJ (Nat.ne_of_lt lt)]; exact (hf c hc).1
  have I2 : Inv X aa σ (aO H s.heap.objs.size (.tup [x, y])) { s with heap := h'' } := Inv.turnN (s := { s with heap := h' }) (ch := [z]) I1 (fun c hc => by
   have : c = z := by simpa using hc
   subst this;exact ⟨hf5 c (by simp), (hf c (by simp)).2⟩) (fun c o hc e => (sb.2 c (fun q => hc (by simp [q]))).trans e)
  refine ⟨.ref s.heap.objs.size, _, I2, rfl, ⟨_, x, y, fun zs hzs => by rw [I.list_inj hzs hq1]; exact hx, fun zs hzs => by rw [I.list_inj hzs hq2]; exact hy, hfr, rfl, rfl⟩, ⟨z1, ?_, ⟨u1, u2, ?_⟩, ?_, ?_⟩, hf5⟩
  ·exact (sb.2 TI D1).trans (hk' TI _ (by simp [D1, D5, D6, D7]) hTI)
  ·exact (sb.2 TO D2).trans a2
  ·exact a3.at fun o e => (sb.2 i1 D3).trans e
  ·exact a4.at fun o e => (sb.2 i2 D4).trans e
 done := by
  rintro X hP hw hK hc i aa s σ H E I hf ⟨hz, hTI, ⟨ua, ub, hTO⟩, h1, h2⟩ ⟨xs, ys, hq1, hq2, hend⟩;subst hP hw hK;obtain ⟨its1, rv1, p1, _⟩ := I.list hq1;obtain ⟨its2, rv2, p2, _⟩ := I.list hq2;have ob : ∀ c ∈ [z, TO, i1, i2], ∃ o, s.heap.get? c = some o /\ o.cls ≠ .type "list" := fun c hc => by
   obtain ⟨o1, e1, c1, d1⟩ := id h1;obtain ⟨o2, e2, c2, d2⟩ := id h2;simp only [List.mem_cons, List.not_mem_nil, or_false] at hc;rcases hc with rfl | rfl | rfl | rfl
   ·exact ⟨_, hz, by simp⟩
   ·exact ⟨_, hTO, by simp⟩
   ·exact ⟨_, e1, by rw [c1]; simp⟩
   ·exact ⟨_, e2, by rw [c2]; simp⟩
  have hf4 : ∀ c ∈ [z, TO, i1, i2], fg X aa H c := fun c hc => hf c (by simp at hc ⊢; rcases hc with h | h | h | h <;> simp [h])
  have na : ∀ c ∈ [z, TO, i1, i2], a ≠ c := fun c hc => gN I hq1 (hf4 c hc) (ob c hc)
  have nb : ∀ c ∈ [z, TO, i1, i2], b ≠ c := fun c hc => gN I hq2 (hf4 c hc) (ob c hc)
  have D : ZipApart z TI TO i1 i2 a b := ⟨D1, D2, D3, D4, D5, D6, D7, D8, D9, D10, na z (by simp), na TO (by simp), na i1 (by simp), na i2 (by simp), nb z (by simp), nb TO (by simp), nb i1 (by simp), nb i2 (by simp)⟩;have hl1 := rv1.length;have hl2 := rv2.length;refine wpAny_pyNext_zip_end (I.ok.hd hc) D hz hTI hTO h1 h2 p1.isList p2.isList (by rcases hend with h | h; (left; simp; omega); (right; simp; omega)) fun h' hk => ⟨rfl, ?_⟩
  exact I.turnN hf4 fun c o hc e => hk c o (fun q => hc (by simp [q])) (fun q => hc (by simp [q])) (fun q => hc (by simp [q])) (fun q => hc (by simp [q])) e
 self := fun _ _ _ _ _ ⟨hz, _⟩ h => wpAny_pyIter_zip hz h
noncomputable def E6 (K : PySem.W.Frag) (ta : TA) : TI := fun σ H R => ta σ H fun vs H1 => ∃ a b, vs = [.ref a, .ref b] /\ (∃ xs, dH K H1 a xs) /\ (∃ ys, dH K H1 b ys) /\ R (CK K a b) H1
theorem Bv {X : Cx} {elts : List Expr} {x1 : Nat} {tpos : Pos} {a b : Expr} {ta : TA} {p pos : Pos} (hg : Gl X "zip") (hm : X.mg "zip" = none) (ha : PA X [a, b] ta) (hs : autoParam (starEach [a, b] X.env = [(false, eval a X.env), (false, eval b X.env)]) aI._auto_1) (hs2 : autoParam (starEach [b] X.env = [(false, eval b X.env)]) aI._auto_1) :
  PI X (.Tuple elts x1 tpos) (.Call (.Name "zip" p) [a, b] [] pos) (E6 X.K ta) := by
 intro aa s σ H R I h;refine Call_ (gO I hg hm boot_zip (PyProof.Rows.callWith_type1 (bH (ha pos aa s σ H _ I h) fun us s1 ⟨vs, H1, I1, r1, q1⟩ => ?_) (by rw [hs, hs2]) (by rw [hs2]; rfl)));obtain ⟨l1, l2, e, ⟨xs, hq1⟩, ⟨ys, hq2⟩, q⟩ := q1;subst e;cases r1 with
 | cons r rr =>
  cases rr with
  | cons r' rr =>
   cases rr;cases r;cases r';obtain ⟨its1, rv1, p1, _⟩ := I1.list hq1;obtain ⟨its2, rv2, p2, _⟩ := I1.list hq2;refine call_zip_2 p1.isList p2.isList fun h' hz hTI hTO h1 h2 hsz hk => ?_
   have I2 : Inv X aa σ H1 { s1 with heap := h' } := I1.kept (t' := s1.toks) hk;refine wpAny_pyIter_zip (s := { s1 with heap := h' }) hz ?_;have lt : ∀ k : Nat, s1.heap.objs.size <= s1.heap.objs.size + k := fun k => Nat.le_add_right _ _
   refine ⟨_, [s1.heap.objs.size + 4, s1.heap.objs.size + 2, s1.heap.objs.size + 3, s1.heap.objs.size, s1.heap.objs.size + 1], _, _, H1, rfl, I2,
    xg l1 l2 (s1.heap.objs.size + 4) (s1.heap.objs.size + 2) (s1.heap.objs.size + 3) s1.heap.objs.size (s1.heap.objs.size + 1) ?_ ?_ ?_ ?_ ?_ ?_ ?_ ?_ ?_ ?_, ⟨hz, hTI, ⟨_, _, hTO⟩, h1, h2⟩, fun c hc => ?_, q⟩
   all_goals first
    | (show _ + _ ≠ _ + _; intro z; exact absurd (Nat.add_left_cancel z) dC)
    | (show _ ≠ _ + _; intro z; exact absurd z (by have := Nat.lt_add_of_pos_right (n := s1.heap.objs.size) (k := 4) dC; have := Nat.lt_add_of_pos_right (n := s1.heap.objs.size) (k := 1) dC; exact Nat.ne_of_lt (by assumption)))
    | (show _ + _ ≠ _; exact Nat.ne_of_gt (Nat.lt_add_of_pos_right dC))
    | skip
   have hle : s1.heap.objs.size <= c := by
    simp only [List.mem_cons, List.not_mem_nil, or_false] at hc;rcases hc with rfl | rfl | rfl | rfl | rfl
    ·exact lt 4
    ·exact lt 2
    ·exact lt 3
    ·exact Nat.le_refl _
    ·exact lt 1
   obtain ⟨f0, f1, f2, f3, f4, f5⟩ := I1.fpOk hle (I1.hok.fresh hle);exact ⟨f0, f1, f2, f3, f4, f5⟩
end L2
namespace DD
open PySem PySem.Spec PyProof.Rows L2
noncomputable def nS (c c' : DE) : DI := fun σ => (c σ).bind fun p => (c' p.2).bind fun q => match p.1, q.1 with
 | .lst _ xs, .lst _ ys => some (((D.fzL xs).zip (D.fzL ys)).map fun z => .tup [z.1, z.2], q.2)
 | _, _ => none
theorem Ap {K : PySem.W.Frag} {F : Addr -> Prop} {H : Hp} {xs ys : List D} {a b : Addr} {vs ws : List V} (fl : FL K F H a vs) (ol : OwL K F H xs vs []) (fl' : FL K F H b ws) (ol' : OwL K F H ys ws []) :
  oz K (CK K a b) ((xs.zip ys).map fun z => .tup [z.1, z.2]) F H where
 item := fun i d F1 H1 x1 dm e => by
  rw [List.getElem?_map] at e;rcases hz : (xs.zip ys)[i]? with _ | ⟨x, y⟩
  ·rw [hz] at e; cases e
  ·rw [hz] at e; cases e
   obtain ⟨hx, hy⟩ := List.getElem?_zip_eq_some.mp hz;obtain ⟨u, La, Lx, Lb, e1, eL, o1, _⟩ := ol.kid hx;have eLx : Lx = [] := (List.append_eq_nil_iff.mp (List.append_eq_nil_iff.mp eL.symm).1).2;subst eLx;obtain ⟨w, La', Lx', Lb', e2, eL', o2, _⟩ := ol'.kid hy;have eLx' : Lx' = [] := (List.append_eq_nil_iff.mp (List.append_eq_nil_iff.mp eL'.symm).1).2;subst eLx';refine ⟨⟨vs, ws, u, w, (fl.ext x1).sq, (fl'.ext x1).sq, e1, e2⟩, fun v H2 ⟨p, u', w', h1, h2, hp, hH, hv⟩ => ?_⟩;subst hH hv;have h1' := h1 vs (fl.ext x1).sq;rw [e1] at h1'; cases h1';have h2' := h2 ws (fl'.ext x1).sq;rw [e2] at h2'; cases h2';have nF : ∀ c, F1 c -> c ≠ p := fun c fc z => by obtain ⟨o, h⟩ := dm c fc; rw [z, hp] at h; cases h
   have gr : Grow F1 H1 (fun c => F1 c \/ c = p) (aO H1 p (.tup [u, w])) := by
    refine ⟨fun c fc => ⟨.inl fc, aJ (nF c fc)⟩, fun c o e => by rw [aJ (cE e hp)]; exact e, fun c fc => ?_, fun _ c fc => ?_⟩
    ·rcases fc with fc | fc
     ·exact .inl fc
     ·exact .inr (fc ▸ hp)
    ·rcases fc with fc | fc
     ·rw [aJ (nF c fc)]; exact dm c fc
     ·subst fc; exact ⟨_, bX⟩
   refine ⟨_, gr, ?_⟩;simp only [Ow, OwL];refine ⟨p, [u, w], rfl, .inl ⟨.inr rfl, bX⟩, u, [w], [], [], rfl, (o1.mono x1 (fun a ha => by cases ha)).mono gr.x (fun a ha => by cases ha), ⟨w, [], [], [], rfl, (o2.mono x1 (fun a ha => by cases ha)).mono gr.x (fun a ha => by cases ha), ⟨rfl, rfl⟩, rfl⟩, rfl⟩
 done := fun F1 H1 x1 => ⟨vs, ws, (fl.ext x1).sq, (fl'.ext x1).sq, by
  have h1 := ol.length;have h2 := ol'.length;simp only [List.length_map, List.length_zip];omega⟩
section
variable {X : Cx} {a b o e : Expr} {c c' : DE} {p p1 pos1 : Pos} {elts : List Expr} {x1 : Nat} {tpos pos : Pos}
theorem Bh (hgl : Gl X "zip") (hm : X.mg "zip" = none) (ha : QE X a c) (hb : QE X b c') (hs : autoParam (starEach [a, b] X.env = [(false, eval a X.env), (false, eval b X.env)]) aI._auto_1) (hs2 : autoParam (starEach [b] X.env = [(false, eval b X.env)]) aI._auto_1) :
  QI X (.Tuple elts x1 tpos) (.Call (.Name "zip" p1) [a, b] [] pos1) (nS c c') := kg (Bv hgl hm (dj ha (dj hb eI hs2) (by rw [hs, hs2])) hs hs2) fun σ H R hq0 => by
 obtain ⟨F, Ro, σD, xs, σD', r, ec, k⟩ := hq0;unfold nS at ec;rcases h1 : c σD with _ | ⟨x, σ1⟩
 ·rw [h1] at ec; cases ec
 ·rw [h1] at ec; simp only [bind_some] at ec
  rcases h2 : c' σ1 with _ | ⟨y, σ2⟩
  ·rw [h2] at ec; cases ec
  ·rw [h2] at ec; simp only [bind_some] at ec
   split at ec
   ·cases ec
    refine ⟨F, Ro, σD, _, σ1, r, h1, fun F1 H1 v x1 r1 => ?_⟩;refine ⟨F1, _, σ1, _, _, r1, h2, fun F2 H2 u x2 r2 => ?_⟩;obtain ⟨F3, x3, r3, o3⟩ := r2.freeze;obtain ⟨F4, x4, r4, o4⟩ := (r3.pop).freeze;have o3' := o3.mono x4 (fun a ha => by cases ha);simp only [D.fz, Ow] at o3' o4;obtain ⟨a1, vs, rfl, fl, ol, _⟩ := o4;obtain ⟨a2, ws, rfl, fl', ol', _⟩ := o3';exact ⟨a1, a2, rfl, ⟨vs, fl.sq⟩, ⟨ws, fl'.sq⟩, k F4 H2 _ ((x1.trans x2).trans (x3.trans x4)) r4.pop (Ap fl ol fl' ol')⟩
   ·cases ec
theorem tG {xs : List D} {vs : List V} {j : Nat} {x : D} {w : V} (h1 : xs[j]? = some x) (h2 : vs[j]? = some w) : (x, w) ∈ xs.zip vs := by
 have : (xs.zip vs)[j]? = some (x, w) := List.getElem?_zip_eq_some.mpr ⟨h1, h2⟩;exact List.mem_of_getElem? this
theorem Rel.pick {K : PySem.W.Frag} {F : Addr -> Prop} {H : Hp} {σD : aF} {σ : St} {R S : Ro} {x : D} {w : V} (r : Rel K F H σD σ (S ++ R)) (h : (x, w) ∈ S) : Rel K F H σD σ ((x, w) :: R) := by
 obtain ⟨A, B, rfl⟩ := List.append_of_mem h;have r1 : Rel K F H σD σ ((A ++ B) ++ ((x, w) :: R)) := r.perm (by
  have h1 : A ++ (x, w) :: B ++ R = A ++ ((x, w) :: (B ++ R)) := by simp
  rw [h1, List.append_assoc];exact (List.perm_middle.symm).append_left A)
 exact r1.popN
theorem yQ (ha : QE X a c) (hb : QE X b c') (hs : autoParam (iX b) jF._auto_1) : QE X (.Subscript a b pos) (wG c c') := bc (u6 sk ha hb hs) fun σ H Q hq0 => by
 obtain ⟨F, R, σD, d, σD', r, ec, k⟩ := hq0;unfold wG at ec;rcases h1 : c σD with _ | ⟨x, σ1⟩
 ·rw [h1] at ec; cases ec
 ·rw [h1] at ec; simp only [bind_some] at ec
  rcases h2 : c' σ1 with _ | ⟨y, σ2⟩
  ·rw [h2] at ec; cases ec
  ·rw [h2] at ec; simp only [bind_some] at ec
   obtain ⟨z, e1, e2⟩ := bP ec;cases e2;refine ⟨F, R, σD, x, σ1, r, h1, fun F1 H1 v x1 r1 => ?_⟩;refine ⟨F1, _, σ1, y, _, r1, h2, fun F2 H2 u x2 r2 => ?_⟩;have bu := r2.bor (d := y) (v := u) (by simp);have r3 := r2.pop;unfold dU at e1;split at e1
   ·rename_i own xs i
    obtain ⟨j, hj, hx⟩ := j9 e1;cases own
    ·obtain ⟨L, ⟨L1, L2, o1, h12, _⟩, _, _⟩ := r3.front.own
     simp only [Ow] at o1;obtain ⟨a1, vs, rfl, fl, ol, _⟩ := o1;obtain ⟨w, La, Lx, Lb, ew, eL, ox, _⟩ := ol.kid hx;have eLx : Lx = [] := (List.append_eq_nil_iff.mp (List.append_eq_nil_iff.mp eL.symm).1).2;subst eLx;refine .inl ⟨a1, vs, i, w, rfl, bu.int, fl.sq, ?_, k F2 H2 w (x1.trans x2) (r3.pop.push ox)⟩;unfold atI; rw [ol.length, hj]; exact ew
    ·obtain ⟨a1, vs, rfl, hh, hl, r4⟩ := r3.openL
     have hjl : j < vs.length := by rw [<- hl]; exact (List.getElem?_eq_some_iff.mp hx).1
     have ew := List.getElem?_eq_getElem hjl;refine .inl ⟨a1, vs, i, vs[j], rfl, bu.int, .inl (.inl hh), ?_, k F2 H2 _ (x1.trans x2) (r4.pop.pick (tG hx ew))⟩;unfold atI; rw [<- hl, hj]; exact ew
   ·rename_i xs i
    obtain ⟨j, hj, hx⟩ := j9 e1;obtain ⟨a1, vs, rfl, ft, hl, r4⟩ := r3.openT;have hjl : j < vs.length := by rw [<- hl]; exact (List.getElem?_eq_some_iff.mp hx).1
    have ew := List.getElem?_eq_getElem hjl;refine .inr (.inl ⟨a1, vs, i, vs[j], rfl, bu.int, ft.sq, ?_, k F2 H2 _ (x1.trans x2) (r4.pick (tG hx ew))⟩);unfold atI; rw [<- hl, hj]; exact ew
   ·split at e1
    ·rename_i z2 i hz
     rcases h : atI z2.cps.toList i with _ | ch
     ·rw [h] at e1; cases e1
     ·rw [h] at e1; cases e1
      exact .inr (.inr ⟨z2, i, ch, (r3.bor (by simp)).str, bu.int, hz, h, k F2 H2 _ (x1.trans x2) (r3.pop.scal rfl)⟩)
    ·cases e1
   ·cases e1
end
end DD
namespace L2
open PySem PySem.Spec PyProof.Rows
theorem yq {X : Cx} : CJ X (fun o i H Q => ∃ p xs k v, o = .ref p /\ i = .int k /\ dH X.K H p xs /\ atI xs k = some v /\ Q v H) := by
 rintro aa s σ H o i ov iv Q I ro ri ⟨p, xs, k, v, e1, e2, hq, he, q⟩;subst e1 e2;cases ro;obtain ⟨t, rfl⟩ := ri;obtain ⟨its, r, pl, hz⟩ := I.list hq;obtain ⟨j, h1, h2, h3, h4, h5⟩ := mD he;obtain ⟨w, ew, rw'⟩ := r.get h2;have hl := r.length;have hn := jf;have fin : EP X aa σ Q w s := ⟨v, H, I, rw', q⟩;by_cases h0 : 0 <= k
 ·have hj : k.toNat = j := by
   rw [seqIndex_of h0 h5] at h1;exact Option.some.inj h1
  exact wpAny_getItem_list pl.isList h0 oM (by rw [hj]; simpa using ew) fin
 ·have hj : (k + (its.toArray.size : Int)).toNat = j := by
   rw [seqIndex_neg oM h4] at h1;rw [List.size_toArray, <- hl];exact Option.some.inj h1
  exact wpAny_getItem_list_neg pl.isList oM (by rw [List.size_toArray] <;> omega) oM (by rw [hj]; simpa using ew) fin
end L2
namespace DD
open PySem PySem.Spec PyProof.Rows L2
section
variable {X : Cx} {o a e tg : Expr} {q p : DP} {c : DE} {g : D -> D -> Option D} {i : Nat} {js : List DP} {pos tpos : Pos} {op : Operator}
theorem BP : dI X (inplaceOp .Add) (j1 fun i j => i + j) := ld Au
noncomputable def kU (g : D -> D -> Option D) (i : Nat) (js : List DP) (q p : DP) : DS := fun σ => (bt σ i).bind fun t => (gZ js σ).bind fun path => (cZ t path).bind fun n => match n with
 | .lst true xs => (q σ).bind fun kk => match kk with
  | .int k => (ixN xs.length k).bind fun j => (xs[j]?).bind fun x => match x.sc with
   | some _ => (p σ).bind fun y => (g x y).map fun z => .nx (σ.set i (some (ey t path (.lst true (xs.set j z)))))
   | none => none
  | _ => none
 | _ => none
theorem zH (hop : dI X (inplaceOp op) g) (ho : QP X o i js) (hq : QB X a q) (he : QB X e p)
  (ha : autoParam (∀ ov iv new, augStore a ov iv new = (do holding [new, ov, iv] (setItem ov iv new); release [new, ov, iv] []; pure .next)) Ey._auto_1) : QS X (.AugAssign (.Subscript o a tpos) op e pos) (kU g i js q p) [] :=
 jq (zR ho hq yq he hop.run qJ ha) fun En σ H hq0 => by
  obtain ⟨F, R, σD, out, r, ec, kk⟩ := hq0;unfold kU at ec;rcases h1 : bt σD i with _ | t
  ·rw [h1] at ec; cases ec
  ·rw [h1] at ec; simp only [bind_some] at ec
   rcases h2 : gZ js σD with _ | path
   ·rw [h2] at ec; cases ec
   ·rw [h2] at ec; simp only [bind_some] at ec
    rcases h3 : cZ t path with _ | n
    ·rw [h3] at ec; cases ec
    ·rw [h3] at ec; simp only [bind_some] at ec
     split at ec
     ·rename_i xs
      rcases h4 : q σD with _ | ky
      ·rw [h4] at ec; cases ec
      ·rw [h4] at ec; simp only [bind_some] at ec
       split at ec
       ·rename_i k
        rcases h5 : ixN xs.length k with _ | j
        ·rw [h5] at ec; cases ec
        ·rw [h5] at ec; simp only [bind_some] at ec
         rcases h6 : xs[j]? with _ | x
         ·rw [h6] at ec; cases ec
         ·rw [h6] at ec; simp only [bind_some] at ec
          rcases h7 : x.sc with _ | xw
          ·rw [h7] at ec; cases ec
          ·rw [h7] at ec; simp only at ec
           rcases h8 : p σD with _ | y
           ·rw [h8] at ec; cases ec
           ·rw [h8] at ec; simp only [bind_some] at ec
            rcases h9 : g x y with _ | z
            ·rw [h9] at ec; cases ec
            ·rw [h9] at ec; cases ec
             obtain ⟨zw, hzw⟩ := hop.sc _ _ _ h9;obtain ⟨v0, hv0, r0⟩ := r.take (bG h1);obtain ⟨l0, vs0, lc0, hl0, hlen0, _⟩ := Rel.listAt (S := []) r0 h3;refine ⟨F, R, σD, v0, path, .ref l0, r, hv0, h2, lc0, fun F1 H1 g1 => ?_⟩;refine ⟨F1, R, σD, _, r.grow g1, h4, fun F2 H2 u g2 b2 => ?_⟩;have g3 := g1.trans g2
             -- what stands there
             have look : ∀ F' H', Grow F H F' H' -> ∃ vs, H' l0 = some (.lst vs) /\ xs.length = vs.length /\ vs[j]? = some xw /\ ∀ (d : D) (w : V), d.sc = some w -> Rel X.K F' (aO H' l0 (.lst (vs.set j w))) (σD.set i (some (ey t path (.lst true (xs.set j d))))) σ R /\ Ext F' H' F' (aO H' l0 (.lst (vs.set j w))) := fun F' H' gr => by
              obtain ⟨v1, hv1, r1⟩ := (r.grow gr).take (bG h1);rw [hv0] at hv1; cases hv1;obtain ⟨l, vs, lc, hl, hlen, _⟩ := Rel.listAt (S := []) r1 h3;have el : l0 = l := by
               have := (lc0.grow gr.k).uniq lc
               injection this
              subst el;refine ⟨vs, hl, hlen, ?_, fun d w hw => ?_⟩
              ·have hjl : j < vs.length := by rw [<- hlen]; exact (List.getElem?_eq_some_iff.mp h6).1
               obtain ⟨L, ⟨L1, L2, o1, _⟩, _⟩ := r1.front.own;obtain ⟨l', La, Lx, Lb, lc', _, ⟨vs', hl', ol'⟩, _⟩ := o1.focus h3;have el : l0 = l' := by
                have := lc.uniq lc'
                injection this
               subst el;rw [hl] at hl'; cases hl';obtain ⟨w2, e2, b2⟩ := ol'.get h6;rw [e2, b2.sc h7]
              ·have r2 : Rel X.K F' H' (σD.set i none) σ ((t, v0) :: ([(d, w)] ++ R)) := (r1.scal (d := d) hw).perm (.swap _ _ _)
               obtain ⟨l2, vs2, lc2, hl2, hlen2, upd2⟩ := r2.listAt h3;have el : l0 = l2 := by
                have := lc.uniq lc2
                injection this
               subst el;rw [hl] at hl2; cases hl2;have hj : j < xs.length := (mw h5).2.1;obtain ⟨xo, wo, pm⟩ := tF (d := d) (v := w) hlen hj;obtain ⟨r3, x3⟩ := upd2 (xs.set j d) (vs.set j w) [(xo, wo)] pm (by simp [hlen]);have r4 := (Rel.put (R := (xo, wo) :: R) r3 hv0);rw [List.set_set] at r4;exact ⟨r4.pop, x3⟩
             obtain ⟨vs, hl, hlen, hx, _⟩ := look F2 H2 g3;refine ⟨l0, vs, k, xw, rfl, b2.int, .inl (.inl hl), by unfold atI; rw [<- hlen, h5]; exact hx, ?_⟩;refine ⟨F2, R, σD, y, r.grow g3, h8, fun F3 H3 uy g4 b4 => ?_⟩;refine ⟨F3, x, y, z, zw, ⟨[], Ow.of_sc h7⟩, b4, h9, hzw, ?_⟩;obtain ⟨vs3, hl3, hlen3, _, up3⟩ := look F3 H3 (g3.trans g4);obtain ⟨r5, x5⟩ := up3 z zw hzw;refine ⟨l0, vs3, k, j, rfl, b2.int, hl3, by rw [<- hlen3]; exact h5, ?_⟩;exact kk F3 _ σ ((g3.trans g4).x.trans x5) Kp.refl r5
       ·cases ec
     ·cases ec
end
section
variable {X : Cx} {tg : Expr} {g : DG} {s : DS} {pos : Pos} {W W' : List Nat} {body : List Stmt}
end
noncomputable abbrev fQ : D -> D -> Option D := j1 fun i j => i + j
noncomputable abbrev jM : D -> D -> Option D := j1 fun i j => i - j
noncomputable abbrev Cj : D -> D -> Option D := j1 Builtin.bitAnd
noncomputable abbrev lm : D -> D -> Option D := j1 Builtin.bitOr
noncomputable abbrev pd : D -> D -> Option D := gI (fun _ j => decide (0 < j)) fun i j => i % j
noncomputable def vo (_ j : Int) : Bool := decide (0 < j /\ j.natAbs.log2 < 9000)
noncomputable abbrev Ci : D -> D -> Option D := gI vo fun i j => i / j
theorem Dv {X : Cx} : dI X (binaryOp .FloorDiv) Ci := mi (C := fun _ j => 0 < j /\ j.natAbs.log2 < 9000) (tU fun i j _ _ _ _ _ hc q => by
 have h1 : (0 : Int) < j := hc.1;exact floordiv_int oM (by rw [Int.fdiv_eq_ediv_of_nonneg i oM]; exact q) (.inl (PyProof.noPylong_of_log2 hc.2))) fun i j h => by simpa [vo] using h
noncomputable abbrev vm : D -> D -> Option D := gI (fun i j => decide (0 <= j /\ j <= 1000000 /\ i.natAbs < 2 ^ 64)) fun i j => i ^ j.toNat
noncomputable abbrev vk : D -> D -> Option D := gI (fun i j => decide (0 <= j /\ j <= 1000000 /\ i.natAbs < 2 ^ 64)) fun i j => i * 2 ^ j.toNat
noncomputable abbrev E9 : D -> D -> Option D := gI (fun _ j => decide (0 <= j)) fun i j => i / 2 ^ j.toNat
noncomputable def u9 (i j : Int) : Bool := decide ((-(2 ^ 64) < i /\ i < 2 ^ 64) \/ (-(2 ^ 64) < j /\ j < 2 ^ 64))
noncomputable abbrev gU : D -> D -> Option D := gI u9 fun i j => i * j
theorem gg {X : Cx} : dI X (binaryOp .Mult) gU := mi BI fun i j h => by simpa [u9, CMul] using h
noncomputable abbrev y4 : D -> D -> Option D := mG fun i j => decide (i < j)
noncomputable abbrev Ch : D -> D -> Option D := mG fun i j => decide (j < i)
noncomputable abbrev Em : D -> D -> Option D := mG fun i j => decide (j <= i)
noncomputable def qz (N N' : List Str) (names : List (Str × NameKind)) (kd : Str -> Option NameKind) : Bool :=
 decide ((names.map (·.1)).Nodup) && decide (N.length <= N'.length) && names.all (fun p => p.2 != .free || kd p.1 == some .cell || kd p.1 == some .free) &&
  (List.range N.length).all fun i => match N'[i]? with
   | none => true
   | some x => match names.lookup x with
    | none => true
    | some k => k == .free && N[i]? == some x
theorem y9 {X : Cx} {N' : List Str} {scope : Scope} (hk : scope.kind = .function) (h : qz X.N N' scope.names X.env.kindOf = true) : lV X N' scope := by
 unfold qz at h;simp only [Bool.and_eq_true, decide_eq_true_eq] at h;obtain ⟨⟨⟨h1, h2⟩, h3⟩, h4⟩ := h;have look : ∀ i x, i < X.N.length -> N'[i]? = some x -> (∃ k, (x, k) ∈ scope.names) -> (x, NameKind.free) ∈ scope.names /\ X.N[i]? = some x := fun i x hi e hq0 => by
  obtain ⟨k, hm⟩ := hq0
  have := List.all_eq_true.mp h4 i (List.mem_range.mpr hi)
  rw [e] at this;simp only at this;rw [eP h1 hm] at this;simp only [Bool.and_eq_true, beq_iff_eq] at this;obtain ⟨e1, e2⟩ := this;subst e1;exact ⟨hm, e2⟩
 refine ⟨hk, h1, h2, fun x hx => ?_, fun i x hi e hx => (look i x hi e ⟨_, hx⟩).2, fun i x hi e hx => (look i x hi e hx).1⟩
 have := List.all_eq_true.mp h3 _ hx
 simp at this;exact this
theorem tO {X : Cx} {x : Str} {i : Int} {pos : Pos} (hg : Gl X x) (hm : ∃ t, X.mg x = some (.int i t)) (hd : autoParam ((x == ("__debug__" : Str)) = false) cG._auto_1) : QB X (.Name x pos) (pC (.int i)) := by
 obtain ⟨t, hm⟩ := hm;exact bc (tR (v := .int i) hg hm ⟨t, rfl⟩ hd) fun σ H Q hq0 => by obtain ⟨F, R, σD, d, r, ec, k⟩ := hq0; cases ec; exact k F H _ Grow.refl ⟨[], Ow.of_sc rfl⟩
section
variable {X : Cx} {es : List Expr} {ps : List DP} {pos : Pos}
theorem OwL.ofBor {K : PySem.W.Frag} {F : Addr -> Prop} {H : Hp} : ∀ {ds : List D} {vs : List V}, BorL K F H ds vs -> ∃ L, OwL K F H ds vs L
 | [], [], _ => ⟨[], by simp only [OwL]; exact ⟨trivial, trivial⟩⟩
 | d :: ds, v :: vs, ⟨⟨L1, o⟩, r⟩ => by
  obtain ⟨L2, ol⟩ := OwL.ofBor r;exact ⟨L1 ++ L2, by simp only [OwL]; exact ⟨v, vs, L1, L2, rfl, o, ol, rfl⟩⟩
noncomputable def la (ps : List DP) : DP := fun σ => (kK ps σ).bind fun ds => if ds.length <= sizeLine then some (.lst true ds) else none
theorem nC (h : uD X es ps) : QB X (.List es pos) (la ps) := bc (v3 h) fun σ H Q hq0 => by
 obtain ⟨F, R, σD, d, r, ec, k⟩ := hq0;unfold la at ec;rcases h1 : kK ps σD with _ | ds
 ·rw [h1] at ec; cases ec
 ·rw [h1] at ec; simp only [bind_some] at ec
  split at ec
  ·rename_i hz
   cases ec;refine ⟨F, R, σD, ds, r, h1, fun F1 H1 vs g1 b1 => ?_⟩;obtain ⟨L, ol⟩ := OwL.ofBor b1;refine ⟨by rw [ol.length]; exact hz, fun p hp => ?_⟩;have nF : ∀ c, F1 c -> c ≠ p := fun c fc z => by
    obtain ⟨o, h⟩ := g1.dm r.g.dom c fc;rw [z, hp] at h; cases h
   have gr : Grow F1 H1 F1 (aO H1 p (.lst vs)) := ⟨fun c fc => ⟨fc, aJ (nF c fc)⟩, fun c o e => by rw [aJ (cE e hp)]; exact e, fun c fc => .inl fc, fun dm c fc => by rw [aJ (nF c fc)]; exact dm c fc⟩;refine k F1 _ _ (g1.trans gr) ⟨p :: L, ?_⟩;simp only [Ow];exact ⟨p, vs, L, rfl, bX, ol.mono gr.x fun c hc => by
    obtain ⟨o, e⟩ := ol.dom c hc;rw [aJ (cE e hp)], rfl⟩
  ·cases ec
end
theorem AB {p : DP} {σ σ' : aF} {d : D} (h : dS p σ = some (d, σ')) : p σ = some d /\ σ' = σ /\ ∃ w, d.sc = some w := by
 unfold dS at h;rcases hp : p σ with _ | x
 ·rw [hp] at h; cases h
 ·rw [hp] at h
  simp only [bind_some] at h;rcases hs : x.sc with _ | w
  ·rw [hs] at h; cases h
  ·rw [hs] at h; cases h
   exact ⟨rfl, rfl, w, hs⟩
theorem tL {X : Cx} {a b : Expr} {p q : DP} {pos : Pos} {op : CmpOp} {g : D -> D -> Option D} (o : dI X (compareOp op) g) (ha : QB X a p) (hb : QB X b q) (hm : behindInMarks op b = false) : QT X (.Compare a [op] [b] pos) (aV (dS (aT g p q))) :=
 lT (oU o.run ha hb hm) fun σ H Q hq0 => by
  obtain ⟨F, R, σD, k, σD', r, ec, kk⟩ := hq0;obtain ⟨e1, e2, w, hw⟩ := AB (iT ec);subst e2;show mE _ _ _ σ H _;exact xB o ⟨F, R, _, _, r, e1, fun F' H' v g' b' => ⟨k, b'.bl, kk F' H' g'.x (r.grow g')⟩⟩
section
variable {X : Cx} {e tg elt iter : Expr} {ifs : List Expr} {g : DG} {t : DT} {c : DE} {i : DI} {pos : Pos} {W : List Nat} {scope : Scope} {k : Nat}
theorem o6 (N' : List Str) (hi : QI X tg iter i) (hg : ∀ cl s H fp aa, QG (cS X N' scope cl s H fp aa) tg g W) (ht : ∀ cl s H fp aa, uC (cS X N' scope cl s H fp aa) ifs t)
  (he : ∀ cl s H fp aa, QE (cS X N' scope cl s H fp aa) elt c) (hk : autoParam (N'.length - X.N.length = k) aI._auto_1) (hw : autoParam ((W.all fun i => decide (X.N.length <= i)) = true) aI._auto_1) (hc : autoParam (X.calm = true) aI._auto_1) (hkd : autoParam (scope.kind = .function) aI._auto_1) (T : autoParam (qz X.N N' scope.names X.env.kindOf = true) aI._auto_1) (hs : autoParam (∀ x, foldedSetIterable iter X.env x = pure x) kP._auto_1) :
  QE X (.ListComp elt [⟨tg, iter, ifs, 0⟩] scope pos) (iJ k i g t c) := by
 subst hk;exact Dg hc (y9 hkd T) hi hg ht he (fun j hj => by simpa using List.all_eq_true.mp hw j hj) hs
theorem EX (ix : Nat) (N' : List Str) {y : Str} {py spos : Pos} (hN : X.N.Nodup) (hi : QI X tg iter i) (hg : ∀ cl s H fp aa, QG (cS X N' scope cl s H fp aa) tg g W) (ht : ∀ cl s H fp aa, uC (cS X N' scope cl s H fp aa) ifs t)
  (he : ∀ cl s H fp aa, QE (cS X N' scope cl s H fp aa) elt c) (hk : autoParam (N'.length - X.N.length = k) aI._auto_1) (hw : autoParam ((W.all fun i => decide (X.N.length <= i)) = true) aI._auto_1) (hc : autoParam (X.calm = true) aI._auto_1) (hkd : autoParam (scope.kind = .function) aI._auto_1) (T : autoParam (qz X.N N' scope.names X.env.kindOf = true) aI._auto_1)
  (hsw : autoParam (swapsWith (.ListComp elt [⟨tg, iter, ifs, 0⟩] scope pos) (some (.Name y py)) spos.line X.env = pure true) aI._auto_1)
  (hiN : autoParam (X.N[ix]? = some y) aI._auto_1) (hx : autoParam (ou X.env.scope y) zj._auto_1) (hs : autoParam (∀ x, foldedSetIterable iter X.env x = pure x) kP._auto_1) (hf : autoParam (X.fn y = true \/ X.env.scope.names.lookup y = some .local) oC._auto_1) :
  QS X (.Assign [.Name y py] (.ListComp elt [⟨tg, iter, ifs, 0⟩] scope pos) spos) (bE ix (iJ k i g t c)) [ix] := by
 subst hk;exact vS ix hN hc (y9 hkd T) hi hg ht he (fun j hj => by simpa using List.all_eq_true.mp hw j hj) hsw hiN hx hs hf
end
section
variable {K : PySem.W.Frag} {F F' : Addr -> Prop} {H H' : Hp}
end
section
variable {X : Cx} {s : DS} {pos : Pos} {W' : List Nat} {body : List Stmt}
end
section
variable {X : Cx} {elt : Expr} {ifs : List Expr} {t : DT} {c : DE} {pos : Pos} {scope : Scope}
end
noncomputable def sB (P : aF -> Bool) (c c' : DE) : DE := fun σ => if P σ = true then c σ else c' σ
theorem Bk {X : Cx} {e : Expr} {c c' : DE} (P : aF -> Bool) (h : QE X e c) (h' : QE X e c') : QE X e (sB P c c') := by
 rintro aa s σ H Q I ⟨F, R, σD, d, σD', r, ec, k⟩;unfold sB at ec;split at ec
 ·exact h aa s σ H Q I ⟨F, R, σD, d, σD', r, ec, k⟩
 ·exact h' aa s σ H Q I ⟨F, R, σD, d, σD', r, ec, k⟩
theorem BU {K : PySem.W.Frag} {H : Hp} {a : Addr} {ns : List Int} {g : GF} {E : XK} (hg : ∃ d, g [.lst false (ns.map D.int)] = some (.bl true, [d])) (hS : dH K H a (ns.map V.int)) : dd K 1 g [.ref a] H (fun v _ => v = .bl true) E := by
 obtain ⟨d, hd⟩ := hg;refine ⟨rfl, fun c => ∃ o, H c = some o, [], [.lst false (ns.map D.int)], .bl true, [d], rfl, ⟨⟨[], ?_, List.nodup_nil, fun c hc => by cases hc⟩, fun c hc => hc⟩, hd, fun F' H' v x _ g => ?_⟩
 ·have ol : ∀ ms : List Int, OwL K (fun c => ∃ o, H c = some o) H (ms.map D.int) (ms.map V.int) [] := by
   intro ms
   induction ms with
   | nil => simp only [List.map_nil, OwL]; exact ⟨trivial, trivial⟩
   | cons m ms ih => simp only [List.map_cons, OwL]; exact ⟨_, _, [], [], rfl, Ow.of_sc rfl, ih, rfl⟩
  refine ⟨[], [], ?_, rfl, rfl⟩;simp only [Ow];refine ⟨a, ns.map V.int, rfl, ?_, ol ns, trivial⟩;rcases hS with h | h
  ·refine .inl ⟨?_, h⟩
   rcases h with h | ⟨o, h⟩ <;> exact ⟨_, h⟩
  ·exact .inr fun H' => .inr h
 ·exact (g.bor (d := .bl true) (v := v) (by simp)).bl
inductive PArg where
 | bo (i : Nat) | pu (p : DP) | bp (i : Nat) (q : DP)
noncomputable def d8 : List PArg -> aF -> aF -> Option (List D × aF)
 | [], _, σ => some ([], σ)
 | .bo i :: as, σ0, σ => (bt σ i).bind fun d => match d.sc with
  | some _ => (d8 as σ0 σ).map fun p => (d :: p.1, p.2)
  | none => (d8 as σ0 (σ.set i none)).map fun p => (d :: p.1, p.2)
 | .pu p :: as, σ0, σ => (p σ0).bind fun d => match d.sc with
  | some _ => (d8 as σ0 σ).map fun p => (d :: p.1, p.2)
  | none => none
 | .bp i q :: as, σ0, σ => (bt σ i).bind fun t => (q σ0).bind fun jd => match jd with
  | .int j => match cZ t [j] with
   | some (.lst true xs) => (d8 as σ0 (σ.set i none)).map fun p => (.lst true xs :: p.1, p.2)
   | _ => none
  | _ => none
noncomputable def xF (σ : aF) (i : Nat) (t jd d : D) : aF := match jd with | .int j => σ.set i (some (ey t [j] d)) | _ => σ
noncomputable def ek : List PArg -> List D -> aF -> aF -> aF
 | .bo i :: as, d :: ds, σ0, σ => match d.sc with
  | some _ => ek as ds σ0 σ
  | none => ek as ds σ0 (σ.set i (some d))
 | .pu _ :: as, _ :: ds, σ0, σ => ek as ds σ0 σ
 | .bp i q :: as, d :: ds, σ0, σ => match bt σ0 i with
  | some t => match q σ0 with
   | some jd => ek as ds σ0 (xF σ i t jd d)
   | none => ek as ds σ0 σ
  | none => ek as ds σ0 σ
 | _, _, _, σ => σ
noncomputable def j6 (g : GF) (as : List PArg) : DE := fun σ => (d8 as σ σ).bind fun q => (g q.1).map fun r => (r.1, ek as r.2 σ q.2)
noncomputable def OkP (H : Hp) (σ : St) (σ0 : aF) : List PArg -> List V -> Prop
 | .bo i :: as, v :: vs => σ[i]? = some (some v) /\ OkP H σ σ0 as vs
 | .pu p :: as, v :: vs => (∀ d, p σ0 = some d -> ∀ w, d.sc = some w -> v = w) /\ OkP H σ σ0 as vs
 | .bp i q :: as, v :: vs => (∃ v0, σ[i]? = some (some v0) /\ ∀ j t xs, q σ0 = some (.int j) -> bt σ0 i = some t -> cZ t [j] = some (.lst true xs) -> Lc H v0 [j] v) /\ OkP H σ σ0 as vs
 | [], [] => True
 | _, _ => False
noncomputable def ls : List PArg -> aF -> Bool
 | .bo i :: as, σ => (bt σ i).isSome && ls as σ
 | .pu p :: as, σ => (match p σ with | some _ => true | none => false) && ls as σ
 | .bp i q :: as, σ => (match bt σ i, q σ with | some t, some (.int j) => (match cZ t [j] with | some (.lst true _) => true | _ => false) | _, _ => false) && ls as σ
 | [], _ => true
noncomputable def Ee (K : PySem.W.Frag) (as : List PArg) : TA := fun σ H Q => ∃ F R σD, Rel K F H σD σ R /\ ls as σD = true /\ ∀ F' H' vs, Grow F H F' H' -> OkP H' σ σD as vs -> Q vs H'
noncomputable def uB (X : Cx) (es : List Expr) (as : List PArg) : Prop := PA X es (Ee X.K as)
section
variable {X : Cx} {e a b : Expr} {es : List Expr} {as : List PArg} {c : DE} {p q : DP} {pos : Pos}
theorem zI : uB X [] [] := gf eI fun σ H Q ⟨F, R, σD, r, ev, k⟩ => k F H [] Grow.refl trivial
theorem Bg (i : Nat) {x : Str} {pos : Pos} (hr : uB X es as) (hN : autoParam (X.N[i]? = some x) aI._auto_1) (hv : autoParam (lO X.env.scope x) oA._auto_1) (hd : autoParam ((x == ("__debug__" : Str)) = false) cG._auto_1)
  (hcd : autoParam ((x == ("__classdict__" : Str)) = false) cG._auto_1) (hs : autoParam (starEach (.Name x pos :: es) X.env = (false, eval (.Name x pos) X.env) :: starEach es X.env) aI._auto_1) : uB X (.Name x pos :: es) (.bo i :: as) :=
 gf (dj (gK hN hv hd hcd) hr hs) fun σ H Q hq0 => by
  obtain ⟨F, R, σD, r, ev, k⟩ := hq0;simp only [ls, Bool.and_eq_true, Option.isSome_iff_exists] at ev;obtain ⟨⟨d, h1⟩, ev⟩ := ev;obtain ⟨v, hv, b⟩ := r.get (bG h1);exact ⟨v, hv, F, R, σD, r, ev, fun F2 H2 vs g2 ok => k F2 H2 (v :: vs) g2 ⟨hv, ok⟩⟩
theorem Bf (i : Nat) (ho : QP X a i []) (hb : QB X b q) (hr : uB X es as) (hs : autoParam (starEach (.Subscript a b pos :: es) X.env = (false, eval (.Subscript a b pos) X.env) :: starEach es X.env) aI._auto_1) (hp : autoParam (iX b) jF._auto_1) : uB X (.Subscript a b pos :: es) (.bp i q :: as) :=
 gf (dj (yP ho hb hp) hr hs) fun σ H Q hq0 => by
  obtain ⟨F, R, σD, r, ev, k⟩ := hq0;simp only [ls, Bool.and_eq_true] at ev;obtain ⟨h1, ev⟩ := ev;rcases ht : bt σD i with _ | t
  ·rw [ht] at h1; cases h1
  ·rw [ht] at h1
   rcases hq : q σD with _ | jd
   ·rw [hq] at h1; cases h1
   ·rw [hq] at h1
    cases jd with
    | int j =>
     simp only at h1;rcases hg : cZ t [j] with _ | n
     ·rw [hg] at h1; cases h1
     ·rw [hg] at h1
      cases n with
      | lst o xs =>
       cases o with
       | true =>
        obtain ⟨v0, hv0, r0⟩ := r.take (bG ht);obtain ⟨l0, vs0, lc0, hl0, _⟩ := Rel.listAt (S := []) r0 hg;refine ⟨F, R, σD, v0, [j], .ref l0, r, hv0, ?_, lc0, fun F1 H1 g1 => ?_⟩
        ·simp only [List.nil_append, gZ, hq, bind_some, map_some]
        refine ⟨F1, R, σD, r.grow g1, ev, fun F2 H2 vs g2 ok => k F2 H2 (.ref l0 :: vs) (g1.trans g2) ⟨⟨v0, hv0, fun j' t' xs' e1 e2 e3 => ?_⟩, ok⟩⟩;rw [hq] at e1; cases e1;exact lc0.grow (g1.trans g2).k
       | false => cases h1
      | _ => cases h1
    | _ => cases h1
variable {K : PySem.W.Frag} {F F' : Addr -> Prop} {H H' : Hp}
theorem mR {α β : Type} : ∀ {xs : List α} {vs : List β} {k : Nat} {d : α} {v : β}, vs[k]? = some v -> (xs.set k d).zip vs = (xs.zip vs).set k (d, v)
 | [], _, _, _, _, _ => rfl
 | _ :: _, [], _, _, _, e => by simp at e
 | x :: xs, w :: vs, 0, d, v, e => by simp at e; subst e; rfl
 | x :: xs, w :: vs, k + 1, d, v, e => by simpa using mR (xs := xs) (vs := vs) (k := k) (d := d) (v := v) (by simpa using e)
theorem qX {α : Type} : ∀ {l : List α} {k : Nat} {x : α}, l[k]? = some x -> l.Perm (x :: l.eraseIdx k)
 | [], _, _, e => by simp at e
 | y :: l, 0, x, e => by simp at e; subst e; exact .refl _
 | y :: l, k + 1, x, e => ((qX (l := l) (k := k) (by simpa using e)).cons y).trans (.swap _ _ _)
theorem oD {α β : Type} {xs : List α} {vs : List β} {k : Nat} {x : α} {v : β} (hx : xs[k]? = some x) (hv : vs[k]? = some v) : (xs.zip vs).Perm ((x, v) :: (xs.zip vs).eraseIdx k) := by
 have h : (xs.zip vs)[k]? = some (x, v) := by rw [List.getElem?_zip_eq_some]; exact ⟨hx, hv⟩
 exact qX h
theorem vB {α β : Type} {xs : List α} {vs : List β} {k : Nat} {d : α} {v : β} (hk : k < xs.length) (hv : vs[k]? = some v) : ((d, v) :: (xs.zip vs).eraseIdx k).Perm ((xs.set k d).zip vs) := by
 have h := oD (xs := xs.set k d) (vs := vs) (k := k) (x := d) (v := v) (by simp [hk]) hv;rw [mR hv, List.eraseIdx_set_eq, <- mR hv] at h;exact h.symm
theorem Rel.outAt {σD : aF} {σ : St} {R : Ro} {t : D} {v : V} {j : Int} {xs : List D} (r : Rel K F H σD σ ((t, v) :: R)) (e : cZ t [j] = some (.lst true xs)) :
  ∃ l Rem, Lc H v [j] (.ref l) /\ Rel K F H σD σ ((.lst true xs, .ref l) :: (Rem ++ R)) /\ ∀ (F' : Addr -> Prop) (H' : Hp) (σD' : aF) (σ' : St) (R' : Ro) (d : D), Ext F H F' H' -> Rel K F' H' σD' σ' ((d, .ref l) :: (Rem ++ R')) -> Rel K F' H' σD' σ' ((ey t [j] d, v) :: R') := by
 obtain ⟨l, La, Lx, Lb, lc, eL, ⟨ws, hws, olw⟩, _⟩ : ∃ l La Lx Lb, Lc H v [j] (.ref l) /\ True /\ (∃ vs, H l = some (.lst vs) /\ OwL K F H xs vs Lx) /\ La ++ Lb = La ++ Lb := by
  obtain ⟨L, ⟨L1, L2, o1, h2, rfl⟩, nd, nf⟩ := r.front.own;obtain ⟨l, La, Lx, Lb, lc, rfl, h, back⟩ := o1.focus e;exact ⟨l, La, Lx, Lb, lc, trivial, h, rfl⟩
 cases t with
 | lst ow ys =>
  simp only [cZ] at e;rcases h1 : atI ys j with _ | y
  ·rw [h1] at e; cases e
  ·rw [h1] at e; simp only [bind_some] at e
   cases e;obtain ⟨k, hk, hy⟩ := j9 h1;have hkl : k < ys.length := (List.getElem?_eq_some_iff.mp hy).1;cases ow with
   | true =>
    obtain ⟨a, vs, rfl, ha, hl, r1⟩ := r.openN;obtain ⟨a', vs', u, e1, e2, e3, e4⟩ := lc;cases e1;have ev : vs' = vs := by rcases e2 with q | q <;> rw [ha] at q <;> cases q; rfl
    subst ev;cases e4;have hv : vs'[k]? = some (.ref l) := by
     unfold atI at e3; rw [<- hl, hk] at e3; exact e3
    refine ⟨l, (.node a vs', .ref a) :: (ys.zip vs').eraseIdx k, ⟨a, vs', _, rfl, .inl ha, e3, rfl⟩, ?_, fun F' H' σD' σ' R' d x rr => ?_⟩
    ·refine r1.perm ?_
     refine (((oD hy hv).append_right R).cons _).trans ?_;exact .swap _ _ _
    ·simp only [ey, hk, hy]
     have hp : ((d, V.ref l) :: ((D.node a vs', V.ref a) :: (ys.zip vs').eraseIdx k ++ R')).Perm ((D.node a vs', V.ref a) :: ((ys.set k d).zip vs' ++ R')) := by
      refine (List.Perm.swap _ _ _).trans (.cons _ ?_);exact (vB hkl hv).append_right R'
     exact (rr.perm hp).formN (by simp [hl])
   | false =>
    exfalso;obtain ⟨L, ⟨L1, L2, o1, h2, rfl⟩, nd, nf⟩ := r.front.own;obtain ⟨l, La, Lx, Lb, _, rfl, _, _⟩ := o1.focus (js := [j]) (xs := xs) (by simp only [cZ, h1, bind_some]);simp only [Ow] at o1;obtain ⟨a, ws, rfl, _, _, h⟩ := o1;simp at h
 | tup ys =>
  have hft : ∃ a vs, v = .ref a /\ F a /\ H a = some (.tup vs) /\ ys.length = vs.length /\ Rel K F H σD σ (ys.zip vs ++ R) := by
   obtain ⟨L, ⟨L1, L2, o1, h2, rfl⟩, nd, nf⟩ := r.front.own;obtain ⟨l, La, Lx, Lb, _, eL, _, _⟩ := o1.focus e;simp only [Ow] at o1;obtain ⟨a, ws, rfl, ft, ol⟩ := o1;rcases ft with h | ⟨_, h⟩
   ·refine ⟨a, ws, rfl, h.1, h.2, ol.toP.1, Rel.of r.mt ⟨⟨L1 ++ L2, ?_, nd, nf⟩, r.g.dom⟩⟩
    have := ol.toP.2.append h2
    rwa [List.append_assoc]
   ·rw [h] at eL; simp at eL
  obtain ⟨a, vs2, rfl, fa, ha, hl, r1⟩ := hft;simp only [cZ] at e;rcases h1 : atI ys j with _ | y
  ·rw [h1] at e; cases e
  ·rw [h1] at e; simp only [bind_some] at e
   cases e;obtain ⟨k, hk, hy⟩ := j9 h1;have hkl : k < ys.length := (List.getElem?_eq_some_iff.mp hy).1;obtain ⟨a', vs', u, e1, e2, e3, e4⟩ := lc;cases e1;have ev : vs' = vs2 := by rcases e2 with q | q <;> rw [ha] at q <;> cases q; rfl
   subst ev;cases e4;have hv : vs'[k]? = some (.ref l) := by
    unfold atI at e3; rw [<- hl, hk] at e3; exact e3
   refine ⟨l, (ys.zip vs').eraseIdx k, ⟨a, vs', _, rfl, .inr ha, e3, rfl⟩, r1.perm ((oD hy hv).append_right R), fun F' H' σD' σ' R' d x rr => ?_⟩;simp only [ey, hk, hy];have hp : ((d, V.ref l) :: ((ys.zip vs').eraseIdx k ++ R')).Perm ((ys.set k d).zip vs' ++ R') := (vB hkl hv).append_right R';have r2 := rr.perm hp;refine Rel.of r2.mt (G.formT (vs := vs') ?_ (by simp [hl]) ⟨(x a fa).1, (x a fa).2.trans ha⟩)
   have := r2.front
   rwa [List.append_assoc] at this
 | _ => simp only [cZ] at e; cases e
theorem cJ {α β : Type} {o : Option α} {f : α -> β} {b : β} (h : o.map f = some b) : ∃ x, o = some x /\ f x = b := by
 cases o with
 | none => cases h
 | some x => exact ⟨x, rfl, Option.some.inj h⟩
theorem jj {σ0 : aF} {σ : St} : ∀ {as : List PArg} {vs : List V} {σD : aF} {R : Ro} {ds : List D} {σD' : aF}, OkP H σ σ0 as vs -> d8 as σ0 σD = some (ds, σD') -> Rel K F H σD σ R -> (∀ i, bt σD i = bt σ0 i \/ bt σD i = none) ->
  ds.length = vs.length /\ ∃ Rem, Rel K F H σD' σ (ds.zip vs ++ (Rem ++ R)) /\ ∀ (F' : Addr -> Prop) (H' : Hp) (σE : aF) (R' : Ro) (es : List D), Ext F H F' H' -> es.length = vs.length -> Rel K F' H' σE σ (es.zip vs ++ (Rem ++ R')) -> Rel K F' H' (ek as es σ0 σE) σ R'
 | [], [], σD, R, ds, σD', _, e, r, _ => by
  simp only [d8] at e; cases e;exact ⟨rfl, [], r, fun F' H' σE R' es x hl rr => by
   cases es with
   | nil => simpa [ek] using rr
   | cons _ _ => simp at hl⟩
 | .bo i :: as, v :: vs, σD, R, ds, σD', ok, e, r, hs => by
  obtain ⟨hv, ok⟩ := ok;simp only [d8] at e;rcases h1 : bt σD i with _ | d
  ·rw [h1] at e; cases e
  ·rw [h1] at e; simp only [bind_some] at e
   obtain ⟨v', hv1, r1⟩ := r.take (bG h1);rw [hv] at hv1; cases hv1;rcases hsc : d.sc with _ | wv
   ·rw [hsc] at e
    obtain ⟨⟨ds2, σ2⟩, e2, e3⟩ := bP e;cases e3;obtain ⟨l, Rem, r2, bk⟩ := jj (R := (d, v) :: R) ok e2 r1 (fun k => by
     by_cases h : i = k
     ·subst h
      right;unfold bt;by_cases hl : i < σD.length
      ·simp [hl]
      ·simp [hl]
     ·rw [fY h]; exact hs k)
    refine ⟨by simp [l], Rem, r2.perm ?_, fun F' H' σE R' es x hl rr => ?_⟩
    ·show (ds2.zip vs ++ (Rem ++ (d, v) :: R)).Perm ((d, v) :: (ds2.zip vs ++ (Rem ++ R)))
     exact pull
    ·cases es with
     | nil => simp at hl
     | cons d1 es =>
      simp only [ek];have rr' : Rel K F' H' σE σ ((d1, v) :: (es.zip vs ++ (Rem ++ R'))) := rr;rcases hs1 : d1.sc with _ | w1
      ·exact bk F' H' _ R' es x (by simpa using hl) (rr'.put hv)
      ·exact bk F' H' _ R' es x (by simpa using hl) rr'.pop
   ·rw [hsc] at e
    obtain ⟨⟨ds2, σ2⟩, e2, e3⟩ := bP e;cases e3;have ev : v = wv := (r1.bor (by simp)).sc hsc;subst ev;obtain ⟨l, Rem, r2, bk⟩ := jj (R := R) ok e2 r hs;refine ⟨by simp [l], Rem, r2.scal hsc, fun F' H' σE R' es x hl rr => ?_⟩;cases es with
    | nil => simp at hl
    | cons d1 es =>
     simp only [ek];have rr' : Rel K F' H' σE σ ((d1, v) :: (es.zip vs ++ (Rem ++ R'))) := rr;rcases hs1 : d1.sc with _ | w1
     ·exact bk F' H' _ R' es x (by simpa using hl) (rr'.put hv)
     ·exact bk F' H' _ R' es x (by simpa using hl) rr'.pop
 | .pu p :: as, v :: vs, σD, R, ds, σD', ok, e, r, hs => by
  obtain ⟨hv, ok⟩ := ok;simp only [d8] at e;rcases h1 : p σ0 with _ | d
  ·rw [h1] at e; cases e
  ·rw [h1] at e; simp only [bind_some] at e
   rcases hsc : d.sc with _ | wv
   ·rw [hsc] at e; cases e
   ·rw [hsc] at e
    obtain ⟨⟨ds2, σ2⟩, e2, e3⟩ := bP e;cases e3;have ev : v = wv := hv d h1 wv hsc;subst ev;obtain ⟨l, Rem, r2, bk⟩ := jj (R := R) ok e2 r hs;refine ⟨by simp [l], Rem, r2.scal hsc, fun F' H' σE R' es x hl rr => ?_⟩;cases es with
    | nil => simp at hl
    | cons d1 es =>
     simp only [ek];have rr' : Rel K F' H' σE σ ((d1, v) :: (es.zip vs ++ (Rem ++ R'))) := rr;exact bk F' H' _ R' es x (by simpa using hl) rr'.pop
 | .bp i q :: as, v :: vs, σD, R, ds, σD', ok, e, r, hs => by
  obtain ⟨⟨v0, hv0, hlc⟩, ok⟩ := ok;simp only [d8] at e;rcases h1 : bt σD i with _ | t
  ·rw [h1] at e; cases e
  ·rw [h1] at e; simp only [bind_some] at e
   rcases hq : q σ0 with _ | jd
   ·rw [hq] at e; cases e
   ·rw [hq] at e; simp only [bind_some] at e
    cases jd with
    | int j =>
     simp only at e;rcases hg : cZ t [j] with _ | n
     ·rw [hg] at e; cases e
     ·rw [hg] at e
      cases n with
      | lst o xs =>
       cases o with
       | true =>
        obtain ⟨⟨ds2, σ2⟩, e2, e3⟩ := bP e;cases e3;have ht0 : bt σ0 i = some t := by
         rcases hs i with h | h
         ·rw [<- h]; exact h1
         ·rw [h1] at h; cases h
        obtain ⟨v', hv1, r1⟩ := r.take (bG h1);rw [hv0] at hv1; cases hv1;obtain ⟨l, Rem1, lc, r2, join⟩ := r1.outAt hg;have ev : v = .ref l := (hlc j t xs hq ht0 hg).uniq lc;subst ev;obtain ⟨ll, Rem, r3, bk⟩ := jj (R := (.lst true xs, .ref l) :: (Rem1 ++ R)) ok e2 r2 (fun k => by
         by_cases h : i = k
         ·subst h
          right;unfold bt;by_cases hl : i < σD.length
          ·simp [hl]
          ·simp [hl]
         ·rw [fY h]; exact hs k)
        refine ⟨by simp [ll], Rem ++ Rem1, r3.perm ?_, fun F' H' σE R' es x hl rr => ?_⟩
        ·show (ds2.zip vs ++ (Rem ++ (D.lst true xs, V.ref l) :: (Rem1 ++ R))).Perm ((D.lst true xs, V.ref l) :: (ds2.zip vs ++ ((Rem ++ Rem1) ++ R)))
         rw [List.append_assoc];exact pull
        ·cases es with
         | nil => simp at hl
         | cons d1 es =>
          simp only [ek, ht0, hq, xF];have rr' : Rel K F' H' σE σ ((d1, .ref l) :: (Rem1 ++ (es.zip vs ++ (Rem ++ R')))) := rr.perm (by
           show ((d1, V.ref l) :: (es.zip vs ++ (Rem ++ Rem1 ++ R'))).Perm _;refine .cons _ ?_;have h3 : es.zip vs ++ (Rem ++ Rem1 ++ R') = (es.zip vs ++ Rem) ++ (Rem1 ++ R') := by simp
           have h4 : Rem1 ++ (es.zip vs ++ (Rem ++ R')) = Rem1 ++ ((es.zip vs ++ Rem) ++ R') := by simp
           rw [h3, h4];exact List.perm_append_comm_assoc _ _ _)
          have r4 := join F' H' σE σ (es.zip vs ++ (Rem ++ R')) d1 x rr';exact bk F' H' _ R' es x (by simpa using hl) (r4.put hv0)
       | false => cases e
      | _ => cases e
    | _ => cases e
theorem OkP.length {σ0 : aF} {σ : St} : ∀ {as : List PArg} {vs : List V}, OkP H σ σ0 as vs -> vs.length = as.length := by
 intro as
 induction as with
 | nil =>
  intro vs h;cases vs with
  | nil => rfl
  | cons _ _ => exact h.elim
 | cons a as ih =>
  intro vs h;cases vs with
  | nil => cases a <;> exact h.elim
  | cons v vs => cases a <;> exact congrArg (· + 1) (ih h.2)
theorem lr {σ0 : aF} : ∀ {as : List PArg} {σD : aF} {r : List D × aF}, d8 as σ0 σD = some r -> (∀ i, bt σD i = bt σ0 i \/ bt σD i = none) -> ls as σ0 = true
 | [], _, _, _, _ => rfl
 | .bo i :: as, σD, r, e, hs => by
  simp only [d8] at e;rcases h1 : bt σD i with _ | d
  ·rw [h1] at e; cases e
  ·rw [h1] at e; simp only [bind_some] at e
   have ht0 : bt σ0 i = some d := by
    rcases hs i with h | h
    ·rw [<- h]; exact h1
    ·rw [h1] at h; cases h
   rcases hsc : d.sc with _ | wv
   ·rw [hsc] at e
    obtain ⟨p, e2, _⟩ := cJ e;simp only [ls, ht0, Option.isSome_some, Bool.true_and];exact lr e2 (fun k => by
     by_cases h : i = k
     ·subst h
      right;unfold bt;by_cases hl : i < σD.length
      ·simp [hl]
      ·simp [hl]
     ·rw [fY h]; exact hs k)
   ·rw [hsc] at e
    obtain ⟨p, e2, _⟩ := cJ e;simp only [ls, ht0, Option.isSome_some, Bool.true_and];exact lr e2 hs
 | .pu p :: as, σD, r, e, hs => by
  simp only [d8] at e;rcases h1 : p σ0 with _ | d
  ·rw [h1] at e; cases e
  ·rw [h1] at e; simp only [bind_some] at e
   rcases hsc : d.sc with _ | wv
   ·rw [hsc] at e; cases e
   ·rw [hsc] at e
    obtain ⟨q, e2, _⟩ := cJ e;simp only [ls, h1, Bool.true_and];exact lr e2 hs
 | .bp i q :: as, σD, r, e, hs => by
  simp only [d8] at e;rcases h1 : bt σD i with _ | t
  ·rw [h1] at e; cases e
  ·rw [h1] at e; simp only [bind_some] at e
   have ht0 : bt σ0 i = some t := by
    rcases hs i with h | h
    ·rw [<- h]; exact h1
    ·rw [h1] at h; cases h
   rcases hq : q σ0 with _ | jd
   ·rw [hq] at e; cases e
   ·rw [hq] at e; simp only [bind_some] at e
    cases jd with
    | int j =>
     simp only at e;rcases hg : cZ t [j] with _ | n
     ·rw [hg] at e; cases e
     ·rw [hg] at e
      cases n with
      | lst o xs =>
       cases o with
       | true =>
        obtain ⟨p, e2, _⟩ := cJ e;simp only [ls, ht0, hq, hg, Bool.true_and];exact lr e2 (fun k => by
         by_cases h : i = k
         ·subst h
          right;unfold bt;by_cases hl : i < σD.length
          ·simp [hl]
          ·simp [hl]
         ·rw [fY h]; exact hs k)
       | false => cases e
      | _ => cases e
    | _ => cases e
theorem Be {n : Nat} {g : GF} {E : XK} {σ : St} {H : Hp} {Q : VK} (hn : as.length = n) (h : rE K (j6 g as) σ H Q) : uR (dd K n g) [] E (Ee K as) σ H Q := by
 obtain ⟨F, R, σD, d, σD', r, ec, k⟩ := h;unfold j6 at ec;rcases h2 : d8 as σD σD with _ | ⟨ds, σ2⟩
 ·rw [h2] at ec; cases ec
 ·rw [h2] at ec; simp only [bind_some] at ec
  obtain ⟨⟨d', ds'⟩, e2, e3⟩ := bP ec;cases e3;refine ⟨F, R, σD, r, lr h2 (fun _ => .inl rfl), fun F1 H1 vs g1 ok => ?_⟩;obtain ⟨l, Rem, r2, bk⟩ := jj (R := R) ok h2 (r.grow g1) (fun _ => .inl rfl);have lv : vs.length = n := by rw [<- hn]; exact ok.length
  refine ⟨by simpa using lv, F1, sl σ2 σ ++ (Rem ++ R), ds, _, ds', by simpa using l, ?_, e2, fun F2 H2 v x2 l2 g2 => ?_⟩
  ·rw [List.append_nil]
   exact r2.g.perm (List.perm_append_comm_assoc _ _ _)
  ·refine k F2 H2 v (g1.x.trans x2) ?_
   rw [List.append_nil] at l2 g2;refine bk F2 H2 σ2 ((_, v) :: R) ds' x2 l2 ⟨r2.mt, g2.perm ?_⟩;have p1 : (sl σ2 σ ++ (ds'.zip vs ++ (Rem ++ (d', v) :: R))).Perm ((d', v) :: (sl σ2 σ ++ (ds'.zip vs ++ (Rem ++ R)))) := by
    have h5 : sl σ2 σ ++ (ds'.zip vs ++ (Rem ++ (d', v) :: R)) = (sl σ2 σ ++ ds'.zip vs) ++ (Rem ++ (d', v) :: R) := by simp
    have h6 : sl σ2 σ ++ (ds'.zip vs ++ (Rem ++ R)) = (sl σ2 σ ++ ds'.zip vs) ++ (Rem ++ R) := by simp
    rw [h5, h6];exact pull
   exact (p1.trans ((List.perm_append_comm_assoc _ _ _).cons _)).symm
theorem xD {k : Nat} {f : Addr} {fd : FuncData} {ps : List Str} {g : GF} {x : Str} {p pos : Pos} (F : ck X.prog X.w X.K X.mg X.base dc k f fd ps (dd X.K ps.length g)) (hr : Room k X.A) (hg : Gl X x) (hm : X.mg x = some (.ref f)) (hk : keepIn X.K (.ref f) = true) (hb : Binds X.K fd ps [])
  (ha : uB X (e :: es) as) (hn : autoParam (as.length = ps.length) aI._auto_1) (hdb : autoParam ((x == ("__debug__" : Str)) = false) cG._auto_1) (he : autoParam (starEach (e :: es) X.env = (false, eval e X.env) :: starEach es X.env) aI._auto_1) (hpl : autoParam ((backTo pos (starEach es X.env)).any (·.1) = false) aI._auto_1) :
  QE X (.Call (.Name x p) (e :: es) [] pos) (j6 g as) := bc (tT (E := E0) F hr hg hm hk hb .nil yS ha hdb he hpl) fun _ _ _ h => Be hn h
noncomputable def rh (i : Nat) (q : DP) (σ : aF) : Bool := match bt σ i with
 | some t => match q σ with
  | some (.int j) => match cZ t [j] with | some (.lst true _) => true | _ => false
  | _ => false
 | _ => false
end
section
variable {X : Cx} {e o a b : Expr} {es : List Expr} {p q : DP} {c c' : DE} {pos apos cpos : Pos} {i : Nat} {js : List DP}
theorem uV {h : Heap} : ∀ {vs : List Value} {ps : List PyData} {as : List Addr}, ReadsAll h vs ps as -> ∀ v ∈ vs, ∃ p as', p ∈ ps /\ Reads h v p as' := by
 intro vs
 induction vs with
 | nil => intro ps as h v hv; cases hv
 | cons v vs ih =>
  intro ps as h v hv;cases h with
  | cons r rs =>
   rcases List.mem_cons.mp hv with rfl | hv
   ·exact ⟨_, _, List.mem_cons_self, r⟩
   ·obtain ⟨p, as', hp, h⟩ := ih rs v hv
    exact ⟨p, as', List.mem_cons_of_mem _ hp, h⟩
end
section
variable {X : Cx} {e o a b : Expr} {es : List Expr} {p q : DP} {c c' : DE} {pos apos cpos : Pos} {i : Nat} {js : List DP}
noncomputable def mC : List D -> Option (List Bool)
 | [] => some []
 | .bl b :: xs => (mC xs).map fun r => b :: r
 | _ => none
theorem pR : ∀ {xs : List D} {bs : List Bool}, mC xs = some bs -> xs = bs.map D.bl
 | [], _, h => by cases h; rfl
 | x :: xs, bs, h => by
  cases x <;> simp only [mC] at h <;> first | cases h | skip
  obtain ⟨r, h1, e⟩ := cJ h;subst e;rw [pR h1]; rfl
theorem OwL.bls {K : PySem.W.Frag} {F : Addr -> Prop} {H : Hp} : ∀ {bs : List Bool} {vs : List V} {L : List Addr}, OwL K F H (bs.map D.bl) vs L -> vs = bs.map V.bl
 | [], _, _, h => by simp only [List.map_nil, OwL] at h; exact h.1
 | b :: bs, _, _, h => by
  simp only [List.map_cons, OwL] at h;obtain ⟨v, ws, L1, L2, rfl, h1, h2, rfl⟩ := h;rw [h2.bls, (h1.sc (d := .bl b) rfl).1]; rfl
theorem tH : ∀ {bs : List Bool} {us : List Value}, Vals (bs.map V.bl) us -> us = bs.map Value.bool
 | [], _, .nil => rfl
 | b :: bs, _, .cons h t => by rw [show _ = Value.bool b from h, tH t]; rfl
noncomputable def pj : List D -> Option D
 | [.lst _ xs] => (mC xs).map fun bs => .bl (bs.all id)
 | _ => none
theorem DY (hc : X.calm = true) : gq X (.builtin "all") pj := by
 refine ⟨fun aa s σ H vs us Q I rv pz => ?_, fun ds d h => ?_⟩
 ·obtain ⟨F, ds, d, w, b, eg, hw, q⟩ := pz
  unfold pj at eg;split at eg
  ·rename_i own xs
   obtain ⟨bs, hbs, e⟩ := cJ eg;subst e; cases hw;have ex := pR hbs;subst ex;obtain ⟨v, rfl, bv⟩ := b.one;obtain ⟨a, ws, rfl, sq, L, ol⟩ := bv.lst;obtain ⟨u, rfl, ru⟩ := iK rv;cases ru;obtain ⟨its, r, pl, _⟩ := I.list sq;rw [ol.bls] at r;have hits := tH r;subst hits;have hl := pl.isList;have hlt : a < s.heap.objs.size := by obtain ⟨_, e, _⟩ := hl; exact Heap.lt_size e
   refine call_all_walk (wpAny_pyIter_list hl ⟨_, _, _, _, _, _, fun i => bs.getD i true, rfl, Walks.list (A := X.A.in1) (I.ok.hd hc) _ a (Nat.ne_of_lt hlt) (bs.map Value.bool).toArray, ⟨⟨_, Heap.get?_push_size _ rfl, rfl, rfl⟩, hl.push _⟩, ?_, fun h' tk hk => ?_⟩)
   ·intro i v s2 Q2 E2 hP hQ
    have : v = .bool (bs.getD i true) := by
     simp only [List.getElem?_toArray, List.getElem?_map, Option.map_eq_some_iff] at hP;obtain ⟨b', hb, rfl⟩ := hP;simp [hb]
    subst this;exact wpAny_truthy_bool hQ
   ·refine ⟨.bl (bs.all id), H, I.kept (old_kept hk), ?_, q⟩
    have e : (List.range (bs.map Value.bool).toArray.size).all (fun i => bs.getD i true) = bs.all id := by
     rw [Bool.eq_iff_iff, List.all_eq_true, List.all_eq_true];constructor
     ·intro h x hx
      obtain ⟨i, hi, rfl⟩ := List.getElem_of_mem hx
      have := h i (by simp [hi])
      simpa [hi] using this
     ·intro h i hi
      have hi' : i < bs.length := by simpa using hi
      have := h bs[i] (List.getElem_mem hi')
      simpa [hi'] using this
    rw [e]; rfl
  ·cases eg
 ·unfold pj at h
  split at h
  ·obtain ⟨bs, _, e⟩ := cJ h
   subst e; exact ⟨_, rfl⟩
  ·cases h
theorem Rel.scs {K : PySem.W.Frag} {F : Addr -> Prop} {H : Hp} {σD : aF} {σ : St} {R : Ro} : ∀ {xs : List D} {vs : List V} {L : List Addr}, gm xs = true -> OwL K F H xs vs L -> Rel K F H σD σ R -> Rel K F H σD σ (xs.zip vs ++ R)
 | [], _, _, _, _, r => by simpa using r
 | x :: xs, _, _, h, o, r => by
  simp only [OwL] at o;obtain ⟨v, ws, L1, L2, rfl, h1, h2, rfl⟩ := o;unfold gm at h;rw [List.all_cons, Bool.and_eq_true, Option.isSome_iff_exists] at h;obtain ⟨⟨w, hw⟩, ht⟩ := h;have r2 := Rel.scs (xs := xs) ht h2 r;have hv := (h1.sc hw).1;subst hv;exact r2.scal hw
noncomputable def lB (p : DP) : DE := fun σ => (p σ).bind fun d => match d with
 | .lst _ xs => if gm xs = true then some (.lst true xs, σ) else none
 | _ => none
theorem vt : CallR X (.type "list") (fun vs H Q => ∃ a xs, vs = [.ref a] /\ dH X.K H a xs /\ ∀ p, H p = none -> Q (.ref p) (aO H p (.lst xs))) := by
 rintro aa s σ H vs us Q I rv ⟨a, xs, e, sq, q⟩;subst e;obtain ⟨u, rfl, ru⟩ := iK rv;cases ru;obtain ⟨its, r, ⟨o, n, hg, hc, hsl, hd⟩, hz⟩ := I.list sq;refine call_list_seq a (.inl rfl) hg hc hd (fun h' c' hk hn => ?_) (by rw [List.size_toArray, <- r.length]; exact hz);exact ⟨.ref s.heap.objs.size, _, I.laid (o := .lst xs) hk (Nat.le_refl _) ⟨hz, its, c', r, hn⟩, rfl, q _ I.fresh⟩
theorem xC {x : Str} {p1 pos : Pos} (hg : Gl X x) (hm : X.mg x = none) (hv : bootBuiltins x = some (.type "list")) (ha : QB X e p) (hn : autoParam (x ≠ "__name__") cG._auto_1) (hdb : autoParam ((x == ("__debug__" : Str)) = false) cG._auto_1)
  (he : autoParam (starEach [e] X.env = (false, eval e X.env) :: starEach [] X.env) aI._auto_1) (hpl : autoParam ((backTo pos (starEach [] X.env)).any (·.1) = false) aI._auto_1) : QE X (.Call (.Name x p1) [e] [] pos) (lB p) :=
 bc (pH vt hg hm hv (dj ha eI he) hn hdb he hpl) fun σ H Q hq0 => by
  obtain ⟨F, R, σD, d, σD', r, ec, k⟩ := hq0;unfold lB at ec;rcases h1 : p σD with _ | x
  ·rw [h1] at ec; cases ec
  ·rw [h1] at ec; simp only [bind_some] at ec
   split at ec
   ·rename_i o xs
    split at ec
    ·rename_i hs
     cases ec;refine ⟨F, R, σD, _, r, h1, fun F1 H1 v g1 b1 => ?_⟩;obtain ⟨a, ws, rfl, sq, L, ol⟩ := b1.lst;refine ⟨a, ws, rfl, sq, fun p hp => ?_⟩;have r2 := Rel.scs hs ol (r.grow g1);obtain ⟨r3, x3⟩ := r2.layL ol.toP.1 hp;exact k F1 _ _ (g1.x.trans x3) r3
    ·cases ec
   ·cases ec
end
end DD
namespace DD
open PySem PySem.Spec PySem.Calls PyProof.Rows L2 PySem.W PySem.Builtin PySem.Builtin.Str
theorem Rel.dropA {K : PySem.W.Frag} {F : Addr -> Prop} {H : Hp} {σD : aF} {σ : St} {R : Ro} : ∀ {S : Ro}, Rel K F H σD σ (S ++ R) -> Rel K F H σD σ R
 | [], r => r
 | _ :: S, r => Rel.dropA (S := S) (Rel.pop (R := S ++ R) r)
noncomputable def n5 (i : Nat) : DE := fun σ => match bt σ i with
 | some (.lst true _) => some (.non, σ.set i (some (.lst true [])))
 | _ => none
section
variable {X : Cx} {apos cpos : Pos}
theorem zL (i : Nat) {x : Str} {npos : Pos} (hN : autoParam (X.N[i]? = some x) aI._auto_1) (hv : autoParam (lO X.env.scope x) oA._auto_1) (hd : autoParam ((x == ("__debug__" : Str)) = false) cG._auto_1)
  (hcd : autoParam ((x == ("__classdict__" : Str)) = false) cG._auto_1) (hbase : autoParam (attributeBase (.Name x npos) "clear" X.env (eval (.Name x npos) X.env) = eval (.Name x npos) X.env) aI._auto_1) (hline : autoParam ((apos.endLine == cpos.line) = true) aI._auto_1) :
  QE X (.Call (.Attribute (.Name x npos) "clear" apos) [] [] cpos) (n5 i) :=
 bc (BC PySem.F.plainAttrs_list PySem.F.slot_list_clear PySem.F.type_list_clear xW (gK hN hv hd hcd) hbase hline) fun σ H Q hq0 => by
  obtain ⟨F, R, σD, d, σD', r, ec, k⟩ := hq0;unfold n5 at ec;split at ec
  ·rename_i xs h2
   cases ec;obtain ⟨v0, hv0, r2⟩ := r.take (bG h2);obtain ⟨l, vs, lc, hl, hlen, upd'⟩ := Rel.listAt (S := []) (js := []) (xs := xs) r2 rfl;cases lc;obtain ⟨r3, x3⟩ := upd' [] [] (xs.zip vs) (by simp) rfl;refine ⟨_, hv0, .inl ⟨rfl, vs, .inl (.inl hl)⟩, _, vs, rfl, rfl, hl, ?_⟩;have r4 := (Rel.put (R := xs.zip vs ++ R) r3 hv0);rw [List.set_set] at r4;exact k F _ .non x3 (r4.dropA.scal rfl)
  ·cases ec
end
end DD
namespace DD
open PySem PySem.Spec PyProof.Rows L2
section
variable {X : Cx} {e o a b : Expr} {es : List Expr} {p q : DP} {c c' : DE} {pos apos cpos : Pos} {i : Nat} {js : List DP}
noncomputable def ud (x y : D) : Option Bool := x.py.bind fun q => y.py.bind fun p => match p with
 | .list ps => if (ps.all fun r => ko r q) = true then some (ps.any fun r => PyData.eqv r q) else none
 | _ => none
noncomputable def y7 (x y : D) : Option D := (ud x y).map .bl
theorem sL {h : Heap} {q : PyData} {e : Value -> Bool} (he : ∀ v p as, Reads h v p as -> e v = PyData.eqv p q) : ∀ {vs : List Value} {ps : List PyData} {as : List Addr}, ReadsAll h vs ps as -> vs.any e = ps.any fun r => PyData.eqv r q
 | _, _, _, .nil => rfl
 | _, _, _, .cons r rs => by rw [List.any_cons, List.any_cons, sL he rs, he _ _ _ r]
theorem ym {x y : D} {t : Bool} (h : ud x y = some t) : ∃ q ps, x.py = some q /\ y.py = some (.list ps) /\ (∀ r ∈ ps, r.canLay0 = true /\ q.canLay0 = true /\ min r.depth q.depth <= 50) /\ t = ps.any fun r => PyData.eqv r q := by
 unfold ud at h;rcases h1 : x.py with _ | p
 ·rw [h1] at h; cases h
 ·rw [h1] at h; simp only [bind_some] at h
  rcases h2 : y.py with _ | q
  ·rw [h2] at h; cases h
  ·rw [h2] at h; simp only [bind_some] at h
   split at h
   ·rename_i ps
    split at h
    ·rename_i hk
     cases h;refine ⟨p, ps, rfl, rfl, fun r hr => ?_, rfl⟩
     have := List.all_eq_true.mp hk r hr
     simp only [ko, Bool.and_eq_true, decide_eq_true_eq] at this;exact ⟨this.1.1, this.1.2, this.2⟩
    ·cases h
   ·cases h
theorem Aw {aa : List (Addr × Obj)} {s : Shared} {σ : St} {H : Hp} {F : Addr -> Prop} {dx dy : D} {x y : V} {v u : Value} {t : Bool} (hu : X.A.units + 64 < cLine) (I : L2.Inv X aa σ H s) (b1 : Bor X.K F H dx x) (b2 : Bor X.K F H dy y)
  (rx : RelV x v) (ry : RelV y u) (h : ud dx dy = some t) : ∃ l items, u = .ref l /\ s.heap.IsList l items /\ ∃ e : Value -> Bool, (∀ z ∈ items, SeqAt.EqAt X.A.in1 s z v (e z)) /\ items.any e = t := by
 obtain ⟨r, ps, e1, e2, hok, rfl⟩ := ym h;obtain ⟨as, ra⟩ := b1.reads I e1 rx;obtain ⟨bs, rb⟩ := b2.reads I e2 ry;cases rb with
 | @list a o items n xs as' hg hc hdt rall =>
  classical
  refine ⟨a, items, rfl, ⟨o, hg, hc, n, hdt⟩, fun z => decide (∃ p as, Reads s.heap z p as /\ PyData.eqv p r = true), fun z hz => ?_, ?_⟩
  ·obtain ⟨pz, az, hpz, rz⟩ := uV rall z (by simpa using hz)
   obtain ⟨k1, k2, k3⟩ := hok pz hpz;have hd : decide (∃ p as, Reads s.heap z p as /\ PyData.eqv p r = true) = PyData.eqv pz r := by
    rcases he : PyData.eqv pz r with _ | _
    ·refine decide_eq_false ?_
     rintro ⟨p', as', r', e'⟩
     have := (PySem.SeqAt.Reads.unique pz p' z az as' k1 rz r')
     rw [<- this, he] at e'; cases e'
    ·exact decide_eq_true ⟨pz, az, rz, he⟩
   dsimp only;rw [hd];exact PySem.SeqAt.eqAt_reads pz r _ s z v az as rz ra k1 k2 (by
    simp only [Around.in1_units];omega)
  ·have hc := sL (q := r) (e := fun z => decide (∃ p as, Reads s.heap z p as /\ PyData.eqv p r = true)) (h := s.heap) (vs := items.toList) (ps := ps) ?_ rall
   ·rw [<- hc]; simp
   ·intro v p as rv
    rcases he : PyData.eqv p r with _ | _
    ·refine decide_eq_false ?_
     rintro ⟨p', as', r', e'⟩
     have := (PySem.Reads.unique rv p' as' r').1
     rw [<- this, he] at e'; cases e'
    ·exact decide_eq_true ⟨p, as, rv, he⟩
theorem EU (hu : X.A.units + 64 < cLine) : dI X (compareOp .In) y7 := by
 refine ⟨fun aa s σ H x y v u Q I rx ry pz => ?_, fun x y d h => ?_⟩
 ·obtain ⟨F, dx, dy, d, w, b1, b2, eg, hw, q⟩ := pz
  obtain ⟨t, et, rfl⟩ := cJ eg;cases hw;obtain ⟨l, items, rfl, hl, e, he, rfl⟩ := Aw hu I b1 b2 rx ry et;exact SeqAt.in_listAt e hl he ⟨.bl _, H, I, rfl, q⟩
 ·obtain ⟨t, _, rfl⟩ := cJ h
  exact ⟨_, rfl⟩
end
theorem pX {K : PySem.W.Frag} {F : Addr -> Prop} {H : Hp} : ∀ {xs : List D} {vs : List V} {L : List Addr}, gm xs = true -> OwL K F H xs vs L -> L = []
 | [], _, _, _, o => by simp only [OwL] at o; exact o.2
 | x :: xs, _, _, h, o => by
  simp only [OwL] at o;obtain ⟨v, ws, L1, L2, rfl, h1, h2, rfl⟩ := o;unfold gm at h;rw [List.all_cons, Bool.and_eq_true, Option.isSome_iff_exists] at h;obtain ⟨⟨w, hw⟩, ht⟩ := h;rw [pX (xs := xs) ht h2, (h1.sc hw).2]; rfl
noncomputable def sA (p : DP) (pl ph : Option DP) : DE := fun σ => (p σ).bind fun d => match d with
 | .lst _ xs => if gm xs = true then (j3 pl σ).bind fun l => (j3 ph σ).map fun h => (.lst true (jl xs l h), σ) else none
 | _ => none
section
variable {X : Cx} {e a b : Expr} {lo hi : Option Expr} {pl ph : Option DP} {p q : DP} {c c' : DE} {pos p2 : Pos} {i : Nat}
theorem Bj (he : QB X e p) (hl : QO X lo pl) (hh : QO X hi ph) : QE X (.Subscript e (.Slice lo hi none p2) pos) (sA p pl ph) := bc (qY zA he hl hh) fun σ H Q hq0 => by
 obtain ⟨F, R, σD, d, σD', r, ec, k⟩ := hq0;unfold sA at ec;rcases h1 : p σD with _ | t
 ·rw [h1] at ec; cases ec
 ·rw [h1] at ec; simp only [bind_some] at ec
  refine ⟨F, R, σD, t, r, h1, fun F1 H1 v g1 b1 => ?_⟩;split at ec
  ·rename_i own xs
   split at ec
   ·rename_i hs
    rcases h2 : j3 pl σD with _ | l
    ·rw [h2] at ec; cases ec
    ·rw [h2] at ec; simp only [bind_some] at ec
     obtain ⟨h, h3, e3⟩ := bP ec;cases e3;refine ⟨F1, _, _, l, r.grow g1, h2, fun F2 H2 g2 => ?_⟩;refine ⟨F2, _, _, h, (r.grow g1).grow g2, h3, fun F3 H3 g3 => ?_⟩;have r3 := ((r.grow g1).grow g2).grow g3;obtain ⟨a, vs, rfl, sq, L, ol⟩ := ((b1.grow g2).grow g3).lst;refine ⟨a, vs, rfl, sq, fun pp hp => ?_⟩;have hL := pX hs ol;subst hL;have oc : OwL X.K F3 H3 (jl xs l h) (pf vs l h) [] := by
      unfold jl pf;rw [<- ol.length];exact (ol.drop).take
     obtain ⟨r5, x5⟩ := (Rel.pushL oc r3).layL oc.length.symm hp;exact k F3 _ _ ((g1.x.trans (g2.x.trans g3.x)).trans x5) r5
   ·cases ec
  ·cases ec
end
theorem sn {F1 : Addr -> Prop} {H1 : Hp} {p : Addr} {us : List V} (dm : ∀ a, F1 a -> ∃ o, H1 a = some o) (hp : H1 p = none) : Grow F1 H1 (fun c => F1 c \/ c = p) (aO H1 p (.tup us)) := by
 have nF : ∀ c, F1 c -> c ≠ p := fun c fc z => by obtain ⟨o, h⟩ := dm c fc; rw [z, hp] at h; cases h
 refine ⟨fun c fc => ⟨.inl fc, aJ (nF c fc)⟩, fun c o e => by rw [aJ (cE e hp)]; exact e, fun c fc => ?_, fun _ c fc => ?_⟩
 ·rcases fc with fc | fc
  ·exact .inl fc
  ·exact .inr (fc ▸ hp)
 ·rcases fc with fc | fc
  ·rw [aJ (nF c fc)]; exact dm c fc
  ·subst fc; exact ⟨_, bX⟩
section
variable {X : Cx} {e tg elt iter : Expr} {ifs : List Expr} {g : DG} {t : DT} {c : DE} {i : DI} {pos : Pos} {W : List Nat} {N' : List Str} {scope : Scope}
end
section
variable {X : Cx} {elt tg : Expr} {ifs : List Expr} {g : DG} {t : DT} {c : DE} {pos : Pos} {W : List Nat} {scope : Scope} {k : Nat} {elts : List Expr} {x1 : Nat} {tpos p1 pos1 npos npos2 : Pos}
end
section
variable {X : Cx} {a b : Expr} {c : DE} {p q : DP} {pos : Pos}
end
end DD
namespace L2
open PySem PySem.Spec PyProof.Rows
theorem wP : bootBuiltins "enumerate" = some (.type "enumerate") := by decide +kernel
end L2
namespace DD
open PySem PySem.Spec PyProof.Rows L2
noncomputable def lw : Nat -> List D -> List D
 | _, [] => []
 | n, x :: xs => .tup [.int (n : Int), x] :: lw (n + 1) xs
theorem uf : ∀ (xs : List D) (n : Nat), (lw n xs).length = xs.length
 | [], _ => rfl
 | _ :: xs, n => by simp [lw, uf xs]
theorem ug : ∀ (xs : List D) (n i : Nat), (lw n xs)[i]? = (xs[i]?).map fun x => .tup [.int ((n + i : Nat) : Int), x]
 | [], _, _ => by simp [lw]
 | _ :: xs, n, 0 => by simp [lw]
 | _ :: xs, n, i + 1 => by simp only [lw, List.getElem?_cons_succ, ug xs]; rw [show n + 1 + i = n + (i + 1) by omega]
section
variable {X : Cx} {a b o e : Expr} {c c' : DE} {p p1 pos1 : Pos} {elts : List Expr} {x1 : Nat} {tpos pos : Pos}
end
section
variable {X : Cx} {elt tg iter : Expr} {ifs : List Expr} {g : DG} {t : DT} {c : DE} {pos : Pos} {W : List Nat} {scope : Scope} {k : Nat} {elts : List Expr} {x1 : Nat} {tpos p1 pos1 npos npos2 : Pos}
end
end DD
namespace L2
open PySem PySem.Spec PyProof.Rows
section
variable {prog : Program} {w : World} {A : Around} {E : Value -> Shared -> Prop} {s : Shared}
theorem EA {α : Type} {x : Sem α} {Q Q1 : α -> Shared -> Prop} {M : Model} (h : wpAny M A x Q E s) (hQ : ∀ a s, Q a s -> Q1 a s) : wpAny M A x Q1 E s := wpAny_mono h hQ fun _ _ x => x
end
end L2
namespace DD
open PySem PySem.Spec PyProof.Rows L2
section
variable {X : Cx} {a b o e : Expr} {c c' : DE} {p p1 pos1 kp cp : Pos} {elts : List Expr} {x1 : Nat} {tpos pos : Pos} {kk : Nat}
end
section
variable {X : Cx} {elt : Expr} {ifs : List Expr} {g : DG} {t : DT} {c : DE} {pos : Pos} {W : List Nat} {scope : Scope} {k : Nat} {elts : List Expr} {x1 : Nat} {tpos p1 pos1 npos kp cp : Pos} {kk : Nat}
end
end DD
namespace L2
open PySem PySem.Spec PyProof.Rows
section
variable {prog : Program} {w : World} {A : Around} {E : Value -> Shared -> Prop} {s : Shared}
end
section
variable {X : Cx} {pos : Pos}
end
end L2
namespace DD
open PySem PySem.Spec PyProof.Rows L2
section
variable {X : Cx} {e tg a : Expr} {ts : List Expr} {g : DG} {gs : p9} {pos p1 p2 pos2 : Pos} {W W' : List Nat} {c : DE} {apos cpos : Pos}
end
section
variable {X : Cx} {e o a b : Expr} {es : List Expr} {p q : DP} {c c' : DE} {pos apos cpos : Pos} {i : Nat} {js : List DP}
end
end DD
namespace L2
open PySem PySem.Spec PyProof.Rows
section
variable {X : Cx} {tg : Expr} {pos : Pos}
end
end L2
namespace DD
open PySem PySem.Spec PyProof.Rows L2
section
variable {X : Cx} {tg e a b c : Expr} {ca : DA} {p1 pos1 : Pos}
end
end DD
namespace L2
open PySem PySem.Spec PyProof.Rows
section
variable {X : Cx} {pos : Pos}
end
end L2
namespace DD
open PySem PySem.Spec PyProof.Rows L2
section
variable {X : Cx} {a b c : Expr} {ca : DA} {p1 p2 pos pos2 : Pos}
end
end DD
namespace L2
open PySem PySem.Spec PyProof.Rows
section
variable {X : Cx} {e st : Expr} {te ts : TE} {pos p2 : Pos}
end
end L2
namespace DD
open PySem PySem.Spec PyProof.Rows L2
section
variable {X : Cx} {e st : Expr} {p q : DP} {pos p2 : Pos}
end
end DD
namespace PySem
open Sem (wp)
namespace F
end F
section
variable {prog : Program} {w : World} {A : Around} {E : Value -> Shared -> Prop} {s : Shared}
end
section
variable {prog : Program} {w : World} {A : Around} {E : Value -> Shared -> Prop} {s : Shared}
end
end PySem
namespace L2
open PySem PySem.Spec PyProof.Rows
end L2
namespace DD
open PySem PySem.Spec PyProof.Rows L2
theorem ue : ∀ xs : List D, (D.fzL xs).length = xs.length := by
 intro xs
 induction xs with
 | nil => rfl
 | cons x xs ih => simp only [D.fzL, List.length_cons, ih]
section
variable {X : Cx} {a b c d : Expr} {ca cb cc cd : DE} {p1 pos1 : Pos} {elts : List Expr} {x1 : Nat} {tpos : Pos}
end
end DD
namespace PySem.AutoSeq1
end PySem.AutoSeq1
namespace L2
open PySem PySem.Spec PyProof.Rows
section
variable {X : Cx}
end
end L2
namespace DD
open PySem PySem.Spec PyProof.Rows L2
section
variable {X : Cx} {e : Expr} {c : DE} {apos cpos : Pos}
end
end DD
namespace TT
open PySem L2 DD
noncomputable abbrev Rl (α : Type) := α -> D -> Prop
structure Sl (S : Type) where
 {α : Type}
 get : S -> α
 r : Rl α
noncomputable abbrev aP (S : Type) := List (Option (Sl S))
section
variable {S : Type} {α β γ δ ρ : Type}
noncomputable def On : Option (Sl S) -> S -> Option D -> Prop
 | none, _, _ => True
 | some l, s, o => ∃ d, o = some d /\ l.r (l.get s) d
noncomputable def Sat : aP S -> S -> aF -> Prop
 | [], _, [] => True
 | a :: Γ, s, x :: σ => On a s x /\ Sat Γ s σ
 | _, _, _ => False
theorem Sat.len {s : S} : ∀ {Γ : aP S} {σ : aF}, Sat Γ s σ -> σ.length = Γ.length := by
 intro Γ
 induction Γ with
 | nil =>
  intro σ h;cases σ with
  | nil => rfl
  | cons _ _ => exact h.elim
 | cons a Γ ih =>
  intro σ h;cases σ with
  | nil => exact h.elim
  | cons x σ => simp [ih h.2]
theorem Sat.get {s : S} {l : Sl S} : ∀ {Γ : aP S} {σ : aF} {i : Nat}, Sat Γ s σ -> Γ[i]? = some (some l) -> ∃ d, bt σ i = some d /\ l.r (l.get s) d := by
 intro Γ
 induction Γ with
 | nil => intro σ i _ e; simp at e
 | cons a Γ ih =>
  intro σ i h e;cases σ with
  | nil => exact h.elim
  | cons x σ =>
   cases i with
   | zero =>
    simp at e; subst e;obtain ⟨d, e1, hd⟩ := h.1;subst e1;exact ⟨d, rfl, hd⟩
   | succ i =>
    obtain ⟨d, h1, h2⟩ := ih (i := i) h.2 (by simpa using e);exact ⟨d, by simpa [bt] using h1, h2⟩
theorem Sat.set {s : S} {l : Option (Sl S)} {o : Option D} : ∀ {Γ : aP S} {σ : aF} {i : Nat}, Sat Γ s σ -> On l s o -> Sat (Γ.set i l) s (σ.set i o) := by
 intro Γ
 induction Γ with
 | nil =>
  intro σ i h k;cases σ with
  | nil => exact h
  | cons _ _ => exact h.elim
 | cons a Γ ih =>
  intro σ i h k;cases σ with
  | nil => exact h.elim
  | cons x σ =>
   cases i with
   | zero => exact ⟨k, h.2⟩
   | succ i => exact ⟨h.1, ih h.2 k⟩
theorem Sat.setn {Γ : aP S} {s : S} {σ : aF} {i : Nat} {o : Option D} (h : Sat Γ s σ) : Sat (Γ.set i none) s (σ.set i o) := h.set trivial
theorem On.setn {s : S} : ∀ {Γ : aP S} {σ : aF} {i : Nat}, Sat Γ s σ -> Sat (Γ.set i none) s σ := by
 intro Γ
 induction Γ with
 | nil => intro σ i h; exact h
 | cons a Γ ih =>
  intro σ i h;cases σ with
  | nil => exact h.elim
  | cons x σ =>
   cases i with
   | zero => exact ⟨trivial, h.2⟩
   | succ i => exact ⟨h.1, ih h.2⟩
inductive Fr (u : S -> S) : aP S -> Prop
 | nil : Fr u []
 | non {Γ} : Fr u Γ -> Fr u (none :: Γ)
 | som {l : Sl S} {Γ} : (∀ s d, l.r (l.get s) d -> l.r (l.get (u s)) d) -> Fr u Γ -> Fr u (some l :: Γ)
theorem Fr.sat {u : S -> S} {s : S} : ∀ {Γ : aP S} {σ : aF}, Fr u Γ -> Sat Γ s σ -> Sat Γ (u s) σ := by
 intro Γ σ l
 induction l generalizing σ with
 | nil => intro h; cases σ <;> exact h
 | non l ih =>
  intro h;cases σ with
  | nil => exact h.elim
  | cons x σ => exact ⟨trivial, ih h.2⟩
 | som f1 l ih =>
  intro h;cases σ with
  | nil => exact h.elim
  | cons x σ =>
   obtain ⟨d, e, hd⟩ := h.1;exact ⟨⟨d, e, f1 s d hd⟩, ih h.2⟩
class Wk (r r' : Rl α) : Prop where
 w : ∀ a d, r a d -> r' a d
instance (priority := high) Wk.refl {r : Rl α} : Wk r r := ⟨fun _ _ h => h⟩
inductive Le : aP S -> aP S -> Prop
 | nil : Le [] []
 | non {a} {Γ Γ'} : Le Γ Γ' -> Le (a :: Γ) (none :: Γ')
 | som {α : Type} {g : S -> α} {r r' : Rl α} {Γ Γ'} : Wk r r' -> Le Γ Γ' -> Le (some ⟨g, r⟩ :: Γ) (some ⟨g, r'⟩ :: Γ')
theorem Le.sat {s : S} : ∀ {Γ Γ' : aP S} {σ : aF}, Le Γ Γ' -> Sat Γ s σ -> Sat Γ' s σ := by
 intro Γ Γ' σ l
 induction l generalizing σ with
 | nil => intro h; exact h
 | non l ih =>
  intro h;cases σ with
  | nil => exact h.elim
  | cons x σ => exact ⟨trivial, ih h.2⟩
 | som w l ih =>
  intro h;cases σ with
  | nil => exact h.elim
  | cons x σ =>
   obtain ⟨d, e, hd⟩ := h.1;exact ⟨⟨d, e, w.w _ _ hd⟩, ih h.2⟩
theorem Le.refl : ∀ {Γ : aP S}, Le Γ Γ
 | [] => .nil
 | none :: _ => .non Le.refl
 | some ⟨_, _⟩ :: _ => .som Wk.refl Le.refl
noncomputable def gD (n : Nat) : Bool := decide (n <= sizeLine)
noncomputable def yV (n : Nat) : Bool := decide (n < sizeLine)
theorem qE {n : Nat} (h : gD n = true) : n <= sizeLine := of_decide_eq_true h
theorem we {n : Nat} (h : yV n = true) : n < sizeLine := of_decide_eq_true h
noncomputable def rI : Rl Int := fun i d => d = .int i
noncomputable def rB : Rl Bool := fun b d => d = .bl b
noncomputable def rS : Rl Str := fun x d => d = .str x
noncomputable def rN : Rl Unit := fun _ d => d = .non
noncomputable def rA : Rl Unit := fun _ _ => True
noncomputable def Ed (t : String) : Rl Unit := fun _ d => d = .ty t
inductive All2 (r : Rl α) : List α -> List D -> Prop
 | nil : All2 r [] []
 | cons {a d as ds} : r a d -> All2 r as ds -> All2 r (a :: as) (d :: ds)
noncomputable def rL (r : Rl α) : Rl (List α) := fun xs d => ∃ ds, d = .lst true ds /\ All2 r xs ds
noncomputable def rM (r : Rl α) : Rl (List α) := fun xs d => ∃ o ds, d = .lst o ds /\ All2 r xs ds
noncomputable def cL (r : Rl α) (q : Rl β) : Rl (α × β) := fun p d => ∃ x y, d = .tup [x, y] /\ r p.1 x /\ q p.2 y
noncomputable def gJ (r : Rl α) (q : Rl β) (t : Rl γ) : Rl (α × β × γ) := fun p d => ∃ x y z, d = .tup [x, y, z] /\ r p.1 x /\ q p.2.1 y /\ t p.2.2 z
noncomputable def rP : Rl PyData := fun p d => d.py = some p /\ d.fz = d
theorem All2.len {r : Rl α} {as : List α} {ds : List D} (h : All2 r as ds) : as.length = ds.length := by
 induction h with
 | nil => rfl
 | cons _ _ ih => simp [ih]
theorem All2.get {r : Rl α} {as : List α} {ds : List D} {i : Nat} {a : α} (h : All2 r as ds) : as[i]? = some a -> ∃ d, ds[i]? = some d /\ r a d := by
 induction h generalizing i with
 | nil => intro e; simp at e
 | cons h0 _ ih =>
  intro e;cases i with
  | zero => simp at e; subst e; exact ⟨_, rfl, h0⟩
  | succ i => simpa using ih (i := i) (by simpa using e)
theorem All2.set {r : Rl α} {as : List α} {ds : List D} {i : Nat} {a : α} {d : D} (h : All2 r as ds) (k : r a d) : All2 r (as.set i a) (ds.set i d) := by
 induction h generalizing i with
 | nil => exact .nil
 | cons h0 h ih =>
  cases i with
  | zero => exact .cons k h
  | succ i => exact .cons h0 ih
theorem All2.append {r : Rl α} {as bs : List α} {ds es : List D} (h : All2 r as ds) (k : All2 r bs es) : All2 r (as ++ bs) (ds ++ es) := by
 induction h with
 | nil => exact k
 | cons h0 _ ih => exact .cons h0 ih
theorem All2.drop {r : Rl α} : ∀ {as : List α} {ds : List D} (n : Nat), All2 r as ds -> All2 r (as.drop n) (ds.drop n)
 | _, _, 0, h => h
 | _, _, _ + 1, .nil => .nil
 | _, _, n + 1, .cons _ h => h.drop n
theorem All2.take {r : Rl α} : ∀ {as : List α} {ds : List D} (n : Nat), All2 r as ds -> All2 r (as.take n) (ds.take n)
 | _, _, 0, h => .nil
 | _, _, _ + 1, .nil => .nil
 | _, _, n + 1, .cons k h => .cons k (h.take n)
theorem All2.rep {r : Rl α} {a : α} {d : D} (h : r a d) : ∀ n, All2 r (List.replicate n a) (List.replicate n d)
 | 0 => .nil
 | n + 1 => .cons h (All2.rep h n)
theorem All2.flat {r : Rl α} {as : List α} {ds : List D} (h : All2 r as ds) : ∀ n, All2 r (List.replicate n as).flatten (List.replicate n ds).flatten
 | 0 => .nil
 | n + 1 => by rw [List.replicate_succ, List.replicate_succ, List.flatten_cons, List.flatten_cons]; exact h.append (h.flat n)
theorem All2.ofMap {r : Rl α} {f : β -> α} {g : β -> D} (k : ∀ b, r (f b) (g b)) : ∀ bs : List β, All2 r (bs.map f) (bs.map g)
 | [] => .nil
 | b :: bs => .cons (k b) (All2.ofMap k bs)
theorem vR : ∀ ns : List Int, All2 rI ns (ns.map D.int)
 | [] => .nil
 | _ :: ns => .cons rfl (vR ns)
class Fz (r : Rl α) (r' : outParam (Rl α)) : Prop where
 f : ∀ a d, r a d -> r' a d.fz
theorem All2.fz {r r' : Rl α} (k : ∀ a d, r a d -> r' a d.fz) {as : List α} {ds : List D} (h : All2 r as ds) : All2 r' as (D.fzL ds) := by
 induction h with
 | nil => exact .nil
 | cons a _ ih => exact .cons (k _ _ a) ih
instance : Fz rI rI := ⟨fun _ _ h => by cases h; rfl⟩
instance : Fz rS rS := ⟨fun _ _ h => by cases h; rfl⟩
instance {r r' : Rl α} [k : Fz r r'] : Fz (rL r) (rM r') := ⟨fun _ _ ⟨ds, e, h⟩ => ⟨false, D.fzL ds, by rw [e, D.fz], h.fz k.f⟩⟩
instance {r r' : Rl α} [k : Fz r r'] : Fz (rM r) (rM r') := ⟨fun _ _ ⟨o, ds, e, h⟩ => ⟨false, D.fzL ds, by rw [e, D.fz], h.fz k.f⟩⟩
instance {r r' : Rl α} {q q' : Rl β} [k : Fz r r'] [l : Fz q q'] : Fz (cL r q) (cL r' q') := ⟨fun _ _ ⟨x, y, e, h1, h2⟩ => ⟨x.fz, y.fz, by rw [e]; simp only [D.fz, D.fzL], k.f _ _ h1, l.f _ _ h2⟩⟩
class Sc (r : Rl α) : Prop where
 s : ∀ a d, r a d -> ∃ w, d.sc = some w
instance : Sc rI := ⟨fun _ _ h => by cases h; exact ⟨_, rfl⟩⟩
instance : Sc rB := ⟨fun _ _ h => by cases h; exact ⟨_, rfl⟩⟩
instance : Sc rS := ⟨fun _ _ h => by cases h; exact ⟨_, rfl⟩⟩
class Ns (r : Rl α) : Prop where
 s : ∀ a d, r a d -> d.sc = none
instance {r : Rl α} : Ns (rL r) := ⟨fun _ _ hq0 => by obtain ⟨_, e, _⟩ := hq0; rw [e]; rfl⟩
instance {r : Rl α} : Ns (rM r) := ⟨fun _ _ hq0 => by obtain ⟨_, _, e, _⟩ := hq0; rw [e]; rfl⟩
class Ls (r : Rl (List α)) (q : outParam (Rl α)) : Prop where
 l : ∀ xs d, r xs d -> ∃ o ds, d = .lst o ds /\ All2 q xs ds
instance {r : Rl α} : Ls (rL r) r := ⟨fun _ _ ⟨ds, e, h⟩ => ⟨true, ds, e, h⟩⟩
instance {r : Rl α} : Ls (rM r) r := ⟨fun _ _ ⟨o, ds, e, h⟩ => ⟨o, ds, e, h⟩⟩
end
section
variable {S : Type} {α β γ δ ρ : Type} {Γ Γ1 Γ2 Γ3 Γ' Γn : aP S}
inductive TR (S ρ : Type) where
 | nx (s : S) | rt (v : ρ) (s : S) | bk (s : S) | ct (s : S)
noncomputable def JP (Γ : aP S) (p : DP) (f : S -> Option α) (r : Rl α) : Prop := ∀ s σ v, Sat Γ s σ -> f s = some v -> ∃ d, p σ = some d /\ r v d
noncomputable def JE (Γ : aP S) (c : DE) (f : S -> Option (α × S)) (r : Rl α) (Γ' : aP S) : Prop := ∀ s σ v s', Sat Γ s σ -> f s = some (v, s') -> ∃ d σ', c σ = some (d, σ') /\ r v d /\ Sat Γ' s' σ'
noncomputable def JT (Γ : aP S) (t : DT) (f : S -> Option (Bool × S)) (Γ' : aP S) : Prop := ∀ s σ b s', Sat Γ s σ -> f s = some (b, s') -> ∃ σ', t σ = some (b, σ') /\ Sat Γ' s' σ'
noncomputable def JL (Γ : aP S) (c : DA) (f : S -> Option (List α × S)) (r : Rl α) (Γ' : aP S) : Prop := ∀ s σ v s', Sat Γ s σ -> f s = some (v, s') -> ∃ ds σ', c σ = some (ds, σ') /\ All2 r v ds /\ Sat Γ' s' σ'
noncomputable def JI (Γ : aP S) (c : DI) (f : S -> Option (List α × S)) (r : Rl α) (Γ' : aP S) : Prop := ∀ s σ v s', Sat Γ s σ -> f s = some (v, s') -> ∃ ds σ', c σ = some (ds, σ') /\ All2 r v ds /\ Sat Γ' s' σ'
noncomputable def JG (Γ : aP S) (g : DG) (put : S -> α -> S) (r : Rl α) (Γ' : aP S) : Prop := ∀ s σ v d, Sat Γ s σ -> r v d -> ∃ σ', g d σ = some σ' /\ Sat Γ' (put s v) σ'
structure Ex (S ρ : Type) where
 rt : aP S
 ro : Rl ρ
 lp : aP S
noncomputable def Rs (Γn : aP S) (E : Ex S ρ) : TR S ρ -> Out -> Prop
 | .nx s, .nx σ => Sat Γn s σ
 | .rt v s, .rt d σ => E.ro v d /\ Sat E.rt s σ
 | .bk s, .bk σ => Sat E.lp s σ
 | .ct s, .ct σ => Sat E.lp s σ
 | _, _ => False
noncomputable def JS (Γ : aP S) (c : DS) (f : S -> Option (TR S ρ)) (Γn : aP S) (E : Ex S ρ) : Prop := ∀ s σ t, Sat Γ s σ -> f s = some t -> ∃ o, c σ = some o /\ Rs Γn E t o
theorem bd {α β : Type} {o : Option α} {f : α -> Option β} {b : β} (h : o.bind f = some b) : ∃ a, o = some a /\ f a = some b := by
 cases o with
 | none => cases h
 | some a => exact ⟨a, rfl, h⟩
theorem mp {α β : Type} {o : Option α} {f : α -> β} {b : β} (h : o.map f = some b) : ∃ a, o = some a /\ f a = b := by
 cases o with
 | none => cases h
 | some a => exact ⟨a, rfl, Option.some.inj h⟩
theorem ah (i : Nat) {get : S -> α} {r : Rl α} (h : Γ[i]? = some (some ⟨get, r⟩)) : JP Γ (pV i) (fun s => some (get s)) r := fun s σ v hs e => by
 obtain ⟨d, h1, h2⟩ := hs.get h;cases e;exact ⟨d, h1, h2⟩
theorem vd {d : D} (v : α) {r : Rl α} (h : r v d) : JP Γ (pC d) (fun _ => some v) r := fun s σ w hs e => by cases e; exact ⟨d, rfl, h⟩
theorem ao (i : Int) : JP Γ (pC (.int i)) (fun _ => some i) rI := vd i rfl
theorem EZ (i : Bool) : JP Γ (pC (.bl i)) (fun _ => some i) rB := vd i rfl
theorem bM (i : Str) : JP Γ (pC (.str i)) (fun _ => some i) rS := vd i rfl
theorem qv (t : String) : JP Γ (pC (.ty t)) (fun _ => some ()) (Ed t) := vd () rfl
noncomputable def JO (g : D -> D -> Option D) (h : α -> β -> Option γ) (ra : Rl α) (rb : Rl β) (rc : Rl γ) : Prop := ∀ a b c x y, h a b = some c -> ra a x -> rb b y -> ∃ z, g x y = some z /\ rc c z
theorem au {g : D -> D -> Option D} {h : α -> β -> Option γ} {ra : Rl α} {rb : Rl β} {rc : Rl γ} {p q : DP} {f1 : S -> Option α} {f2 : S -> Option β} (o : JO g h ra rb rc) (h1 : JP Γ p f1 ra) (h2 : JP Γ q f2 rb) :
  JP Γ (aT g p q) (fun s => (f1 s).bind fun a => (f2 s).bind fun b => h a b) rc := fun s σ v hs e => by
 obtain ⟨a, e1, e⟩ := bd e;obtain ⟨b, e2, e⟩ := bd e;obtain ⟨x, hx, rx⟩ := h1 s σ a hs e1;obtain ⟨y, hy, ry⟩ := h2 s σ b hs e2;obtain ⟨z, hz, rz⟩ := o a b v x y e rx ry;exact ⟨z, by simp only [aT, hx, hy, bind_some, hz], rz⟩
theorem bQ {f : Int -> Int -> Int} : JO (j1 f) (fun a b => some (f a b)) rI rI rI := fun a b c x y e h1 h2 => by cases h1; cases h2; cases e; exact ⟨_, rfl, rfl⟩
theorem fP {C : Int -> Int -> Bool} {f : Int -> Int -> Int} : JO (gI C f) (fun a b => if C a b = true then some (f a b) else none) rI rI rI := fun a b c x y e h1 h2 => by
 cases h1; cases h2;dsimp only at e;split at e
 ·rename_i h; cases e; exact ⟨_, if_pos h, rfl⟩
 ·cases e
noncomputable def gM (i j : Int) : Bool := Nat.ble i.natAbs 9223372036854775808 || Nat.ble j.natAbs 9223372036854775808
theorem z6 {i j : Int} (h : gM i j = true) : u9 i j = true := by
 simp only [gM, Bool.or_eq_true, Nat.ble_eq] at h;simp only [u9, decide_eq_true_eq];omega
theorem eW : JO gU (fun a b => if gM a b = true then some (a * b) else none) rI rI rI := fun a b c x y e h1 h2 => by
 cases h1; cases h2;dsimp only at e;split at e
 ·rename_i h; cases e; exact ⟨_, if_pos (z6 h), rfl⟩
 ·cases e
noncomputable def i8 (i : Int) : Bool := Nat.ble i.natAbs 1000000000
theorem oN {i : Int} (h : i8 i = true) : qR i = true := by
 simp only [i8, Nat.ble_eq] at h;simp only [qR, decide_eq_true_eq];omega
theorem iP {f : Int -> Int -> Bool} : JO (mG f) (fun a b => some (f a b)) rI rI rB := fun a b c x y e h1 h2 => by cases h1; cases h2; cases e; exact ⟨_, rfl, rfl⟩
theorem cX {p : DP} {f : S -> Option Int} (h : JP Γ p f rI) : JP Γ (dJ p) (fun s => (f s).map fun a => -a) rI := fun s σ v hs e => by
 obtain ⟨a, e1, e2⟩ := mp e;obtain ⟨x, hx, rx⟩ := h s σ a hs e1;cases rx; cases e2;exact ⟨_, by simp only [dJ, hx, bind_some, yr], rfl⟩
class Py {α : Type} (r : Rl α) where
 pe : α -> PyData
 ok : α -> Bool
 k : Nat
 py : ∀ a d, r a d -> d.py = some (pe a)
 lay : ∀ a, ok a = true -> (pe a).canLay0 = true
 dep : ∀ a, ok a = true -> (pe a).depth <= k
class EqR {α β : Type} (r : Rl α) (q : Rl β) [Py r] [Py q] (f : outParam (α -> β -> Bool)) : Prop where
 eqv : ∀ a b, PyData.eqv (Py.pe r a) (Py.pe q b) = f a b
instance : Py rI := ⟨PyData.int, fun _ => true, 0, fun _ _ h => by cases h; rfl, fun _ _ => rfl, fun _ _ => Nat.le_refl _⟩
instance : Py rS := ⟨PyData.str, PyData.strOk, 0, fun _ _ h => by cases h; rfl, fun _ h => h, fun _ _ => Nat.le_refl _⟩
theorem vU {r : Rl α} [k : Py r] : ∀ {as : List α} {ds : List D}, All2 r as ds -> D.pyL ds = some (as.map (Py.pe r)) := by
 intro as ds h
 induction h with
 | nil => rfl
 | cons h t ih => simp only [D.pyL, k.py _ _ h, ih, bind_some, map_some, List.map_cons]
theorem t3 {r : Rl α} [k : Py r] : ∀ {as : List α}, as.all (Py.ok r) = true -> PyData.canLayAll0 (as.map (Py.pe r)) = true
 | [], _ => rfl
 | a :: as, h => by
  simp only [List.all_cons, Bool.and_eq_true] at h;simp only [List.map_cons, PyData.canLayAll0, k.lay _ h.1, t3 h.2, Bool.and_self]
theorem uh {r : Rl α} [k : Py r] : ∀ {as : List α}, as.all (Py.ok r) = true -> PyData.depthAll (as.map (Py.pe r)) <= Py.k r
 | [], _ => Nat.zero_le _
 | a :: as, h => by
  simp only [List.all_cons, Bool.and_eq_true] at h;simp only [List.map_cons, PyData.depthAll]; exact Nat.max_le.mpr ⟨k.dep a h.1, uh h.2⟩
instance {r : Rl (List α)} {q : Rl α} [l : Ls r q] [k : Py q] : Py r := ⟨fun as => .list (as.map (Py.pe q)), fun as => as.all (Py.ok q), Py.k q + 1,
 fun a d h => by obtain ⟨o, ds, e, h⟩ := l.l a d h; rw [e]; simp only [D.py, vU h, map_some], fun a h => by simp only [PyData.canLay0]; exact t3 h, fun a h => by simp only [PyData.depth]; have := uh (r := q) (as := a) h; omega⟩
noncomputable def sy (f : α -> β -> Bool) : List α -> List β -> Bool
 | [], [] => true
 | a :: as, b :: bs => f a b && sy f as bs
 | _, _ => false
instance : EqR rI rI (fun a b => a == b) := ⟨fun a b => by simp only [Py.pe, PyData.eqv]⟩
instance : EqR rS rS (fun a b => a == b) := ⟨fun a b => by simp only [Py.pe, PyData.eqv]⟩
theorem Co {r : Rl α} {q : Rl β} [Py r] [Py q] {f : α -> β -> Bool} [k : EqR r q f] : ∀ {as : List α} {bs : List β}, PyData.eqvAll (as.map (Py.pe r)) (bs.map (Py.pe q)) = sy f as bs
 | [], [] => rfl
 | [], _ :: _ => rfl
 | _ :: _, [] => rfl
 | a :: as, b :: bs => by simp only [List.map_cons, PyData.eqvAll, sy, k.eqv a b, Co]
instance {r : Rl (List α)} {q : Rl (List β)} {r' : Rl α} {q' : Rl β} [Ls r r'] [Ls q q'] [Py r'] [Py q'] {f : α -> β -> Bool} [k : EqR r' q' f] : EqR r q (sy f) := ⟨fun a b => by simp only [Py.pe, PyData.eqv]; exact Co⟩
theorem uY {r : Rl α} {q : Rl β} [kr : Py r] [kq : Py q] {a : α} {b : β} (h : (Py.ok r a && Py.ok q b && decide (min (Py.k r) (Py.k q) <= 50)) = true) : ko (Py.pe r a) (Py.pe q b) = true := by
 simp only [Bool.and_eq_true, decide_eq_true_eq] at h;simp only [ko, kr.lay _ h.1.1, kq.lay _ h.1.2, Bool.and_self, Bool.true_and, decide_eq_true_eq];have h1 := kr.dep a h.1.1;have h2 := kq.dep b h.1.2;omega
theorem dg {r : Rl α} {q : Rl β} [kr : Py r] [kq : Py q] {f : α -> β -> Bool} [k : EqR r q f] : JO eC (fun a b => if (Py.ok r a && Py.ok q b && decide (min (Py.k r) (Py.k q) <= 50)) = true then some (f a b) else none) r q rB := fun a b c x y e h1 h2 => by
 dsimp only at e;split at e
 ·rename_i h
  cases e;exact ⟨_, by simp only [eC, kr.py _ _ h1, kq.py _ _ h2, bind_some, uY h, if_true, k.eqv], rfl⟩
 ·cases e
theorem mr {r : Rl α} {q : Rl β} [kr : Py r] [kq : Py q] {f : α -> β -> Bool} [k : EqR r q f] : JO lq (fun a b => if (Py.ok r a && Py.ok q b && decide (min (Py.k r) (Py.k q) <= 50)) = true then some (!f a b) else none) r q rB := fun a b c x y e h1 h2 => by
 dsimp only at e;split at e
 ·rename_i h
  cases e;exact ⟨_, by simp only [lq, kr.py _ _ h1, kq.py _ _ h2, bind_some, uY h, if_true, k.eqv], rfl⟩
 ·cases e
theorem All2.at {r : Rl α} {as : List α} {ds : List D} {i : Int} {a : α} (h : All2 r as ds) (e : atI as i = some a) : ∃ d, atI ds i = some d /\ r a d := by
 unfold atI at e ⊢;rw [<- h.len];obtain ⟨j, e1, e2⟩ := bd e;obtain ⟨d, h1, h2⟩ := h.get e2;exact ⟨d, by rw [e1]; exact h1, h2⟩
theorem dr {r : Rl (List α)} {q : Rl α} [l : Ls r q] : JO dU (fun (xs : List α) i => atI xs i) r rI q := fun a b c x y e h1 h2 => by
 obtain ⟨o, ds, e1, h⟩ := l.l a x h1;cases h2; subst e1;exact h.at e
noncomputable def mQ (g : List D -> Option D) (h : α -> Option γ) (ra : Rl α) (rc : Rl γ) : Prop := ∀ a c x, h a = some c -> ra a x -> ∃ z, g [x] = some z /\ rc c z
noncomputable def Ew (g : List D -> Option D) (h : α -> β -> Option γ) (ra : Rl α) (rb : Rl β) (rc : Rl γ) : Prop := ∀ a b c x y, h a b = some c -> ra a x -> rb b y -> ∃ z, g [x, y] = some z /\ rc c z
theorem eQ {g : List D -> Option D} {h : α -> Option γ} {ra : Rl α} {rc : Rl γ} {p : DP} {f : S -> Option α} (o : mQ g h ra rc) (h1 : JP Γ p f ra) : JP Γ (cM g [p]) (fun s => (f s).bind h) rc := fun s σ v hs e => by
 obtain ⟨a, e1, e⟩ := bd e;obtain ⟨x, hx, rx⟩ := h1 s σ a hs e1;obtain ⟨z, hz, rz⟩ := o a v x e rx;exact ⟨z, by simp only [cM, kK, hx, bind_some, map_some, hz], rz⟩
theorem qw {g : List D -> Option D} {h : α -> β -> Option γ} {ra : Rl α} {rb : Rl β} {rc : Rl γ} {p q : DP} {f1 : S -> Option α} {f2 : S -> Option β} (o : Ew g h ra rb rc) (h1 : JP Γ p f1 ra) (h2 : JP Γ q f2 rb) : JP Γ (cM g [p, q]) (fun s => (f1 s).bind fun a => (f2 s).bind fun b => h a b) rc := fun s σ v hs e => by
 obtain ⟨a, e1, e⟩ := bd e;obtain ⟨b, e2, e⟩ := bd e;obtain ⟨x, hx, rx⟩ := h1 s σ a hs e1;obtain ⟨y, hy, ry⟩ := h2 s σ b hs e2;obtain ⟨z, hz, rz⟩ := o a b v x y e rx ry;exact ⟨z, by simp only [cM, kK, hx, hy, bind_some, map_some, hz], rz⟩
theorem ji {r : Rl (List α)} {q : Rl α} [l : Ls r q] : mQ fO (fun xs : List α => some (xs.length : Int)) r rI := fun a c x e h => by
 obtain ⟨o, ds, e1, hh⟩ := l.l a x h;cases e; subst e1;exact ⟨_, rfl, by rw [hh.len]; rfl⟩
theorem Fh {r : Rl α} {q : Rl β} {t : Rl γ} : mQ fO (fun _ : α × β × γ => some (3 : Int)) (gJ r q t) rI := fun a c x e hq0 => by obtain ⟨_, _, _, h, _⟩ := hq0; cases e; rw [h]; exact ⟨_, rfl, rfl⟩
theorem Am : mQ sm (fun b : Bool => some (if b then (1 : Int) else 0)) rB rI := fun a c x e h => by cases h; cases e; exact ⟨_, rfl, rfl⟩
theorem sg : mQ ng (fun i : Int => some (if i < 0 then -i else i)) rI rI := fun a c x e h => by cases h; cases e; exact ⟨_, rfl, rfl⟩
class Kd (r : Rl α) (k : outParam String) : Prop where
 k : ∀ a d t, r a d -> kw [d, .ty t] = (jL k t).map .bl
instance : Kd rI "int" := ⟨fun _ _ _ h => by cases h; rfl⟩
instance {r : Rl (List α)} {q : Rl α} [l : Ls r q] : Kd r "list" := ⟨fun a d _ h => by obtain ⟨o, ds, e1, h⟩ := l.l a d h; rw [e1]; rfl⟩
instance {r : Rl α} {q : Rl β} {t : Rl γ} : Kd (gJ r q t) "tuple" := ⟨fun _ _ _ hq0 => by obtain ⟨_, _, _, h, _⟩ := hq0; rw [h]; rfl⟩
theorem nN {r : Rl α} {k t : String} [n : Kd r k] : Ew kw (fun (_ : α) (_ : Unit) => jL k t) r (Ed t) rB := fun a b c x y e h1 h2 => by
 cases h2;dsimp only at e;exact ⟨_, by rw [n.k a x t h1, e]; rfl, rfl⟩
end
section
variable {S : Type} {α β γ δ ρ : Type} {Γ Γ0 Γ1 Γ2 Γ3 Γ4 Γ' Γn Γh : aP S} {c c' : DE} {t u : DT} {E : Ex S ρ}
theorem ab {p : DP} {f : S -> Option α} {r : Rl α} [k : Sc r] (h : JP Γ p f r) : JE Γ (dS p) (fun s => (f s).map fun a => (a, s)) r Γ := fun s σ v s' hs e => by
 obtain ⟨a, e1, e2⟩ := mp e;cases e2;obtain ⟨d, hd, rd⟩ := h s σ v hs e1;obtain ⟨w, hw⟩ := k.s _ _ rd;exact ⟨d, σ, by simp only [dS, hd, bind_some, hw], rd, hs⟩
theorem iQ (i : Nat) {get : S -> α} {r r' : Rl α} [k : Fz r r'] (h : Γ[i]? = some (some ⟨get, r⟩)) : JE Γ (j5 i) (fun s => some (get s, s)) r' (Γ.set i (some ⟨get, r'⟩)) := fun s σ v s' hs e => by
 obtain ⟨d, h1, h2⟩ := hs.get h;cases e;exact ⟨d.fz, _, by simp only [j5, h1, map_some], k.f _ _ h2, hs.set ⟨_, rfl, k.f _ _ h2⟩⟩
theorem qy (i : Nat) {get : S -> α} {r : Rl α} (h : Γ[i]? = some (some ⟨get, r⟩)) : JE Γ (sC i) (fun s => some (get s, s)) r (Γ.set i none) := fun s σ v s' hs e => by
 obtain ⟨d, h1, h2⟩ := hs.get h;cases e;exact ⟨d, σ.set i none, by simp only [sC, h1, map_some], h2, hs.setn⟩
theorem aU {g : D -> D -> Option D} {h : α -> β -> Option γ} {ra : Rl α} {rb : Rl β} {rc : Rl γ} {f1 : S -> Option (α × S)} {f2 : S -> Option (β × S)} (o : JO g h ra rb rc) (h1 : JE Γ c f1 ra Γ1) (h2 : JE Γ1 c' f2 rb Γ2) :
  JE Γ (bN g c c') (fun s => (f1 s).bind fun p => (f2 p.2).bind fun q => (h p.1 q.1).map fun v => (v, q.2)) rc Γ2 := fun s σ v s' hs e => by
 obtain ⟨⟨a, s1⟩, e1, e⟩ := bd e;obtain ⟨⟨b, s2⟩, e2, e⟩ := bd e;obtain ⟨w, e3, e⟩ := mp e;cases e;obtain ⟨x, σ1, hx, rx, k1⟩ := h1 s σ a s1 hs e1;obtain ⟨y, σ2, hy, ry, k2⟩ := h2 s1 σ1 b s2 k1 e2;obtain ⟨z, hz, rz⟩ := o a b v x y e3 rx ry;exact ⟨z, σ2, by simp only [bN, hx, hy, bind_some, hz, map_some], rz, k2⟩
theorem DH {r : Rl (List α)} {q : Rl α} [l : Ls r q] {f1 : S -> Option (List α × S)} {f2 : S -> Option (Int × S)} (h1 : JE Γ c f1 r Γ1) (h2 : JE Γ1 c' f2 rI Γ2) :
  JE Γ (wG c c') (fun s => (f1 s).bind fun p => (f2 p.2).bind fun q => (atI p.1 q.1).map fun v => (v, q.2)) q Γ2 := aU dr h1 h2
theorem nM {r r1 r2 : Rl α} {f : S -> Option (Bool × S)} {g h : S -> Option (α × S)} [w1 : Wk r1 r] [w2 : Wk r2 r] (h0 : JT Γ t f Γ0) (h1 : JE Γ0 c g r1 Γ1) (h2 : JE Γ0 c' h r2 Γ2) (l : autoParam (Le Γ1 Γ') jP._auto_1) (l2 : autoParam (Le Γ2 Γ') jP._auto_1) : JE Γ (jN t c c') (fun s => (f s).bind fun p => if p.1 = true then g p.2 else h p.2) r Γ' := fun s σ v s' hs e => by
 obtain ⟨⟨a, s1⟩, e1, e2⟩ := bd e;obtain ⟨σ1, hx, k1⟩ := h0 s σ a s1 hs e1;cases a
 ·simp only [Bool.false_eq_true, if_false] at e2
  obtain ⟨y, σ2, hy, ry, k2⟩ := h2 s1 σ1 v s' k1 e2;exact ⟨y, σ2, by simp only [jN, hx, bind_some, hy, Bool.false_eq_true, if_false], w2.w _ _ ry, l2.sat k2⟩
 ·simp only [if_true] at e2
  obtain ⟨y, σ2, hy, ry, k2⟩ := h1 s1 σ1 v s' k1 e2;exact ⟨y, σ2, by simp only [jN, hx, bind_some, hy, if_true], w1.w _ _ ry, l.sat k2⟩
theorem dB {r : Rl α} : JL Γ bg (fun s => some ([], s)) r Γ := fun s σ v s' hs e => by cases e; exact ⟨[], σ, rfl, .nil, hs⟩
theorem bK {r : Rl α} {ca : DA} {f : S -> Option (α × S)} {g : S -> Option (List α × S)} (h1 : JE Γ c f r Γ1) (h2 : JL Γ1 ca g r Γ2) : JL Γ (am c ca) (fun s => (f s).bind fun p => (g p.2).map fun q => (p.1 :: q.1, q.2)) r Γ2 := fun s σ v s' hs e => by
 obtain ⟨⟨a, s1⟩, e1, e⟩ := bd e;obtain ⟨⟨b, s2⟩, e2, e⟩ := mp e;cases e;obtain ⟨x, σ1, hx, rx, k1⟩ := h1 s σ a s1 hs e1;obtain ⟨ys, σ2, hy, ry, k2⟩ := h2 s1 σ1 b s2 k1 e2;exact ⟨x :: ys, σ2, by simp only [am, hx, hy, bind_some, map_some], .cons rx ry, k2⟩
theorem dD {r : Rl α} {ca : DA} {f : S -> Option (List α × S)} (h : JL Γ ca f r Γ1) : JE Γ (ez ca) (fun s => (f s).bind fun p => if gD (p.1.length) = true then some p else none) (rL r) Γ1 := fun s σ v s' hs e => by
 obtain ⟨⟨a, s1⟩, e1, e⟩ := bd e;obtain ⟨ds, σ1, hx, rx, k1⟩ := h s σ a s1 hs e1;dsimp only at e;split at e
 ·rename_i hl
  have hl := qE hl;cases e;exact ⟨_, σ1, by simp only [ez, hx, bind_some, <- rx.len, hl, if_true], ⟨ds, rfl, rx⟩, k1⟩
 ·cases e
theorem Fs {n : Nat} (h : n <= 100) : n <= sizeLine := Nat.le_of_lt (L2.small1000 oM)
theorem ke {c : DE} {ca : DA} {σ σ1 σ2 : aF} {x : D} {xs : List D} (h : c σ = some (x, σ1)) (h' : ca σ1 = some (xs, σ2)) : am c ca σ = some (x :: xs, σ2) := by
 simp only [am, h, h', bind_some, map_some]
theorem ui {ca : DA} {σ σ1 : aF} {xs : List D} (h : ca σ = some (xs, σ1)) (hl : xs.length <= 100) : cV ca σ = some (.tup xs, σ1) := by
 simp only [cV, h, bind_some, Fs hl, if_true]
theorem dh {a b : DE} {ra : Rl α} {rb : Rl β} {f : S -> Option (α × S)} {g : S -> Option (β × S)} (h1 : JE Γ a f ra Γ1) (h2 : JE Γ1 b g rb Γ2) : JE Γ (cV (am a (am b bg))) (fun s => (f s).bind fun p => (g p.2).map fun q => ((p.1, q.1), q.2)) (cL ra rb) Γ2 := fun s σ v s' hs e => by
 obtain ⟨⟨a, s1⟩, e1, e⟩ := bd e;obtain ⟨⟨b, s2⟩, e2, e⟩ := mp e;cases e;obtain ⟨x, σ1, hx, rx, k1⟩ := h1 s σ a s1 hs e1;obtain ⟨y, σ2, hy, ry, k2⟩ := h2 s1 σ1 b s2 k1 e2;exact ⟨_, σ2, ui (ke hx (ke hy rfl)) (Nat.le_of_ble_eq_true rfl), ⟨x, y, rfl, rx, ry⟩, k2⟩
theorem yZ {a b d : DE} {ra : Rl α} {rb : Rl β} {rd : Rl γ} {f : S -> Option (α × S)} {g : S -> Option (β × S)} {h : S -> Option (γ × S)} (h1 : JE Γ a f ra Γ1) (h2 : JE Γ1 b g rb Γ2) (h3 : JE Γ2 d h rd Γ3) :
  JE Γ (cV (am a (am b (am d bg)))) (fun s => (f s).bind fun p => (g p.2).bind fun q => (h q.2).map fun o => ((p.1, q.1, o.1), o.2)) (gJ ra rb rd) Γ3 := fun s σ v s' hs e => by
 obtain ⟨⟨a, s1⟩, e1, e⟩ := bd e;obtain ⟨⟨b, s2⟩, e2, e⟩ := bd e;obtain ⟨⟨w, s3⟩, e3, e⟩ := mp e;cases e;obtain ⟨x, σ1, hx, rx, k1⟩ := h1 s σ a s1 hs e1;obtain ⟨y, σ2, hy, ry, k2⟩ := h2 s1 σ1 b s2 k1 e2;obtain ⟨z, σ3, hz, rz, k3⟩ := h3 s2 σ2 w s3 k2 e3;exact ⟨_, σ3, ui (ke hx (ke hy (ke hz rfl))) (Nat.le_of_ble_eq_true rfl), ⟨x, y, z, rfl, rx, ry, rz⟩, k3⟩
theorem y0 {g : List D -> Option D} {h : α -> Option γ} {ra : Rl α} {rc : Rl γ} {f : S -> Option (α × S)} (o : mQ g h ra rc) (h1 : JE Γ c f ra Γ1) : JE Γ (jk g (am c bg)) (fun s => (f s).bind fun p => (h p.1).map fun v => (v, p.2)) rc Γ1 := fun s σ v s' hs e => by
 obtain ⟨⟨a, s1⟩, e1, e⟩ := bd e;obtain ⟨w, e3, e⟩ := mp e;cases e;obtain ⟨x, σ1, hx, rx, k1⟩ := h1 s σ a s1 hs e1;obtain ⟨z, hz, rz⟩ := o a v x e3 rx;exact ⟨z, σ1, by simp only [jk, am, bg, hx, bind_some, map_some, hz], rz, k1⟩
theorem All2.sc {r : Rl α} [k : Sc r] : ∀ {as : List α} {ds : List D}, All2 r as ds -> gm ds = true
 | _, _, .nil => rfl
 | _, _, .cons h t => by
  obtain ⟨w, hw⟩ := k.s _ _ h
  have := All2.sc t
  unfold gm at this ⊢;rw [List.all_cons, hw, this]; rfl
noncomputable def oO (len : Nat) (n : Int) : Bool := Nat.ble n.natAbs 16777216 && Nat.ble (len * n.toNat) 16777216
theorem zC {len : Nat} {n : Int} (h : oO len n = true) : -(2 ^ 63) <= n /\ n < 2 ^ 63 /\ len * n.toNat <= sizeLine := by
 simp only [oO, Bool.and_eq_true, Nat.ble_eq] at h;refine ⟨by omega, by omega, ?_⟩;have e : sizeLine = 16777216 := by decide
 rw [e]; exact h.2
theorem sf {r : Rl α} [k : Sc r] {f : S -> Option (List α × S)} {g : S -> Option (Int × S)} (h1 : JE Γ c f (rL r) Γ1) (h2 : JE Γ1 c' g rI Γ2) : JE Γ (m8 c c') (fun s => (f s).bind fun p => (g p.2).bind fun q => if oO p.1.length q.1 = true then some ((List.replicate q.1.toNat p.1).flatten, q.2) else none) (rL r) Γ2 := fun s σ v s' hs e => by
 obtain ⟨⟨a, s1⟩, e1, e⟩ := bd e;obtain ⟨⟨b, s2⟩, e2, e⟩ := bd e;dsimp only at e;split at e
 ·rename_i hl
  cases e;obtain ⟨x, σ1, hx, ⟨xs, rfl, rx⟩, k1⟩ := h1 s σ a s1 hs e1;obtain ⟨y, σ2, hy, ry, k2⟩ := h2 s1 σ1 b _ k1 e2;cases ry;have hsc : gm xs = true := rx.sc;have hl := zC hl;refine ⟨_, σ2, ?_, ⟨_, rfl, rx.flat b.toNat⟩, k2⟩;simp only [m8, hx, hy, bind_some];exact if_pos ⟨hsc, hl.1, hl.2.1, by rw [<- rx.len]; exact hl.2.2⟩
 ·cases e
noncomputable def uG (Γ : aP S) (p : Option DP) (f : S -> Option (Option Int)) : Prop := ∀ s σ v, Sat Γ s σ -> f s = some v -> j3 p σ = some v
theorem m5 : uG Γ none (fun _ => some none) := fun s σ v hs e => by cases e; rfl
theorem gu {p : DP} {f : S -> Option Int} (h : JP Γ p f rI) : uG Γ (some p) (fun s => (f s).map some) := fun s σ v hs e => by
 obtain ⟨a, e1, e2⟩ := mp e;obtain ⟨x, hx, rx⟩ := h s σ a hs e1;cases rx; cases e2;simp only [j3, hx, bind_some]
theorem All2.cut {r : Rl α} {as : List α} {ds : List D} (h : All2 r as ds) (lo hi : Option Int) : All2 r (jl as lo hi) (jl ds lo hi) := by
 unfold jl;rw [h.len];exact (h.drop _).take _
theorem Sat.put {i : Nat} {get : S -> α} {put : S -> α -> S} {r : Rl α} {s : S} {σ : aF} {v : α} {d : D} (hs : Sat Γ s σ) (hg : ∀ s v, get (put s v) = v) (hf : ∀ v, Fr (fun s => put s v) (Γ.set i none)) (h : r v d) : Sat (Γ.set i (some ⟨get, r⟩)) (put s v) (σ.set i (some d)) := by
 have h1 := (hf v).sat (On.setn (i := i) hs);have h2 := h1.set (i := i) (l := some ⟨get, r⟩) (o := some d) ⟨d, rfl, by rw [show (Sl.mk get r).get = get from rfl, hg]; exact h⟩;rw [List.set_set] at h2;exact h2
theorem t6 (i : Nat) {get : S -> List α} {put : S -> List α -> S} {rl : Rl (List α)} {r q : Rl α} [l : Ls rl q] {f : S -> Option (α × S)} (h : JE Γ c f r Γ1) (h0 : Γ[i]? = some (some ⟨get, rl⟩)) (hi : Γ1[i]? = some (some ⟨get, rL r⟩)) (hg : autoParam (∀ s v, get (put s v) = v) jF._auto_1) (hf : autoParam (∀ v, Fr (fun s => put s v) (Γ1.set i none)) jO._auto_1) :
  JE Γ (mB i c) (fun s => (f s).bind fun p => if yV ((get p.2).length) = true then some ((), put p.2 (get p.2 ++ [p.1])) else none) rN (Γ1.set i (some ⟨get, rL r⟩)) := fun s σ v s' hs e => by
 obtain ⟨⟨a, s1⟩, e1, e⟩ := bd e;dsimp only at e;split at e
 ·rename_i hl
  have hl := we hl;cases e;obtain ⟨x, σ1, hx, rx, k1⟩ := h s σ a s1 hs e1;obtain ⟨d0, hd0, h00⟩ := hs.get h0;obtain ⟨o0, ds0, rfl, _⟩ := l.l _ _ h00;obtain ⟨d, hd, ds, rfl, h2⟩ := k1.get hi;exact ⟨.non, _, by simp only [mB, hd0, hx, bind_some, hd, <- h2.len, hl, if_true], rfl, k1.put hg hf ⟨_, rfl, h2.append (.cons rx .nil)⟩⟩
 ·cases e
theorem bJ {f : S -> Option (Bool × S)} (h : JE Γ c f rB Γ1) : JT Γ (aV c) f Γ1 := fun s σ v s' hs e => by
 obtain ⟨d, σ1, h1, h2, h3⟩ := h s σ v s' hs e;cases h2;exact ⟨σ1, by simp only [aV, h1, bind_some], h3⟩
theorem jZ {f : S -> Option (Bool × S)} (h : JT Γ t f Γ1) : JT Γ (hX t) (fun s => (f s).map fun p => (!p.1, p.2)) Γ1 := fun s σ v s' hs e => by
 obtain ⟨⟨a, s1⟩, e1, e2⟩ := mp e;obtain ⟨σ1, h1, h2⟩ := h s σ a s1 hs e1;cases e2;exact ⟨σ1, by simp only [hX, h1, map_some], h2⟩
theorem nH {f g : S -> Option (Bool × S)} (h1 : JT Γ t f Γ1) (h2 : JT Γ1 u g Γ2) (l : autoParam (Le Γ1 Γ') jP._auto_1) (l2 : autoParam (Le Γ2 Γ') jP._auto_1) : JT Γ (iM t u) (fun s => (f s).bind fun p => if p.1 = true then g p.2 else some (false, p.2)) Γ' := fun s σ v s' hs e => by
 obtain ⟨⟨a, s1⟩, e1, e2⟩ := bd e;obtain ⟨σ1, hx, k1⟩ := h1 s σ a s1 hs e1;cases a
 ·simp only [Bool.false_eq_true, if_false] at e2
  cases e2;exact ⟨σ1, by simp only [iM, hx, bind_some, Bool.false_eq_true, if_false], l.sat k1⟩
 ·simp only [if_true] at e2
  obtain ⟨σ2, hy, k2⟩ := h2 s1 σ1 v s' k1 e2;exact ⟨σ2, by simp only [iM, hx, bind_some, hy, if_true], l2.sat k2⟩
theorem jz {f g : S -> Option (Bool × S)} (h1 : JT Γ t f Γ1) (h2 : JT Γ1 u g Γ2) (l : autoParam (Le Γ1 Γ') jP._auto_1) (l2 : autoParam (Le Γ2 Γ') jP._auto_1) : JT Γ (g8 t u) (fun s => (f s).bind fun p => if p.1 = true then some (true, p.2) else g p.2) Γ' := fun s σ v s' hs e => by
 obtain ⟨⟨a, s1⟩, e1, e2⟩ := bd e;obtain ⟨σ1, hx, k1⟩ := h1 s σ a s1 hs e1;cases a
 ·simp only [Bool.false_eq_true, if_false] at e2
  obtain ⟨σ2, hy, k2⟩ := h2 s1 σ1 v s' k1 e2;exact ⟨σ2, by simp only [g8, hx, bind_some, hy, Bool.false_eq_true, if_false], l2.sat k2⟩
 ·simp only [if_true] at e2
  cases e2;exact ⟨σ1, by simp only [g8, hx, bind_some, if_true], l.sat k1⟩
theorem mn : JT Γ lX (fun s => some (true, s)) Γ := fun s σ v s' hs e => by cases e; exact ⟨σ, rfl, hs⟩
noncomputable def tSeq (f g : S -> Option (TR S ρ)) : S -> Option (TR S ρ) := fun s => (f s).bind fun r => match r with | .nx s' => g s' | .rt v s' => some (.rt v s') | .bk s' => some (.bk s') | .ct s' => some (.ct s')
theorem dt {c : DS} : JS Γ c (fun _ => none) Γn E := fun s σ v hs e => by cases e
theorem aq {a b : DS} {f g : S -> Option (TR S ρ)} (h1 : JS Γ a f Γ1 E) (h2 : JS Γ1 b g Γ2 E) : JS Γ (aL a b) (tSeq f g) Γ2 E := fun s σ v hs e => by
 obtain ⟨r, e1, e2⟩ := bd e;obtain ⟨o, ho, ro⟩ := h1 s σ r hs e1;cases r with
 | nx s' =>
  cases o with
  | nx σ' =>
   obtain ⟨o2, h3, r3⟩ := h2 s' σ' v ro e2;exact ⟨o2, by simp only [aL, ho, bind_some, h3], r3⟩
  | _ => exact ro.elim
 | rt w s' =>
  cases e2;cases o with
  | rt d σ' => exact ⟨.rt d σ', by simp only [aL, ho, bind_some], ro⟩
  | _ => exact ro.elim
 | bk s' =>
  cases e2;cases o with
  | bk σ' => exact ⟨.bk σ', by simp only [aL, ho, bind_some], ro⟩
  | _ => exact ro.elim
 | ct s' =>
  cases e2;cases o with
  | ct σ' => exact ⟨.ct σ', by simp only [aL, ho, bind_some], ro⟩
  | _ => exact ro.elim
theorem yY {a : DS} {f : S -> Option (TR S ρ)} (h : JS Γ a f Γ1 E) (l : Le Γ1 Γn) : JS Γ a f Γn E := fun s σ v hs e => by
 obtain ⟨o, ho, ro⟩ := h s σ v hs e;refine ⟨o, ho, ?_⟩;cases v <;> cases o <;> first | exact l.sat ro | exact ro
theorem aW (i : Nat) {get : S -> α} {put : S -> α -> S} {r : Rl α} {f : S -> Option (α × S)} (h : JE Γ c f r Γ1) (hg : autoParam (∀ s v, get (put s v) = v) jF._auto_1) (hf : autoParam (∀ v, Fr (fun s => put s v) (Γ1.set i none)) jO._auto_1) (hi : autoParam (i < Γ1.length) cG._auto_1) :
  JS Γ (bE i c) (fun s => (f s).map fun p => .nx (put p.2 p.1)) (Γ1.set i (some ⟨get, r⟩)) E := fun s σ v hs e => by
 obtain ⟨⟨a, s1⟩, e1, e2⟩ := mp e;cases e2;obtain ⟨d, σ1, h1, h2, h3⟩ := h s σ a s1 hs e1;have hl : i < σ1.length := by rw [h3.len]; exact hi
 exact ⟨.nx (σ1.set i (some d)), by simp only [bE, h1, bind_some, hl, if_true], h3.put hg hf h2⟩
theorem cB {a b : DS} {ft : S -> Option (Bool × S)} {f g : S -> Option (TR S ρ)} (h0 : JT Γ t ft Γ0) (h1 : JS Γ0 a f Γ1 E) (h2 : JS Γ0 b g Γ2 E) (l1 : autoParam (Le Γ1 Γ') jP._auto_1) (l2 : autoParam (Le Γ2 Γ') jP._auto_1) : JS Γ (dw t a b) (fun s => (ft s).bind fun p => if p.1 = true then f p.2 else g p.2) Γ' E := fun s σ v hs e => by
 obtain ⟨⟨b, s1⟩, e1, e2⟩ := bd e;obtain ⟨σ1, hx, k1⟩ := h0 s σ b s1 hs e1;cases b
 ·simp only [Bool.false_eq_true, if_false] at e2
  obtain ⟨o, ho, ro⟩ := (yY h2 l2) s1 σ1 v k1 e2;exact ⟨o, by simp only [dw, hx, bind_some, ho, Bool.false_eq_true, if_false], ro⟩
 ·simp only [if_true] at e2
  obtain ⟨o, ho, ro⟩ := (yY h1 l1) s1 σ1 v k1 e2;exact ⟨o, by simp only [dw, hx, bind_some, ho, if_true], ro⟩
theorem bA {r : Rl ρ} {f : S -> Option (ρ × S)} (h : JE Γ c f r Γ1) (w : autoParam (Wk r E.ro) Fg._auto_1) (l : autoParam (Le Γ1 E.rt) jP._auto_1) : JS Γ (cf c) (fun s => (f s).map fun p => .rt p.1 p.2) Γn E := fun s σ v hs e => by
 obtain ⟨⟨a, s1⟩, e1, e2⟩ := mp e;cases e2;obtain ⟨d, σ1, h1, h2, h3⟩ := h s σ a s1 hs e1;exact ⟨.rt d σ1, by simp only [cf, h1, map_some], w.w _ _ h2, l.sat h3⟩
theorem mo {r : Rl α} {f : S -> Option (α × S)} (h : JE Γ c f r Γ1) : JS Γ (jr c) (fun s => (f s).map fun p => .nx p.2) Γ1 E := fun s σ v hs e => by
 obtain ⟨⟨a, s1⟩, e1, e2⟩ := mp e;cases e2;obtain ⟨d, σ1, h1, h2, h3⟩ := h s σ a s1 hs e1;exact ⟨.nx σ1, by simp only [jr, h1, map_some], h3⟩
theorem bS : JS Γ cH (fun s => some (.nx s)) Γ E := fun s σ v hs e => by cases e; exact ⟨_, rfl, hs⟩
theorem All2.ix {r : Rl α} {as : List α} {ds : List D} (h : All2 r as ds) {i : Int} : ixN ds.length i = ixN as.length i := by rw [h.len]
theorem Af (i : Nat) {get : S -> List α} {put : S -> List α -> S} {r : Rl α} {rb : Rl β} [k : Sc r] {g : D -> D -> Option D} {h : α -> β -> Option α} {q p : DP} {fq : S -> Option Int} {f : S -> Option β} (o : JO g h r rb r) (hq : JP Γ q fq rI) (h1 : JP Γ p f rb) (h0 : Γ[i]? = some (some ⟨get, rL r⟩)) (hg : autoParam (∀ s v, get (put s v) = v) jF._auto_1) (hf : autoParam (∀ v, Fr (fun s => put s v) (Γ.set i none)) jO._auto_1) :
  JS Γ (kU g i [] q p) (fun s => (fq s).bind fun kk => (ixN (get s).length kk).bind fun j => ((get s)[j]?).bind fun x => (f s).bind fun y => (h x y).map fun z => .nx (put s ((get s).set j z))) (Γ.set i (some ⟨get, rL r⟩)) E := fun s σ v hs e => by
 obtain ⟨kk, e1, e⟩ := bd e;obtain ⟨j, e2, e⟩ := bd e;obtain ⟨x, e3, e⟩ := bd e;obtain ⟨y, e4, e⟩ := bd e;obtain ⟨z, e5, e⟩ := mp e;cases e;obtain ⟨d, hd, ds, rfl, h2⟩ := hs.get h0;obtain ⟨dq, hdq, rq⟩ := hq s σ kk hs e1;cases rq;obtain ⟨dx, hdx, rx⟩ := h2.get e3;obtain ⟨wv, hw⟩ := k.s _ _ rx;obtain ⟨dy, hdy, ry⟩ := h1 s σ y hs e4;obtain ⟨dz, hdz, rz⟩ := o _ _ _ _ _ e5 rx ry;exact ⟨.nx _, by simp only [kU, hd, gZ, cZ, bind_some, hdq, h2.ix, e2, hdx, hw, hdy, hdz, map_some, ey], hs.put hg hf ⟨_, rfl, h2.set rz⟩⟩
theorem d7 (i : Nat) {get : S -> α} {put : S -> α -> S} {r : Rl α} (hg : autoParam (∀ s v, get (put s v) = v) jF._auto_1) (hf : autoParam (∀ v, Fr (fun s => put s v) (Γ.set i none)) jO._auto_1) (hi : autoParam (i < Γ.length) cG._auto_1) : JG Γ (du i) put r (Γ.set i (some ⟨get, r⟩)) := fun s σ v d hs h => by
 have hl : i < σ.length := by rw [hs.len]; exact hi
 exact ⟨_, by simp only [du, hl, if_true], hs.put hg hf h⟩
theorem mv {g1 g2 : DG} {p1 : S -> α -> S} {p2 : S -> β -> S} {ra : Rl α} {rb : Rl β} (h1 : JG Γ g1 p1 ra Γ1) (h2 : JG Γ1 g2 p2 rb Γ2) : JG Γ (fm 2 (cF g1 (cF g2 fM))) (fun s v => p2 (p1 s v.1) v.2) (cL ra rb) Γ2 := fun s σ v d hs hq0 => by
 obtain ⟨x, y, e, hx, hy⟩ := hq0;obtain ⟨σ1, e1, k1⟩ := h1 s σ v.1 x hs hx;obtain ⟨σ2, e2, k2⟩ := h2 _ σ1 v.2 y k1 hy;exact ⟨σ2, by simp only [e, fm, cF, fM, List.length_cons, List.length_nil, e1, e2, bind_some, if_true], k2⟩
theorem wn {r : Rl α} {g : DG} {put : S -> α -> S} {f : S -> Option (α × S)} (h : JE Γ c f r Γ1) (hg : JG Γ1 g put r Γ2) : JS Γ (i7 c g) (fun s => (f s).map fun p => .nx (put p.2 p.1)) Γ2 E := fun s σ v hs e => by
 obtain ⟨⟨a, s1⟩, e1, e2⟩ := mp e;cases e2;obtain ⟨d, σ1, h1, h2, h3⟩ := h s σ a s1 hs e1;obtain ⟨σ2, h4, h5⟩ := hg s1 σ1 a d h3 h2;exact ⟨.nx σ2, by simp only [i7, h1, bind_some, h4, map_some], h5⟩
theorem o8 (i : Nat) {get : S -> List α} {put : S -> List α -> S} {r : Rl α} {q : DP} {fq : S -> Option Int} {f : S -> Option (α × S)} (h : JE Γ c f r Γ1) (hq : JP Γ1 q fq rI) (h0 : Γ1[i]? = some (some ⟨get, rL r⟩)) (hg : autoParam (∀ s v, get (put s v) = v) jF._auto_1) (hf : autoParam (∀ v, Fr (fun s => put s v) (Γ1.set i none)) jO._auto_1) :
  JS Γ (i7 c (m6 i [] q)) (fun s => (f s).bind fun p => (fq p.2).bind fun kk => (ixN (get p.2).length kk).map fun j => .nx (put p.2 ((get p.2).set j p.1))) (Γ1.set i (some ⟨get, rL r⟩)) E := fun s σ v hs e => by
 obtain ⟨⟨a, s1⟩, e1, e⟩ := bd e;obtain ⟨kk, e2, e⟩ := bd e;obtain ⟨j, e3, e⟩ := mp e;cases e;obtain ⟨d, σ1, h1, h2, h3⟩ := h s σ a s1 hs e1;obtain ⟨dq, hdq, rq⟩ := hq s1 σ1 kk h3 e2;cases rq;obtain ⟨d', hd, ds, rfl, h4⟩ := h3.get h0;dsimp only at e3;exact ⟨.nx _, by simp only [i7, h1, bind_some, m6, hd, gZ, cZ, hdq, h4.ix, e3, map_some, ey], h3.put hg hf ⟨_, rfl, h4.set h2⟩⟩
theorem iy {rl : Rl (List α)} {r r' : Rl α} [l : Ls rl r] [k : Fz r r'] {f : S -> Option (List α × S)} (h : JE Γ c f rl Γ1) : JI Γ (iF c) f r' Γ1 := fun s σ v s' hs e => by
 obtain ⟨d, σ1, h1, h2, h3⟩ := h s σ v s' hs e;obtain ⟨o, ds, rfl, h⟩ := l.l v d h2;exact ⟨_, σ1, by simp only [iF, h1, bind_some], h.fz k.f, h3⟩
noncomputable def rng (lo hi : Int) : List Int := (List.range (hi - lo).toNat).map fun (k : Nat) => lo + k
theorem vQ (lo hi : Int) : All2 rI (rng lo hi) (i9 lo hi) := by unfold rng i9; exact All2.ofMap (r := rI) (f := fun (k : Nat) => lo + k) (g := fun (k : Nat) => D.int (lo + k)) (fun _ => rfl) _
theorem nJ {f : S -> Option (Int × S)} (h : JE Γ c f rI Γ1) : JI Γ (nU (am c bg)) (fun s => (f s).bind fun p => if i8 p.1 = true then some (rng 0 p.1, p.2) else none) rI Γ1 := fun s σ v s' hs e => by
 obtain ⟨⟨a, s1⟩, e1, e⟩ := bd e;dsimp only at e;split at e
 ·rename_i hl
  cases e;obtain ⟨d, σ1, h1, h2, h3⟩ := h s σ a _ hs e1;cases h2;refine ⟨_, σ1, ?_, vQ _ _, h3⟩;simp only [nU, am, bg, h1, bind_some, map_some];exact if_pos (oN hl)
 ·cases e
theorem DC {f g : S -> Option (Int × S)} (h : JE Γ c f rI Γ1) (h' : JE Γ1 c' g rI Γ2) : JI Γ (wA (am c (am c' bg))) (fun s => (f s).bind fun p => (g p.2).bind fun q => if (i8 p.1 && i8 q.1) = true then some (rng p.1 q.1, q.2) else none) rI Γ2 := fun s σ v s' hs e => by
 obtain ⟨⟨a, s1⟩, e1, e⟩ := bd e;obtain ⟨⟨b, s2⟩, e2, e⟩ := bd e;dsimp only at e;split at e
 ·rename_i hl
  cases e;obtain ⟨d, σ1, h1, h2, h3⟩ := h s σ a s1 hs e1;obtain ⟨d', σ2, h4, h5, h6⟩ := h' s1 σ1 b _ h3 e2;cases h2; cases h5;refine ⟨_, σ2, ?_, vQ _ _, h6⟩;simp only [wA, am, bg, h1, h4, bind_some, map_some];simp only [Bool.and_eq_true] at hl;exact if_pos (by rw [oN hl.1, oN hl.2]; rfl)
 ·cases e
theorem AK {ra ra' : Rl α} {rb rb' : Rl β} (ka : ∀ a d, ra a d -> ra' a d.fz) (kb : ∀ a d, rb a d -> rb' a d.fz) : ∀ {as : List α} {bs : List β} {ds es : List D}, All2 ra as ds -> All2 rb bs es -> All2 (cL ra' rb') (as.zip bs) (((D.fzL ds).zip (D.fzL es)).map fun z => .tup [z.1, z.2]) := by
 intro as bs ds es h
 induction h generalizing bs es with
 | nil => intro _; simp only [List.zip_nil_left, D.fzL, List.map_nil]; exact .nil
 | cons h1 t1 ih =>
  intro k;cases k with
  | nil => simp only [List.zip_nil_right, D.fzL, List.map_nil]; exact .nil
  | cons h2 t2 =>
   simp only [List.zip_cons_cons, D.fzL, List.map_cons];exact .cons ⟨_, _, rfl, ka _ _ h1, kb _ _ h2⟩ (ih t2)
theorem B0 {rl : Rl (List α)} {ra ra' : Rl α} {rm : Rl (List β)} {rb rb' : Rl β} [l : Ls rl ra] [k : Fz ra ra'] [l2 : Ls rm rb] [k2 : Fz rb rb'] {f : S -> Option (List α × S)} {g : S -> Option (List β × S)} (h : JE Γ c f rl Γ1) (h' : JE Γ1 c' g rm Γ2) : JI Γ (nS c c') (fun s => (f s).bind fun p => (g p.2).map fun q => (p.1.zip q.1, q.2)) (cL ra' rb') Γ2 := fun s σ v s' hs e => by
 obtain ⟨⟨a, s1⟩, e1, e⟩ := bd e;obtain ⟨⟨b, s2⟩, e2, e⟩ := mp e;cases e;obtain ⟨d, σ1, h1, h2, h3⟩ := h s σ a s1 hs e1;obtain ⟨d', σ2, h4, h5, h6⟩ := h' s1 σ1 b s2 h3 e2;obtain ⟨o, ds, rfl, hh⟩ := l.l a d h2;obtain ⟨o', ds', rfl, hh'⟩ := l2.l b d' h5;exact ⟨_, σ2, by simp only [nS, h1, h4, bind_some], AK k.f k2.f hh hh', h6⟩
noncomputable def cO (put : S -> α -> S) (b : S -> Option (TR S ρ)) : List α -> S -> Option (TR S ρ)
 | [], s => some (.nx s)
 | x :: xs, s => (b (put s x)).bind fun o => match o with
  | .nx s2 => cO put b xs s2
  | .ct s2 => cO put b xs s2
  | .bk s2 => some (.nx s2)
  | .rt d s2 => some (.rt d s2)
theorem Ab {g : DG} {put : S -> α -> S} {r : Rl α} {b : DS} {fb : S -> Option (TR S ρ)} {Γx Γb : aP S} (hg : JG Γh g put r Γx) (hb : JS Γx b fb Γb ⟨E.rt, E.ro, Γh⟩) (lb : Le Γb Γh) : ∀ {xs : List α} {ds : List D} {s : S} {σ : aF} {t : TR S ρ}, All2 r xs ds -> Sat Γh s σ -> cO put fb xs s = some t -> ∃ o, eR g b ds σ = some o /\ Rs Γh E t o := by
 intro xs ds s σ t h0
 induction h0 generalizing s σ t with
 | nil => intro hs e; cases e; exact ⟨_, rfl, hs⟩
 | cons h1 h2 ih =>
  intro hs e;simp only [cO] at e;obtain ⟨o, e1, e⟩ := bd e;obtain ⟨σ1, g1, k1⟩ := hg s σ _ _ hs h1;obtain ⟨o', b1, r1⟩ := hb _ σ1 o k1 e1;cases o with
  | nx s2 =>
   cases o' with
   | nx σ2 =>
    obtain ⟨o2, c1, c2⟩ := ih (lb.sat r1) e;exact ⟨o2, by simp only [eR, g1, bind_some, b1, c1], c2⟩
   | _ => exact r1.elim
  | ct s2 =>
   cases o' with
   | ct σ2 =>
    obtain ⟨o2, c1, c2⟩ := ih r1 e;exact ⟨o2, by simp only [eR, g1, bind_some, b1, c1], c2⟩
   | _ => exact r1.elim
  | bk s2 =>
   cases e;cases o' with
   | bk σ2 => exact ⟨.nx σ2, by simp only [eR, g1, bind_some, b1], r1⟩
   | _ => exact r1.elim
  | rt d s2 =>
   cases e;cases o' with
   | rt d' σ2 => exact ⟨.rt d' σ2, by simp only [eR, g1, bind_some, b1], r1⟩
   | _ => exact r1.elim
theorem fX {i : DI} {g : DG} {put : S -> α -> S} {r : Rl α} {b : DS} {fi : S -> Option (List α × S)} {fb : S -> Option (TR S ρ)} {Γx Γb : aP S} (hi : JI Γ i fi r Γ1) (l : Le Γ1 Γh) (hg : JG Γh g put r Γx) (hb : JS Γx b fb Γb ⟨E.rt, E.ro, Γh⟩) (lb : autoParam (Le Γb Γh) jP._auto_1) :
  JS Γ (fk i g b) (fun s => (fi s).bind fun p => cO put fb p.1 p.2) Γh E := fun s σ v hs e => by
 obtain ⟨⟨xs, s1⟩, e1, e⟩ := bd e;obtain ⟨ds, σ1, h1, h2, h3⟩ := hi s σ xs s1 hs e1;obtain ⟨o, h4, h5⟩ := Ab hg hb lb h2 (l.sat h3) e;exact ⟨o, by simp only [fk, h1, bind_some, h4], h5⟩
end
section
variable {S : Type} {α β γ δ ρ : Type} {Γ Γ0 Γ1 Γ2 Γ3 Γ4 Γ' Γn Γh : aP S} {c c' : DE} {t u : DT} {E : Ex S ρ}
theorem Sat.app : ∀ {Γ Δ : aP S} {s : S} {σ τ : aF}, Sat Γ s σ -> Sat Δ s τ -> Sat (Γ ++ Δ) s (σ ++ τ)
 | [], _, _, [], _, _, h => h
 | _ :: Γ, _, _, _ :: σ, _, h, k => ⟨h.1, Sat.app h.2 k⟩
 | [], _, _, _ :: _, _, h, _ => h.elim
 | _ :: _, _, _, [], _, h, _ => h.elim
theorem Sat.split : ∀ {Γ Δ : aP S} {s : S} {σ : aF}, Sat (Γ ++ Δ) s σ -> ∃ σ1 σ2, σ = σ1 ++ σ2 /\ Sat Γ s σ1 /\ Sat Δ s σ2
 | [], _, _, σ, h => ⟨[], σ, rfl, trivial, h⟩
 | _ :: Γ, _, _, x :: σ, h => by
  obtain ⟨σ1, σ2, e, h1, h2⟩ := Sat.split (Γ := Γ) h.2;exact ⟨x :: σ1, σ2, by rw [e]; rfl, ⟨h.1, h1⟩, h2⟩
 | _ :: _, _, _, [], h => h.elim
theorem Sat.non {s : S} : ∀ {k : Nat} {σ : aF}, σ.length = k -> Sat (List.replicate k none) s σ
 | 0, [], _ => trivial
 | k + 1, _ :: σ, h => ⟨trivial, Sat.non (k := k) (by simpa using h)⟩
noncomputable def jQ (ft : α -> S -> Option (Bool × S)) (fe : α -> S -> Option (β × S)) : List α -> S -> Option (List β × S)
 | [], s => some ([], s)
 | x :: xs, s => (ft x s).bind fun p => if p.1 = true then (fe x p.2).bind fun q => (jQ ft fe xs q.2).map fun r => (q.1 :: r.1, r.2) else jQ ft fe xs p.2
noncomputable def zi (Γ : aP S) (k : Nat) (g : DG) (r : Rl α) (Δ : α -> aP S) : Prop := ∀ s σ v d, Sat (Γ ++ List.replicate k none) s σ -> r v d -> ∃ σ', g d σ = some σ' /\ Sat (Γ ++ Δ v) s σ'
theorem oK {A : List (Option D)} {a b : Option D} {B : aF} : (A ++ a :: B).set A.length b = A ++ b :: B := by
 rw [List.set_append_right _ _ (Nat.le_refl _)]; simp
theorem se {r : Rl α} (i : Nat) (hi : i = Γ.length) : zi Γ 1 (du i) r (fun v => [some ⟨fun _ => v, r⟩]) := fun s σ v d hs h => by
 obtain ⟨σ1, σ2, rfl, h1, h2⟩ := hs.split
 match σ2, h2 with
 | [o], _ =>
  have hl : σ1.length = i := by rw [h1.len, hi]
  have hl2 : i < (σ1 ++ [o]).length := by simp [hl]
  refine ⟨σ1 ++ [some d], ?_, h1.app ⟨⟨d, rfl, h⟩, trivial⟩⟩;simp only [du, hl2, if_true];rw [<- hl, oK]
theorem B2 {ra : Rl α} {rb : Rl β} (i j : Nat) (hi : i = Γ.length) (hj : j = Γ.length + 1) : zi Γ 2 (fm 2 (cF (du i) (cF (du j) fM))) (cL ra rb) (fun v => [some ⟨fun _ => v.1, ra⟩, some ⟨fun _ => v.2, rb⟩]) := fun s σ v d hs hq0 => by
 obtain ⟨x, y, e, hx, hy⟩ := hq0;obtain ⟨σ1, σ2, rfl, h1, h2⟩ := hs.split
 match σ2, h2 with
 | [o, o'], _ =>
  have hl : σ1.length = i := by rw [h1.len, hi]
  have hl2 : i < (σ1 ++ [o, o']).length := by simp [hl]
  have hl3 : j < (σ1 ++ [some x, o']).length := by simp [hl]; omega
  refine ⟨σ1 ++ [some x, some y], ?_, h1.app ⟨⟨x, rfl, hx⟩, ⟨y, rfl, hy⟩, trivial⟩⟩;have e1 : (σ1 ++ [o, o']).set i (some x) = σ1 ++ [some x, o'] := by rw [<- hl, oK]
  have e2 : (σ1 ++ [some x, o']).set j (some y) = σ1 ++ [some x, some y] := by
   have h3 : j = (σ1 ++ [some x]).length := by simp; omega
   rw [show σ1 ++ [some x, o'] = (σ1 ++ [some x]) ++ [o'] by simp, h3, oK]; simp
  simp only [e, fm, cF, fM, du, List.length_cons, List.length_nil, if_true, hl2, e1, bind_some, hl3, e2]
theorem Dy {k : Nat} {g : DG} {r : Rl α} {re : Rl β} {Δ : α -> aP S} {ft : α -> S -> Option (Bool × S)} {fe : α -> S -> Option (β × S)} {Γt Γe : α -> aP S} (hg : zi Γh k g r Δ) (ht : ∀ x, JT (Γh ++ Δ x) t (ft x) (Γt x)) (l1 : ∀ x, Le (Γt x) (Γh ++ List.replicate k none)) (he : ∀ x, JE (Γt x) c (fe x) re (Γe x)) (l2 : ∀ x, Le (Γe x) (Γh ++ List.replicate k none)) :
  ∀ {xs : List α} {ds : List D} {s : S} {σ : aF} {ys : List β} {s' : S}, All2 r xs ds -> Sat (Γh ++ List.replicate k none) s σ -> jQ ft fe xs s = some (ys, s') -> ∃ es σ', jJ g t c ds σ = some (es, σ') /\ All2 re ys es /\ Sat (Γh ++ List.replicate k none) s' σ' := by
 intro xs ds s σ ys s' h0
 induction h0 generalizing s σ ys s' with
 | nil => intro hs e; cases e; exact ⟨[], σ, rfl, .nil, hs⟩
 | cons h1 h2 ih =>
  intro hs e;simp only [jQ] at e;obtain ⟨⟨b, s1⟩, e1, e⟩ := bd e;obtain ⟨σ1, g1, k1⟩ := hg s σ _ _ hs h1;obtain ⟨σ2, g2, k2⟩ := ht _ s σ1 b s1 k1 e1;cases b
  ·simp only [Bool.false_eq_true, if_false] at e
   obtain ⟨es, σ3, g3, r3, k3⟩ := ih ((l1 _).sat k2) e;exact ⟨es, σ3, by simp only [jJ, g1, bind_some, g2, Bool.false_eq_true, if_false, g3], r3, k3⟩
  ·simp only [if_true] at e
   obtain ⟨⟨v, s2⟩, e2, e⟩ := bd e;obtain ⟨⟨w, s3⟩, e3, e⟩ := mp e;cases e;obtain ⟨d, σ3, g3, r3, k3⟩ := he _ s1 σ2 v s2 k2 e2;obtain ⟨es, σ4, g4, r4, k4⟩ := ih ((l2 _).sat k3) e3;exact ⟨d :: es, σ4, by simp only [jJ, g1, bind_some, g2, if_true, g3, g4, map_some], .cons r3 r4, k4⟩
theorem kv {k : Nat} {i : DI} {g : DG} {r : Rl α} {re : Rl β} {Δ : α -> aP S} {fi : S -> Option (List α × S)} {ft : α -> S -> Option (Bool × S)} {fe : α -> S -> Option (β × S)} {Γt Γe : α -> aP S} (hi : JI Γ i fi r Γ1) (l : Le Γ1 Γh) (hg : zi Γh k g r Δ) (ht : ∀ x, JT (Γh ++ Δ x) t (ft x) (Γt x)) (he : ∀ x, JE (Γt x) c (fe x) re (Γe x)) (l1 : autoParam (∀ x, Le (Γt x) (Γh ++ List.replicate k none)) CO._auto_1) (l2 : autoParam (∀ x, Le (Γe x) (Γh ++ List.replicate k none)) CO._auto_1) :
  JE Γ (iJ k i g t c) (fun s => (fi s).bind fun p => if gD (p.1.length) = true then jQ ft fe p.1 p.2 else none) (rL re) Γh := fun s σ v s' hs e => by
 obtain ⟨⟨xs, s1⟩, e1, e⟩ := bd e;obtain ⟨ds, σ1, h1, h2, h3⟩ := hi s σ xs s1 hs e1;dsimp only at e;split at e
 ·rename_i hl
  have hl := qE hl;have h4 := l.sat h3;obtain ⟨es, σ2, g2, r2, k2⟩ := Dy hg ht l1 he l2 h2 (h4.app (Sat.non (k := k) (σ := List.replicate k none) (by simp))) e;obtain ⟨σa, σb, rfl, ka, kb⟩ := k2.split;refine ⟨_, σa, ?_, ⟨es, rfl, r2⟩, ka⟩;have hl2 : ds.length <= sizeLine := by rw [<- h2.len]; exact hl
  have hlen : σ1.length = σa.length := by rw [h4.len, ka.len]
  simp only [iJ, h1, bind_some, hl2, if_true, g2, map_some, hlen, List.take_left]
 ·cases e
noncomputable def Pn : Unit -> List D -> Prop := fun _ ds => ds = []
noncomputable def Pc (r : Rl α) (P : β -> List D -> Prop) : α × β -> List D -> Prop := fun p ds => ∃ d ds', ds = d :: ds' /\ r p.1 d /\ P p.2 ds'
noncomputable def JF {P : Type} (g : GF) (h : P -> Option (ρ × P)) (PI : P -> List D -> Prop) (ro : Rl ρ) (PO : P -> List D -> Prop) : Prop := ∀ p ds v q, PI p ds -> h p = some (v, q) -> ∃ d ds', g ds = some (d, ds') /\ ro v d /\ PO q ds'
noncomputable def uI {A : Type} (Γ : aP S) (as : List DD.Arg) (f : S -> Option (A × S)) (oe : A -> List (Option D) -> Prop) (Γ' : aP S) : Prop := ∀ s σ a s', Sat Γ s σ -> f s = some (a, s') -> ∃ os σ', mI as σ = some (os, σ') /\ oe a os /\ Sat Γ' s' σ'
noncomputable def o0 : Unit -> List (Option D) -> Prop := fun _ os => os = []
noncomputable def oB {A : Type} (oe : A -> List (Option D) -> Prop) : A -> List (Option D) -> Prop := fun a os => ∃ o', os = none :: o' /\ oe a o'
noncomputable def oX {A : Type} (r : Rl α) (oe : A -> List (Option D) -> Prop) : α × A -> List (Option D) -> Prop := fun a os => ∃ d o', os = some d :: o' /\ r a.1 d /\ oe a.2 o'
theorem aB : uI Γ [] (fun s => some ((), s)) o0 Γ := fun s σ a s' hs e => by cases e; exact ⟨[], σ, rfl, rfl, hs⟩
theorem aC {A : Type} (i : Nat) {as : List DD.Arg} {f : S -> Option (A × S)} {oe : A -> List (Option D) -> Prop} {l : Sl S} (hi : Γ[i]? = some (some l)) (h : uI Γ as f oe Γ') : uI Γ (.bo i :: as) f (oB oe) Γ' := fun s σ a s' hs e => by
 obtain ⟨os, σ', h1, h2, h3⟩ := h s σ a s' hs e;obtain ⟨d, hd, _⟩ := hs.get hi;exact ⟨none :: os, σ', by simp only [mI, hd, bind_some, h1, map_some], ⟨os, rfl, h2⟩, h3⟩
theorem bD {A : Type} {as : List DD.Arg} {f1 : S -> Option (α × S)} {f : S -> Option (A × S)} {oe : A -> List (Option D) -> Prop} {r : Rl α} (h0 : JE Γ c f1 r Γ1) (h : uI Γ1 as f oe Γ') : uI Γ (.ex c :: as) (fun s => (f1 s).bind fun p => (f p.2).map fun q => ((p.1, q.1), q.2)) (oX r oe) Γ' := fun s σ a s' hs e => by
 obtain ⟨⟨v, s1⟩, e1, e⟩ := bd e;obtain ⟨⟨b, s2⟩, e2, e⟩ := mp e;cases e;obtain ⟨d, σ1, g1, r1, k1⟩ := h0 s σ v s1 hs e1;obtain ⟨os, σ', h1, h2, h3⟩ := h s1 σ1 b s2 k1 e2;exact ⟨some d :: os, σ', by simp only [mI, g1, bind_some, h1, map_some], ⟨d, os, rfl, r1, h2⟩, h3⟩
noncomputable def p8 {A P : Type} (Γ : aP S) (as : List DD.Arg) (oe : A -> List (Option D) -> Prop) (pk : A -> S -> P) (PI : P -> List D -> Prop) (Γ' : aP S) : Prop := ∀ s σ a os, Sat Γ s σ -> oe a os -> ∃ ds σ', fN as os σ = some (ds, σ') /\ PI (pk a s) ds /\ Sat Γ' s σ'
theorem aA : p8 Γ [] o0 (fun _ _ => ()) Pn Γ := fun s σ a os hs e => by cases e; exact ⟨[], σ, rfl, rfl, hs⟩
theorem bi {A P : Type} (i : Nat) {as : List DD.Arg} {oe : A -> List (Option D) -> Prop} {pk : A -> S -> P} {PI : P -> List D -> Prop} {get : S -> α} {r r' : Rl α} [k : Sc r] [w : Wk r r'] (hi : Γ[i]? = some (some ⟨get, r⟩)) (h : p8 Γ as oe pk PI Γ') : p8 Γ (.bo i :: as) (oB oe) (fun a s => (get s, pk a s)) (Pc r' PI) Γ' := fun s σ a os hs hq0 => by
 obtain ⟨o', e, ho⟩ := hq0;obtain ⟨ds, σ', h1, h2, h3⟩ := h s σ a o' hs ho;obtain ⟨d, hd, rd⟩ := hs.get hi;obtain ⟨v, hv⟩ := k.s _ _ rd;exact ⟨d :: ds, σ', by simp only [e, fN, hd, bind_some, hv, h1, map_some], ⟨d, ds, rfl, w.w _ _ rd, h2⟩, h3⟩
theorem cq {A P : Type} (i : Nat) {as : List DD.Arg} {oe : A -> List (Option D) -> Prop} {pk : A -> S -> P} {PI : P -> List D -> Prop} {get : S -> α} {r r' : Rl α} [k : Ns r] [w : Wk r r'] (hi : Γ[i]? = some (some ⟨get, r⟩)) (h : p8 (Γ.set i none) as oe pk PI Γ') : p8 Γ (.bo i :: as) (oB oe) (fun a s => (get s, pk a s)) (Pc r' PI) Γ' := fun s σ a os hs hq0 => by
 obtain ⟨o', e, ho⟩ := hq0;obtain ⟨d, hd, rd⟩ := hs.get hi;obtain ⟨ds, σ', h1, h2, h3⟩ := h s (σ.set i none) a o' hs.setn ho;have hv := k.s _ _ rd;exact ⟨d :: ds, σ', by simp only [e, fN, hd, bind_some, hv, h1, map_some], ⟨d, ds, rfl, w.w _ _ rd, h2⟩, h3⟩
theorem bC {A P : Type} {as : List DD.Arg} {oe : A -> List (Option D) -> Prop} {pk : A -> S -> P} {PI : P -> List D -> Prop} {r r' : Rl α} [w : Wk r r'] (h : p8 Γ as oe pk PI Γ') : p8 Γ (.ex c :: as) (oX r oe) (fun a s => (a.1, pk a.2 s)) (Pc r' PI) Γ' := fun s σ a os hs hq0 => by
 obtain ⟨d, o', e, rd, ho⟩ := hq0;obtain ⟨ds, σ', h1, h2, h3⟩ := h s σ a.2 o' hs ho;exact ⟨d :: ds, σ', by simp only [e, fN, h1, map_some], ⟨d, ds, rfl, w.w _ _ rd, h2⟩, h3⟩
noncomputable def p7 {P : Type} (Γ : aP S) (as : List DD.Arg) (PO : P -> List D -> Prop) (u : S -> P -> S) (Γ' : aP S) : Prop := ∀ s σ q ds, Sat Γ s σ -> PO q ds -> Sat Γ' (u s q) (ij as ds σ)
theorem ay : p7 Γ [] Pn (fun s _ => s) Γ := fun s σ q ds hs e => by cases e; exact hs
theorem bh {P : Type} (i : Nat) {as : List DD.Arg} {PO : P -> List D -> Prop} {u : S -> P -> S} {r : Rl α} [k : Sc r] (h : p7 Γ as PO u Γ') : p7 Γ (.bo i :: as) (Pc r PO) (fun s q => u s q.2) Γ' := fun s σ q ds hs hq0 => by
 obtain ⟨d, ds', e, rd, hp⟩ := hq0;obtain ⟨v, hv⟩ := k.s _ _ rd;simp only [e, ij, hv];exact h s σ q.2 ds' hs hp
theorem cn {P : Type} (i : Nat) {as : List DD.Arg} {PO : P -> List D -> Prop} {u : S -> P -> S} {get : S -> α} {put : S -> α -> S} {r : Rl α} [k : Ns r] (hg : autoParam (∀ s v, get (put s v) = v) jF._auto_1) (hf : autoParam (∀ v, Fr (fun s => put s v) (Γ.set i none)) jO._auto_1) (h : p7 (Γ.set i (some ⟨get, r⟩)) as PO u Γ') : p7 Γ (.bo i :: as) (Pc r PO) (fun s q => u (put s q.1) q.2) Γ' := fun s σ q ds hs hq0 => by
 obtain ⟨d, ds', e, rd, hp⟩ := hq0;have hv := k.s _ _ rd;simp only [e, ij, hv];exact h _ _ q.2 ds' (hs.put hg hf rd) hp
theorem bB {P : Type} {as : List DD.Arg} {PO : P -> List D -> Prop} {u : S -> P -> S} {r : Rl α} (h : p7 Γ as PO u Γ') : p7 Γ (.ex c :: as) (Pc r PO) (fun s q => u s q.2) Γ' := fun s σ q ds hs hq0 => by
 obtain ⟨d, ds', e, rd, hp⟩ := hq0;simp only [e, ij];exact h s σ q.2 ds' hs hp
theorem ax {A P : Type} {g : GF} {h : P -> Option (ρ × P)} {as : List DD.Arg} {f : S -> Option (A × S)} {oe : A -> List (Option D) -> Prop} {pk : A -> S -> P} {PI PO : P -> List D -> Prop} {ro : Rl ρ} {u : S -> P -> S} (hF : JF g h PI ro PO) (h1 : uI Γ as f oe Γ1) (h2 : p8 Γ1 as oe pk PI Γ2) (h3 : p7 Γ2 as PO u Γ3) :
  JE Γ (aN g as) (fun s => (f s).bind fun p => (h (pk p.1 p.2)).map fun q => (q.1, u p.2 q.2)) ro Γ3 := fun s σ v s' hs e => by
 obtain ⟨⟨a, s1⟩, e1, e⟩ := bd e;obtain ⟨⟨w, q⟩, e2, e⟩ := mp e;obtain ⟨rfl, rfl⟩ := Prod.mk.inj e;obtain ⟨os, σ1, g1, r1, k1⟩ := h1 s σ a s1 hs e1;obtain ⟨ds, σ2, g2, r2, k2⟩ := h2 s1 σ1 a os k1 r1;obtain ⟨d, ds', g3, r3, k3⟩ := hF _ _ _ _ r2 e2;exact ⟨d, _, by simp only [aN, g1, bind_some, g2, g3, map_some], r3, h3 s1 σ2 q ds' k2 k3⟩
end
section
variable {S : Type} {α β γ δ ρ : Type} {P Q : Type}
noncomputable def zh (W : List Nat) (k : Nat) (PI : P -> List D -> Prop) (Γ : aP Q) (pr : P -> Q) : Prop := ∀ p ds, PI p ds -> Sat Γ (pr p) ((kJ W k ds).map some) /\ ds.length = Γ.length
theorem bF {W : List Nat} {k : Nat} {pr : Unit -> Q} : zh W k Pn ([] : aP Q) pr := fun p ds h => by cases h; exact ⟨trivial, rfl⟩
theorem ar {W : List Nat} {k : Nat} {PI : P -> List D -> Prop} {Γ : aP Q} {r : Rl α} {get : Q -> α} {pr : α × P -> Q} (hk : k ∉ W) (h0 : ∀ p, get (pr p) = p.1) (h : ∀ a, zh W (k + 1) PI Γ (fun p => pr (a, p))) : zh W k (Pc r PI) (some ⟨get, r⟩ :: Γ) pr := fun p ds hq0 => by
 obtain ⟨d, ds', e, rd, hp⟩ := hq0;obtain ⟨h1, h2⟩ := h p.1 p.2 ds' hp;refine ⟨?_, by simp [e, h2]⟩;simp only [e, kJ, hk, if_false, List.map_cons];exact ⟨⟨d, rfl, by rw [show (Sl.mk get r).get = get from rfl, h0]; exact rd⟩, h1⟩
noncomputable def zg (W : List Nat) (k : Nat) (PI : P -> List D -> Prop) (Γr : aP S) (fin : P -> S -> P) (PO : P -> List D -> Prop) : Prop := ∀ p ds s σ, PI p ds -> Sat Γr s σ -> PO (fin p s) (gL W σ k ds)
theorem bj {W : List Nat} {k : Nat} {Γr : aP S} : zg W k Pn Γr (fun p _ => p) Pn := fun p ds s σ h _ => by cases h; rfl
theorem ap {W : List Nat} {k : Nat} {PI PO : P -> List D -> Prop} {Γr : aP S} {fin : P -> S -> P} {r q : Rl α} {get : S -> α} (hk : k ∉ W) (hi : Γr[k]? = some (some ⟨get, q⟩)) (h : zg W (k + 1) PI Γr fin PO) : zg W k (Pc r PI) Γr (fun p s => (get s, fin p.2 s)) (Pc q PO) := fun p ds s σ hq0 hs => by
 obtain ⟨d, ds', e, rd, hp⟩ := hq0;obtain ⟨d', hd, rd'⟩ := hs.get hi;exact ⟨d', _, by simp only [e, gL, hk, if_false, hd, Option.getD_some], rd', h p.2 ds' s σ hp hs⟩
theorem cC {N : Nat} {W : List Nat} {c : DS} {Γp Γn Γr : aP S} {f : S -> Option (TR S ρ)} {init : P -> S} {fin : P -> S -> P} {PI PO : P -> List D -> Prop} {ro : Rl ρ} (hi : zh W 0 PI Γp init) (hb : JS (Γp ++ List.replicate (N - Γp.length) none) c f Γn ⟨Γr, ro, []⟩) (ho : zg W 0 PI Γr fin PO) :
  JF (dF N W c) (fun p => (f (init p)).bind fun t => match t with | .rt v s => some (v, fin p s) | _ => none) PI ro PO := fun p ds v q hp e => by
 obtain ⟨t, e1, e⟩ := bd e;obtain ⟨h1, h2⟩ := hi p ds hp;have hs := h1.app (Sat.non (s := init p) (k := N - Γp.length) (σ := List.replicate (N - Γp.length) none) (by simp));obtain ⟨o, ho1, ro1⟩ := hb _ _ t hs e1;cases t with
 | rt w s =>
  cases e;cases o with
  | rt d σ => exact ⟨d, _, by simp only [dF, h2, ho1, bind_some], ro1.1, ho p ds s σ hp ro1.2⟩
  | _ => exact ro1.elim
 | _ => cases e
end
section
variable {S : Type} {α β γ δ ρ : Type} {Γ Γ0 Γ1 Γ2 Γ3 Γ4 Γ' Γn Γh : aP S} {c c' : DE} {t u : DT} {E : Ex S ρ}
noncomputable def zf (Γ : aP S) (ps : List DP) (f : S -> Option (List α)) (r : Rl α) : Prop := ∀ s σ v, Sat Γ s σ -> f s = some v -> ∃ ds, kK ps σ = some ds /\ All2 r v ds
theorem mq {r : Rl α} : zf Γ [] (fun _ => some []) r := fun s σ v hs e => by cases e; exact ⟨[], rfl, .nil⟩
theorem fD {r : Rl α} {p : DP} {ps : List DP} {f : S -> Option α} {g : S -> Option (List α)} (h : JP Γ p f r) (k : zf Γ ps g r) : zf Γ (p :: ps) (fun s => (f s).bind fun a => (g s).map fun as => a :: as) r := fun s σ v hs e => by
 obtain ⟨a, e1, e⟩ := bd e;obtain ⟨as, e2, e⟩ := mp e;cases e;obtain ⟨d, h1, h2⟩ := h s σ a hs e1;obtain ⟨ds, h3, h4⟩ := k s σ as hs e2;exact ⟨d :: ds, by simp only [kK, h1, h3, bind_some, map_some], .cons h2 h4⟩
theorem nI {r : Rl α} {ps : List DP} {f : S -> Option (List α)} (h : zf Γ ps f r) : JP Γ (la ps) (fun s => (f s).bind fun xs => if gD (xs.length) = true then some xs else none) (rL r) := fun s σ v hs e => by
 obtain ⟨a, e1, e⟩ := bd e;obtain ⟨ds, h3, h4⟩ := h s σ a hs e1;split at e
 ·rename_i hl
  have hl := qE hl;cases e;exact ⟨.lst true ds, by simp only [la, h3, bind_some, <- h4.len, hl, if_true], ds, rfl, h4⟩
 ·cases e
noncomputable def Ln (R : Rl α) (k : Int) (π : α -> β) (up : α -> β -> α) (q : Rl β) : Prop := ∀ a d, R a d -> ∃ x, cZ d [k] = some x /\ q (π a) x /\ ∀ v y, q v y -> R (up a v) (ey d [k] y)
theorem BS {r : Rl α} {q : Rl β} {t : Rl γ} : Ln (gJ r q t) 0 (fun p => p.1) (fun p v => (v, p.2)) r := fun _ _ ⟨x, y, z, e, h1, h2, h3⟩ => ⟨x, by rw [e]; rfl, h1, fun v w hw => ⟨w, y, z, by rw [e]; rfl, hw, h2, h3⟩⟩
theorem Bm {x : D} {xs : List D} {p : PyData} {ps : List PyData} (h : x.py = some p) (h' : D.pyL xs = some ps) : D.pyL (x :: xs) = some (p :: ps) := by simp only [D.pyL, h, h', bind_some, map_some]
theorem Fy {xs : List D} {ps : List PyData} (h : D.pyL xs = some ps) : (D.tup xs).py = some (.tuple ps) := by simp only [D.py, h, map_some]
theorem xX {p : PyData} {ps : List PyData} (h : p.canLay0 = true) (h' : PyData.canLayAll0 ps = true) : PyData.canLayAll0 (p :: ps) = true := by simp only [PyData.canLayAll0, h, h', Bool.and_self]
theorem layT {ps : List PyData} (h : PyData.canLayAll0 ps = true) : (PyData.tuple ps).canLay0 = true := by simp only [PyData.canLay0, h]
theorem Cr {p : PyData} {ps : List PyData} {k : Nat} (h : p.depth <= k) (h' : PyData.depthAll ps <= k) : PyData.depthAll (p :: ps) <= k := by simp only [PyData.depthAll]; omega
theorem FM {k : Nat} : PyData.depthAll [] <= k := by simp only [PyData.depthAll]; omega
theorem FK {ps : List PyData} {k : Nat} (h : PyData.depthAll ps <= k) : (PyData.tuple ps).depth <= k + 1 := by simp only [PyData.depth]; omega
instance {r : Rl α} {q : Rl β} {t : Rl γ} [k : Py r] [l : Py q] [m : Py t] : Py (gJ r q t) := ⟨fun p => .tuple [Py.pe r p.1, Py.pe q p.2.1, Py.pe t p.2.2], fun p => Py.ok r p.1 && Py.ok q p.2.1 && Py.ok t p.2.2, max (max (Py.k r) (Py.k q)) (Py.k t) + 1,
 fun a d hq0 => by obtain ⟨x, y, z, e, h1, h2, h3⟩ := hq0; rw [e]; exact Fy (Bm (k.py _ _ h1) (Bm (l.py _ _ h2) (Bm (m.py _ _ h3) rfl))), fun a h => by
  simp only [Bool.and_eq_true] at h;exact layT (xX (k.lay _ h.1.1) (xX (l.lay _ h.1.2) (xX (m.lay _ h.2) rfl))), fun a h => by
  simp only [Bool.and_eq_true] at h;exact FK (Cr (Nat.le_trans (k.dep a.1 h.1.1) (Nat.le_trans (Nat.le_max_left _ _) (Nat.le_max_left _ _))) (Cr (Nat.le_trans (l.dep a.2.1 h.1.2) (Nat.le_trans (Nat.le_max_right _ _) (Nat.le_max_left _ _))) (Cr (Nat.le_trans (m.dep a.2.2 h.2) (Nat.le_max_right _ _)) FM)))⟩
end
section
variable {S : Type} {α β γ δ ρ : Type} {Γ Γ0 Γ1 Γ2 Γ3 Γ4 Γ' Γn Γh : aP S} {c c' : DE} {t u : DT} {E : Ex S ρ} {P : Type}
noncomputable def uH (Γ0 Γ : aP S) (as : List PArg) (pk : S -> Option P) (PI : P -> List D -> Prop) (Γ' : aP S) : Prop := ∀ s σ0 σ p, Sat Γ0 s σ0 -> Sat Γ s σ -> pk s = some p -> ∃ ds σ', d8 as σ0 σ = some (ds, σ') /\ PI p ds /\ Sat Γ' s σ'
theorem An : uH Γ0 Γ [] (fun _ => some ()) Pn Γ := fun s σ0 σ p h0 hs e => by cases e; exact ⟨[], σ, rfl, rfl, hs⟩
theorem B9 (i : Nat) {as : List PArg} {pk : S -> Option P} {PI : P -> List D -> Prop} {get : S -> α} {r r' : Rl α} [k : Ns r] [w : Wk r r'] (hi : Γ[i]? = some (some ⟨get, r⟩)) (h : uH Γ0 (Γ.set i none) as pk PI Γ') : uH Γ0 Γ (.bo i :: as) (fun s => (pk s).map fun p => (get s, p)) (Pc r' PI) Γ' := fun s σ0 σ p h0 hs e => by
 obtain ⟨p1, e1, rfl⟩ := mp e;obtain ⟨d, hd, rd⟩ := hs.get hi;obtain ⟨ds, σ', h1, h2, h3⟩ := h s σ0 (σ.set i none) p1 h0 hs.setn e1;have hv := k.s _ _ rd;exact ⟨d :: ds, σ', by simp only [d8, hd, bind_some, hv, h1, map_some], ⟨d, ds, rfl, w.w _ _ rd, h2⟩, h3⟩
theorem Ca (i : Nat) {as : List PArg} {pk : S -> Option P} {PI : P -> List D -> Prop} {get : S -> α} {R : Rl α} {k : Int} {π : α -> List β} {up : α -> List β -> α} {r : Rl β} (hi : Γ[i]? = some (some ⟨get, R⟩)) (l : Ln R k π up (rL r)) (h : uH Γ0 (Γ.set i none) as pk PI Γ') : uH Γ0 Γ (.bp i (pC (.int k)) :: as) (fun s => (pk s).map fun p => (π (get s), p)) (Pc (rL r) PI) Γ' := fun s σ0 σ p h0 hs e => by
 obtain ⟨p1, e1, rfl⟩ := mp e;obtain ⟨d, hd, rd⟩ := hs.get hi;obtain ⟨x, hx, ⟨xs, rfl, h5⟩, _⟩ := l _ _ rd;obtain ⟨ds, σ', h1, h2, h3⟩ := h s σ0 (σ.set i none) p1 h0 hs.setn e1;exact ⟨.lst true xs :: ds, σ', by simp only [d8, hd, pC, bind_some, hx, h1, map_some], ⟨_, ds, rfl, ⟨xs, rfl, h5⟩, h2⟩, h3⟩
noncomputable def Ev (R : Rl α) (k : Int) (up : α -> β -> α) (q : Rl β) (R' : Rl α) : Prop := ∀ a d v y, R a d -> q v y -> R' (up a v) (ey d [k] y)
theorem Dx {r r' : Rl α} {q : Rl β} {t : Rl γ} : Ev (gJ r q t) 0 (fun p v => (v, p.2)) r' (gJ r' q t) := fun _ _ _ w ⟨x, y, z, e, h1, h2, h3⟩ hw => ⟨w, y, z, by rw [e]; rfl, hw, h2, h3⟩
noncomputable def pZ (Γ0 Γ : aP S) (as : List PArg) (PO : P -> List D -> Prop) (u : S -> S -> P -> S) (Γ' : aP S) : Prop := ∀ s1 s σ0 σ q ds, Sat Γ0 s1 σ0 -> Sat Γ s σ -> PO q ds -> Sat Γ' (u s1 s q) (ek as ds σ0 σ)
theorem Ak : pZ Γ0 Γ [] Pn (fun _ s _ => s) Γ := fun s1 s σ0 σ q ds h0 hs e => by cases e; exact hs
theorem FJ (i : Nat) {as : List PArg} {PO : P -> List D -> Prop} {u : S -> S -> P -> S} {r : Rl α} [k : Sc r] (h : pZ Γ0 Γ as PO u Γ') : pZ Γ0 Γ (.bo i :: as) (Pc r PO) (fun s1 s q => u s1 s q.2) Γ' := fun s1 s σ0 σ q ds h0 hs hq0 => by
 obtain ⟨d, ds', e, rd, hp⟩ := hq0;obtain ⟨v, hv⟩ := k.s _ _ rd;simp only [e, ek, hv];exact h s1 s σ0 σ q.2 ds' h0 hs hp
theorem B6 (i : Nat) {as : List PArg} {PO : P -> List D -> Prop} {u : S -> S -> P -> S} {get : S -> α} {put : S -> α -> S} {r : Rl α} [k : Ns r] (hg : ∀ s v, get (put s v) = v) (hf : ∀ v, Fr (fun s => put s v) (Γ.set i none)) (h : pZ Γ0 (Γ.set i (some ⟨get, r⟩)) as PO u Γ') : pZ Γ0 Γ (.bo i :: as) (Pc r PO) (fun s1 s q => u s1 (put s q.1) q.2) Γ' := fun s1 s σ0 σ q ds h0 hs hq0 => by
 obtain ⟨d, ds', e, rd, hp⟩ := hq0;have hv := k.s _ _ rd;simp only [e, ek, hv];exact h s1 _ σ0 _ q.2 ds' h0 (hs.put hg hf rd) hp
theorem B7 (i : Nat) {as : List PArg} {PO : P -> List D -> Prop} {u : S -> S -> P -> S} {get : S -> α} {put : S -> α -> S} {R R' : Rl α} {k : Int} {up : α -> List β -> α} {r : Rl (List β)} (hi : Γ0[i]? = some (some ⟨get, R⟩)) (l : Ev R k up r R') (hg : ∀ s v, get (put s v) = v) (hf : ∀ v, Fr (fun s => put s v) (Γ.set i none)) (h : pZ Γ0 (Γ.set i (some ⟨get, R'⟩)) as PO u Γ') :
  pZ Γ0 Γ (.bp i (pC (.int k)) :: as) (Pc r PO) (fun s1 s q => u s1 (put s (up (get s1) q.1)) q.2) Γ' := fun s1 s σ0 σ q ds h0 hs hq0 => by
 obtain ⟨d, ds', e, rd, hp⟩ := hq0;obtain ⟨t, ht, rt⟩ := h0.get hi;have hq : xF σ i t (.int k) d = σ.set i (some (ey t [k] d)) := rfl;simp only [e, ek, ht, pC, hq];exact h s1 _ σ0 _ q.2 ds' h0 (hs.put hg hf (l _ _ _ _ rt rd)) hp
theorem yd {g : GF} {h : P -> Option (ρ × P)} {as : List PArg} {pk : S -> Option P} {PI PO : P -> List D -> Prop} {ro : Rl ρ} {u : S -> S -> P -> S} (hF : JF g h PI ro PO) (h1 : uH Γ Γ as pk PI Γ1) (h3 : pZ Γ Γ1 as PO u Γ2) :
  JE Γ (j6 g as) (fun s => (pk s).bind fun p => (h p).map fun q => (q.1, u s s q.2)) ro Γ2 := fun s σ v s' hs e => by
 obtain ⟨a, e1, e⟩ := bd e;obtain ⟨⟨w, q⟩, e2, e⟩ := mp e;obtain ⟨rfl, rfl⟩ := Prod.mk.inj e;obtain ⟨ds, σ2, g2, r2, k2⟩ := h1 s σ σ a hs hs e1;obtain ⟨d, ds', g3, r3, k3⟩ := hF _ _ _ _ r2 e2;exact ⟨d, _, by simp only [j6, g2, bind_some, g3, map_some], r3, h3 s s σ σ2 q ds' hs k2 k3⟩
theorem Ah (i : Nat) {get : S -> α} {R : Rl α} {k : Int} {π : α -> List β} {up : α -> List β -> α} {r : Rl β} {re : Rl ρ} {f : S -> Option (ρ × S)} (hi : Γ[i]? = some (some ⟨get, R⟩)) (l : Ln R k π up (rL r)) (h : JE Γ c f re Γ1) : JE Γ (sB (rh i (pC (.int k))) c c') f re Γ1 := fun s σ v s' hs e => by
 obtain ⟨d, hd, rd⟩ := hs.get hi;obtain ⟨x, hx, ⟨xs, rfl, _⟩, _⟩ := l _ _ rd;have ho : rh i (pC (.int k)) σ = true := by simp only [rh, hd, pC, hx]
 obtain ⟨d', σ', h3, h4, h5⟩ := h s σ v s' hs e;exact ⟨d', σ', by simp only [sB, ho, if_true, h3], h4, h5⟩
end
section
variable {S : Type} {α β γ δ ρ : Type} {Γ Γ0 Γ1 Γ2 Γ3 Γ4 Γ' Γn Γh : aP S} {c c' : DE} {t u : DT} {E : Ex S ρ} {P : Type}
end
section
variable {S : Type} {α β γ δ ρ : Type} {Γ Γ0 Γ1 Γ2 Γ3 Γ4 Γ' Γn Γh : aP S} {c c' : DE} {t u : DT} {E : Ex S ρ} {P : Type}
theorem Cv : ∀ {as : List Bool} {ds : List D}, All2 rB as ds -> mC ds = some as := by
 intro as ds h
 induction h with
 | nil => rfl
 | cons h t ih => cases h; simp only [mC, ih, map_some]
theorem B8 {r : Rl (List Bool)} [l : Ls r rB] : mQ pj (fun xs : List Bool => some (xs.all id)) r rB := fun a c x e h => by
 obtain ⟨o, ds, e1, hh⟩ := l.l a x h;subst e1;cases e;exact ⟨_, by simp only [pj, Cv hh, map_some], rfl⟩
theorem x9 {rl : Rl (List α)} {r : Rl α} [l : Ls rl r] [k : Sc r] {p : DP} {f : S -> Option (List α)} (h : JP Γ p f rl) : JE Γ (lB p) (fun s => (f s).map fun xs => (xs, s)) (rL r) Γ := fun s σ v s' hs e => by
 obtain ⟨a, e1, e2⟩ := mp e;cases e2;obtain ⟨d, hd, rd⟩ := h s σ v hs e1;obtain ⟨o, ds, rfl, hh⟩ := l.l v d rd;exact ⟨.lst true ds, σ, by simp only [lB, hd, bind_some, hh.sc, if_true], ⟨ds, rfl, hh⟩, hs⟩
end
end TT
namespace TT
open PySem DD
variable {S α β γ : Type} {Γ Γ1 Γ2 Γ' : aP S}
theorem wS {r : Rl α} {q : Rl β} [Py r] [Py q] {f : α -> β -> Bool} [k : EqR r q f] {b : β} : ∀ {as : List α}, (as.map (Py.pe r)).any (fun z => PyData.eqv z (Py.pe q b)) = as.any fun a => f a b
 | [] => rfl
 | a :: as => by rw [List.map_cons, List.any_cons, List.any_cons, wS, k.eqv]
noncomputable def wy (ok : α -> Bool) (f : α -> Bool) (xs : List α) : Option Bool := if xs.all ok = true then some (xs.any f) else none
theorem DM {rl : Rl (List α)} {r : Rl α} {q : Rl β} [l : Ls rl r] [kr : Py r] [kq : Py q] {f : α -> β -> Bool} [k : EqR r q f] {b : β} {xs : List α} {t : Bool} {x y : D} (e : wy (fun a => Py.ok r a && Py.ok q b && decide (min (Py.k r) (Py.k q) <= 50)) (fun a => f a b) xs = some t)
  (h1 : q b x) (h2 : rl xs y) : ud x y = some t := by
 unfold wy at e;split at e
 ·rename_i h
  cases e;obtain ⟨o, ds, rfl, h3⟩ := l.l xs y h2;have hp := vU h3;have hall : ((xs.map (Py.pe r)).all fun z => ko z (Py.pe q b)) = true := by
   rw [List.all_map];rw [List.all_eq_true] at h ⊢;intro z hz;exact uY (h z hz)
  simp only [ud, D.py, hp, map_some, bind_some, kq.py _ _ h1, hall, if_true, wS]
 ·cases e
theorem DB {rl : Rl (List α)} {r : Rl α} {q : Rl β} [l : Ls rl r] [kr : Py r] [kq : Py q] {f : α -> β -> Bool} [k : EqR r q f] : JO y7 (fun (b : β) (xs : List α) => wy (fun a => Py.ok r a && Py.ok q b && decide (min (Py.k r) (Py.k q) <= 50)) (fun a => f a b) xs) q rl rB := fun a b c x y e h1 h2 =>
 ⟨_, by simp only [y7, DM (rl := rl) (r := r) (q := q) e h1 h2, map_some], rfl⟩
theorem B5 (i : Nat) {get : S -> List α} {put : S -> List α -> S} {r : Rl α} (hi : Γ[i]? = some (some ⟨get, rL r⟩)) (hg : autoParam (∀ s v, get (put s v) = v) jF._auto_1) (hf : autoParam (∀ v, Fr (fun s => put s v) (Γ.set i none)) jO._auto_1) :
  JE Γ (n5 i) (fun s => some ((), put s [])) rN (Γ.set i (some ⟨get, rL r⟩)) := fun s σ v s' hs e => by
 cases e;obtain ⟨d, hd, ds, rfl, h2⟩ := hs.get hi;exact ⟨.non, _, by simp only [n5, hd], rfl, hs.put hg hf ⟨[], rfl, .nil⟩⟩
section
variable {c c' : DE} {t u : DT} {Γh : aP S} {α β : Type}
theorem B3 {rl : Rl (List α)} {r : Rl α} [l : Ls rl r] [k : Sc r] {p : DP} {f : S -> Option (List α)} {pl ph : Option DP} {gl gh : S -> Option (Option Int)} (h1 : JP Γ p f rl) (h2 : uG Γ pl gl) (h3 : uG Γ ph gh) :
  JE Γ (sA p pl ph) (fun s => (f s).bind fun xs => (gl s).bind fun lo => (gh s).map fun hi => (jl xs lo hi, s)) (rL r) Γ := fun s σ v s' hs e => by
 obtain ⟨a, e1, e⟩ := bd e;obtain ⟨lo, e2, e⟩ := bd e;obtain ⟨hi, e3, e⟩ := mp e;cases e;obtain ⟨x, hx, rx⟩ := h1 s σ a hs e1;obtain ⟨o, ds, rfl, h⟩ := l.l a x rx;exact ⟨_, σ, by simp only [sA, hx, bind_some, h.sc, if_true, h2 s σ lo hs e2, h3 s σ hi hs e3, map_some], ⟨_, rfl, h.cut lo hi⟩, hs⟩
end
end TT
namespace TT
open PySem DD L2
variable {S α β γ : Type} {Γ Γ1 Γ2 Γ' : aP S} {c c' : DE} {t u : DT}
noncomputable def Cp : Nat -> List α -> List (Int × α)
 | _, [] => []
 | n, x :: xs => ((n : Int), x) :: Cp (n + 1) xs
theorem ux {r : Rl α} : ∀ {xs : List α} {ds : List D} (n : Nat), All2 r xs ds -> All2 (cL rI r) (Cp n xs) (lw n ds)
 | _, _, n, .nil => .nil
 | _, _, n, .cons h t => .cons ⟨_, _, rfl, rfl, h⟩ (ux (n + 1) t)
variable {S α β γ : Type} {Γ Γ1 : aP S} {c : DE}
end TT
namespace TT
open PySem L2 DD
section
variable {S : Type} {α β γ δ ρ : Type} {Γ Γ0 Γ1 Γ2 Γ3 Γ4 Γ' Γn Γh : aP S} {c c' : DE} {t u : DT} {E : Ex S ρ} {P : Type}
noncomputable def two (j : Int) : List Int := (List.range ((j.toNat + 1) / 2)).map fun (k : Nat) => 0 + (k : Int) * 2
end
section
variable {S : Type} {α β γ δ ρ : Type} {Γ Γ0 Γ1 Γ2 Γ3 Γ4 Γ' Γn Γh : aP S} {c c' : DE} {t u : DT} {E : Ex S ρ} {P : Type}
end
section
variable {S : Type} {α β γ δ ρ : Type} {Γ Γ0 Γ1 Γ2 Γ3 Γ4 Γ' Γn Γh : aP S} {c c' : DE} {t u : DT} {E : Ex S ρ} {P : Type}
end
end TT
namespace L2
open PySem PySem.Spec PyProof.Rows
section
variable {X : Cx}
end
end L2
namespace DD
open PySem PySem.Spec PyProof.Rows L2
section
variable {X : Cx} {a : Expr} {p : DP} {apos cpos : Pos}
end
end DD
namespace TT
open PySem L2 DD
section
variable {S : Type} {Γ : aP S}
end
end TT
namespace DD
open PySem PySem.Spec PyProof.Rows L2
noncomputable def m9 (g : D -> D -> Option D) (i : Nat) (c : DE) : DE := fun σ => (bt σ i).bind fun _ => (c σ).bind fun p => (bt p.2 i).bind fun x => (g x p.1).map fun d => (d, p.2)
section
variable {X : Cx} {b : Expr} {c : DE} {pos npos : Pos}
theorem wE {g : D -> D -> Option D} {i : Nat} {σ σ' : aF} {d : D} (h : m9 g i c σ = some (d, σ')) : ∃ x0 x y, bt σ i = some x0 /\ c σ = some (y, σ') /\ bt σ' i = some x /\ g x y = some d := by
 unfold m9 at h;rcases h0 : bt σ i with _ | x0
 ·rw [h0] at h; cases h
 ·rw [h0] at h; simp only [bind_some] at h
  rcases h1 : c σ with _ | ⟨y, σ1⟩
  ·rw [h1] at h; cases h
  ·rw [h1] at h; simp only [bind_some] at h
   rcases h2 : bt σ1 i with _ | x
   ·rw [h2] at h; cases h
   ·rw [h2] at h; simp only [bind_some] at h
    obtain ⟨z, e, e2⟩ := bP h;cases e2;exact ⟨x0, x, y, rfl, rfl, h2, e⟩
theorem ET {f : Value -> Value -> Sem Value} {g : D -> D -> Option D} (o : dI X f g) {i : Nat} {σ : St} {H : Hp} {Q : VK} (h : rE X.K (m9 g i c) σ H Q) :
  mE (fun x y H Q => ∃ F dx dy d w, Bor X.K F H dx x /\ Bor X.K F H dy y /\ g dx dy = some d /\ d.sc = some w /\ Q w H) (AU i) (rE X.K c) σ H Q := by
 obtain ⟨F, R, σD, d, σD', r, ec, k⟩ := h;obtain ⟨x0, x, y, e0, e1, e2, eg⟩ := wE ec;obtain ⟨w, hw⟩ := o.sc _ _ _ eg;obtain ⟨v0, hv0, _⟩ := r.get (bG e0);refine ⟨v0, hv0, F, R, σD, y, σD', r, e1, fun F1 H1 u x1 r1 => ?_⟩;obtain ⟨v1, hv1, b1⟩ := r1.get (bG e2);rw [hv0] at hv1; cases hv1;exact ⟨F1, x, y, d, w, b1, r1.bor (by simp), eg, hw, k F1 H1 w x1 (r1.pop.scal hw)⟩
theorem zG (i : Nat) {x : Str} {op : CmpOp} {g : D -> D -> Option D} (o : dI X (compareOp op) g) (hb : QE X b c) (hm : behindInMarks op b = false) (hN : autoParam (X.N[i]? = some x) aI._auto_1) (hv : autoParam (lO X.env.scope x) oA._auto_1) (hd : autoParam ((x == ("__debug__" : Str)) = false) cG._auto_1)
  (hcd : autoParam ((x == ("__classdict__" : Str)) = false) cG._auto_1) : QT X (.Compare (.Name x npos) [op] [b] pos) (aV (m9 g i c)) :=
 lT (oU o.run (gK hN hv hd hcd) hb hm) fun σ H Q hq0 => by
  obtain ⟨F, R, σD, k, σD', r, ec, kk⟩ := hq0;show mE _ _ _ σ H _;exact ET o ⟨F, R, σD, _, σD', r, iT ec, fun F' H' v x r' => ⟨k, (r'.bor (by simp)).bl, kk F' H' x r'.pop⟩⟩
end
end DD
namespace TT
open PySem DD L2
variable {S α β γ : Type} {Γ Γ1 : aP S} {c : DE}
theorem B4 (i : Nat) {g : D -> D -> Option D} {h : α -> β -> Option γ} {ra ra0 : Rl α} {rb : Rl β} {rc : Rl γ} {get : S -> α} {f : S -> Option (β × S)} (o : JO g h ra rb rc) (h0 : Γ[i]? = some (some ⟨get, ra0⟩)) (h1 : Γ1[i]? = some (some ⟨get, ra⟩)) (h2 : JE Γ c f rb Γ1) :
  JE Γ (m9 g i c) (fun s => (f s).bind fun p => (h (get p.2) p.1).map fun d => (d, p.2)) rc Γ1 := by
 intro s σ v s' hs e;obtain ⟨⟨b, s1⟩, e1, e⟩ := bd e;obtain ⟨d, e3, e⟩ := mp e;cases e;obtain ⟨y, σ1, hy, ry, k1⟩ := h2 s σ b s1 hs e1;obtain ⟨x0, hx0, _⟩ := hs.get h0;obtain ⟨x, hx, rx⟩ := k1.get h1;obtain ⟨z, hz, rz⟩ := o _ _ _ _ _ e3 rx ry;exact ⟨z, σ1, by simp only [m9, hx0, hy, hx, hz, bind_some, map_some], rz, k1⟩
end TT
namespace PySem.AutoSeq1
end PySem.AutoSeq1
namespace L2
open PySem PySem.Spec PyProof.Rows
section
variable {X : Cx}
end
end L2
namespace DD
open PySem PySem.Spec PyProof.Rows L2
section
variable {X : Cx} {a b : Expr} {c c' : DE} {pos : Pos}
end
end DD
namespace TT
open PySem L2 DD
section
variable {S : Type} {α β γ δ ρ : Type} {Γ Γ0 Γ1 Γ2 Γ3 Γ4 Γ' Γn Γh : aP S} {c c' : DE}
end
section
variable {S : Type} {α β γ δ ρ : Type} {Γ Γ0 Γ1 Γ2 Γ3 Γ4 Γ' Γn Γh : aP S} {c c' : DE} {E : Ex S ρ}
end
section
variable {S α β ρ : Type}
theorem mY {put : S -> α -> S} {b : S -> Option (TR S ρ)} {I : S -> Prop} : ∀ {xs : List α} {s : S}, (∀ s x, x ∈ xs -> I s -> ∃ s', b (put s x) = some (.nx s') /\ I s') -> I s -> ∃ s', cO put b xs s = some (.nx s') /\ I s'
 | [], s, _, h => ⟨s, rfl, h⟩
 | x :: xs, s, hb, h => by
  obtain ⟨s1, e1, h1⟩ := hb s x (by simp) h;obtain ⟨s2, e2, h2⟩ := mY (xs := xs) (fun s y hy => hb s y (by simp [hy])) h1;exact ⟨s2, by simp only [cO, e1, bind_some, e2], h2⟩
theorem Ac {put : S -> α -> S} {b : S -> Option (TR S ρ)} {I : Nat -> S -> Prop} {n : Nat} : ∀ {xs : List α} {s : S}, (∀ k s x, xs[k]? = some x -> I (n + k) s -> ∃ s', b (put s x) = some (.nx s') /\ I (n + k + 1) s') -> I n s -> ∃ s', cO put b xs s = some (.nx s') /\ I (n + xs.length) s' := by
 intro xs
 induction xs generalizing n with
 | nil => intro s _ h; exact ⟨s, rfl, h⟩
 | cons x xs ih =>
  intro s hb h;obtain ⟨s1, e1, h1⟩ := hb 0 s x rfl h;obtain ⟨s2, e2, h2⟩ := ih (n := n + 1) (fun k s y hy hi => by
   obtain ⟨s', q1, q2⟩ := hb (k + 1) s y (by simpa using hy) (by rw [show n + (k + 1) = n + 1 + k by omega]; exact hi);exact ⟨s', q1, by rw [show n + 1 + k + 1 = n + (k + 1) + 1 by omega]; exact q2⟩) h1
  exact ⟨s2, by simp only [cO, e1, bind_some, e2], by rw [List.length_cons, show n + (xs.length + 1) = n + 1 + xs.length by omega]; exact h2⟩
theorem pI {put : S -> α -> S} {b : S -> Option (TR S ρ)} {γ : Type} {v : S -> γ} {f : γ -> α -> γ} {I : S -> Prop} {J : γ -> Prop} : ∀ {xs : List α} {s : S}, (∀ s x, x ∈ xs -> I s -> J (v s) -> ∃ s', b (put s x) = some (.nx s') /\ I s' /\ v s' = f (v s) x) -> (∀ c x, x ∈ xs -> J c -> J (f c x)) -> I s -> J (v s) -> ∃ s', cO put b xs s = some (.nx s') /\ I s' /\ v s' = xs.foldl f (v s)
 | [], s, _, _, h, _ => ⟨s, rfl, h, rfl⟩
 | x :: xs, s, hb, hj, h, j => by
  obtain ⟨s1, e1, h1, v1⟩ := hb s x (by simp) h j;obtain ⟨s2, e2, h2, v2⟩ := pI (xs := xs) (fun s y hy => hb s y (by simp [hy])) (fun c y hy => hj c y (by simp [hy])) h1 (by rw [v1]; exact hj _ _ (by simp) j);exact ⟨s2, by simp only [cO, e1, bind_some, e2], h2, by rw [v2, v1]; rfl⟩
theorem lh {ft : α -> S -> Option (Bool × S)} {fe : α -> S -> Option (β × S)} {s : S} {f : α -> β} : ∀ {xs : List α}, (∀ x ∈ xs, ft x s = some (true, s)) -> (∀ x ∈ xs, fe x s = some (f x, s)) -> jQ ft fe xs s = some (xs.map f, s) := by
 intro xs
 induction xs with
 | nil => intro _ _; rfl
 | cons x xs ih =>
  intro h k;have ih := ih (fun y hy => h y (List.mem_cons_of_mem _ hy)) (fun y hy => k y (List.mem_cons_of_mem _ hy));simp only [jQ, h x List.mem_cons_self, bind_some, if_true, k x List.mem_cons_self, ih, map_some, List.map_cons]
theorem wg {ft : α -> S -> Option (Bool × S)} {fe : α -> S -> Option (β × S)} {s : S} {f : α -> β} {p : α -> Bool} : ∀ {xs : List α}, (∀ x ∈ xs, ft x s = some (p x, s)) -> (∀ x ∈ xs, p x = true -> fe x s = some (f x, s)) -> jQ ft fe xs s = some ((xs.filter p).map f, s) := by
 intro xs
 induction xs with
 | nil => intro _ _; rfl
 | cons x xs ih =>
  intro h k;have ih := ih (fun y hy => h y (List.mem_cons_of_mem _ hy)) (fun y hy => k y (List.mem_cons_of_mem _ hy));cases hp : p x
  ·rw [List.filter_cons_of_neg (by rw [hp]; decide)]
   simp only [jQ, h x List.mem_cons_self, bind_some, hp, Bool.false_eq_true, if_false, ih]
  ·rw [List.filter_cons_of_pos hp]
   simp only [jQ, h x List.mem_cons_self, bind_some, hp, if_true, k x List.mem_cons_self hp, ih, map_some, List.map_cons]
theorem FD {a b : Int} : (Py.ok rI a && Py.ok rI b && decide (min (Py.k rI) (Py.k rI) <= 50)) = true := rfl
theorem sM {xs : List α} : (xs.all fun _ => true) = true := by simp
theorem xO {a b : List Int} : (Py.ok (rL rI) a && Py.ok (rL rI) b && decide (min (Py.k (rL rI)) (Py.k (rL rI)) <= 50)) = true := by
 show ((a.all fun _ => true) && (b.all fun _ => true) && decide (min (0 + 1) (0 + 1) <= 50)) = true;rw [sM, sM]; rfl
theorem BO {a b : List Int} : (Py.ok (rL rI) a && Py.ok (rM rI) b && decide (min (Py.k (rL rI)) (Py.k (rM rI)) <= 50)) = true := xO
theorem sx {f : α -> α -> Bool} (h : ∀ a, f a a = true) : ∀ xs : List α, sy f xs xs = true
 | [] => rfl
 | x :: xs => by simp only [sy, h, sx h xs, Bool.and_self]
theorem aD {c : Bool} {a b : α} (h : c = true) : (if c = true then a else b) = a := if_pos h
theorem Fq {n : Nat} (h : n <= 1000) : n <= sizeLine := Nat.le_of_lt (L2.small1000 h)
theorem EM {n : Nat} (h : n <= 1000) : n < sizeLine := L2.small1000 h
theorem gv {n : Nat} (h : n <= 1000) : gD n = true := decide_eq_true (Fq h)
theorem wd {n : Nat} (h : n <= 1000) : yV n = true := decide_eq_true (EM h)
theorem Cz {xs : List α} {j : Nat} (h : j < xs.length) : atI xs (j : Int) = some xs[j] := L2.atI_nat (by simp [h])
theorem Da {len : Nat} {z : Int} (h0 : 0 <= z) (h1 : z <= 1000) (h2 : len * z.toNat <= 1000) : oO len z = true := by
 simp only [oO, Bool.and_eq_true, Nat.ble_eq];exact ⟨by omega, by omega⟩
theorem yO {z : Int} (h0 : -1000000 <= z) (h1 : z <= 1000000) : i8 z = true := by
 simp only [i8, Nat.ble_eq];omega
theorem iE {x y : Int} (h : (-9223372036854775808 <= x /\ x <= 9223372036854775808) \/ (-9223372036854775808 <= y /\ y <= 9223372036854775808)) : gM x y = true := by
 simp only [gM, Bool.or_eq_true, Nat.ble_eq]; omega
theorem Fb {x : Int} {y : Int} (h : decide (0 < y /\ y.natAbs.log2 < 9000) = true) : vo x y = true := h
theorem vb {put : S -> α -> S} {b : S -> Option (TR S ρ)} {xs : List α} {s : S} {γ : Type} {k : TR S ρ -> Option γ} {P : S -> Prop} (Q : Option γ -> Prop) (h : ∃ s', cO put b xs s = some (.nx s') /\ P s') (hk : ∀ s', P s' -> Q (k (.nx s'))) : Q ((cO put b xs s).bind k) := by
 obtain ⟨a, e, p⟩ := h;rw [e]; exact hk a p
theorem mX {put : S -> α -> S} {b : S -> Option (TR S ρ)} {P : S -> Prop} {xs : List α} {s : S} (I : Nat -> S -> Prop) (h0 : I 0 s) (hb : ∀ k s x, xs[k]? = some x -> I k s -> ∃ s', b (put s x) = some (.nx s') /\ I (k + 1) s') (hP : ∀ s', I xs.length s' -> P s') : ∃ s', cO put b xs s = some (.nx s') /\ P s' := by
 obtain ⟨s', e, h⟩ := Ac (n := 0) (I := I) (fun k s x hx hi => by
  rw [Nat.zero_add] at hi ⊢;exact hb k s x hx hi) h0
 rw [Nat.zero_add] at h;exact ⟨s', e, hP s' h⟩
theorem yo {g : GF} {h : List Int × Unit -> Option (Bool × List Int × Unit)} {r : Rl (List Int)} (j : JF g h (Pc (rM rI) Pn) rB (Pc r Pn)) (ht : ∀ ns : List Int, ns.length <= 63 -> ∃ q, h (ns, ()) = some (true, q)) : ∀ ns : List Int, ns.length <= 63 -> ∃ d, g [.lst false (ns.map D.int)] = some (.bl true, [d]) := fun ns hl => by
 obtain ⟨q, e⟩ := ht ns hl;obtain ⟨d, ds', h1, h2, d', ds2, h3, _, h4⟩ := j (ns, ()) [.lst false (ns.map D.int)] true q ⟨_, [], rfl, ⟨false, _, rfl, vR ns⟩, rfl⟩ e;cases h2;rw [show ds2 = [] from h4] at h3;exact ⟨d', by rw [h1, h3]⟩
end
end TT
namespace DD
open PySem PySem.Spec PyProof.Rows L2
section
variable {X : Cx} {o : Expr} {i : Nat} {js : List DP} {lo hi : Option Expr} {pl ph : Option DP} {p2 pos : Pos}
end
end DD
namespace TT
open PySem L2 DD
section
variable {S : Type} {α β γ δ ρ : Type} {Γ Γ0 Γ1 Γ2 Γ3 Γ4 Γ' Γn Γh : aP S} {c c' : DE} {E : Ex S ρ}
end
end TT
namespace L2
open PySem PySem.Spec PyProof.Rows
section
variable {X : Cx}
end
end L2
namespace DD
open PySem PySem.Spec PyProof.Rows L2
section
variable {X : Cx}
end
end DD
namespace TT
open PySem L2 DD
end TT
namespace DD
open PySem PySem.Spec PyProof.Rows L2
section
variable {K : PySem.W.Frag} {F : Addr -> Prop} {H : Hp} {σD : aF} {σ : St} {R : Ro}
end
section
variable {X : Cx} {e : Expr} {c : DE} {apos cpos : Pos} {i : Nat} {js : List DP}
end
theorem eh {c : Const} {k p} : iX (.Constant c k p) := by intro _ _; rfl
section
variable {X : Cx} {a b e : Expr} {es : List Expr} {ps : List DP} {c c' : DE} {pos apos cpos : Pos} {i : Nat} {js : List DP} {o : Expr}
end
end DD
namespace TT
open PySem L2 DD
section
variable {S : Type} {α β γ δ ρ : Type} {Γ Γ0 Γ1 Γ2 Γ3 Γ4 Γ' Γn Γh : aP S} {c c' : DE} {E : Ex S ρ}
end
end TT
namespace DD
open PySem PySem.Spec PySem.Calls PyProof.Rows L2 PySem.W PySem.Builtin PySem.Builtin.Str
section
variable {prog : Program} {w : World} {A : Around} {E : Value -> Shared -> Prop} {s : Shared}
end
section
variable {X : Cx} {aa : List (Addr × Obj)} {σ : St} {H : Hp} {s : Shared} {F : Addr -> Prop}
end
end DD
namespace L2
open PySem PySem.Spec PyProof.Rows
section
variable {X : Cx}
end
end L2
namespace DD
open PySem PySem.Spec PyProof.Rows L2
section
variable {X : Cx}
end
section
variable {X : Cx} {elt : Expr} {ifs : List Expr} {t : DT} {c : DE} {pos : Pos} {scope : Scope}
end
end DD
namespace TT
open PySem L2 DD
mutual
noncomputable def Ft : PyData -> PyData -> Bool
 | .int i, .int j => i == j
 | .str x, .str y => x == y
 | .list xs, .list ys => A0 xs ys
 | .tuple xs, .tuple ys => A0 xs ys
 | _, _ => false
noncomputable def A0 : List PyData -> List PyData -> Bool
 | [], [] => true
 | x :: xs, y :: ys => Ft x y && A0 xs ys
 | _, _ => false
end
mutual
noncomputable def Ei : PyData -> Bool
 | .int i => Nat.ble i.natAbs 999999999999
 | .str x => (x.cps.toList.all fun c => Nat.ble c 1114111) && Nat.ble x.cps.size 1000
 | .list xs => xN xs
 | .tuple xs => xN xs
 | _ => false
noncomputable def xN : List PyData -> Bool
 | [] => true
 | x :: xs => Ei x && xN xs
end
noncomputable def cm (p : PyData) : Option PyData := if (Ei p && Nat.ble p.weight 1048576 && Nat.ble p.depth 40) = true then some p else none
section
variable {S : Type} {α β : Type} {Γ Γ1 Γ2 : aP S}
end
end TT
namespace L2
open PySem PySem.Spec PyProof.Rows
section
variable {κ : Type} [DecidableEq κ]
end
section
variable {P : Program} {w : World} {H : Hp} {h : Heap} {a : Addr}
end
section
variable {X : Cx} {aa : List (Addr × Obj)} {σ : St} {H : Hp} {s : Shared} {a : Addr} {y v : V} {u r : Value} {o : Option V} {A : Around} {E : Value -> Shared -> Prop}
end
section
variable {X : Cx} {aa : List (Addr × Obj)} {σ : St} {H : Hp} {s : Shared} {a : Addr} {kvs : List (fI × V)} {k : fI} {u : Value} {A : Around} {E : Value -> Shared -> Prop}
end
section
variable {X : Cx} {o i e value : Expr} {pos pos' tpos : Pos} {td ty tv : TE}
end
section
variable {X : Cx} {pos : Pos}
end
end L2
namespace L2
open PySem PySem.Spec PySem.Calls PyProof.Rows
section
variable {prog : Program} {w : World} {A : Around} {E : Value -> Shared -> Prop} {s : Shared}
end
section
variable {prog : Program} {w : World} {A : Around} {R : Result -> Shared -> Prop} {I d : Addr} {h0 : Heap} {H : Hp} {n : Nat} {P : Nat -> Value -> Prop} {St : Nat -> Heap -> Prop} {fp : List Addr}
end
section
variable {X : Cx}
end
section
variable {prog : Program} {w : World} {A : Around} {E : Value -> Shared -> Prop} {s : Shared}
end
section
variable {X : Cx}
end
end L2
namespace DD
open PySem PySem.Spec PyProof.Rows L2
section
variable {K : PySem.W.Frag} {F : Addr -> Prop} {H : Hp} {R : Ro} {ks : List (List fI)} {xs : List D} {v : V} {o : Bool}
variable {σD : aF} {σ : St}
end
section
variable {X : Cx}
end
end DD
namespace TT
open PySem L2 DD
noncomputable abbrev K3 := Int × Int × Int
noncomputable def k3 (p : K3) : List fI := [Sum.inl p.1, Sum.inl p.2.1, Sum.inl p.2.2]
section
variable {S : Type} {α β ρ : Type} {Γ Γ1 Γ2 : aP S} {E : Ex S ρ}
end
end TT
namespace DD
open PySem PySem.Spec PyProof.Rows L2
section
variable {X : Cx} {e st : Expr} {lo hi : Option Expr} {pl ph : Option DP} {p q : DP} {pos p2 : Pos}
end
end DD
namespace TT
open PySem L2 DD
section
variable {S : Type} {α β γ : Type} {Γ : aP S}
end
section
variable {α β γ α' β' γ' : Type}
instance {r : Rl α} {q : Rl β} {t : Rl γ} {r' : Rl α'} {q' : Rl β'} {t' : Rl γ'} [Py r] [Py q] [Py t] [Py r'] [Py q'] [Py t'] {f : α -> α' -> Bool} {g : β -> β' -> Bool} {h : γ -> γ' -> Bool} [k : EqR r r' f] [l : EqR q q' g] [m : EqR t t' h] :
  EqR (gJ r q t) (gJ r' q' t') (fun a b => f a.1 b.1 && (g a.2.1 b.2.1 && h a.2.2 b.2.2)) := ⟨fun a b => by
 simp only [Py.pe, PyData.eqv, PyData.eqvAll, k.eqv, l.eqv, m.eqv, Bool.and_true]⟩
end
end TT
namespace DD
open PySem PySem.Spec PyProof.Rows L2
section
variable {X : Cx} {a b c : Expr} {p q t : DP} {pos : Pos} {op op' : CmpOp} {g g' : D -> D -> Option D}
end
end DD
namespace TT
open PySem L2 DD
section
variable {S : Type} {α β γ ρ : Type} {Γ Γb Γh : aP S} {E : Ex S ρ}
end
end TT
namespace DD
open PySem PySem.Spec PyProof.Rows L2
section
variable {X : Cx} {e o a b : Expr} {es : List Expr} {p q : DP} {c c' : DE} {pos apos cpos : Pos} {i : Nat} {js : List DP}
end
end DD
namespace TT
open PySem L2 DD
section
variable {S α β : Type} {Γ Γ1 : aP S}
end
end TT
namespace PySem.W
open PySem PySem.Calls PyProof.Rows
noncomputable def Kp (h h' : Heap) : Prop := ∀ b o, h.get? b = some o -> h'.get? b = some o
section
variable {prog : Program} {w : World} {A : Around} {E : Value -> Shared -> Prop} {s : Shared} {h₀ : Heap} {a : Addr} {vs : List Value} {κ : SortKind} {lt : Nat -> Nat -> Option Bool} {p : Array Nat}
end
section
variable {prog : Program} {w : World} {A : Around} {E : Value -> Shared -> Prop} {s : Shared} {fin : Bool} {Q : Bool -> Shared -> Prop}
end
end PySem.W
namespace L2
open PySem PySem.Spec PyProof.Rows PySem.W
section
variable {X : Cx} {aa : List (Addr × Obj)} {σ : St} {H : Hp} {s : Shared} {h' : Heap}
end
end L2
namespace DD
open PySem PySem.Spec PyProof.Rows L2 PySem.W
section
variable {X : Cx} {e : Expr} {c : DE}
end
end DD
namespace DD
open PySem PySem.Spec PyProof.Rows L2
section
variable {X : Cx} {e : Expr} {lo hi : Option Expr} {pl ph : Option DP} {c : DE} {pos p2 : Pos}
end
end DD
namespace TT
open PySem L2 DD PySem.W
section
variable {S : Type} {α β γ : Type} {Γ Γ1 : aP S}
end
end TT
namespace DD
open PySem PySem.Spec PyProof.Rows L2
section
variable {X : Cx} {e f : Expr} {c c' : DE} {pos p2 : Pos}
end
end DD
namespace TT
open PySem L2 DD
section
variable {S : Type} {α β γ : Type} {Γ Γ1 Γ2 : aP S}
end
end TT
namespace PySem.W
open PySem PySem.Calls PyProof.Rows PyProof.V PySem.Spec
section
variable {prog : Program} {w : World} {A : Around} {E : Value -> Shared -> Prop} {s : Shared} {it d v : Addr} {i ep : Nat} {es : Array DictEntry}
end
end PySem.W
namespace PySem.W
open PySem PySem.Calls PyProof.Rows
section
variable {prog : Program} {w : World} {A : Around} {E : Value -> Shared -> Prop} {s : Shared} {vs : List Value} {κ : SortKind} {lt : Nat -> Nat -> Option Bool}
end
end PySem.W
namespace L2
open PySem PySem.Spec PySem.Calls PyProof.Rows PySem.W
theorem pB : ∀ as : List Addr, Vals (as.map V.ref) (as.map Value.ref)
 | [] => .nil
 | _ :: as => .cons rfl (pB as)
section
variable {X : Cx}
end
end L2
namespace DD
open PySem PySem.Spec PyProof.Rows L2 PySem.W
section
variable {K : PySem.W.Frag} {F : Addr -> Prop} {H : Hp}
mutual
theorem Ow.nt : ∀ {d : D} {v : V} {L : List Addr}, Ow K F H d v L -> ∀ a ∈ L, ∀ vs, H a ≠ some (.tup vs)
 | .hole, _, _, h, a, ha => by simp only [Ow] at h; subst h; cases ha
 | .cell, _, _, h, a, ha => by
  simp only [Ow] at h;obtain ⟨b, o, rfl, e, rfl⟩ := h;rw [List.mem_singleton.mp ha];intro vs q;rw [e] at q;obtain ⟨o, n⟩ := o;cases q;exact n
 | .node _ _, _, _, h, a, ha => by simp only [Ow] at h; obtain ⟨rfl, e, rfl⟩ := h; rw [List.mem_singleton.mp ha, e]; intro vs q; cases q
 | .pin _ ⟨o, n⟩, _, _, h, a, ha => by
  simp only [Ow] at h;obtain ⟨rfl, e, rfl⟩ := h;rw [List.mem_singleton.mp ha, e];intro vs q;cases q;exact n
 | .non, _, _, h, a, ha => by simp only [Ow] at h; rw [h.2] at ha; cases ha
 | .bl _, _, _, h, a, ha => by simp only [Ow] at h; rw [h.2] at ha; cases ha
 | .int _, _, _, h, a, ha => by simp only [Ow] at h; rw [h.2] at ha; cases ha
 | .str _, _, _, h, a, ha => by simp only [Ow] at h; rw [h.2] at ha; cases ha
 | .ty _, _, _, h, a, ha => by simp only [Ow] at h; rw [h.2] at ha; cases ha
 | .cls _, _, _, h, a, ha => by simp only [Ow] at h; rw [h.2] at ha; cases ha
 | .lst true xs, _, _, h, a, ha => by
  simp only [Ow] at h;obtain ⟨b, vs, L', rfl, e, r, rfl⟩ := h;rcases List.mem_cons.mp ha with rfl | ha
  ·rw [e]; intro vs q; cases q
  ·exact OwL.nt r a ha
 | .lst false xs, _, _, h, a, ha => by simp only [Ow] at h; obtain ⟨_, _, _, _, _, rfl⟩ := h; cases ha
 | .tup xs, _, _, h, a, ha => by simp only [Ow] at h; obtain ⟨_, _, _, _, r⟩ := h; exact OwL.nt r a ha
 | .obj true C ks xs, _, _, h, a, ha => by
  simp only [Ow] at h;obtain ⟨b, dx, vs, L', rfl, e, _, r, rfl⟩ := h;rcases List.mem_cons.mp ha with rfl | ha
  ·rw [e]; intro vs q; cases q
  ·exact OwL.nt r a ha
 | .obj false C ks xs, _, _, h, a, ha => by simp only [Ow] at h; obtain ⟨_, _, _, _, _, _, _, _, rfl⟩ := h; cases ha
 | .dct true ks xs, _, _, h, a, ha => by
  simp only [Ow] at h;obtain ⟨b, vs, L', rfl, e, _, r, rfl⟩ := h;rcases List.mem_cons.mp ha with rfl | ha
  ·rw [e]; intro vs q; cases q
  ·exact OwL.nt r a ha
 | .dct false ks xs, _, _, h, a, ha => by simp only [Ow] at h; obtain ⟨_, _, _, _, _, _, _, rfl⟩ := h; cases ha
theorem OwL.nt : ∀ {xs : List D} {vs : List V} {L : List Addr}, OwL K F H xs vs L -> ∀ a ∈ L, ∀ vs, H a ≠ some (.tup vs)
 | [], _, _, h, a, ha => by simp only [OwL] at h; rw [h.2] at ha; cases ha
 | x :: xs, _, _, h, a, ha => by
  simp only [OwL] at h;obtain ⟨v, ws, L1, L2, rfl, h1, h2, rfl⟩ := h;rcases List.mem_append.mp ha with ha | ha
  ·exact Ow.nt h1 a ha
  ·exact OwL.nt h2 a ha
end
theorem OwP.nt : ∀ {R : Ro} {L : List Addr}, OwP K F H R L -> ∀ a ∈ L, ∀ vs, H a ≠ some (.tup vs)
 | [], _, h, a, ha => by cases h; cases ha
 | (d, v) :: R, _, h, a, ha => by
  obtain ⟨L1, L2, h1, h2, rfl⟩ := h;rcases List.mem_append.mp ha with ha | ha
  ·exact h1.nt a ha
  ·exact OwP.nt h2 a ha
variable {σD : aF} {σ : St} {R : Ro} {as : List Addr}
end
section
variable {X : Cx} {e : Expr} {q : DP}
end
end DD
namespace TT
open PySem L2 DD PySem.W
section
variable {S : Type} {Γ : aP S}
end
end TT
namespace DD
open PySem PySem.Spec PyProof.Rows L2
section
variable {X : Cx}
end
end DD
namespace TT
open PySem L2 DD
end TT
namespace DD
open PySem PySem.Spec PyProof.Rows L2
mutual
noncomputable def iI : D -> Bool
 | .lst true xs => nY xs
 | .lst false _ => false
 | .tup xs => nY xs
 | .obj true _ _ xs => nY xs
 | .obj false _ _ _ => false
 | .dct true _ xs => nY xs
 | .dct false _ _ => false
 | _ => true
noncomputable def nY : List D -> Bool
 | [] => true
 | x :: xs => iI x && nY xs
end
section
variable {K : PySem.W.Frag} {F F' : Addr -> Prop} {H H' : Hp} {A : List Addr}
mutual
theorem Ow.thaw (hA : ∀ a ∈ A, ∀ vs, H a ≠ some (.tup vs)) : ∀ {d : D} {v : V} {L : List Addr}, Ow K F H d v L -> iI d = true -> Ow K (fun a => F a /\ a ∉ A) H d v L
 | .hole, _, _, h, _ => by simp only [Ow] at h ⊢; exact h
 | .cell, _, _, h, _ => by simp only [Ow] at h ⊢; exact h
 | .node _ _, _, _, h, _ => by simp only [Ow] at h ⊢; exact h
 | .pin _ _, _, _, h, _ => by simp only [Ow] at h ⊢; exact h
 | .non, _, _, h, _ => by simp only [Ow] at h ⊢; exact h
 | .bl _, _, _, h, _ => by simp only [Ow] at h ⊢; exact h
 | .int _, _, _, h, _ => by simp only [Ow] at h ⊢; exact h
 | .str _, _, _, h, _ => by simp only [Ow] at h ⊢; exact h
 | .ty _, _, _, h, _ => by simp only [Ow] at h ⊢; exact h
 | .cls _, _, _, h, _ => by simp only [Ow] at h ⊢; exact h
 | .lst true xs, _, _, h, f => by
  simp only [Ow] at h ⊢;simp only [iI] at f;obtain ⟨b, vs, L', rfl, e, r, rfl⟩ := h;exact ⟨b, vs, L', rfl, e, OwL.thaw hA r f, rfl⟩
 | .lst false xs, _, _, h, f => by simp only [iI] at f; cases f
 | .tup xs, _, _, h, f => by
  simp only [Ow] at h ⊢;simp only [iI] at f;obtain ⟨a, vs, rfl, t, r⟩ := h;refine ⟨a, vs, rfl, ?_, OwL.thaw hA r f⟩;rcases t with ⟨t1, t2⟩ | t
  ·exact .inl ⟨⟨t1, fun z => hA a z vs t2⟩, t2⟩
  ·exact .inr t
 | .obj true C ks xs, _, _, h, f => by
  simp only [Ow] at h ⊢;simp only [iI] at f;obtain ⟨b, dx, vs, L', rfl, e, el, r, rfl⟩ := h;exact ⟨b, dx, vs, L', rfl, e, el, OwL.thaw hA r f, rfl⟩
 | .obj false C ks xs, _, _, h, f => by simp only [iI] at f; cases f
 | .dct true ks xs, _, _, h, f => by
  simp only [Ow] at h ⊢;simp only [iI] at f;obtain ⟨b, vs, L', rfl, e, el, r, rfl⟩ := h;exact ⟨b, vs, L', rfl, e, el, OwL.thaw hA r f, rfl⟩
 | .dct false ks xs, _, _, h, f => by simp only [iI] at f; cases f
theorem OwL.thaw (hA : ∀ a ∈ A, ∀ vs, H a ≠ some (.tup vs)) : ∀ {xs : List D} {vs : List V} {L : List Addr}, OwL K F H xs vs L -> nY xs = true -> OwL K (fun a => F a /\ a ∉ A) H xs vs L
 | [], _, _, h, _ => by simp only [OwL] at h ⊢; exact h
 | x :: xs, _, _, h, f => by
  simp only [OwL] at h ⊢;simp only [nY, Bool.and_eq_true] at f;obtain ⟨v, ws, L1, L2, rfl, h1, h2, rfl⟩ := h;exact ⟨v, ws, L1, L2, rfl, Ow.thaw hA h1 f.1, OwL.thaw hA h2 f.2, rfl⟩
end
noncomputable def sv (o : Option D) : Option D := o.bind fun d => if iI d = true then some d else none
noncomputable def iG (σ : aF) : aF := σ.map sv
theorem lY (hA : ∀ a ∈ A, ∀ vs, H a ≠ some (.tup vs)) : ∀ {σD : aF} {σ : L2.St} {L : List Addr}, OwP K F H (sl σD σ) L -> ∃ L', OwP K (fun a => F a /\ a ∉ A) H (sl (iG σD) σ) L' /\ L'.Sublist L
 | [], _, L, h => ⟨[], by unfold iG; simp only [List.map_nil, sl]; rfl, List.nil_sublist _⟩
 | none :: σD, [], L, h => ⟨[], by unfold iG; simp only [List.map_cons, sl]; rfl, List.nil_sublist _⟩
 | some _ :: σD, [], L, h => by
  refine ⟨[], ?_, List.nil_sublist _⟩;unfold iG;simp only [List.map_cons, sv, bind_some];split <;> (simp only [sl]; rfl)
 | none :: σD, o :: σ, L, h => by
  have h' : OwP K F H (sl σD σ) L := by simpa only [sl] using h
  obtain ⟨L', e, s⟩ := lY hA h';exact ⟨L', by simpa only [iG, List.map_cons, sv, Option.bind_none, sl] using e, s⟩
 | some d :: σD, none :: σ, L, h => by
  have h' : OwP K F H (sl σD σ) L := by simpa only [sl] using h
  obtain ⟨L', e, s⟩ := lY hA h';refine ⟨L', ?_, s⟩;unfold iG;simp only [List.map_cons, sv, bind_some];split <;> (simp only [sl]; exact e)
 | some d :: σD, some v :: σ, L, h => by
  have h' : OwP K F H ((d, v) :: sl σD σ) L := by simpa only [sl] using h
  obtain ⟨L1, L2, h1, h2, rfl⟩ := h';obtain ⟨L', e, s⟩ := lY hA h2;unfold iG;simp only [List.map_cons, sv, bind_some];split
  ·rename_i hf
   exact ⟨L1 ++ L', by simp only [sl]; exact ⟨L1, L', h1.thaw hA hf, e, rfl⟩, s.append_left _⟩
  ·exact ⟨L', by simp only [sl]; exact e, s.trans (List.sublist_append_right _ _)⟩
theorem Mt.thaw : ∀ {σD : aF} {σ : L2.St}, Mt σD σ -> Mt (iG σD) σ
 | [], [], h => h
 | none :: σD, _ :: σ, h => Mt.thaw (σD := σD) (σ := σ) h
 | some d :: σD, some _ :: σ, h => by
  have := Mt.thaw (σD := σD) (σ := σ) h
  unfold iG;simp only [List.map_cons, sv, bind_some];split <;> exact this
open Classical in
noncomputable def u0 (H : Hp) (a : Addr) : D := match H a with
 | some o => if h : NT o then .pin a ⟨o, h⟩ else .hole
 | none => .hole
noncomputable def aa (H : Hp) (M : List Addr) : Ro := M.map fun a => (u0 H a, V.ref a)
theorem qV {a : Addr} {o : HO} (e : H a = some o) (n : NT o) : u0 H a = .pin a ⟨o, n⟩ := by
 unfold u0;rw [e];simp only [n, dif_pos]
theorem Dw {o : HO} (h : ∀ vs, o ≠ .tup vs) : NT o := by
 cases o <;> first | exact trivial | exact absurd rfl (h _)
theorem tQ : ∀ {M : List Addr}, (∀ a ∈ M, ∃ o, H a = some o /\ NT o) -> OwP K F H (aa H M) M
 | [], _ => rfl
 | a :: M, h => by
  obtain ⟨o, e, n⟩ := h a (by simp);refine ⟨[a], M, ?_, tQ fun b hb => h b (by simp [hb]), rfl⟩;rw [qV e n];simp only [Ow];exact ⟨trivial, e, trivial⟩
theorem pG : ∀ {M M' : List Addr}, (∀ a ∈ M, ∃ o, H a = some o /\ NT o) -> OwP K F' H' (aa H M) M' -> M' = M /\ ∀ a ∈ M, H' a = H a
 | [], M', _, h => ⟨h, fun a ha => by cases ha⟩
 | a :: M, M', hs, h => by
  obtain ⟨o, e, n⟩ := hs a (by simp);obtain ⟨L1, L2, h1, h2, rfl⟩ := h;rw [qV e n] at h1;simp only [Ow] at h1;obtain ⟨_, e', rfl⟩ := h1;obtain ⟨rfl, k⟩ := pG (fun b hb => hs b (by simp [hb])) h2;refine ⟨rfl, fun b hb => ?_⟩;rcases List.mem_cons.mp hb with rfl | hb
  ·rw [e', e]
  ·exact k b hb
variable {σD : aF} {σ : L2.St} {R : Ro} {d : D} {v : V}
theorem OwP.thaw (hA : ∀ a ∈ A, ∀ vs, H a ≠ some (.tup vs)) : ∀ {S : Ro} {L : List Addr}, OwP K F H S L -> (∀ z ∈ S, iI z.1 = true) -> OwP K (fun a => F a /\ a ∉ A) H S L
 | [], _, h, _ => h
 | (d, v) :: S, _, h, f => by
  obtain ⟨L1, L2, h1, h2, rfl⟩ := h;exact ⟨L1, L2, h1.thaw hA (f (d, v) (by simp)), OwP.thaw hA h2 fun z hz => f z (by simp [hz]), rfl⟩
theorem Rel.thaw (r : Rel K F H σD σ ((d, v) :: R)) : ∃ (F' : Addr -> Prop) (P : Ro), Ext F H F' H /\ Rel K F' H σD σ ((d.fz, v) :: P) /\
  ∀ F2 H2 σD2 σ2 S, Ext F' H F2 H2 -> Rel K F2 H2 σD2 σ2 (S ++ P) -> (∀ z ∈ S, iI z.1 = true) -> ∃ F3, Ext F H F3 H2 /\ Rel K F3 H2 (iG σD2) σ2 (S ++ ((d, v) :: R)) := by
 obtain ⟨L, ⟨L1, L2, h1, h2, rfl⟩, n, f⟩ := r.front.own;obtain ⟨M, N, rfl, hm, hn⟩ := OwP.split (R := R) h2;have hMd : ∀ a ∈ M, ∃ o, H a = some o /\ NT o := fun a ha => by
  obtain ⟨o, e⟩ := hm.dom a ha;exact ⟨o, e, Dw fun vs z => hm.nt a ha vs (by rw [e, z])⟩
 obtain ⟨n1, n2, n3⟩ := List.nodup_append.mp n;have x : Ext F H (fun a => F a \/ a ∈ L1) H := fun a h => ⟨.inl h, rfl⟩
 refine ⟨fun a => F a \/ a ∈ L1, aa H M, x, Rel.of r.mt ⟨⟨M ++ N, ⟨[], M ++ N, h1.fz (fun a h => .inl h) fun a h => .inr h, ?_, rfl⟩, n2, fun a ha fa => ?_⟩, fun a fa => ?_⟩, fun F2 H2 σD2 σ2 S x2 r2 hS => ?_⟩
 ·exact (tQ hMd).append (hn.mono x fun _ _ => rfl)
 ·rcases fa with fa | fa
  ·exact f a (List.mem_append_right _ ha) fa
  ·exact n3 a fa a ha rfl
 ·rcases fa with fa | fa
  ·exact r.front.dom a fa
  ·exact h1.dom a fa
 ·obtain ⟨L', ho, nd, ff⟩ := r2.front.own
  obtain ⟨Z, N', rfl, hz, hn'⟩ := OwP.split (R := S ++ aa H M) ho;obtain ⟨Y, M', rfl, hy, hm'⟩ := OwP.split (R := S) hz;obtain ⟨rfl, hk⟩ := pG hMd hm';have hA2 : ∀ a ∈ L1, F2 a /\ H2 a = H a := fun a ha => x2 a (.inr ha)
  have hA : ∀ a ∈ L1, ∀ vs, H2 a ≠ some (.tup vs) := fun a ha vs => by rw [(hA2 a ha).2]; exact h1.nt a ha vs
  obtain ⟨N2, hn2, sub⟩ := lY hA hn';have x3 : Ext F H (fun a => F2 a /\ a ∉ L1) H2 := fun a fa => ⟨⟨(x2 a (.inl fa)).1, fun z => f a (List.mem_append_left _ z) fa⟩, (x2 a (.inl fa)).2⟩
  have subs : ((Y ++ M') ++ N2).Sublist ((Y ++ M') ++ N') := sub.append_left _;have pm : (Y ++ (L1 ++ M') ++ N2).Perm (L1 ++ ((Y ++ M') ++ N2)) := by
   have h := List.perm_append_comm (l₁ := Y) (l₂ := L1);have h2 := (h.append_right M').append_right N2;simpa using h2
  have nd2 : (L1 ++ ((Y ++ M') ++ N2)).Nodup := by
   rw [List.nodup_append];refine ⟨n1, nd.sublist subs, fun a ha b hb e => ?_⟩;subst e;exact ff a (subs.subset hb) (hA2 a ha).1
  have hdr : OwP K (fun a => F2 a /\ a ∉ L1) H2 ((d, v) :: R) (L1 ++ M') := ⟨L1, M', h1.mono x3 fun a ha => (hA2 a ha).2, hm.mono x3 hk, rfl⟩;refine ⟨fun a => F2 a /\ a ∉ L1, x3, Rel.of r2.mt.thaw ⟨⟨Y ++ (L1 ++ M') ++ N2, ((hy.thaw hA hS).append hdr).append hn2, pm.nodup_iff.mpr nd2, fun a ha fa => ?_⟩, fun a fa => r2.front.dom a fa.1⟩⟩;rcases List.mem_append.mp (pm.mem_iff.mp ha) with ha | ha
  ·exact fa.2 ha
  ·exact ff a (subs.subset ha) fa.1
end
noncomputable def nZ (i : Nat) (c : DE) : DE := fun σ => (bt σ i).bind fun d => (c (σ.set i (some d.fz))).bind fun p => if iI p.1 = true then some (p.1, (iG p.2).set i (some d)) else none
noncomputable def n4 (j : Nat) (c : DE) : DE := fun σ => (bt σ j).bind fun d => (c (σ.set j none)).map fun p => (p.1, p.2.set j (some d))
section
variable {X : Cx} {e : Expr} {c : DE}
theorem zJ (i : Nat) (h : QE X e c) : QE X e (nZ i c) := bc h fun σ H Q hq0 => by
 obtain ⟨F, R, σD, d, σD', r, ec, k⟩ := hq0;unfold nZ at ec;obtain ⟨d0, h0, ec⟩ := Option.bind_eq_some_iff.mp ec;obtain ⟨⟨d1, σ1⟩, h1, ec⟩ := Option.bind_eq_some_iff.mp ec;dsimp only at ec;split at ec
 ·rename_i hf
  cases ec;obtain ⟨v, hv, r1⟩ := r.take (bG h0);obtain ⟨F', P, x1, r2, back⟩ := r1.thaw;have r3 := r2.put hv;rw [List.set_set] at r3;refine ⟨F', P, _, d, σ1, r3, h1, fun F2 H2 w x2 r4 => ?_⟩;obtain ⟨F3, x3, r5⟩ := back F2 H2 σ1 σ [(d, w)] x2 r4 (fun z hz => by rw [List.mem_singleton.mp hz]; exact hf);exact k F3 H2 w x3 ((r5.perm (.swap _ _ _)).put hv)
 ·cases ec
theorem zK (j : Nat) (h : QE X e c) : QE X e (n4 j c) := bc h fun σ H Q hq0 => by
 obtain ⟨F, R, σD, d, σD', r, ec, k⟩ := hq0;unfold n4 at ec;obtain ⟨d0, h0, ec⟩ := Option.bind_eq_some_iff.mp ec;obtain ⟨⟨d1, σ1⟩, h1, ec⟩ := cJ ec;cases ec;obtain ⟨v, hv, r1⟩ := r.take (bG h0);exact ⟨F, _, _, d1, σ1, r1, h1, fun F2 H2 w x2 r4 => k F2 H2 w x2 ((r4.perm (.swap _ _ _)).put hv)⟩
end
end DD
namespace TT
open PySem L2 DD
class Ff {α : Type} (r : Rl α) : Prop where
 f : ∀ a d, r a d -> iI d = true
theorem All2.ff {α : Type} {r : Rl α} (k : ∀ a d, r a d -> iI d = true) : ∀ {as : List α} {ds : List D}, All2 r as ds -> nY ds = true
 | _, _, .nil => rfl
 | _, _, .cons a h => by simp only [nY, k _ _ a, h.ff k, Bool.and_self]
section
variable {α β γ δ : Type}
instance : Ff rI := ⟨fun _ _ h => by cases h; rfl⟩
instance {r : Rl α} [k : Ff r] : Ff (rL r) := ⟨fun _ _ hq0 => by obtain ⟨ds, e, h⟩ := hq0; rw [e]; simp only [iI]; exact h.ff k.f⟩
end
section
variable {S : Type} {α β : Type} {Γ Γ1 Γ2 : aP S}
inductive Tw : aP S -> aP S -> Prop
 | nil : Tw [] []
 | non {a} {Γ Γ'} : Tw Γ Γ' -> Tw (a :: Γ) (none :: Γ')
 | som {α : Type} {g : S -> α} {r : Rl α} {Γ Γ'} : Ff r -> Tw Γ Γ' -> Tw (some ⟨g, r⟩ :: Γ) (some ⟨g, r⟩ :: Γ')
theorem Tw.sat {s : S} (w : Tw Γ1 Γ2) : ∀ {σ : aF}, Sat Γ1 s σ -> Sat Γ2 s (iG σ) := by
 induction w with
 | nil => intro σ h; cases σ with | nil => exact h | cons _ _ => exact h.elim
 | non _ ih => intro σ h; cases σ with | nil => exact h.elim | cons x σ => exact ⟨trivial, ih h.2⟩
 | som f _ ih =>
  intro σ h;cases σ with
  | nil => exact h.elim
  | cons x σ =>
   obtain ⟨d, e, hd⟩ := h.1;refine ⟨⟨d, ?_, hd⟩, ih h.2⟩;rw [e];simp only [sv, bind_some, f.f _ _ hd, if_true]
theorem Ag (i : Nat) {get : S -> β} {put : S -> β -> S} {q q' : Rl β} [z : Fz q q'] {c : DE} {r : Rl α} [k : Ff r] {f : S -> Option (α × S)} (h : JE (Γ.set i (some ⟨get, q'⟩)) c f r Γ1) (w : Tw Γ1 Γ2) (hi : Γ[i]? = some (some ⟨get, q⟩)) (hg : autoParam (∀ s v, get (put s v) = v) jF._auto_1)
  (hf : autoParam (∀ v, Fr (fun s => put s v) (Γ2.set i none)) jO._auto_1) :
  JE Γ (nZ i c) (fun s => (f s).map fun p => (p.1, put p.2 (get s))) r (Γ2.set i (some ⟨get, q⟩)) := fun s σ v s' hs e => by
 obtain ⟨⟨a, s1⟩, e1, e⟩ := mp e;cases e;obtain ⟨d, hd, rd⟩ := hs.get hi;obtain ⟨x, σ1, hx, rx, h1⟩ := h s (σ.set i (some d.fz)) a s1 (hs.set ⟨_, rfl, z.f _ _ rd⟩) e1;refine ⟨x, _, by simp only [nZ, hd, bind_some, hx, k.f _ _ rx, if_true]; rfl, rx, ?_⟩;exact (w.sat h1).put hg hf rd
theorem Ai (j : Nat) {get : S -> β} {put : S -> β -> S} {q : Rl β} {c : DE} {r : Rl α} {f : S -> Option (α × S)} (h : JE (Γ.set j none) c f r Γ1) (hi : Γ[j]? = some (some ⟨get, q⟩)) (hg : autoParam (∀ s v, get (put s v) = v) jF._auto_1)
  (hf : autoParam (∀ v, Fr (fun s => put s v) (Γ1.set j none)) jO._auto_1) :
  JE Γ (n4 j c) (fun s => (f s).map fun p => (p.1, put p.2 (get s))) r (Γ1.set j (some ⟨get, q⟩)) := fun s σ v s' hs e => by
 obtain ⟨⟨a, s1⟩, e1, e⟩ := mp e;cases e;obtain ⟨d, hd, rd⟩ := hs.get hi;obtain ⟨x, σ1, hx, rx, h1⟩ := h s (σ.set j none) a s1 hs.setn e1;exact ⟨x, _, by simp only [n4, hd, bind_some, hx, map_some], rx, h1.put hg hf rd⟩
end
end TT
namespace DD
open PySem PySem.Spec PyProof.Rows L2
section
variable {X : Cx} {e o : Expr} {es : List Expr} {ps : List DP} {p : DP} {pos apos cpos : Pos} {i : Nat} {js : List DP}
end
end DD
namespace TT
open PySem L2 DD
section
variable {S : Type} {α β γ δ : Type} {Γ : aP S}
end
section
variable {S : Type} {α : Type} {Γ Γ1 : aP S}
end
end TT
namespace PySem.W
open PySem.Calls PyProof.Rows PySem.Spec PySem.MeetsSeq3
section
end
end PySem.W
namespace L2
open PySem PySem.Spec PySem.Calls PyProof.Rows PySem.W
section
variable {X : Cx} {aa : List (Addr × Obj)} {σ : St} {H : Hp} {s : Shared} {h' : Heap}
end
end L2
namespace DD
open PySem PySem.Spec PyProof.Rows L2 PySem.W
section
variable {X : Cx} {e b : Expr} {c : DE} {sts : List Stmt}
end
end DD
namespace TT
open PySem L2 DD PySem.W
section
variable {S : Type} {α β ρ : Type} {Γ Γ1 Γ2 : aP S} {E : Ex S ρ}
end
end TT
namespace TT
open PySem L2 DD
section
variable {S : Type} {α β : Type} {Γ Γ1 Γ2 : aP S}
end
end TT
namespace DD
open PySem PySem.Spec PyProof.Rows L2
section
variable {X : Cx} {s : DS} {pos : Pos} {W' : List Nat} {body : List Stmt}
end
end DD
namespace TT
open PySem L2 DD
section
variable {S : Type} {α β ρ : Type} {Γ Γb : aP S} {E : Ex S ρ}
end
end TT
namespace PySem
open Sem (wp)
section
variable {prog : Program} {w : World} {A : Around} {E : Value -> Shared -> Prop} {s : Shared}
end
section
variable {prog : Program} {w : World} {A : Around} {E : Value -> Shared -> Prop} {s : Shared}
end
end PySem
namespace L2
open PySem PySem.Spec PyProof.Rows
end L2
namespace DD
open PySem PySem.Spec PyProof.Rows L2
section
variable {X : Cx} {a b e : Expr} {c c' : DE} {p p1 pos1 : Pos} {elts : List Expr} {x1 : Nat} {tpos pos : Pos}
end
end DD
namespace TT
open PySem L2 DD PySem.W
section
variable {S : Type} {α β : Type} {Γ Γ1 Γ2 : aP S} {c c' : DE}
noncomputable def l4 (p : α × α × α × α) : List α := [p.1, p.2.1, p.2.2.1, p.2.2.2]
noncomputable def o4 (xs : List α) : Option (α × α × α × α) := match xs with
 | [a, b, c, d] => some (a, b, c, d)
 | _ => none
end
section
variable {α β γ δ α' β' γ' δ' : Type}
end
end TT
namespace L2
open PySem PySem.Spec PyProof.Rows
noncomputable def zE : V -> List V -> Hp -> VK -> Prop := fun x vs H Q => ∃ a b, x = .str a /\ vs = [.str b] /\ Q (.bl (Txt.startswith a b)) H
noncomputable def A6 : V -> List V -> Hp -> VK -> Prop := fun x vs H Q => ∃ a b, x = .str a /\ vs = [.str b] /\ (b.length == 0) = false /\ a.length <= sizeLine /\ (Txt.split a b).length <= sizeLine /\ ∀ p, H p = none -> Q (.ref p) (aO H p (.lst ((Txt.split a b).map V.str)))
noncomputable def Dc (K : PySem.W.Frag) : V -> List V -> Hp -> VK -> Prop := fun x vs H Q => ∃ a l ys, x = .str a /\ vs = [.ref l] /\ dH K H l (ys.map V.str) /\ (ys.map (·.length)).sum + ys.length * a.length <= 16777216 /\ Q (.str (Txt.join a ys)) H
section
variable {X : Cx}
theorem wb : sV X "str.startswith" zE := by
 intro aa s σ H x vs v us Q I rx rv h;obtain ⟨a, b, rfl, rfl, q⟩ := h;obtain ⟨t, rfl⟩ := (show ∃ t, v = Value.str a t from rx);obtain ⟨u, rfl, ru⟩ := rv.one;obtain ⟨t', rfl⟩ := (show ∃ t, u = Value.str b t from ru);exact SC.startswith ⟨.bl _, H, I, rfl, q⟩
theorem vD : ∀ (xs : List Str) (k : Nat), Vals (xs.map V.str) (strsFrom k xs) := by
 intro xs
 induction xs with
 | nil => intro k; exact .nil
 | cons x xs ih => intro k; exact .cons ⟨_, rfl⟩ (ih (k + 1))
theorem xV : sV X "str.split" A6 := by
 intro aa s σ H x vs v us Q I rx rv h;obtain ⟨a, b, rfl, rfl, hb, ha, hn, q⟩ := h;obtain ⟨t, rfl⟩ := (show ∃ t, v = Value.str a t from rx);obtain ⟨u, rfl, ru⟩ := rv.one;obtain ⟨t', rfl⟩ := (show ∃ t, u = Value.str b t from ru);have one : Txt.split a b = [a] -> PySem.wants (EP X aa σ Q) X.xe (.ok (.ret (.ref s.heap.objs.size))) { s with heap := s.heap.push { cls := .type "list", data := .seq [Value.str a t].toArray } } := fun e => by
  refine ⟨.ref s.heap.objs.size, _, I.laid (o := .lst [.str a]) (t' := s.toks) (fun b o e => Heap.get?_push_of_some _ e) (Nat.le_refl _) ⟨by show 1 <= sizeLine; decide, [Value.str a t], _, .cons ⟨_, rfl⟩ .nil, Heap.get?_push_size _ rfl⟩, rfl, ?_⟩
  have := q _ I.fresh
  rw [e] at this;exact this
 cases h1 : (decide (a.length < b.length) || decide (Builtin.Str.strKind a < Builtin.Str.strKind b))
 ·cases hf : (Builtin.Str.occurrences a b 0 a.length (a.length + 1)).isEmpty
  ·have e : Txt.split a b = Builtin.Str.partsBetween a (Builtin.Str.occurrences a b 0 a.length (a.length + 1)) b.length := by unfold Txt.split; rw [h1, hf]; rfl
   rw [e] at hn q;refine call_meets F.slot_str_split (typeIs_str _ _ _) F.entry_str_split (F.args_str_split_2 _ _) (meets_str_split_sep a b t t' h1 hb hf ha hn) ?_;exact ⟨.ref s.heap.objs.size, _, I.laid (o := .lst ((Builtin.Str.partsBetween a (Builtin.Str.occurrences a b 0 a.length (a.length + 1)) b.length).map V.str)) (fun b o e => Heap.get?_push_of_some _ e) (Nat.le_refl _) ⟨by rw [List.length_map]; exact hn, _, _, vD _ _, Heap.get?_push_size _ rfl⟩, rfl, q _ I.fresh⟩
  ·exact call_meets F.slot_str_split (typeIs_str _ _ _) F.entry_str_split (F.args_str_split_2 _ _) (meets_str_split_not_found a b t t' h1 hb hf) (one (by unfold Txt.split; rw [h1, hf]; rfl))
 ·exact call_meets F.slot_str_split (typeIs_str _ _ _) F.entry_str_split (F.args_str_split_2 _ _) (meets_str_split_cannot_occur a b t t' h1) (one (by unfold Txt.split; rw [h1]; rfl))
theorem zz : ∀ {ys : List Str} {its : List Value}, Vals (ys.map V.str) its -> ∃ l : List (Str × Tok), its = strValues l /\ l.map (·.1) = ys := by
 intro ys
 induction ys with
 | nil => intro its h; cases h; exact ⟨[], rfl, rfl⟩
 | cons y ys ih =>
  intro its h;cases h with
  | cons r rr =>
   obtain ⟨l, e1, e2⟩ := ih rr;obtain ⟨t, rfl⟩ := r;exact ⟨(y, t) :: l, by rw [e1]; rfl, by rw [<- e2]; rfl⟩
theorem z7 : sV X "str.join" (Dc X.K) := by
 intro aa s σ H x vs v us Q I rx rv h;obtain ⟨a, l, ys, rfl, rfl, sq, hs, q⟩ := h;obtain ⟨t, rfl⟩ := (show ∃ t, v = Value.str a t from rx);obtain ⟨u, rfl, ru⟩ := rv.one;cases ru;obtain ⟨its, r, p, hz⟩ := I.list sq;obtain ⟨l', e1, e2⟩ := zz r;subst e1;exact SC.join p.isList e2 (joinOk_of hs) fun t' k => ⟨.str _, H, I.tok k, ⟨_, rfl⟩, q⟩
end
end L2
namespace DD
open PySem PySem.Spec PyProof.Rows L2
noncomputable def iN : List D -> Option (List Str)
 | [] => some []
 | .str x :: xs => (iN xs).map fun l => x :: l
 | _ :: _ => none
noncomputable def gz (c c' : DE) : DE := fun σ => (c σ).bind fun p => (c' p.2).bind fun q => match p.1, q.1 with
 | .str a, .str b => some (.bl (Txt.startswith a b), q.2)
 | _, _ => none
noncomputable def fJ (a b : Str) : Bool := !(b.length == 0) && (decide (a.length <= sizeLine) && decide ((Txt.split a b).length <= sizeLine))
noncomputable def gW (c c' : DE) : DE := fun σ => (c σ).bind fun p => (c' p.2).bind fun q => match p.1, q.1 with
 | .str a, .str b => if fJ a b = true then some (.lst true ((Txt.split a b).map D.str), q.2) else none
 | _, _ => none
noncomputable def qx (a : Str) (ys : List Str) : Bool := decide ((ys.map (·.length)).sum + ys.length * a.length <= 16777216)
noncomputable def kC (c c' : DE) : DE := fun σ => (c σ).bind fun p => (c' p.2).bind fun q => match p.1, q.1 with
 | .str a, .lst _ xs => (iN xs).bind fun ys => if qx a ys = true then some (.str (Txt.join a ys), q.2) else none
 | _, _ => none
theorem vK {K : PySem.W.Frag} {F : Addr -> Prop} {H : Hp} : ∀ {xs : List D} {ys : List Str} {vs : List V} {L : List Addr}, iN xs = some ys -> OwL K F H xs vs L -> vs = ys.map V.str := by
 intro xs
 induction xs with
 | nil => intro ys vs L e o; cases e; simp only [OwL] at o; rw [o.1]; rfl
 | cons x xs ih =>
  intro ys vs L e o;simp only [OwL] at o;obtain ⟨v, ws, L1, L2, rfl, o1, o2, _⟩ := o;cases x with
  | str z =>
   simp only [iN] at e;rcases h : iN xs with _ | l
   ·rw [h] at e; cases e
   ·rw [h] at e; cases e
    simp only [Ow] at o1;rw [o1.1, ih h o2]; rfl
  | _ => simp [iN] at e
theorem z0 {K : PySem.W.Frag} {F : Addr -> Prop} {H : Hp} : ∀ xs : List Str, OwL K F H (xs.map D.str) (xs.map V.str) [] := by
 intro xs
 induction xs with
 | nil => simp only [List.map_nil, OwL]; exact ⟨trivial, trivial⟩
 | cons x xs ih =>
  simp only [List.map_cons, OwL, Ow];exact ⟨_, _, [], [], rfl, ⟨rfl, rfl⟩, ih, rfl⟩
section
variable {X : Cx} {o e : Expr} {c c' : DE} {apos cpos : Pos}
theorem ju (ho : QE X o c) (ha : QE X e c') (hbase : autoParam (attributeBase o "startswith" X.env (eval o X.env) = eval o X.env) aI._auto_1)
  (hfew : autoParam (((backTo cpos (starEach [e] X.env)).all (fun x => !x.1) && (backToKw cpos (keywordEach [] X.env)).all (fun x => x.1.isSome) && decide (([e] : List Expr).length + ([] : List Keyword).length + (if ([] : List Keyword).isEmpty then 0 else 1) < 30)) = true) aI._auto_1)
  (hline : autoParam ((apos.endLine == cpos.line) = true) aI._auto_1) (hst : autoParam (starEach [e] X.env = (false, eval e X.env) :: starEach [] X.env) aI._auto_1) : QE X (.Call (.Attribute o "startswith" apos) [e] [] cpos) (gz c c') :=
 bc (mh PySem.F.plainAttrs_str PySem.F.slot_str_startswith PySem.F.type_str_startswith wb ho (dj ha eI hst) hbase hfew hline hst rfl) fun σ H Q hq0 => by
  obtain ⟨F, R, σD, d, σD', r, ec, k⟩ := hq0;unfold gz at ec;rcases h1 : c σD with _ | ⟨x, σ1⟩
  ·rw [h1] at ec; cases ec
  ·rw [h1] at ec; simp only [bind_some] at ec
   rcases h2 : c' σ1 with _ | ⟨y, σ2⟩
   ·rw [h2] at ec; cases ec
   ·rw [h2] at ec; simp only [bind_some] at ec
    split at ec
    ·rename_i a b
     cases ec;refine ⟨F, R, σD, _, σ1, r, h1, fun F1 H1 v x1 r1 => ?_⟩;have bv := (r1.bor (d := .str a) (v := v) (by simp)).str;subst bv;refine ⟨rfl, F1, _, σ1, _, _, r1, h2, fun F2 H2 u x2 r2 => ?_⟩;have bu := (r2.bor (d := .str b) (v := u) (by simp)).str;subst bu;exact ⟨a, b, rfl, rfl, k F2 H2 _ (x1.trans x2) ((r2.pop).pop.scal rfl)⟩
    ·cases ec
theorem ja (ho : QE X o c) (ha : QE X e c') (hbase : autoParam (attributeBase o "split" X.env (eval o X.env) = eval o X.env) aI._auto_1)
  (hfew : autoParam (((backTo cpos (starEach [e] X.env)).all (fun x => !x.1) && (backToKw cpos (keywordEach [] X.env)).all (fun x => x.1.isSome) && decide (([e] : List Expr).length + ([] : List Keyword).length + (if ([] : List Keyword).isEmpty then 0 else 1) < 30)) = true) aI._auto_1)
  (hline : autoParam ((apos.endLine == cpos.line) = true) aI._auto_1) (hst : autoParam (starEach [e] X.env = (false, eval e X.env) :: starEach [] X.env) aI._auto_1) : QE X (.Call (.Attribute o "split" apos) [e] [] cpos) (gW c c') :=
 bc (mh PySem.F.plainAttrs_str PySem.F.slot_str_split PySem.F.type_str_split xV ho (dj ha eI hst) hbase hfew hline hst rfl) fun σ H Q hq0 => by
  obtain ⟨F, R, σD, d, σD', r, ec, k⟩ := hq0;unfold gW at ec;rcases h1 : c σD with _ | ⟨x, σ1⟩
  ·rw [h1] at ec; cases ec
  ·rw [h1] at ec; simp only [bind_some] at ec
   rcases h2 : c' σ1 with _ | ⟨y, σ2⟩
   ·rw [h2] at ec; cases ec
   ·rw [h2] at ec; simp only [bind_some] at ec
    split at ec
    ·rename_i a b
     split at ec
     ·rename_i hok
      cases ec;unfold fJ at hok;simp only [Bool.and_eq_true, Bool.not_eq_true', decide_eq_true_eq] at hok;refine ⟨F, R, σD, _, σ1, r, h1, fun F1 H1 v x1 r1 => ?_⟩;have bv := (r1.bor (d := .str a) (v := v) (by simp)).str;subst bv;refine ⟨rfl, F1, _, σ1, _, _, r1, h2, fun F2 H2 u x2 r2 => ?_⟩;have bu := (r2.bor (d := .str b) (v := u) (by simp)).str;subst bu;refine ⟨a, b, rfl, rfl, hok.1, hok.2.1, hok.2.2, fun p hp => ?_⟩;have ol := z0 (K := X.K) (F := F2) (H := H2) (Txt.split a b);obtain ⟨r3, x3⟩ := (Rel.pushL ol r2.pop.pop).layL ol.length.symm hp;exact k F2 _ _ ((x1.trans x2).trans x3) r3
     ·cases ec
    ·cases ec
theorem oS (ho : QE X o c) (ha : QE X e c') (hbase : autoParam (attributeBase o "join" X.env (eval o X.env) = eval o X.env) aI._auto_1)
  (hfew : autoParam (((backTo cpos (starEach [e] X.env)).all (fun x => !x.1) && (backToKw cpos (keywordEach [] X.env)).all (fun x => x.1.isSome) && decide (([e] : List Expr).length + ([] : List Keyword).length + (if ([] : List Keyword).isEmpty then 0 else 1) < 30)) = true) aI._auto_1)
  (hline : autoParam ((apos.endLine == cpos.line) = true) aI._auto_1) (hst : autoParam (starEach [e] X.env = (false, eval e X.env) :: starEach [] X.env) aI._auto_1) : QE X (.Call (.Attribute o "join" apos) [e] [] cpos) (kC c c') :=
 bc (mh PySem.F.plainAttrs_str PySem.F.slot_str_join PySem.F.type_str_join z7 ho (dj ha eI hst) hbase hfew hline hst rfl) fun σ H Q hq0 => by
  obtain ⟨F, R, σD, d, σD', r, ec, k⟩ := hq0;unfold kC at ec;rcases h1 : c σD with _ | ⟨x, σ1⟩
  ·rw [h1] at ec; cases ec
  ·rw [h1] at ec; simp only [bind_some] at ec
   rcases h2 : c' σ1 with _ | ⟨y, σ2⟩
   ·rw [h2] at ec; cases ec
   ·rw [h2] at ec; simp only [bind_some] at ec
    split at ec
    ·rename_i a own xs
     rcases h3 : iN xs with _ | ys
     ·rw [h3] at ec; cases ec
     ·rw [h3] at ec; simp only [bind_some] at ec
      split at ec
      ·rename_i hok
       cases ec;refine ⟨F, R, σD, _, σ1, r, h1, fun F1 H1 v x1 r1 => ?_⟩;have bv := (r1.bor (d := .str a) (v := v) (by simp)).str;subst bv;refine ⟨rfl, F1, _, σ1, _, _, r1, h2, fun F2 H2 u x2 r2 => ?_⟩;obtain ⟨l, vs, rfl, sq, L, ol⟩ := (r2.bor (d := .lst own xs) (v := u) (by simp)).lst;rw [vK h3 ol] at sq;exact ⟨a, l, ys, rfl, rfl, sq, of_decide_eq_true hok, k F2 H2 _ (x1.trans x2) ((r2.pop).pop.scal rfl)⟩
      ·cases ec
    ·cases ec
end
end DD
namespace TT
open PySem L2 DD PySem.W
section
variable {S : Type} {Γ Γ1 Γ2 : aP S} {c c' : DE}
theorem jB {f g : S -> Option (Str × S)} (h : JE Γ c f rS Γ1) (h' : JE Γ1 c' g rS Γ2) : JE Γ (gz c c') (fun s => (f s).bind fun p => (g p.2).map fun q => (Txt.startswith p.1 q.1, q.2)) rB Γ2 := fun s σ v s' hs e => by
 obtain ⟨⟨a, s1⟩, e1, e⟩ := bd e;obtain ⟨⟨b, s2⟩, e2, e⟩ := mp e;cases e;obtain ⟨d, σ1, h1, h2, h3⟩ := h s σ a s1 hs e1;obtain ⟨d', σ2, h4, h5, h6⟩ := h' s1 σ1 b s2 h3 e2;cases h2; cases h5;exact ⟨_, σ2, by simp only [gz, h1, h4, bind_some], rfl, h6⟩
theorem lM : ∀ xs : List Str, All2 rS xs (xs.map D.str) := by
 intro xs
 induction xs with
 | nil => exact .nil
 | cons x xs ih => exact .cons rfl ih
theorem vL : ∀ {xs : List Str} {ds : List D}, All2 rS xs ds -> iN ds = some xs := by
 intro xs
 induction xs with
 | nil => intro ds h; cases h; rfl
 | cons x xs ih =>
  intro ds h;cases h with
  | cons r rr => cases r; simp only [iN, ih rr, map_some]
theorem jh {f g : S -> Option (Str × S)} (h : JE Γ c f rS Γ1) (h' : JE Γ1 c' g rS Γ2) : JE Γ (gW c c') (fun s => (f s).bind fun p => (g p.2).bind fun q => if fJ p.1 q.1 = true then some (Txt.split p.1 q.1, q.2) else none) (rL rS) Γ2 := fun s σ v s' hs e => by
 obtain ⟨⟨a, s1⟩, e1, e⟩ := bd e;obtain ⟨⟨b, s2⟩, e2, e⟩ := bd e;dsimp only at e;split at e
 ·rename_i hok
  cases e;obtain ⟨d, σ1, h1, h2, h3⟩ := h s σ a s1 hs e1;obtain ⟨d', σ2, h4, h5, h6⟩ := h' s1 σ1 b _ h3 e2;cases h2; cases h5;exact ⟨_, σ2, by simp only [gW, h1, h4, bind_some, hok, if_true], ⟨_, rfl, lM _⟩, h6⟩
 ·cases e
theorem o9 {rl : Rl (List Str)} [l : Ls rl rS] {f : S -> Option (Str × S)} {g : S -> Option (List Str × S)} (h : JE Γ c f rS Γ1) (h' : JE Γ1 c' g rl Γ2) : JE Γ (kC c c') (fun s => (f s).bind fun p => (g p.2).bind fun q => if qx p.1 q.1 = true then some (Txt.join p.1 q.1, q.2) else none) rS Γ2 := fun s σ v s' hs e => by
 obtain ⟨⟨a, s1⟩, e1, e⟩ := bd e;obtain ⟨⟨b, s2⟩, e2, e⟩ := bd e;dsimp only at e;split at e
 ·rename_i hok
  cases e;obtain ⟨d, σ1, h1, h2, h3⟩ := h s σ a s1 hs e1;obtain ⟨d', σ2, h4, h5, h6⟩ := h' s1 σ1 b _ h3 e2;cases h2;obtain ⟨o, ds, rfl, hh⟩ := l.l b d' h5;exact ⟨_, σ2, by simp only [kC, h1, h4, bind_some, vL hh, hok, if_true], rfl, h6⟩
 ·cases e
end
end TT
namespace L2
open PySem PySem.Spec PyProof.Rows
section
variable {X : Cx}
theorem wJ : CallR X (.type "int") (fun xs H Q => ∃ x n, xs = [.str x] /\ PySem.intText? x = some n /\ x.length <= 640 /\ Q (.int n) H) := by
 intro aa s σ H xs us Q I r h;obtain ⟨x, n, rfl, hn, hl, q⟩ := h;obtain ⟨u, rfl, t, rfl⟩ := iK r;exact PySem.W.KIN.call_text hn hl ⟨.int n, H, I.tok _, ⟨_, rfl⟩, q⟩
theorem wI : CallR X (.type "str") (fun xs H Q => ∃ i, xs = [.int i] /\ i.natAbs.log2 < 1920 /\ Q (.str (Str.ofString (toString i))) H) := by
 intro aa s σ H xs us Q I r h;obtain ⟨i, rfl, hl, q⟩ := h;obtain ⟨u, rfl, t, rfl⟩ := iK r;exact PySem.P.str_of_int hl ⟨.str _, H, I.tok _, ⟨_, rfl⟩, q⟩
end
end L2
namespace DD
open PySem PySem.Spec PyProof.Rows L2
noncomputable def mx : List D -> Option D
 | [.str x] => (PySem.intText? x).bind fun n => if decide (x.length <= 640) = true then some (.int n) else none
 | _ => none
noncomputable def kl : List D -> Option D
 | [.int i] => if decide (i.natAbs.log2 < 1920) = true then some (.str (Str.ofString (toString i))) else none
 | _ => none
noncomputable def cQ : D -> D -> Option D
 | .str a, .str b => if decide (a.length + b.length <= sizeLine) = true then some (.str (a ++ b)) else none
 | _, _ => none
noncomputable def sr : D -> D -> Option D
 | .str a, .str b => some (.bl (!(Builtin.Str.occurrences b a 0 b.length 1).isEmpty))
 | _, _ => none
section
variable {X : Cx}
theorem nQ {ds : List D} {d : D} (h : mx ds = some d) : ∃ x n, ds = [.str x] /\ PySem.intText? x = some n /\ x.length <= 640 /\ d = .int n := by
 unfold mx at h;split at h
 ·rename_i x
  rcases h2 : PySem.intText? x with _ | n
  ·rw [h2] at h; cases h
  ·rw [h2] at h; simp only [bind_some] at h
   split at h
   ·rename_i hs
    cases h;exact ⟨x, n, rfl, h2, of_decide_eq_true hs, rfl⟩
   ·cases h
 ·cases h
theorem Cu : gq X (.type "int") mx := by
 refine ⟨iA wJ fun vs H Q hq => ?_, fun ds d h => ?_⟩
 ·obtain ⟨F, ds, d, w, b, eg, hw, q⟩ := hq
  obtain ⟨x, n, rfl, h1, h2, rfl⟩ := nQ eg;cases hw;obtain ⟨v, rfl, bv⟩ := b.one;exact ⟨x, n, by rw [bv.str], h1, h2, q⟩
 ·obtain ⟨x, n, rfl, _, _, rfl⟩ := nQ h
  exact ⟨_, rfl⟩
theorem wL : gq X (.type "str") kl := by
 refine ⟨iA wI fun vs H Q hq => ?_, fun ds d h => ?_⟩
 ·obtain ⟨F, ds, d, w, b, eg, hw, q⟩ := hq
  unfold kl at eg;split at eg
  ·split at eg
   ·rename_i hs
    cases eg; cases hw;obtain ⟨v, rfl, bv⟩ := b.one;exact ⟨_, by rw [bv.int], of_decide_eq_true hs, q⟩
   ·cases eg
  ·cases eg
 ·unfold kl at h
  split at h
  ·split at h
   ·cases h; exact ⟨_, rfl⟩
   ·cases h
  ·cases h
theorem cR : dI X (binaryOp .Add) cQ := by
 refine ⟨kh u7 fun x y H Q hq => ?_, fun x y d h => ?_⟩
 ·obtain ⟨F, dx, dy, d, w, b1, b2, eg, hw, q⟩ := hq
  unfold cQ at eg;split at eg
  ·split at eg
   ·rename_i hs
    cases eg; cases hw;exact ⟨_, _, b1.sc rfl, b2.sc rfl, of_decide_eq_true hs, q⟩
   ·cases eg
  ·cases eg
 ·unfold cQ at h
  split at h
  ·split at h
   ·cases h; exact ⟨_, rfl⟩
   ·cases h
  ·cases h
theorem Du : dI X (compareOp .In) sr := by
 refine ⟨kh v4 fun x y H Q hq => ?_, fun x y d h => ?_⟩
 ·obtain ⟨F, dx, dy, d, w, b1, b2, eg, hw, q⟩ := hq
  unfold sr at eg;split at eg
  ·cases eg; cases hw
   exact ⟨_, _, b1.sc rfl, b2.sc rfl, q⟩
  ·cases eg
 ·unfold sr at h
  split at h
  ·cases h; exact ⟨_, rfl⟩
  ·cases h
end
end DD
namespace TT
open PySem L2 DD PySem.W
theorem Al : mQ mx (fun x : Str => (PySem.intText? x).bind fun n => if decide (x.length <= 640) = true then some n else none) rS rI := fun a c x e h => by
 cases h;dsimp only at e;rcases h2 : PySem.intText? a with _ | n
 ·rw [h2] at e; cases e
 ·rw [h2] at e; simp only [bind_some] at e
  split at e
  ·rename_i hs
   cases e;exact ⟨_, by simp only [mx, h2, bind_some, hs, if_true], rfl⟩
  ·cases e
theorem t7 : mQ kl (fun i : Int => if decide (i.natAbs.log2 < 1920) = true then some (Str.ofString (toString i)) else none) rI rS := fun a c x e h => by
 cases h;dsimp only at e;split at e
 ·rename_i hs
  cases e;exact ⟨_, by simp only [kl, hs, if_true], rfl⟩
 ·cases e
theorem cD : JO cQ (fun a b : Str => if decide (a.length + b.length <= sizeLine) = true then some (a ++ b) else none) rS rS rS := fun a b c x y e h1 h2 => by
 cases h1; cases h2;dsimp only at e;split at e
 ·rename_i hs
  cases e;exact ⟨_, by simp only [cQ, hs, if_true], rfl⟩
 ·cases e
theorem BZ : JO sr (fun a b : Str => some (!(Builtin.Str.occurrences b a 0 b.length 1).isEmpty)) rS rS rB := fun a b c x y e h1 h2 => by
 cases h1; cases h2; cases e;exact ⟨_, rfl, rfl⟩
end TT
namespace L2
open PySem PySem.Spec PyProof.Rows
section
variable {X : Cx}
theorem A1 : CH X (fun x lo hi H Q => ∃ a, x = .str a /\ a.length <= sizeLine /\ Q (.str (Txt.slice a lo hi)) H) := by
 intro aa s σ H x v vl vu lo hi sl Q I rx hs pl pu h;obtain ⟨a, rfl, hz, q⟩ := h;obtain ⟨t, rfl⟩ := rx;have fin : ∀ t' k, EP X aa σ Q (.str (Txt.slice a lo hi) t') { s with toks := k } := fun t' k => ⟨.str _, H, I.tok k, ⟨_, rfl⟩, q⟩
 refine ⟨"str", _, F.slot_str_getitem.lookup, typeIs_str _ _ _, ?_⟩;have part : ∀ {w : Value} {o : Option Int}, IsPart w o -> ∃ l : Option (Int × Tok), w = partValue l /\ o = l.map (·.1) := fun h => by
  cases h
  ·exact ⟨none, rfl, rfl⟩
  ·exact ⟨some (_, _), rfl, rfl⟩
 obtain ⟨l, rfl, rfl⟩ := part pl;obtain ⟨u, rfl, rfl⟩ := part pu;exact wpAny_getItem_str_slice (l := l) (u := u) (st := none) hs rfl (post_val_or_str ⟨Nat.le_trans (Txt.slice_le a _ _) hz, fin⟩)
end
end L2
namespace DD
open PySem PySem.Spec PyProof.Rows L2
noncomputable def lA (c : DE) (pl ph : Option DP) : DE := fun σ => (c σ).bind fun p => match p.1 with
 | .str a => if decide (a.length <= sizeLine) = true then (j3 pl p.2).bind fun l => (j3 ph p.2).map fun h => (.str (Txt.slice a l h), p.2) else none
 | _ => none
section
variable {X : Cx} {e : Expr} {lo hi : Option Expr} {pl ph : Option DP} {c : DE} {pos p2 : Pos}
theorem nA (he : QE X e c) (hl : QO X lo pl) (hh : QO X hi ph) : QE X (.Subscript e (.Slice lo hi none p2) pos) (lA c pl ph) := bc (qY A1 he hl hh) fun σ H Q hq0 => by
 obtain ⟨F, R, σD, d, σD', r, ec, k⟩ := hq0;unfold lA at ec;rcases h1 : c σD with _ | ⟨t, σ1⟩
 ·rw [h1] at ec; cases ec
 ·rw [h1] at ec; simp only [bind_some] at ec
  refine ⟨F, R, σD, t, σ1, r, h1, fun F1 H1 v x1 r1 => ?_⟩;split at ec
  ·rename_i a
   split at ec
   ·rename_i hf
    rcases h2 : j3 pl σ1 with _ | l
    ·rw [h2] at ec; cases ec
    ·rw [h2] at ec; simp only [bind_some] at ec
     rcases h3 : j3 ph σ1 with _ | h
     ·rw [h3] at ec; cases ec
     ·rw [h3] at ec; cases ec
      refine ⟨F1, _, _, l, r1, h2, fun F2 H2 g2 => ?_⟩;refine ⟨F2, _, _, h, r1.grow g2, h3, fun F3 H3 g3 => ?_⟩;have r3 := (r1.grow g2).grow g3;have bv := (r3.bor (d := .str a) (v := v) (by simp)).str;exact ⟨a, bv, of_decide_eq_true hf, k F3 H3 _ (x1.trans (g2.x.trans g3.x)) (r3.pop.scal rfl)⟩
   ·cases ec
  ·cases ec
end
end DD
namespace TT
open PySem L2 DD PySem.W
section
variable {S : Type} {Γ Γ1 : aP S} {c : DE}
theorem nK {pl ph : Option DP} {f : S -> Option (Str × S)} {fl fh : S -> Option (Option Int)} (h : JE Γ c f rS Γ1) (hl : uG Γ1 pl fl) (hh : uG Γ1 ph fh) :
  JE Γ (lA c pl ph) (fun s => (f s).bind fun p => if decide (p.1.length <= sizeLine) = true then (fl p.2).bind fun l => (fh p.2).map fun u => (Txt.slice p.1 l u, p.2) else none) rS Γ1 := fun s σ v s' hs e => by
 obtain ⟨⟨a, s1⟩, e1, e⟩ := bd e;dsimp only at e;split at e
 ·rename_i hz
  obtain ⟨l, e2, e⟩ := bd e;obtain ⟨u, e3, e⟩ := mp e;cases e;obtain ⟨d, σ1, h1, h2, h3⟩ := h s σ a _ hs e1;cases h2;exact ⟨_, σ1, by simp only [lA, h1, bind_some, hz, if_true, hl _ _ _ h3 e2, hh _ _ _ h3 e3, map_some], rfl, h3⟩
 ·cases e
end
end TT
namespace L2
open PySem PySem.Spec PyProof.Rows
noncomputable def CM (x : Str) : It := ⟨fun i _ => ∃ c, x.cps[i]? = some c, fun i H v H' => H' = H /\ ∃ c, x.cps[i]? = some c /\ v = .str ⟨#[c]⟩, fun i _ => x.cps[i]? = none⟩
theorem xh {P : Program} {w : World} {K : PySem.W.Frag} {tg : Expr} (x : Str) (t : Tok) (it : Addr) : nh P w K tg (CM x) [it] it (fun i h => h.IsStrIter it "str_ascii_iterator" x t i) where
 mem := by simp
 obj := fun i h st b hb => by
  have e : b = it := by simpa using hb
  subst e;obtain ⟨o, e, c, d⟩ := st;exact ⟨o, e, fun v z => by rw [d] at z; cases z⟩
 keep := fun i h h' st k => by
  obtain ⟨o, e, r⟩ := st;exact ⟨o, k it (by simp) o e, r⟩
 item := by
  intro X hP hw hK hc i aa s σ H E I hf st hg;subst hP hw hK;obtain ⟨c, hx⟩ := hg;obtain ⟨f0, f1, f2, f3, f4, f5⟩ := hf it (by simp);refine wpAny_pyNext_ascii_item st hx fun h' st' sb => ?_
  have I1 : Inv X aa σ H { s with heap := h', toks := s.toks + 1 } := I.turned (fun b o hb e => (sb.2 b hb).trans e) f0 f1 f3 f4 f5;obtain ⟨o, e, cl, d⟩ := id st';exact ⟨_, rfl, vj (s := { s with heap := h', toks := s.toks + 1 }) e cl d dC ⟨.str ⟨#[c]⟩, H, I1, ⟨_, rfl⟩, ⟨rfl, c, hx, rfl⟩, st', fun b hb => (hf b hb).1⟩⟩
 done := by
  intro X hP hw hK hc i aa s σ H E I hf st hg;subst hP hw hK;obtain ⟨f0, f1, f2, f3, f4, f5⟩ := hf it (by simp);exact wpAny_pyNext_ascii_end (I.ok.hd hc) st hg fun h' eb => ⟨rfl, I.turned (t' := s.toks) (fun b o hb e => eb b o hb e) f0 f1 f3 f4 f5⟩
 self := fun _ _ _ _ _ st h => wpAny_pyIter_striter_ascii st h
section
variable {X : Cx} {tg : Expr}
noncomputable def E7 (tl : TE) : TI := fun σ H R => tl σ H fun v H1 => ∃ x : Str, v = .str x /\ x.cps.all (· < 128) = true /\ R (CM x) H1
theorem Bw {l : Expr} {tl : TE} (hl : PE X l tl) : PI X tg l (E7 tl) := by
 intro aa s σ H R I h;refine bH (hl aa s σ H _ I h) fun v s1 hq0 => ?_
 obtain ⟨y, H1, I1, r1, x, e, ha, q⟩ := hq0;subst e;obtain ⟨t, rfl⟩ := (show ∃ t, v = Value.str x t from r1);refine wpAny_pyIter_ascii ha ?_;refine ⟨s1.heap.objs.size, [s1.heap.objs.size], _, _, H1, rfl, I1.kept (t' := s1.toks) fun b o e => Heap.get?_push_of_some _ e, xh x t _, ⟨_, Heap.get?_push_size _ rfl, rfl, rfl⟩, fun b hb => ?_, q⟩;have e : b = s1.heap.objs.size := by simpa using hb
 subst e;exact I1.fpOk (Nat.le_refl _) (I1.hok.fresh (Nat.le_refl _))
end
end L2
namespace DD
open PySem PySem.Spec PyProof.Rows L2
noncomputable def signs (x : Str) : List Str := x.cps.toList.map fun c => ⟨#[c]⟩
noncomputable def nT (c : DE) : DI := fun σ => (c σ).bind fun p => match p.1 with
 | .str x => if x.cps.all (· < 128) = true then some ((signs x).map D.str, p.2) else none
 | _ => none
theorem Aq {K : PySem.W.Frag} {F : Addr -> Prop} {H : Hp} {x : Str} : oz K (CM x) ((signs x).map D.str) F H where
 item := fun i d F1 H1 _ _ e => by
  unfold signs at e;rw [List.map_map, List.getElem?_map, Array.getElem?_toList] at e;rcases h : x.cps[i]? with _ | c
  ·rw [h] at e; cases e
  ·rw [h] at e; cases e
   refine ⟨⟨c, h⟩, fun v H2 hq => ?_⟩;obtain ⟨rfl, c', h', rfl⟩ := hq;rw [h] at h'; cases h';exact ⟨F1, Grow.refl, Ow.of_sc rfl⟩
 done := fun F1 H1 _ => by
  show x.cps[((signs x).map D.str).length]? = none;unfold signs;simp
section
variable {X : Cx} {tg e : Expr} {c : DE}
theorem Bi (he : QE X e c) : QI X tg e (nT c) := kg (Bw he) fun σ H R hq0 => by
 obtain ⟨F, Ro, σD, xs, σD', r, ec, k⟩ := hq0;unfold nT at ec;rcases h : c σD with _ | ⟨d, σ1⟩
 ·rw [h] at ec; cases ec
 ·rw [h] at ec; simp only [bind_some] at ec
  refine ⟨F, Ro, σD, d, σ1, r, h, fun F1 H1 v x1 r1 => ?_⟩;split at ec
  ·rename_i x
   split at ec
   ·rename_i ha
    cases ec;have bv := (r1.bor (d := .str x) (v := v) (by simp)).str;exact ⟨x, bv, ha, k F1 H1 _ x1 r1.pop Aq⟩
   ·cases ec
  ·cases ec
end
end DD
namespace TT
open PySem L2 DD PySem.W
section
variable {S : Type} {Γ Γ1 : aP S} {c : DE}
theorem B1 {f : S -> Option (Str × S)} (h : JE Γ c f rS Γ1) : JI Γ (nT c) (fun s => (f s).bind fun p => if p.1.cps.all (· < 128) = true then some (signs p.1, p.2) else none) rS Γ1 := fun s σ v s' hs e => by
 obtain ⟨⟨a, s1⟩, e1, e⟩ := bd e;dsimp only at e;split at e
 ·rename_i ha
  cases e;obtain ⟨d, σ1, h1, h2, h3⟩ := h s σ a _ hs e1;cases h2;exact ⟨_, σ1, by simp only [nT, h1, bind_some, ha, if_true], lM _, h3⟩
 ·cases e
end
end TT
namespace L2
open PySem PySem.Spec PyProof.Rows
noncomputable abbrev FV := St -> Hp -> Str -> (Str -> Hp -> Prop) -> Prop
section
variable {X : Cx} {e e1 e2 : Expr} {es : List Expr} {te : TE} {t : FV} {pos : Pos}
end
end L2
namespace DD
open PySem PySem.Spec PyProof.Rows L2
section
variable {X : Cx} {e e1 e2 : Expr} {es : List Expr} {c : DE} {cs : List DE} {pos : Pos}
end
end DD
namespace TT
open PySem L2 DD PySem.W
section
variable {S : Type} {Γ Γ1 Γ2 : aP S} {c : DE} {cs : List DE}
end
end TT
namespace DD
open PySem PySem.Spec PyProof.Rows L2
theorem qU {X : Cx} {x y : Str} {pos : Pos} (hg : Gl X x) (hm : ∃ t, X.mg x = some (.str y t)) (hd : autoParam ((x == ("__debug__" : Str)) = false) cG._auto_1) : QB X (.Name x pos) (pC (.str y)) := by
 obtain ⟨t, hm⟩ := hm;exact bc (tR (v := .str y) hg hm ⟨t, rfl⟩ hd) fun σ H Q hq => by
  obtain ⟨F, R, σD, d, r, ec, k⟩ := hq;cases ec; exact k F H _ Grow.refl ⟨[], Ow.of_sc rfl⟩
end DD
namespace TT
open PySem L2 DD PySem.W
theorem t8 : mQ fO (fun x : Str => if x.length <= sizeLine then some (x.length : Int) else none) rS rI := fun a c x e h => by
 cases h;dsimp only at e;split at e
 ·rename_i hz
  cases e;exact ⟨_, by simp only [fO, hz, if_true], rfl⟩
 ·cases e
noncomputable def uw (z : Str) (i : Int) : Option Str := if z.length <= sizeLine then (atI z.cps.toList i).map fun c => ⟨#[c]⟩ else none
theorem wu : JO dU uw rS rI rS := fun a b c x y e h1 h2 => by
 cases h1; cases h2;unfold uw at e;split at e
 ·rename_i hz
  obtain ⟨k, e1, e2⟩ := mp e;subst e2;exact ⟨_, by simp only [dU, hz, if_true, e1, map_some], rfl⟩
 ·cases e
section
variable {S : Type} {Γ Γ1 Γ2 : aP S} {c c' : DE}
end
end TT
namespace L2
open PySem PySem.Spec PyProof.Rows
end L2
namespace DD
open PySem PySem.Spec PyProof.Rows L2
section
variable {X : Cx} {e : Expr} {lo hi : Option Expr} {pl ph : Option DP} {p : DP} {pos p2 : Pos}
end
end DD
namespace TT
open PySem L2 DD PySem.W
section
variable {S : Type} {α : Type} {Γ : aP S}
end
end TT
namespace L2
open PySem PySem.Spec PyProof.Rows
end L2
namespace DD
open PySem PySem.Spec PyProof.Rows L2
section
variable {X : Cx} {st : Stmt} {sts : List Stmt} {s s1 s2 : DS} {W W1 W2 : List Nat}
end
section
variable {X : Cx} {s1 s2 : DS} {pos : Pos} {W1 W2 : List Nat} {body : List Stmt}
end
end DD
namespace TT
open PySem L2 DD
section
variable {S : Type} {α τ ρ : Type} {Γ Γ1 Γb Γ2 : aP S} {E : Ex S ρ}
end
end TT
namespace DD
open PySem PySem.Spec PyProof.Rows L2
section
variable {X : Cx} {e1 e2 : Expr} {pos : Pos}
end
end DD
namespace TT
open PySem L2 DD
section
variable {S : Type} {α β γ δ ρ : Type} {Γ : aP S}
end
end TT
namespace L2
open PySem PySem.Spec PyProof.Rows PySem.W
noncomputable abbrev Zp (h : Heap) (z TI TO : Addr) (f0 : Value) (b : Bool) : Prop := h.get? z = some { cls := .type "zip", dict := none, data := .fields #[f0, .bool b, .bool false, .ref TI, .ref TO], slots := #[] }
section
variable {prog : Program} {w : World} {A : Around} {E : Value -> Shared -> Prop} {s : Shared}
theorem w5 {z TI TO i1 i2 l1 l2 T : Addr} {b : Bool} {oT : Obj} {k1 k2 : Nat} {xs ys : Array Value} {x y : Value} {Q : Value -> Shared -> Prop} (D : ZipApart z TI TO i1 i2 l1 l2)
  (hz : Zp s.heap z TI TO (rawInt T) b) (hT : s.heap.get? T = some oT) (hTI : IsPair s.heap TI (.ref i1) (.ref i2))
  (h1 : s.heap.IsListIter i1 l1 k1) (h2 : s.heap.IsListIter i2 l2 k2) (hl1 : s.heap.IsList l1 xs) (hl2 : s.heap.IsList l2 ys) (hx : xs[k1]? = some x) (hy : ys[k2]? = some y)
  (hQ : ∀ h', Zp h' z TI TO (rawInt T) true -> h'.IsListIter i1 l1 (k1 + 1) -> h'.IsListIter i2 l2 (k2 + 1) -> IsPair h' s.heap.objs.size x y -> h'.objs.size = s.heap.objs.size + 1 ->
   (∀ c o, c ≠ z -> c ≠ i1 -> c ≠ i2 -> s.heap.get? c = some o -> h'.get? c = some o) -> Q (.ref s.heap.objs.size) { s with heap := h' }) :
  wpAny (model prog w) A (Builtin.«zip.__next__» ⟨[.ref z], []⟩) (fun fin s' => ∃ v, fin = .done (.ret v) /\ Q v s') E s := by
 have free : wpAny (model prog w) A (Builtin.SmallTypes.ownedTupleIsFree (.ref z)) (fun q s' => q = false /\ ∃ h₁, s' = { s with heap := h₁ } /\ Zp h₁ z TI TO (rawInt T) true /\ Heap.SameBut z s.heap h₁) E s := by
  unfold Builtin.SmallTypes.ownedTupleIsFree;refine wpAny_bind (wpAny_field hz rfl (x := rawInt T) rfl ?_);show wpAny _ _ (loadIfAlive ((T : Int).toNat) >>= _) _ _ _;rw [Int.toNat_natCast];refine wpAny_bind (kdx_alive hT ?_);simp only [Option.isNone_some, Bool.false_eq_true, if_false];refine wpAny_bind (wpAny_field hz rfl (x := .bool b) rfl ?_);cases b with
  | true =>
   rw [if_neg (show ¬ ((Value.bool true != Value.bool true) = true) from Bool.false_ne_true)];exact wpAny_pure ⟨rfl, s.heap, rfl, hz, Heap.SameBut.refl _ _⟩
  | false =>
   rw [if_pos (show (Value.bool false != Value.bool true) = true from rfl)];exact wpAny_bind (wpAny_setField_rec hz (by simp) fun h₁ hz₁ hs₁ => wpAny_pure ⟨rfl, h₁, rfl, hz₁, hs₁⟩)
 show wpAny _ _ (field (.ref z) 2 >>= _) _ _ _;refine wpAny_bind (wpAny_field hz rfl (x := .bool false) rfl ?_);show wpAny _ _ (field (.ref z) 3 >>= _) _ _ _;refine wpAny_bind (wpAny_field hz rfl (x := .ref TI) rfl ?_);refine wpAny_bind (wpAny_seqItems hTI rfl ?_);show wpAny _ _ (Builtin.SmallTypes.ownedTupleIsFree (.ref z) >>= _) _ _ _;refine wpAny_bind (EA free fun q s' hq => ?_);obtain ⟨rfl, h₁, rfl, hz₁, hs₁⟩ := hq;simp only [Bool.false_eq_true, if_false];refine wpAny_bind ?_;rw [<- Array.forIn_toList];simp only [List.forIn_cons, List.forIn_nil];refine wpAny_bind (wpAny_bind (wpAny_holding ?_));show wpAny _ _ (Builtin.SmallTypes.nextOf (.ref i1) >>= _) _ _ _;refine wpAny_bind (wpAny_nextOf_list_item (h1.extBut hs₁.extBut D.i1z) (hl1.extBut hs₁.extBut D.l1z) hx fun h₂ h1₂ hs₂ => wpAny_pure (wpAny_pure ?_));refine wpAny_bind (wpAny_bind (wpAny_holding ?_));show wpAny _ _ (Builtin.SmallTypes.nextOf (.ref i2) >>= _) _ _ _;refine wpAny_bind (wpAny_nextOf_list_item ((h2.extBut hs₁.extBut D.i2z).extBut hs₂.extBut D.i12.symm) ((hl2.extBut hs₁.extBut D.l2z).extBut hs₂.extBut D.l2i1) hy fun h₃ h2₃ hs₃ => wpAny_pure (wpAny_pure (wpAny_pure ?_)));refine wpAny_bind (wpAny_newTuple ?_ (by show 2 <= sizeLine; decide));have hz3 : h₃.objs.size = s.heap.objs.size := by rw [hs₃.1, hs₂.1, hs₁.1]
 have up : ∀ c o, c ≠ z -> c ≠ i1 -> c ≠ i2 -> s.heap.get? c = some o -> h₃.get? c = some o := fun c o c1 c2 c3 e => hs₃.extBut _ _ c3 (hs₂.extBut _ _ c2 (hs₁.extBut _ _ c1 e))
 refine wpAny_pure ⟨_, rfl, ?_⟩;show Q (.ref h₃.objs.size) _;rw [hz3];refine hQ (h₃.push { cls := .type "tuple", data := .seq #[x, y] }) (Heap.get?_push_of_some _ (hs₃.extBut _ _ D.i2z.symm (hs₂.extBut _ _ D.i1z.symm hz₁))) ((h1₂.extBut hs₃.extBut D.i12).at fun o e => Heap.get?_push_of_some _ e) (h2₃.at fun o e => Heap.get?_push_of_some _ e) ?_ (by rw [Heap.size_push, hz3]) (fun c o c1 c2 c3 e => Heap.get?_push_of_some _ (up c o c1 c2 c3 e));rw [<- hz3];exact Heap.get?_push_size _ rfl
theorem zo {z TI TO i1 i2 l1 l2 T : Addr} {b : Bool} {oT : Obj} {k1 k2 : Nat} {xs ys : Array Value} {x y : Value} {Q : Option Value -> Shared -> Prop} (D : ZipApart z TI TO i1 i2 l1 l2)
  (hz : Zp s.heap z TI TO (rawInt T) b) (hT : s.heap.get? T = some oT) (hTI : IsPair s.heap TI (.ref i1) (.ref i2))
  (h1 : s.heap.IsListIter i1 l1 k1) (h2 : s.heap.IsListIter i2 l2 k2) (hl1 : s.heap.IsList l1 xs) (hl2 : s.heap.IsList l2 ys) (hx : xs[k1]? = some x) (hy : ys[k2]? = some y)
  (hQ : ∀ h', Zp h' z TI TO (rawInt T) true -> h'.IsListIter i1 l1 (k1 + 1) -> h'.IsListIter i2 l2 (k2 + 1) -> IsPair h' s.heap.objs.size x y -> h'.objs.size = s.heap.objs.size + 1 ->
   (∀ c o, c ≠ z -> c ≠ i1 -> c ≠ i2 -> s.heap.get? c = some o -> h'.get? c = some o) -> Q (some (.ref s.heap.objs.size)) { s with heap := h' }) :
  wpAny (model prog w) A (pyNext (.ref z)) Q E s := by
 have hY : s.TypeIs (.ref z) "zip" := ⟨_, hz, rfl⟩;unfold pyNext;exact wpAny_bind (wpAny_attempt (wpAny_callSpecial?_slot (name := Str.ofString "__next__") hY PySem.F.slot_zip_next (wpAny_call_entry PySem.F.slot_zip_next hY PySem.F.entry_zip_next
  (w5 D hz hT hTI h1 h2 hl1 hl2 hx hy fun h' a1 a2 a3 a4 a5 a6 => wpAny_pure (hQ h' a1 a2 a3 a4 a5 a6)) (PySem.F.args_zip_next_1 _))))
theorem zn {z TI TO i1 i2 l1 l2 T : Addr} {b : Bool} {oT : Obj} {k1 : Nat} {xs : Array Value} {Q : Option Value -> Shared -> Prop} (hh : A.handled = none) (D : ZipApart z TI TO i1 i2 l1 l2)
  (hz : Zp s.heap z TI TO (rawInt T) b) (hT : s.heap.get? T = some oT) (hTI : IsPair s.heap TI (.ref i1) (.ref i2))
  (h1 : s.heap.IsListIter i1 l1 k1) (hl1 : s.heap.IsList l1 xs) (hx : xs[k1]? = none)
  (hQ : ∀ h', (∀ c o, c ≠ z -> c ≠ i1 -> s.heap.get? c = some o -> h'.get? c = some o) -> Q none { s with heap := h' }) : wpAny (model prog w) A (pyNext (.ref z)) Q E s := by
 have hY : s.TypeIs (.ref z) "zip" := ⟨_, hz, rfl⟩;have free : wpAny (model prog w) A.in1 (Builtin.SmallTypes.ownedTupleIsFree (.ref z)) (fun q s' => q = false /\ ∃ h₁, s' = { s with heap := h₁ } /\ Zp h₁ z TI TO (rawInt T) true /\ Heap.SameBut z s.heap h₁) (fun _ _ => False) s := by
  unfold Builtin.SmallTypes.ownedTupleIsFree;refine wpAny_bind (wpAny_field hz rfl (x := rawInt T) rfl ?_);show wpAny _ _ (loadIfAlive ((T : Int).toNat) >>= _) _ _ _;rw [Int.toNat_natCast];refine wpAny_bind (kdx_alive hT ?_);simp only [Option.isNone_some, Bool.false_eq_true, if_false];refine wpAny_bind (wpAny_field hz rfl (x := .bool b) rfl ?_);cases b with
  | true =>
   rw [if_neg (show ¬ ((Value.bool true != Value.bool true) = true) from Bool.false_ne_true)];exact wpAny_pure ⟨rfl, s.heap, rfl, hz, Heap.SameBut.refl _ _⟩
  | false =>
   rw [if_pos (show (Value.bool false != Value.bool true) = true from rfl)];exact wpAny_bind (wpAny_setField_rec hz (by simp) fun h₁ hz₁ hs₁ => wpAny_pure ⟨rfl, h₁, rfl, hz₁, hs₁⟩)
 unfold pyNext;refine wpAny_bind (wpAny_attempt (wpAny_callSpecial?_slot (name := Str.ofString "__next__") hY PySem.F.slot_zip_next (wpAny_call_entry PySem.F.slot_zip_next hY PySem.F.entry_zip_next ?_ (PySem.F.args_zip_next_1 _))));show wpAny _ _ (field (.ref z) 2 >>= _) _ _ _;refine wpAny_bind (wpAny_field hz rfl (x := .bool false) rfl ?_);show wpAny _ _ (field (.ref z) 3 >>= _) _ _ _;refine wpAny_bind (wpAny_field hz rfl (x := .ref TI) rfl ?_);refine wpAny_bind (wpAny_seqItems hTI rfl ?_);show wpAny _ _ (Builtin.SmallTypes.ownedTupleIsFree (.ref z) >>= _) _ _ _;refine wpAny_bind (wpAny_mono free (fun q s' hq => ?_) fun _ _ x => x.elim);obtain ⟨rfl, h₁, rfl, hz₁, hs₁⟩ := hq;simp only [Bool.false_eq_true, if_false];refine wpAny_bind ?_;rw [<- Array.forIn_toList];simp only [List.forIn_cons, List.forIn_nil];refine wpAny_bind (wpAny_bind (wpAny_holding ?_));show wpAny _ _ (Builtin.SmallTypes.nextOf (.ref i1) >>= _) _ _ _;refine wpAny_bind (wpAny_nextOf_list_end hh (h1.extBut hs₁.extBut D.i1z) (hl1.extBut hs₁.extBut D.l1z) hx fun h₂ e hs₂ he => ?_);obtain ⟨oe, hoe, hce⟩ := he;refine wpAny_bind (wpAny_isInstance (T := "StopIteration") (b := true) ⟨oe, hoe, hce⟩ isSubtype_stop ?_);exact wpAny_pure (hQ _ fun c o c1 c2 e => hs₂ c o c2 (hs₁.extBut c o c1 e))
end
noncomputable def fC : Hp -> List Addr -> List V -> List V -> Hp
 | H, a :: as, x :: xs, y :: ys => fC (aO H a (.tup [x, y])) as xs ys
 | H, _, _, _ => H
theorem wk : ∀ {as : List Addr} {H : Hp} {xs ys : List V} {a : Addr} {x y : V}, xs[as.length]? = some x -> ys[as.length]? = some y -> fC H (as ++ [a]) xs ys = aO (fC H as xs ys) a (.tup [x, y]) := by
 intro as
 induction as with
 | nil =>
  intro H xs ys a x y hx hy;cases xs with
  | nil => simp at hx
  | cons x' xs =>
   cases ys with
   | nil => simp at hy
   | cons y' ys =>
    simp at hx hy;subst hx; subst hy;cases xs <;> cases ys <;> rfl
 | cons b as ih =>
  intro H xs ys a x y hx hy;cases xs with
  | nil => simp at hx
  | cons x' xs =>
   cases ys with
   | nil => simp at hy
   | cons y' ys => exact ih (by simpa using hx) (by simpa using hy)
theorem o7 : ∀ {as : List Addr} {H : Hp} {xs ys : List V} {c : Addr}, c ∉ as -> fC H as xs ys c = H c := by
 intro as
 induction as with
 | nil => intro H xs ys c _; cases xs <;> cases ys <;> rfl
 | cons b as ih =>
  intro H xs ys c hc;cases xs with
  | nil => rfl
  | cons x xs =>
   cases ys with
   | nil => rfl
   | cons y ys =>
    show fC (aO H b _) as xs ys c = H c;rw [ih fun z => hc (List.mem_cons_of_mem _ z), aJ fun z => hc (by rw [z]; exact List.mem_cons_self)]
theorem w6 {H : Hp} {a b : Addr} {o u v : HO} (h : a ≠ b) : aO (aO (aO H b o) a u) b v = aO (aO H a u) b v := by
 funext c;by_cases hb : c = b
 ·subst hb; rw [bX, bX]
 ·rw [aJ hb, aJ hb]
  by_cases ha : c = a
  ·subst ha; rw [bX, bX]
  ·rw [aJ ha, aJ ha, aJ hb]
theorem nn {a b : Nat} (h : a < b \/ b < a) : @Ne Addr a b := fun e => by
 have e' : @Eq Nat a b := e;omega
structure ZS (X : Cx) (aa : List (Addr × Obj)) (σ : St) (H1 : Hp) (n l1 l2 : Nat) (its1 its2 : List Value) (vs us : List V) (i : Nat) (as : List Addr) (s : Shared) : Prop where
 inv : Inv X aa σ (aO (fC H1 as vs us) (n + 5) (.lst (as.map V.ref))) s
 zp : (as = [] /\ Zp s.heap (n + 4) (n + 2) (n + 3) .none false /\ ∃ a b, IsPair s.heap (n + 3) a b) \/ ∃ (T : Addr) (b : Bool) (o : Obj), Zp s.heap (n + 4) (n + 2) (n + 3) (rawInt T) b /\ s.heap.get? T = some o /\ n + 6 <= T
 to : ∃ o, s.heap.get? (n + 3) = some o
 ti : IsPair s.heap (n + 2) (.ref n) (.ref (n + 1))
 it1 : s.heap.IsListIter n l1 i
 it2 : s.heap.IsListIter (n + 1) l2 i
 ls1 : s.heap.IsList l1 its1.toArray
 ls2 : s.heap.IsList l2 its2.toArray
 lS : ∃ acc c, s.heap.get? (n + 5) = some { cls := .type "list", dict := none, data := .seq acc c, slots := #[] } /\ acc.toList = as.map Value.ref
 len : as.length = i
 lo : ∀ a ∈ as, n + 6 <= a
 up : ∀ a ∈ as, a < s.heap.objs.size
 nd : as.Nodup
 sz : n + 6 <= s.heap.objs.size
section
variable {X : Cx} {aa : List (Addr × Obj)} {σ : St} {H1 : Hp} {s1 : Shared} {l1 l2 n : Nat} {its1 its2 : List Value} {vs us : List V} {A : Around}
theorem wR (b1 : l1 < n) (b2 : l2 < n) : ZipApart (n + 4) (n + 2) (n + 3) n (n + 1) l1 l2 := by
 constructor <;> (show @Ne Nat _ _; omega)
theorem zm (I1 : Inv X aa σ H1 s1) (hn : s1.heap.objs.size = n) (b1 : l1 < n) (b2 : l2 < n) (rv1 : Vals vs its1) (rv2 : Vals us its2) (hlen : its1.length = its2.length) (hN : its1.length <= sizeLine) {i : Nat} {as : List Addr} {s : Shared} (hi : i < its1.length) (z : ZS X aa σ H1 n l1 l2 its1 its2 vs us i as s) {E : Value -> Shared -> Prop} {Q : Option Value -> Shared -> Prop}
  (hQ : ∀ h' x y, vs[i]? = some x -> us[i]? = some y -> Inv X aa σ (aO (aO (fC H1 as vs us) (n + 5) (.lst (as.map V.ref))) s.heap.objs.size (.tup [x, y])) { s with heap := h' } -> (∃ (T : Addr) (b : Bool) (o : Obj), Zp h' (n + 4) (n + 2) (n + 3) (rawInt T) b /\ h'.get? T = some o /\ n + 6 <= T) ->
   h'.IsListIter n l1 (i + 1) -> h'.IsListIter (n + 1) l2 (i + 1) -> h'.objs.size = s.heap.objs.size + 1 -> (∃ o, h'.get? s.heap.objs.size = some o) -> (∃ o, h'.get? (n + 3) = some o) -> (∀ c o, c ≠ n + 4 -> c ≠ n + 3 -> c ≠ n -> c ≠ n + 1 -> s.heap.get? c = some o -> h'.get? c = some o) -> Q (some (.ref s.heap.objs.size)) { s with heap := h' }) :
  wpAny (model X.prog X.w) A (pyNext (.ref (n + 4))) Q E s := by
 have D := wR (n := n) b1 b2;obtain ⟨u1, hu1⟩ : ∃ u, its1[i]? = some u := ⟨its1[i], by simp [hi]⟩;obtain ⟨u2, hu2⟩ : ∃ u, its2[i]? = some u := ⟨its2[i]'(by omega), by simp [show i < its2.length by omega]⟩;have lv1 := rv1.length;have lv2 := rv2.length;obtain ⟨x, hx⟩ : ∃ x, vs[i]? = some x := ⟨vs[i]'(by omega), by simp [show i < vs.length by omega]⟩;obtain ⟨y, hy⟩ : ∃ y, us[i]? = some y := ⟨us[i]'(by omega), by simp [show i < us.length by omega]⟩;have ru1 : RelV x u1 := by obtain ⟨u, e, r⟩ := rv1.get hx; rw [hu1] at e; cases e; exact r
 have ru2 : RelV y u2 := by obtain ⟨u, e, r⟩ := rv2.get hy; rw [hu2] at e; cases e; exact r
 have fp : ∀ c, n <= c -> c < n + 5 -> fg X aa (aO (fC H1 as vs us) (n + 5) (.lst (as.map V.ref))) c := fun c h1 h2 => by
  refine I1.fpOk (by rw [hn]; exact h1) ?_;rw [aJ (nn oM), o7 (fun hc => by have := z.lo c hc; omega)];exact I1.hok.fresh (by rw [hn]; exact h1)
 have hsz := z.sz;have fin : ∀ h' : Heap, (∃ (T : Addr) (b : Bool) (o : Obj), Zp h' (n + 4) (n + 2) (n + 3) (rawInt T) b /\ h'.get? T = some o /\ n + 6 <= T) -> h'.IsListIter n l1 (i + 1) -> h'.IsListIter (n + 1) l2 (i + 1) -> IsPair h' s.heap.objs.size u1 u2 -> h'.objs.size = s.heap.objs.size + 1 -> (∃ o, h'.get? (n + 3) = some o) ->
   (∀ c o, c ≠ n + 4 -> c ≠ n + 3 -> c ≠ n -> c ≠ n + 1 -> s.heap.get? c = some o -> h'.get? c = some o) -> Q (some (.ref s.heap.objs.size)) { s with heap := h' } := fun h' a1 a3 a4 a5 a6 a7 hk => by
  refine hQ h' x y hx hy ?_ a1 a3 a4 a6 ⟨_, a5⟩ a7 hk;refine z.inv.turnT (ch := [n + 4, n + 3, n, n + 1]) (fun c hc => ?_) ru1 ru2 (fun c o hc e => hk c o (fun q => hc (by simp [q])) (fun q => hc (by simp [q])) (fun q => hc (by simp [q])) (fun q => hc (by simp [q])) e) a5 (fun c hc => ?_)
  ·simp only [List.mem_cons, List.not_mem_nil, or_false] at hc
   rcases hc with rfl | rfl | rfl | rfl <;> exact fp _ oM oM
  ·simp only [List.mem_cons, List.not_mem_nil, or_false] at hc
   obtain ⟨T, b, o, q, _⟩ := a1;obtain ⟨o1, e1, _⟩ := id a3;obtain ⟨o2, e2, _⟩ := id a4;rcases hc with rfl | rfl | rfl | rfl
   ·exact ⟨_, q⟩
   ·exact a7
   ·exact ⟨_, e1⟩
   ·exact ⟨_, e2⟩
 rcases z.zp with ⟨_, hz, ua, ub, hTO⟩ | ⟨T, b, o, hz, hT, hTn⟩
 ·refine wpAny_pyNext_zip_item D hz z.ti hTO z.it1 z.it2 z.ls1 z.ls2 (x := u1) (y := u2) (by simpa using hu1) (by simpa using hu2) fun h' a1 a2 a3 a4 a5 a6 hk => ?_
  exact fin h' ⟨s.heap.objs.size, false, _, a1, a5, hsz⟩ a3 a4 a5 a6 ⟨_, a2⟩ hk
 ·refine zo D hz hT z.ti z.it1 z.it2 z.ls1 z.ls2 (x := u1) (y := u2) (by simpa using hu1) (by simpa using hu2) fun h' a1 a3 a4 a5 a6 hk => ?_
  obtain ⟨o3, e3⟩ := z.to;exact fin h' ⟨T, true, o, a1, hk T o (nn oM) (nn oM) (nn oM) hT, hTn⟩ a3 a4 a5 a6 ⟨o3, hk _ _ (nn oM) (nn oM) (nn oM) e3⟩ (fun c o c1 c2 c3 c4 e => hk c o c1 c3 c4 e)
theorem Aa (I1 : Inv X aa σ H1 s1) (hn : s1.heap.objs.size = n) (b1 : l1 < n) (b2 : l2 < n) (rv1 : Vals vs its1) (rv2 : Vals us its2) (hlen : its1.length = its2.length) (hN : its1.length <= sizeLine) (h1 : 1 <= its1.length) (hh : A.handled = none) {R : Result -> Shared -> Prop} (res : Value)
  (hR : ∀ s' as, Inv X aa σ (aO (fC H1 as vs us) (n + 5) (.lst (as.map V.ref))) s' -> as.length = its1.length -> as.Nodup -> (∀ a ∈ as, n + 6 <= a) -> R (.ok (.ret res)) s') :
  ∀ (k i : Nat) (as : List Addr) (s : Shared), its1.length - i = k -> i <= its1.length -> ZS X aa σ H1 n l1 l2 its1 its2 vs us i as s -> codeAny (model X.prog X.w) A (.builtin "list.extend.loop" ⟨[.ref (n + 5), .ref (n + 4), res], []⟩) R s := by
 have D := wR (n := n) b1 b2;intro k
 induction k with
 | zero =>
  intro i as s hk hi z;have ei : i = its1.length := by omega
  subst ei;refine codeAny_builtin PySem.F.entry_extend_loop ?_;rw [Around.under_plainId PySem.F.plain_extend_loop _];show wpAny _ A.in1 (pyNext (.ref (n + 4)) >>= _) _ _ s;rcases z.zp with ⟨e0, _⟩ | ⟨T, b, o, hz, hT, hTn⟩
  ·have := z.len
   rw [e0] at this;simp at this;omega
  ·refine wpAny_bind (zn (A := A.in1) hh D hz hT z.ti z.it1 z.ls1 (by simp) fun h' hk' => ?_)
   refine wpAny_pure (hR _ as ?_ z.len z.nd z.lo);refine z.inv.turnN (ch := [n + 4, n]) (fun c hc => ?_) (fun c o hc e => hk' c o (fun q => hc (by simp [q])) (fun q => hc (by simp [q])) e);have fp : ∀ c, n <= c -> c < n + 5 -> fg X aa (aO (fC H1 as vs us) (n + 5) (.lst (as.map V.ref))) c := fun c h1 h2 => by
    refine I1.fpOk (by rw [hn]; exact h1) ?_;rw [aJ (nn oM), o7 (fun hc => by have := z.lo c hc; omega)];exact I1.hok.fresh (by rw [hn]; exact h1)
   simp only [List.mem_cons, List.not_mem_nil, or_false] at hc;rcases hc with rfl | rfl <;> exact fp _ oM oM
 | succ k ih =>
  intro i as s hk hi z;refine codeAny_builtin PySem.F.entry_extend_loop ?_;rw [Around.under_plainId PySem.F.plain_extend_loop _];show wpAny _ A.in1 (pyNext (.ref (n + 4)) >>= _) _ _ s;refine wpAny_bind (zm I1 hn b1 b2 rv1 rv2 hlen hN oM z fun h' x y hx hy inv' a1 a3 a4 a6 a5 a7 hkp => ?_);obtain ⟨acc, c, hS, hacc⟩ := z.lS;have hS' := hkp (n + 5) _ (nn oM) (nn oM) (nn oM) (nn oM) hS;have hsz := z.sz;have hal : acc.size = i := by rw [<- Array.length_toList, hacc, List.length_map, z.len]
  have up : ∀ b o, b ≠ n + 5 -> h'.get? b = some o -> (h'.update (n + 5) (Obj.mapSeq (·.push (Value.ref s.heap.objs.size)))).get? b = some o := fun b o hb e => (Heap.get?_update_other _ _ (Ne.symm hb)).trans e
  have hnew := Heap.get?_update_self (Obj.mapSeq (·.push (Value.ref s.heap.objs.size))) hS' rfl;have hacc2 : (acc.push (Value.ref s.heap.objs.size)).toList = (as ++ [s.heap.objs.size]).map Value.ref := by rw [Array.toList_push, hacc, List.map_append]; rfl
  show wpAny _ A.in1 (updateSeq (n + 5) (·.push (Value.ref s.heap.objs.size)) >>= _) _ _ _;refine wpAny_bind ?_;refine wpAny_updateSeq hS' rfl (wpAny_pure ⟨plainId_quiet PySem.F.plain_extend_loop _, ih (i + 1) (as ++ [s.heap.objs.size]) _ oM oM ?_⟩) (by rw [hal]; omega) (by show (acc.push (Value.ref s.heap.objs.size)).size <= sizeLine + 1; rw [Array.size_push, hal]; omega);have hsize : (h'.update (n + 5) (Obj.mapSeq (·.push (Value.ref s.heap.objs.size)))).objs.size = s.heap.objs.size + 1 := by
   rw [(Heap.SameBut.update ..).1, a6]
  refine ⟨?_, .inr ?_, ?_, up _ _ (nn oM) (hkp _ _ (nn oM) (nn oM) (nn oM) (nn oM) z.ti), a3.at fun o e => up _ o (nn oM) e, a4.at fun o e => up _ o (nn oM) e, z.ls1.at fun o e => up _ o (nn oM) (hkp _ o (nn oM) (nn oM) (nn oM) (nn oM) e),
   z.ls2.at fun o e => up _ o (nn oM) (hkp _ o (nn oM) (nn oM) (nn oM) (nn oM) e), ⟨_, _, hnew, hacc2⟩, by rw [List.length_append, z.len]; rfl, ?_, ?_, ?_, ?_⟩
  ·have q := inv'.write (x := n + 5) (e := n + 5) (o := .lst ((as ++ [s.heap.objs.size]).map V.ref)) (t' := s.toks) (h' := h'.update (n + 5) (Obj.mapSeq (·.push (Value.ref s.heap.objs.size)))) (by
    rw [aJ (nn oM), bX]; exact trivial) (.inl rfl) (fun b u hb e => up b u hb e) ⟨_, hnew⟩ ⟨by rw [List.length_map, List.length_append, z.len]; show i + 1 <= sizeLine; omega, (as ++ [s.heap.objs.size]).map Value.ref, _, pB _, by rw [<- hacc2, Array.toArray_toList]; exact hnew⟩
   rw [w6 (nn oM), <- wk (by rw [z.len]; exact hx) (by rw [z.len]; exact hy)] at q;exact q
  ·obtain ⟨T, b, o, q1, q2, q3⟩ := a1
   exact ⟨T, b, o, up _ _ (nn oM) q1, up _ _ (nn oM) q2, q3⟩
  ·obtain ⟨o, e⟩ := a7
   exact ⟨o, up _ _ (nn oM) e⟩
  ·intro a ha
   rcases List.mem_append.mp ha with ha | ha
   ·exact z.lo a ha
   ·rw [List.mem_singleton.mp ha]; exact hsz
  ·intro a ha
   show a < (h'.update (n + 5) (Obj.mapSeq (·.push (Value.ref s.heap.objs.size)))).objs.size;rw [hsize];rcases List.mem_append.mp ha with ha | ha
   ·exact Nat.lt_succ_of_lt (z.up a ha)
   ·rw [List.mem_singleton.mp ha]; exact Nat.lt_succ_self _
  ·refine List.nodup_append.mpr ⟨z.nd, List.pairwise_singleton _ _, fun a ha b hb => ?_⟩
   rw [List.mem_singleton.mp hb];exact Nat.ne_of_lt (z.up a ha)
  ·show n + 6 <= (h'.update (n + 5) (Obj.mapSeq (·.push (Value.ref s.heap.objs.size)))).objs.size
   rw [hsize]; omega
end
theorem vA : typeLookup (.type "zip") "__len__" = pure none := by rw [typeLookup_type, builtinLookup_eq_fast]; kernel_rfl
theorem uK : typeLookup (.type "zip") "__length_hint__" = pure none := by rw [typeLookup_type, builtinLookup_eq_fast]; kernel_rfl
section
variable {X : Cx} {aa : List (Addr × Obj)} {σ : St} {H1 : Hp} {s1 : Shared} {l1 l2 : Nat} {its1 its2 : List Value} {vs us : List V} {A : Around} {E : Value -> Shared -> Prop}
theorem sG {h0 : Heap} {tk : Nat} {Q : Value -> Shared -> Prop} (I1 : Inv X aa σ H1 s1) (b1 : l1 < s1.heap.objs.size) (b2 : l2 < s1.heap.objs.size) (rv1 : Vals vs its1) (rv2 : Vals us its2) (hlen : its1.length = its2.length) (hN : its1.length <= sizeLine) (h1 : 1 <= its1.length) (hh : A.handled = none)
  (p1 : s1.heap.IsList l1 its1.toArray) (p2 : s1.heap.IsList l2 its2.toArray) (hz : Zp h0 (s1.heap.objs.size + 4) (s1.heap.objs.size + 2) (s1.heap.objs.size + 3) .none false) (hTI : IsPair h0 (s1.heap.objs.size + 2) (.ref s1.heap.objs.size) (.ref (s1.heap.objs.size + 1))) (hTO : IsPair h0 (s1.heap.objs.size + 3) .none .none)
  (i1 : h0.IsListIter s1.heap.objs.size l1 0) (i2 : h0.IsListIter (s1.heap.objs.size + 1) l2 0) (hsz : h0.objs.size = s1.heap.objs.size + 5) (hk : ∀ c o, s1.heap.get? c = some o -> h0.get? c = some o)
  (hQ : ∀ s' as, Inv X aa σ (aO (fC H1 as vs us) (s1.heap.objs.size + 5) (.lst (as.map V.ref))) s' -> as.length = its1.length -> as.Nodup -> (∀ a ∈ as, s1.heap.objs.size + 6 <= a) -> Q (.ref (s1.heap.objs.size + 5)) s') :
  wpAny (model X.prog X.w) A (call (.type "list") [.ref (s1.heap.objs.size + 4)]) Q E { s1 with heap := h0, toks := tk } := by
 generalize hn : s1.heap.objs.size = n at *;have I2 : Inv X aa σ H1 { s1 with heap := h0, toks := tk } := I1.kept (t' := tk) hk;refine callType_codes (Q₁ := fun obj s₁ => obj = .ref (n + 5) /\ s₁ = { s1 with heap := h0.push { cls := .type "list", data := .seq #[] }, toks := tk }) PySem.F.called_list (PySem.F.typeCall_list_1 _) PySem.F.entry_list_init
  (code_list_new _ ⟨by show Value.ref h0.objs.size = _; rw [hsz], rfl⟩) fun obj s₁ hq => ?_
 obtain ⟨rfl, rfl⟩ := hq;have hS : (h0.push { cls := .type "list", data := .seq #[] }).get? (n + 5) = some { cls := .type "list", data := .seq #[] } := by rw [<- hsz]; exact Heap.get?_push_size _ rfl
 refine ⟨⟨_, hS, rfl⟩, PySem.F.args_list_init_2 _ _, ?_⟩;show wpAny _ _ (do let old <- Builtin.List.listItems (.ref (n + 5)); Builtin.List.listUpdate (.ref (n + 5)) (fun _ => #[]); letGo old.toList.reverse; Builtin.List.listExtendWith (.ref (n + 5)) (.ref (n + 4)) .none) _ _ _;refine wpAny_bind ?_;unfold Builtin.List.listItems;refine wpAny_bind (wpAny_seqItems hS rfl (wpAny_pure ?_));show wpAny _ _ (updateSeq (n + 5) (fun _ => #[]) >>= fun _ => letGo (#[] : Array Value).toList.reverse >>= fun _ => Builtin.List.listExtendWith (.ref (n + 5)) (.ref (n + 4)) .none) _ _ _;refine wpAny_bind (wpAny_updateSeq hS rfl ?_);have hS2 := Heap.get?_update_self (Obj.mapSeq (fun _ => (#[] : Array Value))) hS rfl;refine wpAny_bind (wpAny_letGo ?_);generalize hg2 : (h0.push { cls := .type "list", data := .seq #[] }).update (n + 5) (Obj.mapSeq (fun _ => (#[] : Array Value))) = g2 at hS2;have k2 : ∀ b o, b ≠ n + 5 -> h0.get? b = some o -> g2.get? b = some o := fun b o hb e => by
  rw [<- hg2]; exact (Heap.get?_update_other _ _ (Ne.symm hb)).trans (Heap.get?_push_of_some _ e)
 have z2 : g2.objs.size = n + 6 := by rw [<- hg2, (Heap.SameBut.update ..).1, Heap.size_push, hsz]
 have hz2 := k2 _ _ (nn oM) hz;have hY : Shared.TypeIs { s1 with heap := g2, toks := tk } (.ref (n + 4)) "zip" := ⟨_, hz2, rfl⟩;unfold Builtin.List.listExtendWith;refine wpAny_bind (wpAny_typeOf hY ?_);have e1 : Builtin.List.listSameRef (.ref (n + 5)) (.ref (n + 4)) = false := by simp [Builtin.List.listSameRef]
 have e2 : (Value.type "zip" == Value.type "list") = false := by decide
 have e3 : (Value.type "zip" == Value.type "tuple") = false := by decide
 simp only [e1, e2, e3, Bool.or_false, Bool.false_eq_true, if_false];refine wpAny_bind (wpAny_pyIter_zip hz2 ?_);refine wpAny_bind (wpAny_holding ?_);unfold Builtin.List.listLengthHint;refine wpAny_bind (wpAny_specialOf hY vA ?_);show wpAny _ _ (specialOf (Value.ref (n + 4)) (Str.ofString "__length_hint__") >>= _) _ _ _;refine wpAny_bind (wpAny_specialOf hY uK ?_);refine wpAny_pure ?_;show wpAny _ _ (rule "list.extend.makes-room" >>= fun _ => Builtin.List.listTouch (.ref (n + 5)) >>= fun _ => again (.builtin "list.extend.loop" ⟨[.ref (n + 5), .ref (n + 4), .none], []⟩)) _ _ _;refine wpAny_bind (wpAny_rule ?_);refine wpAny_bind ?_;show wpAny _ _ (updateSeq (n + 5) (·.push .none) >>= fun _ => updateSeq (n + 5) (·.pop)) _ _ _;refine wpAny_bind (wpAny_updateSeq hS2 rfl ?_);have hS3 := Heap.get?_update_self (Obj.mapSeq (·.push Value.none)) hS2 rfl;refine wpAny_updateSeq (hz := by seq_fits) hS3 rfl ?_;have hS4 := Heap.get?_update_self (Obj.mapSeq (·.pop)) hS3 rfl;generalize hg4 : (g2.update (n + 5) (Obj.mapSeq (·.push Value.none))).update (n + 5) (Obj.mapSeq (·.pop)) = g4 at hS4;have k4 : ∀ b o, b ≠ n + 5 -> h0.get? b = some o -> g4.get? b = some o := fun b o hb e => by
  rw [<- hg4]; exact (Heap.get?_update_other _ _ (Ne.symm hb)).trans ((Heap.get?_update_other _ _ (Ne.symm hb)).trans (k2 b o hb e))
 have z4 : g4.objs.size = n + 6 := by rw [<- hg4, (Heap.SameBut.update ..).1, (Heap.SameBut.update ..).1, z2]
 refine wpAny_pure ⟨plainId_quiet PySem.F.plain_extend_loop _, ?_⟩;refine Aa (A := A.in1) I1 hn b1 b2 rv1 rv2 hlen hN h1 hh .none (fun s' as q1 q2 q3 q4 => ⟨rfl, hQ s' as q1 q2 q3 q4⟩) its1.length 0 [] _ oM oM ?_;have ne5 : ∀ b o, h0.get? b = some o -> b ≠ n + 5 := fun b o e => by
  have := Heap.lt_size e
  rw [hsz] at this;exact Nat.ne_of_lt this
 refine ⟨?_, .inl ⟨rfl, k4 _ _ (nn oM) hz, _, _, k4 _ _ (nn oM) hTO⟩, ⟨_, k4 _ _ (nn oM) hTO⟩, k4 _ _ (nn oM) hTI, i1.at fun o e => k4 _ o (nn oM) e, i2.at fun o e => k4 _ o (nn oM) e, p1.at fun o e => k4 _ o (nn oM) (hk _ o e), p2.at fun o e => k4 _ o (nn oM) (hk _ o e),
  ⟨_, _, hS4, rfl⟩, rfl, (fun a ha => nomatch ha), (fun a ha => nomatch ha), List.nodup_nil, by show n + 6 <= g4.objs.size; rw [z4]; exact Nat.le_refl _⟩
 have q := I2.laid (a := n + 5) (o := .lst []) (h' := g4) (t' := tk) (fun b u e => k4 b u (ne5 b u e) e) (by show h0.objs.size <= n + 5; rw [hsz]; exact Nat.le_refl _) ⟨Nat.zero_le _, [], _, .nil, hS4⟩;have e : fC H1 [] vs us = H1 := by cases vs <;> cases us <;> rfl
 rw [e];exact q
end
theorem vw : bootBuiltins "list" = some (.type "list") := by decide +kernel
theorem wO : bootBuiltins "zip" = some (.type "zip") := by decide +kernel
noncomputable def Fn (K : PySem.W.Frag) (ta : TA) : TE := fun σ H Q => ta σ H fun ws H1 => ∃ a b xs ys, ws = [.ref a, .ref b] /\ dH K H1 a xs /\ dH K H1 b ys /\ xs.length = ys.length /\ 1 <= xs.length /\ ∀ S as, H1 S = none -> S ∉ as -> as.length = xs.length -> as.Nodup -> (∀ c ∈ as, H1 c = none) -> Q (.ref S) (aO (fC H1 as xs ys) S (.lst (as.map V.ref)))
section
variable {X : Cx} {a b : Expr} {ta : TA} {p1 p2 pos pos2 : Pos}
theorem u5 (hc : X.calm = true) (hg : Gl X "list") (hm : X.mg "list" = none) (hg2 : Gl X "zip") (hm2 : X.mg "zip" = none) (ha : PA X [a, b] ta) (hs : autoParam (starEach [a, b] X.env = [(false, eval a X.env), (false, eval b X.env)]) aI._auto_1) (hs2 : autoParam (starEach [b] X.env = [(false, eval b X.env)]) aI._auto_1)
  (hs3 : autoParam (starEach [Expr.Call (.Name "zip" p2) [a, b] [] pos2] X.env = [(false, eval (.Call (.Name "zip" p2) [a, b] [] pos2) X.env)]) aI._auto_1) :
  PE X (.Call (.Name "list" p1) [.Call (.Name "zip" p2) [a, b] [] pos2] [] pos) (Fn X.K ta) := by
 intro aa s σ H Q I h;refine Call_ (gO I hg hm vw (PyProof.Rows.callWith_type1 ?_ (by rw [hs3]; rfl) (by rfl)));rw [hs3];show wpAny _ _ (spliced [(false, eval (.Call (.Name "zip" p2) [a, b] [] pos2) X.env)]) _ _ s;refine Calls.spliced_cons (Call_ (gO I hg2 hm2 wO (PyProof.Rows.callWith_type1 (bH (ha pos2 aa s σ H _ I h) fun us s1 hq0 => ?_) (by rw [hs, hs2]) (by rw [hs2]; rfl))));obtain ⟨ws, H1, I1, r1, l1, l2, xs, ys, e, hq1, hq2, hxy, h1, q⟩ := hq0;subst e;cases r1 with
 | cons r rr =>
  cases rr with
  | cons r' rr =>
   cases rr;cases r;cases r';obtain ⟨its1, rv1, p1, hz1⟩ := I1.list hq1;obtain ⟨its2, rv2, p2, hz2⟩ := I1.list hq2;have lv1 := rv1.length;have lv2 := rv2.length;have b1 : l1 < s1.heap.objs.size := by obtain ⟨o, e, _⟩ := p1.isList; exact Heap.lt_size e
   have b2 : l2 < s1.heap.objs.size := by obtain ⟨o, e, _⟩ := p2.isList; exact Heap.lt_size e
   refine call_zip_2 p1.isList p2.isList fun h' hz hTI hTO i1 i2 hsz hk => ?_
   refine Calls.spliced_nil ?_;refine sG (tk := s1.toks) I1 b1 b2 rv1 rv2 oM oM oM (I.ok.hd hc) p1.isList p2.isList hz hTI hTO i1 i2 hsz hk fun s' as inv hl hnd hlo => ?_
   refine ⟨.ref (s1.heap.objs.size + 5), _, inv, rfl, q _ as (I1.hok.fresh (Nat.le_add_right _ _)) (fun hc => ?_) oM hnd (fun c hc => I1.hok.fresh ?_)⟩
   ·exact absurd (hlo _ hc) oM
   ·have := hlo c hc
    omega
end
end L2
namespace DD
open PySem PySem.Spec PyProof.Rows L2
noncomputable def oE : List D -> List D -> List D
 | x :: xs, y :: ys => .tup [x, y] :: oE xs ys
 | _, _ => []
noncomputable def wF (ca : DA) : DE := fun σ => (ca σ).bind fun p => match p.1 with
 | [.lst _ xs, .lst _ ys] => if xs.length = ys.length /\ 1 <= xs.length then some (.lst true (oE (D.fzL xs) (D.fzL ys)), p.2) else none
 | _ => none
theorem wj {K : PySem.W.Frag} : ∀ {as : List Addr} {F : Addr -> Prop} {H : Hp} {dx dy : List D} {vs us : List V}, (∀ a, F a -> ∃ o, H a = some o) -> OwL K F H dx vs [] -> OwL K F H dy us [] -> as.length = vs.length -> as.length = us.length -> as.Nodup -> (∀ c ∈ as, H c = none) ->
  ∃ F', Grow F H F' (fC H as vs us) /\ OwL K F' (fC H as vs us) (oE dx dy) (as.map V.ref) [] := by
 intro as
 induction as with
 | nil =>
  intro F H dx dy vs us dm ox oy hv hu _ _;cases vs with
  | cons v vs => simp at hv
  | nil =>
   cases dx with
   | nil => exact ⟨F, Grow.refl, by simp only [oE, List.map_nil, OwL]; exact ⟨trivial, trivial⟩⟩
   | cons x dx =>
    simp only [OwL] at ox;obtain ⟨v, ws, L1, L2, e, _⟩ := ox;cases e
 | cons a as ih =>
  intro F H dx dy vs us dm ox oy hv hu hnd hno;cases vs with
  | nil => simp at hv
  | cons v vs =>
   cases us with
   | nil => simp at hu
   | cons u us =>
    cases dx with
    | nil => simp only [OwL] at ox; cases ox.1
    | cons x dx =>
     cases dy with
     | nil => simp only [OwL] at oy; cases oy.1
     | cons y dy =>
      simp only [OwL] at ox oy;obtain ⟨v', vs', L1, L2, e1, ox1, ox2, eL⟩ := ox;obtain ⟨u', us', L3, L4, e2, oy1, oy2, eM⟩ := oy;cases e1; cases e2;obtain ⟨rfl, rfl⟩ := List.append_eq_nil_iff.mp eL.symm;obtain ⟨rfl, rfl⟩ := List.append_eq_nil_iff.mp eM.symm;have ha := hno a (by simp);have gr := sn (us := [v, u]) dm ha;have nodup := List.nodup_cons.mp hnd;have up : ∀ c ∈ as, aO H a (.tup [v, u]) c = none := fun c hc => by
       rw [aJ (show c ≠ a from fun z => nodup.1 (by rw [<- z]; exact hc))];exact hno c (by simp [hc])
      have dm2 : ∀ c, (F c \/ c = a) -> ∃ o, aO H a (.tup [v, u]) c = some o := gr.dm dm;obtain ⟨F', g', o'⟩ := ih dm2 (ox2.mono gr.x fun b hb => by cases hb) (oy2.mono gr.x fun b hb => by cases hb) (by simpa using hv) (by simpa using hu) nodup.2 up;refine ⟨F', gr.trans g', ?_⟩;show OwL K F' (fC (aO H a (.tup [v, u])) as vs us) (.tup [x, y] :: oE dx dy) (.ref a :: as.map V.ref) [];have fa := g'.x a (.inr rfl);simp only [OwL, Ow];refine ⟨_, _, [], [], rfl, ⟨a, [v, u], rfl, .inl ⟨fa.1, fa.2.trans bX⟩, v, [u], [], [], rfl, (ox1.mono gr.x fun b hb => by cases hb).mono g'.x (fun b hb => by cases hb), ⟨u, [], [], [], rfl, (oy1.mono gr.x fun b hb => by cases hb).mono g'.x (fun b hb => by cases hb), ⟨rfl, rfl⟩, rfl⟩, rfl⟩, o', rfl⟩
section
variable {X : Cx} {a b : Expr} {ca : DA} {p1 p2 pos pos2 : Pos}
theorem uX (hc : X.calm = true) (hg : Gl X "list") (hm : X.mg "list" = none) (hg2 : Gl X "zip") (hm2 : X.mg "zip" = none) (ha : QA X [a, b] ca) (hs : autoParam (starEach [a, b] X.env = [(false, eval a X.env), (false, eval b X.env)]) aI._auto_1) (hs2 : autoParam (starEach [b] X.env = [(false, eval b X.env)]) aI._auto_1)
  (hs3 : autoParam (starEach [Expr.Call (.Name "zip" p2) [a, b] [] pos2] X.env = [(false, eval (.Call (.Name "zip" p2) [a, b] [] pos2) X.env)]) aI._auto_1) :
  QE X (.Call (.Name "list" p1) [.Call (.Name "zip" p2) [a, b] [] pos2] [] pos) (wF ca) := bc (u5 hc hg hm hg2 hm2 ha hs hs2 hs3) fun σ H Q hq0 => by
 obtain ⟨F, R, σD, d, σD', r, ec, k⟩ := hq0;unfold wF at ec;rcases h1 : ca σD with _ | ⟨ds, σ1⟩
 ·rw [h1] at ec; cases ec
 ·rw [h1] at ec; simp only [bind_some] at ec
  split at ec
  ·rename_i o1 xs o2 ys
   split at ec
   ·rename_i hl
    cases ec;refine ⟨F, R, σD, _, _, r, h1, fun F1 H1 ws x1 hlw r1 => ?_⟩;obtain ⟨w1, w2, rfl⟩ : ∃ w1 w2, ws = [w1, w2] := by
     match ws, hlw with
     | [a, b], _ => exact ⟨a, b, rfl⟩
    have r1' : Rel X.K F1 H1 _ σ ((.lst o1 xs, w1) :: (.lst o2 ys, w2) :: R) := r1;obtain ⟨F2, x2, r2, ow1⟩ := r1'.freeze;obtain ⟨F3, x3, r3, ow2⟩ := (r2.pop).freeze;have ow1' := ow1.mono x3 (fun b hb => by cases hb);simp only [D.fz, Ow] at ow1' ow2;obtain ⟨a1, vs, rfl, fl1, ol1, _⟩ := ow1';obtain ⟨a2, us, rfl, fl2, ol2, _⟩ := ow2;have lv : vs.length = xs.length := by have := ol1.length; rw [ue] at this; omega
    have lu : us.length = ys.length := by have := ol2.length; rw [ue] at this; omega
    refine ⟨a1, a2, vs, us, rfl, fl1.sq, fl2.sq, by omega, by omega, fun S as hS hSa hal hnd hno => ?_⟩;obtain ⟨F4, g4, ol⟩ := wj (r3.g.dom) ol1 ol2 oM oM hnd hno;have r4 := (r3.pop).grow g4;have hS4 : fC H1 as vs us S = none := by rw [o7 hSa]; exact hS
    obtain ⟨r5, x5⟩ := (Rel.pushL ol r4).layL ol.length.symm hS4;exact k F4 _ _ (x1.trans (x2.trans (x3.trans (g4.x.trans x5)))) r5
   ·cases ec
  ·cases ec
end
end DD
namespace TT
open PySem L2 DD
section
variable {S : Type} {α β : Type} {Γ Γ1 : aP S}
theorem wT {ra : Rl α} {rb : Rl β} : ∀ {as : List α} {bs : List β} {dx dy : List D}, All2 ra as dx -> All2 rb bs dy -> All2 (cL ra rb) (as.zip bs) (oE dx dy) := by
 intro as
 induction as with
 | nil =>
  intro bs dx dy h1 h2;cases h1;cases dy <;> exact .nil
 | cons a as ih =>
  intro bs dx dy h1 h2;cases h1 with
  | cons h1 h1' =>
   cases h2 with
   | nil => exact .nil
   | cons h2 h2' => exact .cons ⟨_, _, rfl, h1, h2⟩ (ih h1' h2')
theorem DF {rl : Rl (List α)} {ra ra' : Rl α} {rm : Rl (List β)} {rb rb' : Rl β} [l : Ls rl ra] [k : Fz ra ra'] [l2 : Ls rm rb] [k2 : Fz rb rb'] {Γ2 : aP S} {c c' : DE} {f : S -> Option (List α × S)} {g : S -> Option (List β × S)} (h : JE Γ c f rl Γ1) (h' : JE Γ1 c' g rm Γ2) :
  JE Γ (wF (am c (am c' bg))) (fun s => (f s).bind fun p => (g p.2).bind fun q => if decide (p.1.length = q.1.length /\ 1 <= p.1.length) = true then some (p.1.zip q.1, q.2) else none) (rL (cL ra' rb')) Γ2 := fun s σ v s' hs e => by
 obtain ⟨⟨a, s1⟩, e1, e⟩ := bd e;obtain ⟨⟨b, s2⟩, e2, e⟩ := bd e;dsimp only at e;split at e
 ·rename_i hl
  have hl2 := of_decide_eq_true hl;cases e;obtain ⟨d, σ1, h1, h2, h3⟩ := h s σ a s1 hs e1;obtain ⟨d', σ2, h4, h5, h6⟩ := h' s1 σ1 b _ h3 e2;obtain ⟨o, ds, rfl, hh⟩ := l.l a d h2;obtain ⟨o', ds', rfl, hh'⟩ := l2.l b d' h5;have n1 := hh.len;have n2 := hh'.len;refine ⟨_, σ2, ?_, ⟨_, rfl, wT (hh.fz k.f) (hh'.fz k2.f)⟩, h6⟩;simp only [wF, am, bg, h1, h4, bind_some, map_some];rw [if_pos ⟨by omega, by omega⟩]
 ·cases e
end
end TT
namespace L2
open PySem PySem.Spec PyProof.Rows
noncomputable def Dd : V -> List V -> Hp -> VK -> Prop := fun x vs H Q => ∃ a b, x = .str a /\ vs = [.str b] /\ Q (.bl (Txt.endswith a b)) H
theorem z8 {X : Cx} : sV X "str.endswith" Dd := by
 intro aa s σ H x vs v us Q I rx rv h;obtain ⟨a, b, rfl, rfl, q⟩ := h;obtain ⟨t, rfl⟩ := (show ∃ t, v = Value.str a t from rx);obtain ⟨u, rfl, ru⟩ := rv.one;obtain ⟨t', rfl⟩ := (show ∃ t, u = Value.str b t from ru);exact SC.endswith ⟨.bl _, H, I, rfl, q⟩
noncomputable def CL (x : Str) : It := ⟨fun i _ => ∃ c, x.cps[i]? = some c, fun i H v H' => ∃ p c, x.cps[i]? = some c /\ H p = none /\ H' = aO H p (.tup [.int (i : Int), .str ⟨#[c]⟩]) /\ v = .ref p, fun i _ => x.cps.size = i⟩
theorem uO {P : Program} {w : World} {K : PySem.W.Frag} {elts : List Expr} {x1 : Nat} {tpos : Pos} (x : Str) (t : Tok) (z it : Addr) (D : z ≠ it) :
  nh P w K (.Tuple elts x1 tpos) (CL x) [z, it] z (fun i h => (∃ old, IsEnum h z it (i : Int) old) /\ h.IsStrIter it "str_ascii_iterator" x t i) where
 mem := by simp
 obj := fun i h hq c hc => by
  obtain ⟨⟨old, hz⟩, ⟨o1, e1, c1, d1⟩⟩ := hq;simp only [List.mem_cons, List.not_mem_nil, or_false] at hc;rcases hc with rfl | rfl
  ·exact ⟨_, hz, fun v z => nomatch z⟩
  ·exact ⟨_, e1, fun v z => by rw [d1] at z; cases z⟩
 keep := fun i h h' hq k => by
  obtain ⟨⟨old, hz⟩, o1, e1, r1⟩ := hq;exact ⟨⟨old, k z (by simp) _ hz⟩, o1, k it (by simp) _ e1, r1⟩
 item := by
  intro X hP hw hK hc i aa s σ H E I hf hq hg;obtain ⟨⟨old, hz⟩, h1⟩ := hq;obtain ⟨c, hx⟩ := hg;subst hP hw hK;have hil : i < x.cps.size := (Array.getElem?_eq_some_iff.mp hx).1;refine wpAny_pyNext_enum_itemD (Draws.strAscii (A := X.A.in1) (I.ok.hd hc) it x t) hz h1 hil D (by simp [D]) fun v h' tk hv ho hst hT hsz hk => ?_
  obtain ⟨c', u, hc', rfl⟩ := hv;rw [hx] at hc'; cases hc';have hk' : ∀ b o, b ∉ [z, it] -> s.heap.get? b = some o -> h'.get? b = some o := fun b o hb e => hk b o (fun q => hb (by simp [q])) (fun q => hb (by simp [q])) e
  have I0 : Inv X aa σ (aO H s.heap.objs.size (.tup [.int (i : Int), .str ⟨#[c]⟩])) { s with heap := h' } := I.turnT (fun b hb => hf b hb) (u := .int (i : Int)) (w := .str ⟨#[c]⟩) ⟨tk, rfl⟩ ⟨u, rfl⟩ hk' hT (fun b hb => by
   obtain ⟨o1, e1, _⟩ := id hst;simp only [List.mem_cons, List.not_mem_nil, or_false] at hb;rcases hb with rfl | rfl
   ·exact ⟨_, ho⟩
   ·exact ⟨_, e1⟩)
  have I1 : Inv X aa σ (aO H s.heap.objs.size (.tup [.int (i : Int), .str ⟨#[c]⟩])) { s with heap := h', toks := tk + 1 } := I0.kept (t' := tk + 1) (fun _ _ e => e);have hfr : H s.heap.objs.size = none := I.fresh;refine ⟨_, rfl, wpAny_letOwnedTupleGo_enum (s := { s with heap := h', toks := tk + 1 }) ho fun h'' z1 sb => ?_⟩;have hf5 : ∀ b ∈ [z, it], (aO H s.heap.objs.size (.tup [.int (i : Int), .str ⟨#[c]⟩])) b = none := fun b hb => by
   have lt : b < s.heap.objs.size := by
    obtain ⟨o1, e1, _⟩ := id h1;simp only [List.mem_cons, List.not_mem_nil, or_false] at hb;rcases hb with rfl | rfl
    ·exact Heap.lt_size hz
    ·exact Heap.lt_size e1
   rw [aJ (Nat.ne_of_lt lt)]; exact (hf b hb).1
  have I2 : Inv X aa σ (aO H s.heap.objs.size (.tup [.int (i : Int), .str ⟨#[c]⟩])) { s with heap := h'', toks := tk + 1 } := Inv.turnN (s := { s with heap := h', toks := tk + 1 }) (ch := [z]) I1 (fun b hb => by
   have : b = z := by simpa using hb
   subst this;exact ⟨hf5 b (by simp), (hf b (by simp)).2⟩) (fun b o hb e => (sb.2 b (fun q => hb (by simp [q]))).trans e)
  refine ⟨.ref s.heap.objs.size, _, I2, rfl, ⟨_, c, hx, hfr, rfl, rfl⟩, ⟨⟨_, by rw [show ((i + 1 : Nat) : Int) = (i : Int) + 1 by omega]; exact z1⟩, ?_⟩, hf5⟩;obtain ⟨o1, e1, r1⟩ := id hst;exact ⟨o1, (sb.2 it D.symm).trans e1, r1⟩
 done := by
  intro X hP hw hK hc i aa s σ H E I hf hq hg;obtain ⟨⟨old, hz⟩, h1⟩ := hq;subst hP hw hK;have hg' : x.cps.size = i := hg;subst hg';refine wpAny_pyNext_enum_endD (Draws.strAscii (A := X.A.in1) (I.ok.hd hc) it x t) hz h1 fun h' hk => ⟨rfl, ?_⟩
  exact I.turnN (ch := [z, it]) (fun b hb => hf b hb) fun b o hb e => hk b o (fun q => hb (by simp [q])) e
 self := fun _ _ _ _ _ hq h => by
  obtain ⟨⟨_, hz⟩, _⟩ := hq;exact wpAny_pyIter_enum hz h
section
variable {X : Cx}
theorem qa {x : Str} (h : x.cps.all (· < 128) = true) : strIterType x = "str_ascii_iterator" := by
 unfold strIterType; rw [if_pos h]
noncomputable def Cf (tl : TA) : TI := fun σ H R => tl σ H fun vs H1 => ∃ x : Str, vs = [.str x] /\ x.cps.all (· < 128) = true /\ R (CL x) H1
theorem u3 {elts : List Expr} {x1 : Nat} {tpos : Pos} {a : Expr} {ta : TA} {p pos : Pos} (hg : Gl X "enumerate") (hm : X.mg "enumerate" = none) (ha : PA X [a] ta) (hs : autoParam (starEach [a] X.env = [(false, eval a X.env)]) aI._auto_1) :
  PI X (.Tuple elts x1 tpos) (.Call (.Name "enumerate" p) [a] [] pos) (Cf ta) := by
 intro aa s σ H R I h;refine Call_ (gO I hg hm wP (PyProof.Rows.callWith_type1 (bH (ha pos aa s σ H _ I h) fun us s1 hq0 => ?_) (by rw [hs]; rfl) (by rfl)));obtain ⟨vs, H1, I1, r1, x, e, hx, q⟩ := hq0;subst e;obtain ⟨u, rfl, ru⟩ := r1.one;obtain ⟨t, rfl⟩ := (show ∃ t, u = Value.str x t from ru);refine call_enumerate_str fun h' he hi hsz hk => ?_
 rw [qa hx] at hi;refine wpAny_pyIter_enum (s := { s1 with heap := h' }) he ?_;have I2 : Inv X aa σ H1 { s1 with heap := h', toks := s1.toks } := I1.kept (t' := s1.toks) hk;refine ⟨_, [s1.heap.objs.size + 1, s1.heap.objs.size], _, _, H1, rfl, I2, uO x t (s1.heap.objs.size + 1) s1.heap.objs.size (Nat.ne_of_gt (Nat.lt_succ_self _)), ⟨⟨_, by simpa using he⟩, hi⟩, fun c hc => ?_, q⟩;have hle : s1.heap.objs.size <= c := by
  simp only [List.mem_cons, List.not_mem_nil, or_false] at hc;rcases hc with rfl | rfl
  ·exact Nat.le_succ _
  ·exact Nat.le_refl _
 obtain ⟨f0, f1, f2, f3, f4, f5⟩ := I1.fpOk hle (I1.hok.fresh hle);exact ⟨f0, f1, f2, f3, f4, f5⟩
end
end L2
namespace DD
open PySem PySem.Spec PyProof.Rows L2
noncomputable def mz (c c' : DE) : DE := fun σ => (c σ).bind fun p => (c' p.2).bind fun q => match p.1, q.1 with
 | .str a, .str b => some (.bl (Txt.endswith a b), q.2)
 | _, _ => none
noncomputable def nV (c : DE) : DI := fun σ => (c σ).bind fun p => match p.1 with
 | .str x => if x.cps.all (· < 128) = true then some (lw 0 ((signs x).map D.str), p.2) else none
 | _ => none
theorem ww {K : PySem.W.Frag} {F : Addr -> Prop} {H : Hp} {x : Str} : oz K (CL x) (lw 0 ((signs x).map D.str)) F H where
 item := fun i d F1 H1 x1 dm e => by
  rw [ug] at e;unfold signs at e;rw [List.map_map, List.getElem?_map, Array.getElem?_toList] at e;rcases h : x.cps[i]? with _ | c
  ·rw [h] at e; cases e
  ·rw [h] at e; cases e
   refine ⟨⟨c, h⟩, fun v H2 hq => ?_⟩;obtain ⟨p, c', h', hp, rfl, rfl⟩ := hq;rw [h] at h'; cases h';have gr := sn (us := [.int (i : Int), .str ⟨#[c]⟩]) dm hp;refine ⟨_, gr, ?_⟩;rw [Nat.zero_add];simp only [Ow, OwL];exact ⟨p, [.int (i : Int), .str ⟨#[c]⟩], rfl, .inl ⟨.inr rfl, bX⟩, .int (i : Int), [.str ⟨#[c]⟩], [], [], rfl, ⟨rfl, rfl⟩, ⟨.str ⟨#[c]⟩, [], [], [], rfl, ⟨rfl, rfl⟩, ⟨rfl, rfl⟩, rfl⟩, rfl⟩
 done := fun F1 H1 _ => by
  show x.cps.size = (lw 0 ((signs x).map D.str)).length;rw [uf, List.length_map];unfold signs;simp
section
variable {X : Cx} {a : Expr} {c : DE} {p1 pos1 tpos : Pos} {elts : List Expr} {x1 : Nat}
theorem uW (hgl : Gl X "enumerate") (hm : X.mg "enumerate" = none) (ha : QE X a c) (hs : autoParam (starEach [a] X.env = [(false, eval a X.env)]) aI._auto_1) :
  QI X (.Tuple elts x1 tpos) (.Call (.Name "enumerate" p1) [a] [] pos1) (nV c) := kg (u3 hgl hm (dj ha eI hs) hs) fun σ H R hq0 => by
 obtain ⟨F, Ro, σD, xs, σD', r, ec, k⟩ := hq0;unfold nV at ec;rcases h : c σD with _ | ⟨d, σ1⟩
 ·rw [h] at ec; cases ec
 ·rw [h] at ec; simp only [bind_some] at ec
  refine ⟨F, Ro, σD, d, σ1, r, h, fun F1 H1 v x1 r1 => ?_⟩;split at ec
  ·rename_i x
   split at ec
   ·rename_i hx
    cases ec;have bv := (r1.bor (d := .str x) (v := v) (by simp)).str;subst bv;exact ⟨x, rfl, hx, k F1 H1 _ x1 r1.pop ww⟩
   ·cases ec
  ·cases ec
end
section
variable {X : Cx} {o e : Expr} {c c' : DE} {apos cpos : Pos}
theorem tM (ho : QE X o c) (ha : QE X e c') (hbase : autoParam (attributeBase o "endswith" X.env (eval o X.env) = eval o X.env) aI._auto_1)
  (hfew : autoParam (((backTo cpos (starEach [e] X.env)).all (fun x => !x.1) && (backToKw cpos (keywordEach [] X.env)).all (fun x => x.1.isSome) && decide (([e] : List Expr).length + ([] : List Keyword).length + (if ([] : List Keyword).isEmpty then 0 else 1) < 30)) = true) aI._auto_1)
  (hline : autoParam ((apos.endLine == cpos.line) = true) aI._auto_1) (hst : autoParam (starEach [e] X.env = (false, eval e X.env) :: starEach [] X.env) aI._auto_1) : QE X (.Call (.Attribute o "endswith" apos) [e] [] cpos) (mz c c') :=
 bc (mh PySem.F.plainAttrs_str PySem.F.slot_str_endswith PySem.F.type_str_endswith z8 ho (dj ha eI hst) hbase hfew hline hst rfl) fun σ H Q hq0 => by
  obtain ⟨F, R, σD, d, σD', r, ec, k⟩ := hq0;unfold mz at ec;rcases h1 : c σD with _ | ⟨x, σ1⟩
  ·rw [h1] at ec; cases ec
  ·rw [h1] at ec; simp only [bind_some] at ec
   rcases h2 : c' σ1 with _ | ⟨y, σ2⟩
   ·rw [h2] at ec; cases ec
   ·rw [h2] at ec; simp only [bind_some] at ec
    split at ec
    ·rename_i a b
     cases ec;refine ⟨F, R, σD, _, σ1, r, h1, fun F1 H1 v x1 r1 => ?_⟩;have bv := (r1.bor (d := .str a) (v := v) (by simp)).str;subst bv;refine ⟨rfl, F1, _, σ1, _, _, r1, h2, fun F2 H2 u x2 r2 => ?_⟩;have bu := (r2.bor (d := .str b) (v := u) (by simp)).str;subst bu;exact ⟨a, b, rfl, rfl, k F2 H2 _ (x1.trans x2) ((r2.pop).pop.scal rfl)⟩
    ·cases ec
end
end DD
namespace TT
open PySem L2 DD PySem.W
section
variable {S : Type} {Γ Γ1 Γ2 : aP S} {c c' : DE}
theorem t5 {f g : S -> Option (Str × S)} (h : JE Γ c f rS Γ1) (h' : JE Γ1 c' g rS Γ2) : JE Γ (mz c c') (fun s => (f s).bind fun p => (g p.2).map fun q => (Txt.endswith p.1 q.1, q.2)) rB Γ2 := fun s σ v s' hs e => by
 obtain ⟨⟨a, s1⟩, e1, e⟩ := bd e;obtain ⟨⟨b, s2⟩, e2, e⟩ := mp e;cases e;obtain ⟨d, σ1, h1, h2, h3⟩ := h s σ a s1 hs e1;obtain ⟨d', σ2, h4, h5, h6⟩ := h' s1 σ1 b s2 h3 e2;cases h2; cases h5;exact ⟨_, σ2, by simp only [mz, h1, h4, bind_some], rfl, h6⟩
theorem ve {f : S -> Option (Str × S)} (h : JE Γ c f rS Γ1) : JI Γ (nV c) (fun s => (f s).bind fun p => if p.1.cps.all (· < 128) = true then some (Cp 0 (signs p.1), p.2) else none) (cL rI rS) Γ1 := fun s σ v s' hs e => by
 obtain ⟨⟨a, s1⟩, e1, e⟩ := bd e;dsimp only at e;split at e
 ·rename_i ha
  cases e;obtain ⟨d, σ1, h1, h2, h3⟩ := h s σ a _ hs e1;cases h2;exact ⟨_, σ1, by simp only [nV, h1, bind_some, ha, if_true], ux 0 (lM _), h3⟩
 ·cases e
theorem Aj (i : Nat) {α : Type} {get : S -> List (List α)} {put : S -> List (List α) -> S} {r : Rl α} [k : Sc r] {p q : DP} {f : S -> Option α} {fq : S -> Option Int} (h : JP Γ p f r) (hq : JP Γ q fq rI) (hi : Γ[i]? = some (some ⟨get, rL (rL r)⟩)) (hg : autoParam (∀ s v, get (put s v) = v) jF._auto_1) (hf : autoParam (∀ v, Fr (fun s => put s v) (Γ.set i none)) jO._auto_1) :
  JE Γ (sD i [q] p) (fun s => (fq s).bind fun j => (L2.ixN (get s).length j).bind fun m => ((get s)[m]?).bind fun x => (f s).bind fun v => if yV (x.length) = true then some ((), put s ((get s).set m (x ++ [v]))) else none) rN (Γ.set i (some ⟨get, rL (rL r)⟩)) := fun s σ v s' hs e => by
 obtain ⟨j, e1, e⟩ := bd e;obtain ⟨m, e2, e⟩ := bd e;obtain ⟨x, e3, e⟩ := bd e;obtain ⟨a, e4, e⟩ := bd e;split at e
 ·rename_i hl
  have hl := we hl;cases e;obtain ⟨d, hd, ds, rfl, h2⟩ := hs.get hi;obtain ⟨dq, hdq, rq⟩ := hq s σ j hs e1;cases rq;obtain ⟨da, hda, rda⟩ := h s σ a hs e4;obtain ⟨w, hw⟩ := k.s _ _ rda;have hlen := h2.len;obtain ⟨dx, hdx, dxs, rfl, h3⟩ := h2.get e3;have hle := h3.len;rw [hlen] at e2;refine ⟨.non, _, ?_, rfl, hs.put hg hf ⟨ds.set m (.lst true (dxs ++ [da])), rfl, h2.set ⟨_, rfl, h3.append (.cons rda .nil)⟩⟩⟩;simp only [sD, hd, bind_some, gZ, hdq, map_some, cZ, L2.atI, e2, hdx, hda, hw, ey];rw [if_pos (by rw [<- hle]; exact hl)]
 ·cases e
end
end TT
namespace TT
open PySem L2 DD
section
variable {S : Type} {α β γ : Type} {Γ : aP S}
end
end TT
namespace TX
open PySem PySem.StrLaws PySem.Builtin.Str
noncomputable def Gap (w : Nat) : Nat -> List Nat -> Prop
 | _, [] => True
 | f, c :: r => f <= c /\ Gap w (c + w) r
theorem Gap.ge {w : Nat} : ∀ {T : List Nat} {f : Nat}, Gap w f T -> ∀ c ∈ T, f <= c := by
 intro T
 induction T with
 | nil => intro f _ c hc; cases hc
 | cons a T ih =>
  intro f h c hc;rcases List.mem_cons.mp hc with rfl | hc
  ·exact h.1
  ·have := ih h.2 c hc
   have := h.1
   omega
theorem wa {s sub : Str} {hi limit : Nat} (hw : 1 <= sub.length) : ∀ (n lo : Nat) (st : Array Nat × Nat) (T : List Nat), Gap sub.length st.2 T -> (∀ c ∈ T, lo <= c /\ c < lo + n) -> (∀ i, lo <= i -> i < lo + n -> (At s sub hi i ↔ i ∈ T)) -> st.1.size + T.length <= limit ->
  (forIn (List.range' lo n) st (occBody s sub hi limit)).run.fst.toList = st.1.toList ++ T := by
 intro n
 induction n with
 | zero =>
  intro lo st T _ hb _ _;cases T with
  | nil => simp
  | cons c T => have := hb c (by simp); omega
 | succ n ih =>
  intro lo st T hg hb ha hl;rw [List.range'_succ, List.forIn_cons];unfold occBody;by_cases hm : lo ∈ T
  ·have hA := (ha lo (Nat.le_refl _) oM).mpr hm
   cases T with
   | nil => cases hm
   | cons c T =>
    have hc : c = lo := by
     rcases List.mem_cons.mp hm with h | h
     ·exact h.symm
     ·have h1 := hg.2.ge lo h
      have h2 := hb c (by simp);omega
    subst hc;rw [if_pos ⟨⟨⟨by simp only [List.length_cons] at hl; omega, hg.1⟩, hA.1⟩, hA.2⟩];refine (ih (c + 1) (st.1.push c, c + sub.length) T hg.2 (fun d hd => ?_) (fun i h1 h2 => ?_) (by simp only [Array.size_push, List.length_cons] at hl ⊢; omega)).trans ?_
    ·have h1 := hg.2.ge d hd
     have h2 := hb d (by simp [hd]);omega
    ·rw [ha i oM oM]
     constructor
     ·intro h
      rcases List.mem_cons.mp h with h | h
      ·omega
      ·exact h
     ·intro h; simp [h]
    ·simp
  ·have hA : ¬ At s sub hi lo := fun h => hm ((ha lo (Nat.le_refl _) oM).mp h)
   rw [if_neg (fun h => hA ⟨h.1.2, h.2⟩)];refine ih (lo + 1) st T hg (fun d hd => ?_) (fun i h1 h2 => ha i oM oM) hl;have h2 := hb d hd;have h3 : d ≠ lo := fun e => hm (e ▸ hd)
   omega
noncomputable def cP (Y : List Nat) : List (List Nat) -> List Nat
 | [] => []
 | [p] => p
 | p :: q :: r => p ++ (Y ++ cP Y (q :: r))
noncomputable def lD (w : Nat) : Nat -> List (List Nat) -> List Nat
 | _, [] => []
 | _, [_] => []
 | a, p :: q :: r => (a + p.length) :: lD w (a + p.length + w) (q :: r)
theorem yA (w : Nat) : ∀ (ps : List (List Nat)) (a : Nat), Gap w a (lD w a ps) := by
 intro ps
 induction ps with
 | nil => intro a; trivial
 | cons p ps ih =>
  intro a;cases ps with
  | nil => trivial
  | cons q r => exact ⟨Nat.le_add_right _ _, ih _⟩
theorem lz {L p Y R : List Nat} {a : Nat} (h : L.drop a = p ++ (Y ++ R)) : L.drop (a + p.length) = Y ++ R /\ L.drop (a + p.length + Y.length) = R := by
 have h1 : L.drop (a + p.length) = Y ++ R := by rw [<- List.drop_drop, h, List.drop_left]
 exact ⟨h1, by rw [<- List.drop_drop, h1, List.drop_left]⟩
theorem AC {L Y : List Nat} : ∀ (ps : List (List Nat)) (a : Nat), L.drop a = cP Y ps -> ∀ c ∈ lD Y.length a ps, (L.drop c).take Y.length = Y /\ c + Y.length <= L.length + (if Y = [] then c else 0) := by
 intro ps
 induction ps with
 | nil => intro a _ c hc; cases hc
 | cons p ps ih =>
  intro a h c hc;cases ps with
  | nil => cases hc
  | cons q r =>
   obtain ⟨h1, h2⟩ := lz (p := p) (Y := Y) (R := cP Y (q :: r)) h;rcases List.mem_cons.mp hc with rfl | hc
   ·refine ⟨by rw [h1, List.take_left], ?_⟩
    by_cases hY : Y = []
    ·simp [hY]
    ·have h3 := congrArg List.length h1
     rw [List.length_drop, List.length_append] at h3;have h4 : 0 < Y.length := List.length_pos_iff.mpr hY;omega
   ·exact ih _ h2 c hc
theorem wH {L Y : List Nat} {m off : Nat} (hY : ∀ k, Y[k]? = some m -> k = off) : ∀ (ps : List (List Nat)) (a : Nat), L.drop a = cP Y ps -> (∀ p ∈ ps, m ∉ p) -> ∀ j, a <= j -> L[j]? = some m -> ∃ c ∈ lD Y.length a ps, j = c + off := by
 intro ps
 induction ps with
 | nil =>
  intro a h _ j hj e;have : (L.drop a)[j - a]? = some m := by rw [List.getElem?_drop, Nat.add_sub_cancel' hj]; exact e
  rw [h] at this;simp [cP] at this
 | cons p ps ih =>
  intro a h hf j hj e;have hm : (L.drop a)[j - a]? = some m := by rw [List.getElem?_drop, Nat.add_sub_cancel' hj]; exact e
  cases ps with
  | nil =>
   rw [h] at hm;exact absurd (List.mem_of_getElem? hm) (hf p (by simp))
  | cons q r =>
   have h' : L.drop a = p ++ (Y ++ cP Y (q :: r)) := h;obtain ⟨h1, h2⟩ := lz h';by_cases hp : j - a < p.length
   ·rw [h', List.getElem?_append_left hp] at hm
    exact absurd (List.mem_of_getElem? hm) (hf p (by simp))
   ·by_cases hy : j - a < p.length + Y.length
    ·rw [h', List.getElem?_append_right oM, List.getElem?_append_left oM] at hm
     have := hY _ hm
     exact ⟨a + p.length, by simp [lD], by omega⟩
    ·obtain ⟨c, hc, ej⟩ := ih _ h2 (fun x hx => hf x (List.mem_cons_of_mem _ hx)) j oM e
     exact ⟨c, List.mem_cons_of_mem _ hc, ej⟩
theorem yz {w n : Nat} (hw : 1 <= w) : ∀ {T : List Nat} {f : Nat}, Gap w f T -> (∀ c ∈ T, c + w <= n) -> T.length <= n - f := by
 intro T
 induction T with
 | nil => intro f _ _; simp
 | cons c T ih =>
  intro f hg hb;have h1 := ih hg.2 fun d hd => hb d (by simp [hd])
  have h2 := hb c (by simp);have h3 := hg.1;simp only [List.length_cons];omega
theorem xJ {x : Str} {Y : List Nat} : ∀ (ps : List Str) (a : Nat), ps ≠ [] -> x.cps.toList.drop a = cP Y (ps.map fun p => p.cps.toList) -> partsFrom x Y.length a (lD Y.length a (ps.map fun p => p.cps.toList)) = ps := by
 intro ps
 induction ps with
 | nil => intro a h _; exact absurd rfl h
 | cons p ps ih =>
  intro a _ h;have ext : ∀ {u v : Str}, u.cps.toList = v.cps.toList -> u = v := fun e => Str.ext' (Array.toList_inj.mp e)
  cases ps with
  | nil =>
   have h' : x.cps.toList.drop a = p.cps.toList := h;show [strSub x a x.length] = [p];congr 1;apply ext;rw [strSub_toList, h'];apply List.take_of_length_le;rw [<- h', List.length_drop];show x.cps.toList.length - a <= x.cps.size - a;simp
  | cons q r =>
   have h' : x.cps.toList.drop a = p.cps.toList ++ (Y ++ cP Y ((q :: r).map fun p => p.cps.toList)) := h;obtain ⟨h1, h2⟩ := lz h';show strSub x a (a + p.cps.toList.length) :: partsFrom x Y.length (a + p.cps.toList.length + Y.length) (lD Y.length (a + p.cps.toList.length + Y.length) ((q :: r).map fun p => p.cps.toList)) = p :: q :: r;rw [ih _ (by simp) h2];congr 1;apply ext;rw [strSub_toList, h', Nat.add_sub_cancel_left, List.take_left]
theorem jA {y : Str} : ∀ ps : List Str, (Str.join y ps).cps.toList = cP y.cps.toList (ps.map fun p => p.cps.toList) := by
 intro ps
 induction ps with
 | nil => rfl
 | cons p ps ih =>
  cases ps with
  | nil => rfl
  | cons q r =>
   show (p ++ y ++ Str.join y (q :: r)).cps.toList = p.cps.toList ++ (y.cps.toList ++ cP y.cps.toList ((q :: r).map fun p => p.cps.toList));rw [<- ih];simp [Str.cps_append]
theorem nq {y : Str} {m off : Nat} (hw : 1 <= y.length) (hm : y.cps.toList[off]? = some m) (hY : ∀ k, y.cps.toList[k]? = some m -> k = off) (hk : PySem.Builtin.Str.strKind y = 1) {ps : List Str} (hne : ps ≠ []) (hf : ∀ p ∈ ps, m ∉ p.cps.toList) :
  Txt.split (Txt.join y ps) y = ps := by
 have ej : Txt.join y ps = Str.join y ps := glued_eq_join y ps;rw [ej];generalize hx : Str.join y ps = x;have hL : x.cps.toList = cP y.cps.toList (ps.map fun p => p.cps.toList) := by rw [<- hx]; exact jA ps
 have hyl : y.cps.toList.length = y.length := by simp [Str.length]
 have hxl : x.cps.toList.length = x.length := by simp [Str.length]
 have hY0 : y.cps.toList ≠ [] := fun e => by rw [e] at hyl; simp at hyl; omega
 have h0 : x.cps.toList.drop 0 = cP y.cps.toList (ps.map fun p => p.cps.toList) := hL;have hg := yA y.cps.toList.length (ps.map fun p => p.cps.toList) 0;have hat := AC (ps.map fun p => p.cps.toList) 0 h0;have hmk := wH hY (ps.map fun p => p.cps.toList) 0 h0 (fun p hp => by
  obtain ⟨q, hq, rfl⟩ := List.mem_map.mp hp;exact hf q hq)
 have hpt := xJ ps 0 hne h0;generalize hT : lD y.cps.toList.length 0 (ps.map fun p => p.cps.toList) = T at hg hat hmk hpt;rw [hyl] at hg hat hpt;have hb : ∀ c ∈ T, c + y.length <= x.length := fun c hc => by
  have := (hat c hc).2
  rw [if_neg hY0, hxl] at this;omega
 have hiff : ∀ i, (At x y x.length i ↔ i ∈ T) := fun i => by
  constructor
  ·intro h
   have h2 := h.2;rw [subAt_eq] at h2;have h3 := eq_of_beq h2;have h4 : x.cps.toList[i + off]? = some m := by
    have h5 : ((x.cps.toList.drop i).take y.length)[off]? = some m := by rw [h3]; exact hm
    rw [List.getElem?_take] at h5;split at h5
    ·rw [List.getElem?_drop] at h5; exact h5
    ·cases h5
   obtain ⟨c, hc, e⟩ := hmk (i + off) (Nat.zero_le _) h4;have : i = c := by omega
   rw [this]; exact hc
  ·intro h
   exact ⟨hb i h, by rw [subAt_eq, (hat i h).1]; simp⟩
 have hocc : occurrences x y 0 x.length (x.length + 1) = T := by
  rw [occ_eq]
  have := wa (s := x) (sub := y) (hi := x.length) (limit := x.length + 1) hw (x.length + 1 - 0) 0 (#[], 0) T hg (fun c hc => by have := hb c hc; omega) (fun i _ _ => hiff i) (by have := yz hw hg hb; simp; omega)
  simpa using this
 have one : T = [] -> [x] = ps := fun e => by
  rw [e] at hpt;rw [<- hpt];show [x] = [strSub x 0 x.length];rw [sub_whole]
 unfold Txt.split;split
 ·rename_i hc
  apply one;cases T with
  | nil => rfl
  | cons c T =>
   have h1 := hb c (by simp);have h2 : 1 <= PySem.Builtin.Str.strKind x := by unfold PySem.Builtin.Str.strKind; split; omega; split <;> omega
   rw [hk] at hc;simp only [Bool.or_eq_true, decide_eq_true_eq] at hc;omega
 ·rw [hocc]
  split
  ·rename_i he
   exact one (List.isEmpty_iff.mp he)
  ·rw [partsBetween_eq]
   exact hpt
theorem jn (y : Str) (ps : List Str) : Txt.join y ps = Str.join y ps := glued_eq_join y ps
theorem wq {Y : List Nat} {c : Nat} : ∀ {ps : List (List Nat)}, c ∈ cP Y ps -> c ∈ Y \/ ∃ p ∈ ps, c ∈ p := by
 intro ps
 induction ps with
 | nil => intro h; cases h
 | cons p ps ih =>
  intro h;cases ps with
  | nil => exact .inr ⟨p, by simp, h⟩
  | cons q r =>
   have h' : c ∈ p ++ (Y ++ cP Y (q :: r)) := h;rcases List.mem_append.mp h' with h' | h'
   ·exact .inr ⟨p, by simp, h'⟩
   ·rcases List.mem_append.mp h' with h' | h'
    ·exact .inl h'
    ·rcases ih h' with h2 | ⟨x, hx, h2⟩
     ·exact .inl h2
     ·exact .inr ⟨x, List.mem_cons_of_mem _ hx, h2⟩
theorem wr {Y : List Nat} {b : Nat} : ∀ {ps : List (List Nat)}, (∀ p ∈ ps, p.length <= b) -> (cP Y ps).length <= ps.length * (b + Y.length) := by
 intro ps
 induction ps with
 | nil => intro _; simp [cP]
 | cons p ps ih =>
  intro h;have hp := h p (by simp);cases ps with
  | nil => show p.length <= 1 * (b + Y.length); omega
  | cons q r =>
   have h2 := ih fun x hx => h x (List.mem_cons_of_mem _ hx)
   show (p ++ (Y ++ cP Y (q :: r))).length <= ((q :: r).length + 1) * (b + Y.length);rw [List.length_append, List.length_append, Nat.succ_mul];omega
theorem xZ {y : Str} {ps : List Str} {c : Nat} (h : c ∈ (Txt.join y ps).cps.toList) : c ∈ y.cps.toList \/ ∃ p ∈ ps, c ∈ p.cps.toList := by
 rw [jn, jA] at h;rcases wq h with h | ⟨p, hp, h⟩
 ·exact .inl h
 ·obtain ⟨q, hq, rfl⟩ := List.mem_map.mp hp
  exact .inr ⟨q, hq, h⟩
theorem br {x : Str} : x.length = x.cps.toList.length := by simp [Str.length]
theorem sd {y : Str} {ps : List Str} {b : Nat} (h : ∀ p ∈ ps, p.length <= b) : (Txt.join y ps).length <= ps.length * (b + y.length) := by
 rw [br, jn, jA]
 have := wr (Y := y.cps.toList) (b := b) (ps := ps.map fun p => p.cps.toList) (fun p hp => by
  obtain ⟨q, hq, rfl⟩ := List.mem_map.mp hp;rw [<- br]; exact h q hq)
 rw [List.length_map, <- br] at this;exact this
theorem AZ {ps : List Str} {b : Nat} : (∀ p ∈ ps, p.length <= b) -> (ps.map (·.length)).sum <= ps.length * b := by
 induction ps with
 | nil => intro _; simp
 | cons p ps ih =>
  intro h;have h1 := ih fun x hx => h x (List.mem_cons_of_mem _ hx)
  have h2 := h p (by simp);rw [List.map_cons, List.sum_cons, List.length_cons, Nat.succ_mul];omega
theorem two {y a b : Str} : Txt.join y [a, b] = a ++ y ++ b := by
 rw [jn]; rfl
theorem uz {x y : Str} {c : Nat} (h : c ∈ (x ++ y).cps.toList) : c ∈ x.cps.toList \/ c ∈ y.cps.toList := by
 rw [Str.cps_append, Array.toList_append] at h;exact List.mem_append.mp h
theorem aE {x y : Str} : (x ++ y).length = x.length + y.length := by
 rw [br, br, br, Str.cps_append, Array.toList_append, List.length_append]
theorem nu {x : Str} {k : Nat} (h : k <= x.length) : (Txt.slice x (some (k : Int)) none).cps.toList = x.cps.toList.drop k := by
 rw [PyProof.Rows.slice_from_eq (b := (x.length : Int)) oM oM rfl];show ((x.cps.toList.drop ((k : Int).toNat)).take ((x.length : Int) - (k : Int)).toNat) = _;rw [Int.toNat_natCast];apply List.take_of_length_le;rw [List.length_drop, <- br];omega
theorem km {x y : Str} {c : Nat} (hy : y.cps.toList = [c]) : Txt.startswith x y = (match x.cps.toList with | [] => false | d :: _ => d == c) := by
 unfold Txt.startswith;rw [subAt_eq];have hl : y.length = 1 := by rw [br, hy]; rfl
 rw [hl, hy];rcases hx : x.cps.toList with _ | ⟨d, r⟩
 ·have : x.length = 0 := by rw [br, hx]; rfl
  rw [this]; rfl
 ·have : x.length = r.length + 1 := by rw [br, hx]; rfl
  rw [this];simp
theorem ext' {u v : Str} (e : u.cps.toList = v.cps.toList) : u = v := Str.ext' (Array.toList_inj.mp e)
theorem bb {x y : Str} : (x ++ y).cps.toList = x.cps.toList ++ y.cps.toList := by rw [Str.cps_append, Array.toList_append]
theorem hE {y : Str} {ps : List Str} : (Txt.join y ps).cps.toList = cP y.cps.toList (ps.map fun p => p.cps.toList) := by rw [jn, jA]
noncomputable def bU (n : Int) : Str := Str.ofString (toString n)
theorem gy (m : Nat) : (bU (m : Int)).cps.toList = (Nat.toDigits 10 m).map Char.toNat := PySem.W.KIN.signs_num m
theorem gx (m : Nat) : PySem.NumText.AllDigits (bU (m : Int)).cps.toList := by
 intro c hc;rw [gy] at hc;obtain ⟨ch, hch, e⟩ := List.mem_map.mp hc;have r := PyProof.Rows.digit_range (Nat.isDigit_of_mem_toDigits dC dC hch);rw [<- e];exact r
theorem rV (m : Nat) : (bU (m : Int)).cps.toList ≠ [] := by
 rw [gy];intro e;have h := PySem.toDigits_len_ge 10 m;rw [List.map_eq_nil_iff.mp e] at h;exact absurd h dC
theorem e7 {m : Nat} (h : m < 10 ^ 40) : (bU (m : Int)).length <= 40 := by
 rw [br, gy, List.length_map];exact PySem.toDigits_len_pow dC dC h
theorem xR {m : Nat} (h : m < 10 ^ 40) : PySem.intText? (bU (m : Int)) = some (m : Int) := by
 have e := PySem.intText_digits (gx m) (rV m) (Nat.le_trans (e7 h) dC);rw [gy, PySem.W.KIN.val_back] at e;exact e
theorem ku {m : Nat} (h : 1 <= m) : ∃ c r, (bU (m : Int)).cps.toList = c :: r /\ 49 <= c /\ c <= 57 := by
 rcases hx : (bU (m : Int)).cps.toList with _ | ⟨c, r⟩
 ·exact absurd hx (rV m)
 ·have hd := gx m
  rw [hx] at hd;have hc := hd.head;refine ⟨c, r, rfl, ?_, hc.2⟩;by_cases h0 : c = 48
  ·exfalso
   subst h0;have hv : PySem.NumText.digitsVal (48 :: r) = m := by rw [<- hx, gy]; exact PySem.W.KIN.val_back m
   have ha := PySem.NumText.toDigits_all (48 :: r) hd;rw [hv] at ha;have hlen : (Nat.toDigits 10 m).length = r.length + 1 := by
    have := congrArg List.length hx
    rw [gy, List.length_map] at this;exact this
   rw [List.dropWhile_cons] at ha;simp only [BEq.rfl, if_true] at ha;have hdl := PySem.NumText.len_dropWhile (· == 48) r;rcases hr : r.dropWhile (· == 48) with _ | ⟨c', r'⟩
   ·rw [hr] at ha
    have hr0 : r.length = 0 := by
     rw [ha] at hlen;simp at hlen;rw [hlen]; rfl
    have : r = [] := List.length_eq_zero_iff.mp hr0;subst this;have : PySem.NumText.digitsVal [48] = 0 := by decide
    omega
   ·rw [hr] at ha hdl
    rw [ha] at hlen;simp only [List.length_map] at hlen;omega
  ·omega
end TX
namespace LW
open PySem L2 DD
noncomputable def d9 (i : Nat) : Stmt := PySem.Challenge.pw_telltight_k75_sums_of_terms.main.body.getD i (.Pass ⟨0, 0, 0, 0⟩)
noncomputable abbrev eV : Stmt := d9 6
noncomputable abbrev i6 : Stmt := d9 7
noncomputable abbrev fV : Stmt := d9 10
noncomputable abbrev gG : Stmt := d9 15
noncomputable abbrev eG : Stmt := d9 27
noncomputable abbrev fS : Stmt := d9 29
noncomputable abbrev i4 : Stmt := d9 32
noncomputable abbrev jV : Stmt := d9 33
noncomputable abbrev jU : Stmt := d9 36
noncomputable abbrev gH : Stmt := d9 37
noncomputable abbrev i5 : Stmt := d9 38
noncomputable abbrev eH : Stmt := d9 11
noncomputable abbrev fv : Stmt := d9 18
noncomputable abbrev fx : Stmt := d9 19
noncomputable abbrev jT : Stmt := d9 34
noncomputable abbrev gE : Stmt := d9 12
noncomputable abbrev fw : Stmt := d9 13
noncomputable abbrev fB : Stmt := d9 20
noncomputable abbrev fA : Stmt := d9 21
noncomputable abbrev iq : Stmt := d9 35
noncomputable abbrev jS : Stmt := d9 39
noncomputable abbrev fy : Stmt := d9 22
noncomputable abbrev kT : Stmt := d9 40
noncomputable abbrev fT : Stmt := d9 23
noncomputable abbrev eT : Stmt := d9 24
noncomputable abbrev fU : Stmt := d9 25
noncomputable abbrev fR : Stmt := d9 26
noncomputable abbrev gF : Stmt := d9 28
noncomputable abbrev eU : Stmt := d9 30
noncomputable abbrev nv : Stmt := d9 41
theorem sc_read_number : bm ["text", "figures"] ["text"] (aM eV) := ⟨rfl, rfl, rfl, by decide +kernel, rfl, by decide +kernel, by decide +kernel⟩
theorem sc_in_two : bm ["text", "sign", "parts"] ["text", "sign"] (aM i6) := ⟨rfl, rfl, rfl, by decide +kernel, rfl, by decide +kernel, by decide +kernel⟩
theorem qM : bm ["n"] ["n"] (aM fV) := ⟨rfl, rfl, rfl, by decide +kernel, rfl, by decide +kernel, by decide +kernel⟩
theorem sX : bm ["n", "group"] ["n", "group"] (aM gG) := ⟨rfl, rfl, rfl, by decide +kernel, rfl, by decide +kernel, by decide +kernel⟩
theorem sc_signed_terms : bm ["text", "signs", "terms", "word"] ["text"] (aM eG) := ⟨rfl, rfl, rfl, by decide +kernel, rfl, by decide +kernel, by decide +kernel⟩
theorem qK : bm ["word"] ["word"] (aM fS) := ⟨rfl, rfl, rfl, by decide +kernel, rfl, by decide +kernel, by decide +kernel⟩
theorem sc_lmixed : bm ["_law_cell", "_law_k", "_law_number_here"] ["_law_cell", "_law_k"] (aM i4) := ⟨rfl, rfl, rfl, by decide +kernel, rfl, by decide +kernel, by decide +kernel⟩
theorem sc_lpile : bm ["_law_script", "_law_k", "_law_cell"] ["_law_script", "_law_k"] (aM jV) := ⟨rfl, rfl, rfl, by decide +kernel, rfl, by decide +kernel, by decide +kernel⟩
theorem xq : bm ["_law_found", "_law_due"] ["_law_found", "_law_due"] (aM jU) := ⟨rfl, rfl, rfl, by decide +kernel, rfl, by decide +kernel, by decide +kernel⟩
theorem sY : bm ["_law_group"] ["_law_group"] (aM gH) := ⟨rfl, rfl, rfl, by decide +kernel, rfl, by decide +kernel, by decide +kernel⟩
theorem sc_ladded : bm ["_law_row", "_law_terms", "_law_times", "_law_found", "_law_group", "_law_number_here"] ["_law_row", "_law_terms", "_law_times"] (aM i5) := ⟨rfl, rfl, rfl, by decide +kernel, rfl, by decide +kernel, by decide +kernel⟩
theorem sc_row_of_terms : bm ["n", "terms", "row", "group", "number"] ["n", "terms"] (aM eH) := ⟨rfl, rfl, rfl, by decide +kernel, rfl, by decide +kernel, by decide +kernel⟩
theorem qc : bm ["group"] ["group"] (aM fv) := ⟨rfl, rfl, rfl, by decide +kernel, rfl, by decide +kernel, by decide +kernel⟩
theorem sc_read_whole : bm ["text", "number"] ["text"] (aM fx) := ⟨rfl, rfl, rfl, by decide +kernel, rfl, by decide +kernel, by decide +kernel⟩
theorem sc_ltake : bm ["_law_pile_here", "_law_many", "_law_digit"] ["_law_pile_here", "_law_many"] (aM jT) := ⟨rfl, rfl, rfl, by decide +kernel, rfl, by decide +kernel, by decide +kernel⟩
theorem sW : bm ["n", "a", "b"] ["n", "a", "b"] (aM gE) := ⟨rfl, rfl, rfl, by decide +kernel, rfl, by decide +kernel, by decide +kernel⟩
theorem qd : bm ["n", "a", "b", "c"] ["n", "a", "b", "c"] (aM fw) := ⟨rfl, rfl, rfl, by decide +kernel, rfl, by decide +kernel, by decide +kernel⟩
theorem sc_read_count : bm ["text", "least", "number"] ["text", "least"] (aM fB) := ⟨rfl, rfl, rfl, by decide +kernel, rfl, by decide +kernel, by decide +kernel⟩
theorem sc_read_group : bm ["n", "text", "group"] ["n", "text"] (aM fA) := ⟨rfl, rfl, rfl, by decide +kernel, rfl, by decide +kernel, by decide +kernel⟩
theorem sc_lnumber : bm ["_law_pile_here", "_law_way", "_law_number_here", "_law_k"] ["_law_pile_here"] (aM iq) := ⟨rfl, rfl, rfl, by decide +kernel, rfl, by decide +kernel, by decide +kernel⟩
theorem sc_lterm : bm ["_law_pile_here", "_law_n", "_law_whole", "_law_a", "_law_b", "_law_c", "_law_way", "_law_both"] ["_law_pile_here", "_law_n"] (aM jS) := ⟨rfl, rfl, rfl, by decide +kernel, rfl, by decide +kernel, by decide +kernel⟩
theorem qe : bm ["n", "parts"] ["n", "parts"] (aM fy) := ⟨rfl, rfl, rfl, by decide +kernel, rfl, by decide +kernel, by decide +kernel⟩
theorem sc_lsum : bm ["_law_script", "_law_start", "_law_n", "_law_row", "_law_text", "_law_k", "_law_pile_here", "_law_word", "_law_terms", "_law_number_here", "_law_low", "_law_ahead"] ["_law_script", "_law_start", "_law_n"] (aM kT) := ⟨rfl, rfl, rfl, by decide +kernel, rfl, by decide +kernel, by decide +kernel⟩
theorem sc_read_rest : bm ["n", "text", "parts", "known"] ["n", "text"] (aM fT) := ⟨rfl, rfl, rfl, by decide +kernel, rfl, by decide +kernel, by decide +kernel⟩
theorem sc_read_shared : bm ["n", "text", "parts", "known", "both"] ["n", "text"] (aM eT) := ⟨rfl, rfl, rfl, by decide +kernel, rfl, by decide +kernel, by decide +kernel⟩
theorem qL : bm ["n", "text"] ["n", "text"] (aM fU) := ⟨rfl, rfl, rfl, by decide +kernel, rfl, by decide +kernel, by decide +kernel⟩
theorem sc_read_term : bm ["n", "sign", "words", "number"] ["n", "sign", "words"] (aM fR) := ⟨rfl, rfl, rfl, by decide +kernel, rfl, by decide +kernel, by decide +kernel⟩
theorem sc_read_row : bm ["n", "text", "row", "sign", "words"] ["n", "text"] (aM gF) := ⟨rfl, rfl, rfl, by decide +kernel, rfl, by decide +kernel, by decide +kernel⟩
theorem sc_read_saying : bm ["n", "text", "words"] ["n", "text"] (aM eU) := ⟨rfl, rfl, rfl, by decide +kernel, rfl, by decide +kernel, by decide +kernel⟩
theorem sc_law : bm ["_law_script", "_law_turn", "_law_pile_here", "_law_n", "_law_text", "_law_row", "_law_number_here", "_law_time", "_law_found", "_law_mark", "_law_sign", "_law_told"] ["_law_script"] (aM nv) := ⟨rfl, rfl, rfl, by decide +kernel, rfl, by decide +kernel, by decide +kernel⟩
noncomputable def kO : DS := (aL (bE 1 (jN (aV (gz (dS (pV 0)) (dS (pC (.str "-"))))) (lA (dS (pV 0)) (some (pC (.int 1))) none) (dS (pV 0))))
   (aL (dw (g8 (aV (bN y4 (dS (cM fO [(pV 1)])) (dS (pC (.int 1))))) (g8 (aV (bN Ch (dS (cM fO [(pV 1)])) (dS (pC (.int 2000))))) (hX (aV (jk pj (am (iJ 1 (nT (dS (pV 1))) (du 2) lX (dS (aT sr (pV 2) (pC (.str "0123456789"))))) bg)))))) eE cH)
   (aL (dw (iM (aV (bN eC (dS (aT dU (pV 1) (pC (.int 0)))) (dS (pC (.str "0"))))) (aV (bN lq (dS (pV 0)) (dS (pC (.str "0")))))) eE cH)
   (cf (dS (cM mx [(pV 0)]))))))
noncomputable def gk : GF := dF 2 [1] kO
noncomputable def sK : DS := (aL (bE 2 (gW (dS (pV 0)) (dS (pV 1))))
   (aL (dw (aV (bN lq (dS (cM fO [(pV 2)])) (dS (pC (.int 2))))) eE cH)
   (cf (sC 2))))
noncomputable def kB : GF := dF 3 [2] sK
noncomputable def mN : DS := (cf (dS (aT jM (aT vk (pC (.int 1)) (pV 0)) (pC (.int 1)))))
noncomputable def e8 : GF := dF 1 [] mN
noncomputable def og : DS := (cf (iJ 1 (nU (am (dS (pV 0)) bg)) (du 2) (aV (bN lq (dS (aT Cj (pV 1) (aT vk (pC (.int 1)) (pV 2)))) (dS (pC (.int 0))))) (dS (pV 2))))
noncomputable def iS : GF := dF 2 [] og
noncomputable def j7 : DS := (aL (bE 1 (ez (am (jN (aV (gz (dS (pV 0)) (dS (pC (.str "-"))))) (dS (dJ (pC (.int 1)))) (dS (pC (.int 1)))) bg)))
   (aL (bE 2 (ez (am (ez bg) bg)))
   (aL (fk (iF (gW (jN (aV (bN eC (dS (aT dU (pV 1) (pC (.int 0)))) (dS (dJ (pC (.int 1)))))) (lA (dS (pV 0)) (some (pC (.int 1))) none) (dS (pV 0))) (dS (pC (.str " "))))) (du 3) (dw (g8 (aV (bN eC (dS (pV 3)) (dS (pC (.str "+"))))) (aV (bN eC (dS (pV 3)) (dS (pC (.str "-")))))) (aL (jr (mB 1 (jN (aV (bN eC (dS (pV 3)) (dS (pC (.str "+"))))) (dS (pC (.int 1))) (dS (dJ (pC (.int 1)))))))
   (jr (mB 2 (ez bg)))) (jr (sD 2 [(dJ (pC (.int 1)))] (pV 3)))))
   (cf (wF (am (j5 1) (am (j5 2) bg)))))))
noncomputable def fL : GF := dF 4 [1, 2, 3] j7
noncomputable def mK : DS := (aL (dw (aV (bN eC (dS (pV 0)) (dS (pC (.str "="))))) (cf (dS (pC (.str "=")))) cH)
   (aL (dw (aV (bN eC (dS (pV 0)) (dS (pC (.str ">="))))) (cf (dS (pC (.str ">")))) cH)
   eE))
noncomputable def ie : GF := dF 1 [] mK
noncomputable def sI : DS := (aL (bE 2 (dS (aT pd (aT fQ (aT fQ (aT gU (aT pd (pV 0) (pC (.int 2147483647))) (pC (.int 48271))) (aT gU (pV 1) (pC (.int 69621)))) (pC (.int 11))) (pC (.int 2147483647)))))
   (aL (bE 2 (dS (aT pd (aT gU (pV 2) (pV 2)) (pC (.int 2147483629)))))
   (cf (dS (aT pd (aT gU (pV 2) (pV 2)) (pC (.int 2147483587)))))))
noncomputable def kz : GF := dF 3 [2, 2] sI
noncomputable def uo : DS := (aL (bE 2 (dS (pC (.int 0))))
   (aL (dw (aV (bN y4 (dS (pV 1)) (dS (cM fO [(pV 0)])))) (bE 2 (dS (aT dU (pV 0) (pV 1)))) cH)
   (cf (ez (am (dS (aT gU (pV 2) (cM sm [(aT Em (cM ng [(pV 2)]) (aT vm (pC (.int 10)) (pC (.int 18))))]))) (am (dS (pV 2)) (am (dS (aT gU (pC (.int 97)) (pV 1))) bg)))))))
noncomputable def iW : GF := dF 3 [2, 2] uo
noncomputable def um : DS := (aL (dw (g8 (hX (aV (dS (cM kw [(pV 0), (pC (.ty "list"))])))) (aV (dS (aT lq (pV 0) (pV 1))))) eE cH)
   (cf (bN eC (n4 1 (nZ 0 (iJ 1 (iF (j5 0)) (du 2) (g8 (aV (dS (cM kw [(pV 2), (pC (.ty "bool"))]))) (hX (aV (dS (cM kw [(pV 2), (pC (.ty "int"))]))))) (j5 2)))) (ez bg))))
noncomputable def iV : GF := dF 2 [] um
noncomputable def oh : DS := (cf (kC (dS (pC (.str ""))) (iJ 2 (nV (dS (pC (.str "abcd")))) (fm 2 (cF (du 1) (cF (du 2) fM))) (aV (bN eC (dS (aT Cj (aT E9 (pV 0) (pV 1)) (pC (.int 1)))) (dS (pC (.int 1))))) (dS (pV 2)))))
noncomputable def dL : GF := dF 1 [] oh
noncomputable def sJ : DS := (aL (bE 3 (lB (pV 0)))
   (aL (fk (iF (j5 1)) (fm 2 (cF (du 4) (cF (du 5) fM))) (dw (aV (bN Ch (dS (pV 4)) (dS (pC (.int 0))))) (i7 (dS (aT fQ (aT dU (pV 3) (aT jM (pV 4) (pC (.int 1)))) (aT gU (pV 2) (pV 5)))) (m6 3 [] (aT jM (pV 4) (pC (.int 1))))) cH))
   (cf (sC 3))))
noncomputable def kA : GF := dF 6 [3, 4, 5] sJ
noncomputable def j8 : DS := (aL (bE 2 (m8 (ez (am (dS (pC (.int 0))) bg)) (aN e8 [.bo 0])))
   (aL (fk (iF (j5 1)) (fm 2 (cF (du 3) (cF (du 4) fM))) (dw (aV (bN lq (dS (pV 3)) (dS (pC (.int 0))))) (kU fQ 2 [] (aT jM (pV 3) (pC (.int 1))) (pV 4)) cH))
   (cf (sC 2))))
noncomputable def eK : GF := dF 5 [2, 3, 4] j8
noncomputable def lE : DS := (cf (kC (dS (pC (.str ""))) (iJ 1 (iF (aN iS [.ex (dS (pC (.int 4))), .bo 0])) (du 1) lX (dS (aT dU (pC (.str "abcd")) (pV 1))))))
noncomputable def gQ : GF := dF 1 [] lE
noncomputable def lG : DS := (aL (bE 1 (aN gk [.bo 0]))
   (aL (dw (aV (bN Em (dS (cM ng [(pV 1)])) (dS (aT vm (pC (.int 10)) (pC (.int 40)))))) eE cH)
   (cf (dS (pV 1)))))
noncomputable def fE : GF := dF 2 [1] lG
noncomputable def ul : DS := (aL (dw (aV (dS (aT y7 (aT dU (pV 0) (pC (.int 0))) (la [(pC (.int 0)), (dJ (pC (.int 1)))])))) (aL (i7 (dS (aT fQ (aT dU (pV 0) (pC (.int 2))) (pC (.int 1)))) (m6 0 [] (pC (.int 2))))
   (cf (bN pd (aN kz [.ex (dS (aT dU (pV 0) (pC (.int 1)))), .ex (dS (aT dU (pV 0) (pC (.int 2))))]) (dS (pV 1))))) cH)
   (aL (bE 2 (dS (aT pd (aT dU (pV 0) (pC (.int 0))) (pV 1))))
   (aL (i7 (dS (aT Ci (aT dU (pV 0) (pC (.int 0))) (pV 1))) (m6 0 [] (pC (.int 0))))
   (cf (dS (pV 2))))))
noncomputable def dl : GF := dF 3 [2] ul
noncomputable def n9 : DS := (cf (aN eK [.bo 0, .ex (ez (am (cV (am (dS (aT lm (pV 1) (pV 2))) (am (dS (pC (.int 1))) bg))) (am (cV (am (dS (pV 2)) (am (dS (dJ (pC (.int 1)))) bg))) bg)))]))
noncomputable def iR : GF := dF 3 [] n9
noncomputable def lF : DS := (cf (aN eK [.bo 0, .ex (ez (am (cV (am (dS (aT lm (pV 1) (pV 3))) (am (dS (pC (.int 1))) bg))) (am (cV (am (dS (aT lm (pV 2) (pV 3))) (am (dS (pC (.int 1))) bg))) (am (cV (am (dS (aT lm (aT lm (pV 1) (pV 2)) (pV 3))) (am (dS (dJ (pC (.int 1)))) bg))) (am (cV (am (dS (pV 3)) (am (dS (dJ (pC (.int 1)))) bg))) bg)))))]))
noncomputable def gR : GF := dF 4 [] lF
noncomputable def lK : DS := (aL (bE 2 (aN fE [.bo 0]))
   (aL (dw (aV (bN y4 (dS (pV 2)) (dS (pV 1)))) eE cH)
   (cf (dS (pV 2)))))
noncomputable def gT : GF := dF 3 [2] lK
noncomputable def lJ : DS := (aL (fk (wA (am (dS (pC (.int 1))) (am (bN fQ (aN e8 [.bo 0]) (dS (pC (.int 1)))) bg))) (du 2) (dw (aV (bN eC (aN gQ [.bo 2]) (dS (pV 1)))) (cf (dS (pV 2))) cH))
   eE)
noncomputable def dW : GF := dF 3 [2] lJ
noncomputable def pO : DS := (aL (bE 1 (aN dl [.bo 0, .ex (dS (pC (.int 4)))]))
   (aL (dw (aV (bN eC (dS (pV 1)) (dS (pC (.int 0))))) (aL (bE 2 (dS (pC (.int 0))))
   (aL (fk (nU (am (dS (pC (.int 4))) bg)) (du 3) (bE 2 (bN fQ (dS (aT gU (pV 2) (aT vm (pC (.int 10)) (pC (.int 10))))) (aN dl [.bo 0, .ex (dS (aT vm (pC (.int 10)) (pC (.int 10))))]))))
   (cf (wG (ez (am (dS (pV 2)) (am (dS (dJ (pV 2))) bg))) (aN dl [.bo 0, .ex (dS (pC (.int 2)))]))))) cH)
   (aL (dw (aV (bN eC (dS (pV 1)) (dS (pC (.int 1))))) (cf (bN jM (aN dl [.bo 0, .ex (dS (pC (.int 2001)))]) (dS (pC (.int 1000))))) cH)
   (cf (bN jM (aN dl [.bo 0, .ex (dS (pC (.int 9)))]) (dS (pC (.int 4))))))))
noncomputable def iz : GF := dF 4 [1, 2, 3, 2] pO
noncomputable def uk : DS := (aL (bE 2 (dS (aT jM (aT vk (pC (.int 1)) (pV 1)) (pC (.int 1)))))
   (aL (bE 3 (bN fQ (dS (pC (.int 1))) (aN dl [.bo 0, .bo 2])))
   (aL (bE 4 (bN fQ (dS (pC (.int 1))) (aN dl [.bo 0, .bo 2])))
   (aL (bE 5 (bN fQ (dS (pC (.int 1))) (aN dl [.bo 0, .bo 2])))
   (aL (bE 6 (aN dl [.bo 0, .ex (dS (pC (.int 4)))]))
   (aL (dw (aV (bN eC (dS (pV 6)) (dS (pC (.int 0))))) (cf (cV (am (bN cQ (bN cQ (dS (pC (.str "h("))) (aN dL [.bo 3])) (dS (pC (.str ")")))) (am (ez (am (cV (am (dS (pV 3)) (am (dS (pC (.int 1))) bg))) bg)) bg)))) cH)
   (aL (dw (aV (bN eC (dS (pV 6)) (dS (pC (.int 1))))) (cf (cV (am (bN cQ (bN cQ (bN cQ (bN cQ (dS (pC (.str "h("))) (aN dL [.bo 3])) (dS (pC (.str "|")))) (aN dL [.bo 4])) (dS (pC (.str ")")))) (am (ez (am (cV (am (dS (aT lm (pV 3) (pV 4))) (am (dS (pC (.int 1))) bg))) (am (cV (am (dS (pV 4)) (am (dS (dJ (pC (.int 1)))) bg))) bg))) bg)))) cH)
   (aL (bE 7 (bN cQ (bN cQ (bN cQ (dS (pC (.str "s("))) (aN dL [.bo 3])) (dS (pC (.str ";")))) (aN dL [.bo 4])))
   (aL (dw (aV (bN eC (dS (pV 6)) (dS (pC (.int 2))))) (cf (cV (am (dS (aT cQ (pV 7) (pC (.str ")")))) (am (ez (am (cV (am (dS (pV 3)) (am (dS (pC (.int 1))) bg))) (am (cV (am (dS (pV 4)) (am (dS (pC (.int 1))) bg))) (am (cV (am (dS (aT lm (pV 3) (pV 4))) (am (dS (dJ (pC (.int 1)))) bg))) bg)))) bg)))) cH)
   (cf (cV (am (bN cQ (bN cQ (dS (aT cQ (pV 7) (pC (.str "|")))) (aN dL [.bo 5])) (dS (pC (.str ")")))) (am (ez (am (cV (am (dS (aT lm (pV 3) (pV 5))) (am (dS (pC (.int 1))) bg))) (am (cV (am (dS (aT lm (pV 4) (pV 5))) (am (dS (pC (.int 1))) bg))) (am (cV (am (dS (aT lm (aT lm (pV 3) (pV 4)) (pV 5))) (am (dS (dJ (pC (.int 1)))) bg))) (am (cV (am (dS (pV 5)) (am (dS (dJ (pC (.int 1)))) bg))) bg))))) bg)))))))))))))
noncomputable def my : GF := dF 8 [2, 3, 4, 5, 6, 7] uk
noncomputable def lI : DS := (aL (dw (aV (bN Ch (dS (cM fO [(pV 1)])) (dS (pC (.int 2))))) eE cH)
   (cf (jN (aV (bN eC (dS (cM fO [(pV 1)])) (dS (pC (.int 2))))) (aN dW [.bo 0, .ex (dS (aT dU (pV 1) (pC (.int 1))))]) (dS (pC (.int 0))))))
noncomputable def fF : GF := dF 2 [] lI
noncomputable def wM : DS := (aL (bE 3 (m8 (ez (am (dS (pC (.int 0))) bg)) (dS (aT jM (aT vk (pC (.int 1)) (pV 2)) (pC (.int 1))))))
   (aL (bE 4 (dS (pC (.str ""))))
   (aL (fk (nU (am (bN fQ (dS (pC (.int 1))) (aN dl [.ex (aN iW [.bo 0, .bo 1]), .ex (dS (pC (.int 5)))])) bg)) (du 5) (aL (bE 6 (aN iW [.bo 0, .ex (dS (aT fQ (aT fQ (pV 1) (pC (.int 1))) (pV 5)))]))
   (aL (i7 (aN my [.bo 6, .bo 2]) (fm 2 (cF (du 7) (cF (du 8) fM))))
   (aL (bE 9 (jk ng (am (aN iz [.bo 6]) bg)))
   (aL (bE 10 (aN dl [.bo 6, .ex (dS (pC (.int 2)))]))
   (aL (bE 11 (dS (aT cQ (cM kl [(pV 9)]) (pC (.str " ")))))
   (aL (dw (g8 (aV (bN eC (dS (pV 9)) (dS (pC (.int 0))))) (iM (aV (bN eC (dS (pV 9)) (dS (pC (.int 1))))) (aV (bN eC (aN dl [.bo 6, .ex (dS (pC (.int 2)))]) (dS (pC (.int 0))))))) (aL (bE 9 (dS (pC (.int 1))))
   (bE 11 (dS (pC (.str ""))))) cH)
   (aL (bE 3 (aN kA [.bo 3, .bo 8, .ex (dS (aT dU (la [(pV 9), (dJ (pV 9))]) (pV 10)))]))
   (dw (aV (bN eC (dS (pV 4)) (dS (pC (.str ""))))) (bE 4 (dS (aT cQ (aT cQ (aT dU (la [(pC (.str "")), (pC (.str "-"))]) (pV 10)) (pV 11)) (pV 7)))) (bE 4 (dS (aT cQ (aT cQ (aT cQ (pV 4) (aT dU (la [(pC (.str " + ")), (pC (.str " - "))]) (pV 10))) (pV 11)) (pV 7)))))))))))))
   (cf (cV (am (dS (pV 4)) (am (j5 3) bg)))))))
noncomputable def nW : GF := dF 12 [3, 4, 5, 6, 7, 8, 9, 10, 11, 9, 11, 3, 4, 4] wM
noncomputable def mL : DS := (aL (bE 2 (gW (dS (pV 1)) (dS (pC (.str "|")))))
   (aL (bE 3 (aN fF [.bo 0, .bo 2]))
   (cf (aN iR [.bo 0, .ex (aN dW [.bo 0, .ex (dS (aT dU (pV 2) (pC (.int 0))))]), .bo 3]))))
noncomputable def ig : GF := dF 4 [2, 3] mL
noncomputable def kL : DS := (aL (bE 2 (gW (dS (pV 1)) (dS (pC (.str "|")))))
   (aL (bE 3 (aN fF [.bo 0, .bo 2]))
   (aL (bE 4 (aN kB [.ex (dS (aT dU (pV 2) (pC (.int 0)))), .ex (dS (pC (.str ";")))]))
   (cf (aN gR [.bo 0, .ex (aN dW [.bo 0, .ex (dS (aT dU (pV 4) (pC (.int 0))))]), .ex (aN dW [.bo 0, .ex (dS (aT dU (pV 4) (pC (.int 1))))]), .bo 3])))))
noncomputable def gi : GF := dF 5 [2, 3, 4] kL
noncomputable def mM : DS := (aL (dw (iM (aV (gz (dS (pV 1)) (dS (pC (.str "h("))))) (aV (mz (dS (pV 1)) (dS (pC (.str ")")))))) (cf (aN ig [.bo 0, .ex (lA (dS (pV 1)) (some (pC (.int 2))) (some (dJ (pC (.int 1)))))])) cH)
   (aL (dw (iM (aV (gz (dS (pV 1)) (dS (pC (.str "s("))))) (aV (mz (dS (pV 1)) (dS (pC (.str ")")))))) (cf (aN gi [.bo 0, .ex (lA (dS (pV 1)) (some (pC (.int 2))) (some (dJ (pC (.int 1)))))])) cH)
   eE))
noncomputable def ii : GF := dF 2 [] mM
noncomputable def mJ : DS := (aL (dw (aV (bN eC (dS (cM fO [(pV 2)])) (dS (pC (.int 1))))) (bE 3 (dS (pV 1))) (dw (aV (bN eC (dS (cM fO [(pV 2)])) (dS (pC (.int 2))))) (bE 3 (bN gU (dS (pV 1)) (aN gT [.ex (dS (aT dU (pV 2) (pC (.int 0)))), .ex (dS (pC (.int 1)))]))) eE))
   (cf (iJ 1 (iF (aN ii [.bo 0, .ex (dS (aT dU (pV 2) (dJ (pC (.int 1)))))])) (du 4) lX (dS (aT gU (pV 3) (pV 4))))))
noncomputable def ic : GF := dF 4 [3, 3] mJ
noncomputable def oa : DS := (aL (bE 2 (m8 (ez (am (dS (pC (.int 0))) bg)) (aN e8 [.bo 0])))
   (aL (dw (aV (bN eC (dS (pV 1)) (dS (pC (.str "0"))))) eE cH)
   (aL (fk (iF (aN fL [.bo 1])) (fm 2 (cF (du 3) (cF (du 4) fM))) (bE 2 (iJ 2 (nS (j5 2) (aN ic [.bo 0, .bo 3, .bo 4])) (fm 2 (cF (du 5) (cF (du 6) fM))) lX (dS (aT fQ (pV 5) (pV 6))))))
   (cf (sC 2)))))
noncomputable def gS : GF := dF 5 [2, 3, 4, 2] oa
noncomputable def kN : DS := (aL (bE 2 (gW (dS (pV 1)) (dS (pC (.str " ")))))
   (aL (dw (aV (bN y4 (dS (cM fO [(pV 2)])) (dS (pC (.int 3))))) eE cH)
   (cf (cV (am (aN gS [.bo 0, .ex (kC (dS (pC (.str " "))) (sA (pV 2) none (some (dJ (pC (.int 2))))))]) (am (aN ie [.ex (dS (aT dU (pV 2) (dJ (pC (.int 2)))))]) (am (aN fE [.ex (dS (aT dU (pV 2) (dJ (pC (.int 1)))))]) bg)))))))
noncomputable def gj : GF := dF 3 [2] kN
noncomputable def za : DS := (aL (fk (nU (am (dS (pC (.int 8))) bg)) (du 1) (aL (bE 2 (aN iW [.bo 0, .ex (dS (aT fQ (aT gU (pC (.int 8)) (pV 1)) (pC (.int 7))))]))
   (aL (bE 3 (bN fQ (dS (pC (.int 1))) (aN dl [.bo 2, .ex (dS (pC (.int 4)))])))
   (aL (i7 (aN nW [.bo 0, .ex (dS (aT gU (pC (.int 8)) (pV 1))), .bo 3]) (fm 2 (cF (du 4) (cF (du 5) fM))))
   (aL (bE 6 (aN iz [.bo 2]))
   (aL (fk (nU (am (dS (pC (.int 2))) bg)) (du 7) (aL (bE 8 (aN gS [.bo 3, .bo 4]))
   (aL (dw (hX (aV (aN iV [.bo 8, .bo 5]))) eE cH)
   (jr (n5 8)))))
   (fk (iF (ez (am (cV (am (dS (pC (.str " >= "))) (am (dS (pC (.str ">"))) bg))) (am (cV (am (dS (pC (.str " = "))) (am (dS (pC (.str "="))) bg))) bg)))) (fm 2 (cF (du 9) (cF (du 10) fM))) (aL (bE 11 (aN gj [.bo 3, .ex (dS (aT cQ (aT cQ (pV 4) (pV 9)) (cM kl [(pV 6)])))]))
   (dw (g8 (hX (aV (dS (cM kw [(pV 11), (pC (.ty "tuple"))])))) (g8 (aV (m9 lq 11 (cV (am (j5 5) (am (dS (pV 10)) (am (dS (pV 6)) bg)))))) (hX (aV (sB (rh 11 (pC (.int 0))) (j6 iV [.bp 11 (pC (.int 0)), .bo 5]) (aN iV [.ex (wG (j5 11) (dS (pC (.int 0)))), .bo 5])))))) eE cH)))))))))
   (cf (dS (pC (.bl true)))))
noncomputable def jD : GF := dF 12 [1, 2, 3, 4, 5, 6, 7, 8, 9, 10, 11] za
set_option genInjectivity false
set_option genSizeOfSpec false
set_option genSizeOf false
structure Txt (K : PySem.W.Frag) (mg : Str -> Option Value) where
 a_read_number : Addr
 d_read_number : FuncData
 a_in_two : Addr
 d_in_two : FuncData
 a_all_names : Addr
 d_all_names : FuncData
 a_names_in : Addr
 d_names_in : FuncData
 a_signed_terms : Addr
 d_signed_terms : FuncData
 a_read_sign : Addr
 d_read_sign : FuncData
 a_lmixed : Addr
 d_lmixed : FuncData
 a_lpile : Addr
 d_lpile : FuncData
 a_lsame : Addr
 d_lsame : FuncData
 a_lletters : Addr
 d_lletters : FuncData
 a_ladded : Addr
 d_ladded : FuncData
 a_row_of_terms : Addr
 d_row_of_terms : FuncData
 a_show_group : Addr
 d_show_group : FuncData
 a_read_whole : Addr
 d_read_whole : FuncData
 a_ltake : Addr
 d_ltake : FuncData
 a_rest_row : Addr
 d_rest_row : FuncData
 a_shared_row : Addr
 d_shared_row : FuncData
 a_read_count : Addr
 d_read_count : FuncData
 a_read_group : Addr
 d_read_group : FuncData
 a_lnumber : Addr
 d_lnumber : FuncData
 a_lterm : Addr
 d_lterm : FuncData
 a_read_known : Addr
 d_read_known : FuncData
 a_lsum : Addr
 d_lsum : FuncData
 a_read_rest : Addr
 d_read_rest : FuncData
 a_read_shared : Addr
 d_read_shared : FuncData
 a_read_form : Addr
 d_read_form : FuncData
 a_read_term : Addr
 d_read_term : FuncData
 a_read_row : Addr
 d_read_row : FuncData
 a_read_saying : Addr
 d_read_saying : FuncData
structure Tx {K : PySem.W.Frag} {mg : Str -> Option Value} (t : Txt K mg) : Prop where
 F_read_number : Fun K "read_number" "read_number" eV t.a_read_number t.d_read_number
 m_read_number : mg "read_number" = some (.ref t.a_read_number)
 n_read_number : Binds K t.d_read_number ["text"] []
 F_in_two : Fun K "in_two" "in_two" i6 t.a_in_two t.d_in_two
 m_in_two : mg "in_two" = some (.ref t.a_in_two)
 n_in_two : Binds K t.d_in_two ["text", "sign"] []
 F_all_names : Fun K "all_names" "all_names" fV t.a_all_names t.d_all_names
 m_all_names : mg "all_names" = some (.ref t.a_all_names)
 n_all_names : Binds K t.d_all_names ["n"] []
 F_names_in : Fun K "names_in" "names_in" gG t.a_names_in t.d_names_in
 m_names_in : mg "names_in" = some (.ref t.a_names_in)
 n_names_in : Binds K t.d_names_in ["n", "group"] []
 F_signed_terms : Fun K "signed_terms" "signed_terms" eG t.a_signed_terms t.d_signed_terms
 m_signed_terms : mg "signed_terms" = some (.ref t.a_signed_terms)
 n_signed_terms : Binds K t.d_signed_terms ["text"] []
 F_read_sign : Fun K "read_sign" "read_sign" fS t.a_read_sign t.d_read_sign
 m_read_sign : mg "read_sign" = some (.ref t.a_read_sign)
 n_read_sign : Binds K t.d_read_sign ["word"] []
 F_lmixed : Fun K "_law_mixed" "_law_mixed" i4 t.a_lmixed t.d_lmixed
 m_lmixed : mg "_law_mixed" = some (.ref t.a_lmixed)
 n_lmixed : Binds K t.d_lmixed ["_law_cell", "_law_k"] []
 F_lpile : Fun K "_law_pile" "_law_pile" jV t.a_lpile t.d_lpile
 m_lpile : mg "_law_pile" = some (.ref t.a_lpile)
 n_lpile : Binds K t.d_lpile ["_law_script", "_law_k"] []
 F_lsame : Fun K "_law_same" "_law_same" jU t.a_lsame t.d_lsame
 m_lsame : mg "_law_same" = some (.ref t.a_lsame)
 n_lsame : Binds K t.d_lsame ["_law_found", "_law_due"] []
 F_lletters : Fun K "_law_letters" "_law_letters" gH t.a_lletters t.d_lletters
 m_lletters : mg "_law_letters" = some (.ref t.a_lletters)
 n_lletters : Binds K t.d_lletters ["_law_group"] []
 F_ladded : Fun K "_law_added" "_law_added" i5 t.a_ladded t.d_ladded
 m_ladded : mg "_law_added" = some (.ref t.a_ladded)
 n_ladded : Binds K t.d_ladded ["_law_row", "_law_terms", "_law_times"] []
 F_row_of_terms : Fun K "row_of_terms" "row_of_terms" eH t.a_row_of_terms t.d_row_of_terms
 m_row_of_terms : mg "row_of_terms" = some (.ref t.a_row_of_terms)
 n_row_of_terms : Binds K t.d_row_of_terms ["n", "terms"] []
 F_show_group : Fun K "show_group" "show_group" fv t.a_show_group t.d_show_group
 m_show_group : mg "show_group" = some (.ref t.a_show_group)
 n_show_group : Binds K t.d_show_group ["group"] []
 F_read_whole : Fun K "read_whole" "read_whole" fx t.a_read_whole t.d_read_whole
 m_read_whole : mg "read_whole" = some (.ref t.a_read_whole)
 n_read_whole : Binds K t.d_read_whole ["text"] []
 F_ltake : Fun K "_law_take" "_law_take" jT t.a_ltake t.d_ltake
 m_ltake : mg "_law_take" = some (.ref t.a_ltake)
 n_ltake : Binds K t.d_ltake ["_law_pile_here", "_law_many"] []
 F_rest_row : Fun K "rest_row" "rest_row" gE t.a_rest_row t.d_rest_row
 m_rest_row : mg "rest_row" = some (.ref t.a_rest_row)
 n_rest_row : Binds K t.d_rest_row ["n", "a", "b"] []
 F_shared_row : Fun K "shared_row" "shared_row" fw t.a_shared_row t.d_shared_row
 m_shared_row : mg "shared_row" = some (.ref t.a_shared_row)
 n_shared_row : Binds K t.d_shared_row ["n", "a", "b", "c"] []
 F_read_count : Fun K "read_count" "read_count" fB t.a_read_count t.d_read_count
 m_read_count : mg "read_count" = some (.ref t.a_read_count)
 n_read_count : Binds K t.d_read_count ["text", "least"] []
 F_read_group : Fun K "read_group" "read_group" fA t.a_read_group t.d_read_group
 m_read_group : mg "read_group" = some (.ref t.a_read_group)
 n_read_group : Binds K t.d_read_group ["n", "text"] []
 F_lnumber : Fun K "_law_number" "_law_number" iq t.a_lnumber t.d_lnumber
 m_lnumber : mg "_law_number" = some (.ref t.a_lnumber)
 n_lnumber : Binds K t.d_lnumber ["_law_pile_here"] []
 F_lterm : Fun K "_law_term" "_law_term" jS t.a_lterm t.d_lterm
 m_lterm : mg "_law_term" = some (.ref t.a_lterm)
 n_lterm : Binds K t.d_lterm ["_law_pile_here", "_law_n"] []
 F_read_known : Fun K "read_known" "read_known" fy t.a_read_known t.d_read_known
 m_read_known : mg "read_known" = some (.ref t.a_read_known)
 n_read_known : Binds K t.d_read_known ["n", "parts"] []
 F_lsum : Fun K "_law_sum" "_law_sum" kT t.a_lsum t.d_lsum
 m_lsum : mg "_law_sum" = some (.ref t.a_lsum)
 n_lsum : Binds K t.d_lsum ["_law_script", "_law_start", "_law_n"] []
 F_read_rest : Fun K "read_rest" "read_rest" fT t.a_read_rest t.d_read_rest
 m_read_rest : mg "read_rest" = some (.ref t.a_read_rest)
 n_read_rest : Binds K t.d_read_rest ["n", "text"] []
 F_read_shared : Fun K "read_shared" "read_shared" eT t.a_read_shared t.d_read_shared
 m_read_shared : mg "read_shared" = some (.ref t.a_read_shared)
 n_read_shared : Binds K t.d_read_shared ["n", "text"] []
 F_read_form : Fun K "read_form" "read_form" fU t.a_read_form t.d_read_form
 m_read_form : mg "read_form" = some (.ref t.a_read_form)
 n_read_form : Binds K t.d_read_form ["n", "text"] []
 F_read_term : Fun K "read_term" "read_term" fR t.a_read_term t.d_read_term
 m_read_term : mg "read_term" = some (.ref t.a_read_term)
 n_read_term : Binds K t.d_read_term ["n", "sign", "words"] []
 F_read_row : Fun K "read_row" "read_row" gF t.a_read_row t.d_read_row
 m_read_row : mg "read_row" = some (.ref t.a_read_row)
 n_read_row : Binds K t.d_read_row ["n", "text"] []
 F_read_saying : Fun K "read_saying" "read_saying" eU t.a_read_saying t.d_read_saying
 m_read_saying : mg "read_saying" = some (.ref t.a_read_saying)
 n_read_saying : Binds K t.d_read_saying ["n", "text"] []
 b_abs : mg "abs" = none
 b_all : mg "all" = none
 b_bool : mg "bool" = none
 b_enumerate : mg "enumerate" = none
 b_int : mg "int" = none
 b_isinstance : mg "isinstance" = none
 b_len : mg "len" = none
 b_list : mg "list" = none
 b_range : mg "range" = none
 b_str : mg "str" = none
 b_tuple : mg "tuple" = none
 b_zip : mg "zip" = none
 c_FIGURES : ∃ t, mg "FIGURES" = some (.str "0123456789" t)
 c_LETTERS : ∃ t, mg "LETTERS" = some (.str "abcd" t)
 c_MOST_FIGURES : ∃ t, mg "MOST_FIGURES" = some (.int 2000 t)
 c_MOST_NAMES : ∃ t, mg "MOST_NAMES" = some (.int 4 t)
section
variable {P : Program} {w : World} {K : PySem.W.Frag} {mg : Str -> Option Value} {base : Heap} {t : Txt K mg}
theorem oY (T : Tx t) : ck P w K mg base dc 1 t.a_read_number t.d_read_number ["text"] (dd K 1 gk) := by
 refine db (N := ["text", "figures"]) (W := [1]) T.F_read_number sc_read_number dC fun cdv A outer s H E hr => ?_
 have hu := hr.units;exact (aj (aX 1 sc_read_number.nd (nB (g9 (ju (ae (ag 0)) (ae aY))) (nA (ae (ag 0)) (hB af) oQ) (ae (ag 0))))
   (aj (cA (jH (jt (bI u8 (ae (eN (id := "len") iU (by rfl) T.b_len (by decide +kernel) (bf (ag 1) cj))) (ae af) (bz _)) (jt (bI xP (ae (eN (id := "len") iU (by rfl) T.b_len (by decide +kernel) (bf (ag 1) cj))) (ae (tO (by rfl) T.c_MOST_FIGURES)) (bz _)) (jW (jX (g9 (yR (id := "all") (DY (by rfl)) (by rfl) T.b_all (by decide +kernel) (ai (o6 ["text", "figures", "sign"] (Bi (ae (ag 1))) (fun _ _ _ _ _ => by exact (bO 2 (show List.Nodup (["text", "figures", "sign"] : List Str) by decide +kernel))) (fun _ _ _ _ _ => by exact mf) (fun _ _ _ _ _ => by exact (ae (vT Du (ag 2) (qU (by rfl) T.c_FIGURES) (by rfl))))) aR)))))))) cI bR)
   (aj (cA (jH (ny (bI (dR hu) (ae (df (hs := eh) (ag 1) af)) (ae aY) (bz _)) (md (bI (oZ hu) (ae (ag 0)) (ae aY) (bz _))))) cI bR)
   (av (bx (ae (qp (T := "int") Cu (by rfl) T.b_int (by decide +kernel) (bf (ag 0) cj))))))))
theorem v7 (T : Tx t) : ck P w K mg base dc 1 t.a_in_two t.d_in_two ["text", "sign"] (dd K 2 kB) := by
 refine db (N := ["text", "sign", "parts"]) (W := [2]) T.F_in_two sc_in_two dC fun cdv A outer s H E hr => ?_
 have hu := hr.units;exact (aj (aX 2 sc_in_two.nd (ja (ae (ag 0)) (ae (ag 1))))
   (aj (cA (bI (oZ hu) (ae (eN (id := "len") iU (by rfl) T.b_len (by decide +kernel) (bf (ag 2) cj))) (ae af) (bz _)) cI bR)
   (av (bx (qo 2)))))
theorem jb (T : Tx t) : ck P w K mg base dc 1 t.a_all_names t.d_all_names ["n"] (dd K 1 e8) := by
 refine db (N := ["n"]) (W := []) T.F_all_names qM dC fun cdv A outer s H E hr => ?_
 have hu := hr.units;exact (av (bx (ae (aQ jy (aQ qq af (ag 0)) af))))
theorem tj (T : Tx t) : ck P w K mg base dc 1 t.a_names_in t.d_names_in ["n", "group"] (dd K 2 iS) := by
 refine db (N := ["n", "group"]) (W := []) T.F_names_in sX dC fun cdv A outer s H E hr => ?_
 have hu := hr.units;exact (av (bx (o6 ["n", "group", "k"] (nz (by rfl) T.b_range (ai (ae (ag 0)) aR)) (fun _ _ _ _ _ => by exact (bO 2 (show List.Nodup (["n", "group", "k"] : List Str) by decide +kernel))) (fun _ _ _ _ _ => by exact (oR (bI (oZ hu) (ae (aQ yU (ag 1) (aQ qq af (ag 2)))) (ae af) (bz _)))) (fun _ _ _ _ _ => by exact (ae (ag 2))))))
theorem nD (T : Tx t) : ck P w K mg base dc 1 t.a_signed_terms t.d_signed_terms ["text"] (dd K 1 fL) := by
 refine db (N := ["text", "signs", "terms", "word"]) (W := [1, 2, 3]) T.F_signed_terms sc_signed_terms dC fun cdv A outer s H E hr => ?_
 have hu := hr.units;exact (aj (aX 1 sc_signed_terms.nd (dA (ai (nB (g9 (ju (ae (ag 0)) (ae aY))) (ae (cW af)) (ae af)) aR)))
   (aj (aX 2 sc_signed_terms.nd (dA (ai (dA aR) aR)))
   (aj (eZ (by rfl) (ir (ja (nB (bI (dR hu) (ae (df (hs := eh) (ag 1) af)) (ae (cW af)) (bz _)) (nA (ae (ag 0)) (hB af) oQ) (ae (ag 0))) (ae aY))) (bO 3 sc_signed_terms.nd) (av (cA (jH (jt (bI (dR hu) (ae (ag 3)) (ae aY) (bz _)) (jW (bI (dR hu) (ae (ag 3)) (ae aY) (bz _))))) (aj (me (tN 1 (nB (bI (dR hu) (ae (ag 3)) (ae aY) (bz _)) (ae af) (ae (cW af)))))
   (av (me (tN 2 (dA aR))))) (av (me (zM (yP (oP 2) (cW af)) (ag 3)))))) PassesOwn.never)
   (av (bx (uX (by rfl) (by rfl) T.b_list (by rfl) T.b_zip (ai (ia 1) (ai (ia 2) aR))))))))
theorem rF (T : Tx t) : ck P w K mg base dc 1 t.a_read_sign t.d_read_sign ["word"] (dd K 1 ie) := by
 refine db (N := ["word"]) (W := []) T.F_read_sign qK dC fun cdv A outer s H E hr => ?_
 have hu := hr.units;exact (aj (cA (bI (dR hu) (ae (ag 0)) (ae aY) (bz _)) (av (bx (ae aY))) bR)
   (aj (cA (bI (dR hu) (ae (ag 0)) (ae aY) (bz _)) (av (bx (ae aY))) bR)
   cI))
theorem v5 (T : Tx t) : ck P w K mg base dc 1 t.a_lmixed t.d_lmixed ["_law_cell", "_law_k"] (dd K 2 kz) := by
 refine db (N := ["_law_cell", "_law_k", "_law_number_here"]) (W := [2, 2]) T.F_lmixed sc_lmixed dC fun cdv A outer s H E hr => ?_
 have hu := hr.units;exact (aj (aX 2 sc_lmixed.nd (ae (aQ mj (aQ eO (aQ eO (aQ gg (aQ mj (ag 0) af) af) (aQ gg (ag 1) af)) af) af)))
   (aj (aX 2 sc_lmixed.nd (ae (aQ mj (aQ gg (ag 2) (ag 2)) af)))
   (av (bx (ae (aQ mj (aQ gg (ag 2) (ag 2)) af))))))
theorem rK (T : Tx t) : ck P w K mg base dc 1 t.a_lpile t.d_lpile ["_law_script", "_law_k"] (dd K 2 iW) := by
 refine db (N := ["_law_script", "_law_k", "_law_cell"]) (W := [2, 2]) T.F_lpile sc_lpile dC fun cdv A outer s H E hr => ?_
 have hu := hr.units;exact (aj (aX 2 sc_lpile.nd (ae af))
   (aj (cA (bI u8 (ae (ag 1)) (ae (eN (id := "len") iU (by rfl) T.b_len (by decide +kernel) (bf (ag 0) cj))) (bz _)) (av (aX 2 sc_lpile.nd (ae (df (ag 0) (ag 1))))) bR)
   (av (bx (dA (ai (ae (aQ gg (ag 2) (qp (T := "int") DX (by rfl) T.b_int (by decide +kernel) (bf (vT BQ (eN (id := "abs") vv (by rfl) T.b_abs (by decide +kernel) (bf (ag 2) cj)) (aQ qr af af) (bz _)) cj)))) (ai (ae (ag 2)) (ai (ae (aQ gg af (ag 1))) aR))))))))
theorem xM (T : Tx t) : ck P w K mg base dc 1 t.a_lsame t.d_lsame ["_law_found", "_law_due"] (dd K 2 iV) := by
 refine db (N := ["_law_found", "_law_due"]) (W := []) T.F_lsame xq dC fun cdv A outer s H E hr => ?_
 have hu := hr.units;exact (aj (cA (jH (jt (jX (g9 (ae (eN (id := "isinstance") qA (by rfl) T.b_isinstance (by decide +kernel) (bf (ag 0) (bf (jv (T := "list") (by rfl) T.b_list (by decide +kernel)) cj)))))) (jW (tL (oZ hu) (ag 0) (ag 1) (bz _))))) cI bR)
   (av (bx (Bl (dR hu) (zK 1 (zJ 0 (o6 ["_law_found", "_law_due", "_law_one"] (ir (ia 0)) (fun _ _ _ _ _ => by exact (bO 2 (show List.Nodup (["_law_found", "_law_due", "_law_one"] : List Str) by decide +kernel))) (fun _ _ _ _ _ => by exact (oR (jH (jt (g9 (ae (eN (id := "isinstance") qA (by rfl) T.b_isinstance (by decide +kernel) (bf (ag 2) (bf (jv (T := "bool") (by rfl) T.b_bool (by decide +kernel)) cj))))) (jW (jX (g9 (ae (eN (id := "isinstance") qA (by rfl) T.b_isinstance (by decide +kernel) (bf (ag 2) (bf (jv (T := "int") (by rfl) T.b_int (by decide +kernel)) cj))))))))))) (fun _ _ _ _ _ => by exact (ia 2))))) (dA aR) (bz _)))))
theorem tm (T : Tx t) : ck P w K mg base dc 1 t.a_lletters t.d_lletters ["_law_group"] (dd K 1 dL) := by
 refine db (N := ["_law_group"]) (W := []) T.F_lletters sY dC fun cdv A outer s H E hr => ?_
 have hu := hr.units;exact (av (bx (oS (ae aY) (o6 ["_law_group", "_law_name", "_law_letter"] (uW (by rfl) T.b_enumerate (ae aY)) (fun _ _ _ _ _ => by exact (iu (by rfl) (cN (bO 1 (show List.Nodup (["_law_group", "_law_name", "_law_letter"] : List Str) by decide +kernel)) (cN (bO 2 (show List.Nodup (["_law_group", "_law_name", "_law_letter"] : List Str) by decide +kernel)) gw)))) (fun _ _ _ _ _ => by exact (oR (bI (dR hu) (ae (aQ yU (aQ Dt (ag 0) (ag 1)) af)) (ae af) (bz _)))) (fun _ _ _ _ _ => by exact (ae (ag 2)))))))
theorem v6 (T : Tx t) : ck P w K mg base dc 1 t.a_ladded t.d_ladded ["_law_row", "_law_terms", "_law_times"] (dd K 3 kA) := by
 refine db (N := ["_law_row", "_law_terms", "_law_times", "_law_found", "_law_group", "_law_number_here"]) (W := [3, 4, 5]) T.F_ladded sc_ladded dC fun cdv A outer s H E hr => ?_
 have hu := hr.units;exact (aj (aX 3 sc_ladded.nd (xC (by rfl) T.b_list (by decide +kernel) (ag 0)))
   (aj (eZ (by rfl) (ir (ia 1)) (iu (by rfl) (cN (bO 4 sc_ladded.nd) (cN (bO 5 sc_ladded.nd) gw))) (av (cA (bI xP (ae (ag 4)) (ae af) (bz _)) (av (kY (ae (aQ eO (df (ag 3) (aQ jy (ag 4) af)) (aQ gg (ag 2) (ag 5)))) (qS (oP 3) (aQ jy (ag 4) af)))) bR)) PassesOwn.never)
   (av (bx (qo 3)))))
theorem jx (T : Tx t) : ck P w K mg base dc 2 t.a_row_of_terms t.d_row_of_terms ["n", "terms"] (dd K 2 eK) := by
 have G_all_names := jb (P := P) (w := w) (base := base) T;refine db (N := ["n", "terms", "row", "group", "number"]) (W := [2, 3, 4]) T.F_row_of_terms sc_row_of_terms dC fun cdv A outer s H E hr => ?_
 have hu := hr.units;exact (aj (aX 2 sc_row_of_terms.nd (qT (dA (ai (ae af) aR)) (aw G_all_names (hr.mono dC) (by rfl) T.m_all_names T.F_all_names.kp T.n_all_names (aK 0 aH))))
   (aj (eZ (by rfl) (ir (ia 1)) (iu (by rfl) (cN (bO 3 sc_row_of_terms.nd) (cN (bO 4 sc_row_of_terms.nd) gw))) (av (cA (bI (oZ hu) (ae (ag 3)) (ae af) (bz _)) (av (zH BP (oP 2) (aQ jy (ag 3) af) (ag 4))) bR)) PassesOwn.never)
   (av (bx (qo 2)))))
theorem qf (T : Tx t) : ck P w K mg base dc 2 t.a_show_group t.d_show_group ["group"] (dd K 1 gQ) := by
 have G_names_in := tj (P := P) (w := w) (base := base) T;refine db (N := ["group"]) (W := []) T.F_show_group qc dC fun cdv A outer s H E hr => ?_
 have hu := hr.units;exact (av (bx (oS (ae aY) (o6 ["group", "name"] (ir (aw G_names_in (hr.mono dC) (by rfl) T.m_names_in T.F_names_in.kp T.n_names_in (bL (ae (tO (by rfl) T.c_MOST_NAMES)) (aK 0 aH)))) (fun _ _ _ _ _ => by exact (bO 1 (show List.Nodup (["group", "name"] : List Str) by decide +kernel))) (fun _ _ _ _ _ => by exact mf) (fun _ _ _ _ _ => by exact (ae (df (qU (by rfl) T.c_LETTERS) (ag 1))))))))
theorem kH (T : Tx t) : ck P w K mg base dc 2 t.a_read_whole t.d_read_whole ["text"] (dd K 1 fE) := by
 have G_read_number := oY (P := P) (w := w) (base := base) T;refine db (N := ["text", "number"]) (W := [1]) T.F_read_whole sc_read_whole dC fun cdv A outer s H E hr => ?_
 have hu := hr.units;exact (aj (aX 1 sc_read_whole.nd (aw G_read_number (hr.mono dC) (by rfl) T.m_read_number T.F_read_number.kp T.n_read_number (aK 0 aH)))
   (aj (cA (bI BQ (ae (eN (id := "abs") vv (by rfl) T.b_abs (by decide +kernel) (bf (ag 1) cj))) (ae (aQ qr af af)) (bz _)) cI bR)
   (av (bx (ae (ag 1))))))
theorem kt (T : Tx t) : ck P w K mg base dc 2 t.a_ltake t.d_ltake ["_law_pile_here", "_law_many"] (dd K 2 dl) := by
 have G_lmixed := v5 (P := P) (w := w) (base := base) T;refine db (N := ["_law_pile_here", "_law_many", "_law_digit"]) (W := [2]) T.F_ltake sc_ltake dC fun cdv A outer s H E hr => ?_
 have hu := hr.units;exact (aj (cA (tL (EU hu) (df (hs := eh) (ag 0) af) (nC (bf af (bf (cW af) cj))) (by rfl)) (aj (kY (ae (aQ eO (df (hs := eh) (ag 0) af) af)) (qS (oP 0) af))
   (av (bx (dn mj (aw G_lmixed (hr.mono dC) (by rfl) T.m_lmixed T.F_lmixed.kp T.n_lmixed (bL (ae (df (hs := eh) (ag 0) af)) (bL (ae (df (hs := eh) (ag 0) af)) aH))) (ae (ag 1)))))) bR)
   (aj (aX 2 sc_ltake.nd (ae (aQ mj (df (hs := eh) (ag 0) af) (ag 1))))
   (aj (kY (ae (aQ Dv (df (hs := eh) (ag 0) af) (ag 1))) (qS (oP 0) af))
   (av (bx (ae (ag 2)))))))
theorem tf (T : Tx t) : ck P w K mg base dc 3 t.a_rest_row t.d_rest_row ["n", "a", "b"] (dd K 3 iR) := by
 have G_row_of_terms := jx (P := P) (w := w) (base := base) T;refine db (N := ["n", "a", "b"]) (W := []) T.F_rest_row sW dC fun cdv A outer s H E hr => ?_
 have hu := hr.units;exact (av (bx (aw G_row_of_terms (hr.mono dC) (by rfl) T.m_row_of_terms T.F_row_of_terms.kp T.n_row_of_terms (aK 0 (bL (dA (ai (cu (ai (ae (aQ je (ag 1) (ag 2))) (ai (ae af) aR))) (ai (cu (ai (ae (ag 2)) (ai (ae (cW af)) aR))) aR))) aH)))))
theorem qg (T : Tx t) : ck P w K mg base dc 3 t.a_shared_row t.d_shared_row ["n", "a", "b", "c"] (dd K 4 gR) := by
 have G_row_of_terms := jx (P := P) (w := w) (base := base) T;refine db (N := ["n", "a", "b", "c"]) (W := []) T.F_shared_row qd dC fun cdv A outer s H E hr => ?_
 have hu := hr.units;exact (av (bx (aw G_row_of_terms (hr.mono dC) (by rfl) T.m_row_of_terms T.F_row_of_terms.kp T.n_row_of_terms (aK 0 (bL (dA (ai (cu (ai (ae (aQ je (ag 1) (ag 3))) (ai (ae af) aR))) (ai (cu (ai (ae (aQ je (ag 2) (ag 3))) (ai (ae af) aR))) (ai (cu (ai (ae (aQ je (aQ je (ag 1) (ag 2)) (ag 3))) (ai (ae (cW af)) aR))) (ai (cu (ai (ae (ag 3)) (ai (ae (cW af)) aR))) aR))))) aH)))))
theorem qh (T : Tx t) : ck P w K mg base dc 3 t.a_read_count t.d_read_count ["text", "least"] (dd K 2 gT) := by
 have G_read_whole := kH (P := P) (w := w) (base := base) T;refine db (N := ["text", "least", "number"]) (W := [2]) T.F_read_count sc_read_count dC fun cdv A outer s H E hr => ?_
 have hu := hr.units;exact (aj (aX 2 sc_read_count.nd (aw G_read_whole (hr.mono dC) (by rfl) T.m_read_whole T.F_read_whole.kp T.n_read_whole (aK 0 aH)))
   (aj (cA (bI u8 (ae (ag 2)) (ae (ag 1)) (bz _)) cI bR)
   (av (bx (ae (ag 2))))))
theorem iC (T : Tx t) : ck P w K mg base dc 3 t.a_read_group t.d_read_group ["n", "text"] (dd K 2 dW) := by
 have G_all_names := jb (P := P) (w := w) (base := base) T;have G_show_group := qf (P := P) (w := w) (base := base) T;refine db (N := ["n", "text", "group"]) (W := [2]) T.F_read_group sc_read_group dC fun cdv A outer s H E hr => ?_
 have hu := hr.units;exact (aj (eZ (by rfl) (Df (by rfl) T.b_range (ai (ae af) (ai (dn eO (aw G_all_names (hr.mono dC) (by rfl) T.m_all_names T.F_all_names.kp T.n_all_names (aK 0 aH)) (ae af)) aR))) (bO 2 sc_read_group.nd) (av (cA (bI (dR hu) (aw G_show_group (hr.mono dC) (by rfl) T.m_show_group T.F_show_group.kp T.n_show_group (aK 2 aH)) (ae (ag 1)) (bz _)) (av (bx (ae (ag 2)))) bR)) PassesOwn.never)
   cI)
theorem nE (T : Tx t) : ck P w K mg base dc 3 t.a_lnumber t.d_lnumber ["_law_pile_here"] (dd K 1 iz) := by
 have G_ltake := kt (P := P) (w := w) (base := base) T;refine db (N := ["_law_pile_here", "_law_way", "_law_number_here", "_law_k"]) (W := [1, 2, 3, 2]) T.F_lnumber sc_lnumber dC fun cdv A outer s H E hr => ?_
 have hu := hr.units;exact (aj (aX 1 sc_lnumber.nd (aw G_ltake (hr.mono dC) (by rfl) T.m_ltake T.F_ltake.kp T.n_ltake (aK 0 (bL (ae af) aH))))
   (aj (cA (bI (dR hu) (ae (ag 1)) (ae af) (bz _)) (aj (aX 2 sc_lnumber.nd (ae af))
   (aj (eZ (by rfl) (nz (by rfl) T.b_range (ai (ae af) aR)) (bO 3 sc_lnumber.nd) (av (aX 2 sc_lnumber.nd (dn eO (ae (aQ gg (ag 2) (aQ qr af af))) (aw G_ltake (hr.mono dC) (by rfl) T.m_ltake T.F_ltake.kp T.n_ltake (aK 0 (bL (ae (aQ qr af af)) aH)))))) PassesOwn.never)
   (av (bx (yQ (dA (ai (ae (ag 2)) (ai (ae (cW (ag 2))) aR))) (aw G_ltake (hr.mono dC) (by rfl) T.m_ltake T.F_ltake.kp T.n_ltake (aK 0 (bL (ae af) aH)))))))) bR)
   (aj (cA (bI (dR hu) (ae (ag 1)) (ae af) (bz _)) (av (bx (dn jy (aw G_ltake (hr.mono dC) (by rfl) T.m_ltake T.F_ltake.kp T.n_ltake (aK 0 (bL (ae af) aH))) (ae af)))) bR)
   (av (bx (dn jy (aw G_ltake (hr.mono dC) (by rfl) T.m_ltake T.F_ltake.kp T.n_ltake (aK 0 (bL (ae af) aH))) (ae af)))))))
theorem xL (T : Tx t) : ck P w K mg base dc 3 t.a_lterm t.d_lterm ["_law_pile_here", "_law_n"] (dd K 2 my) := by
 have G_lletters := tm (P := P) (w := w) (base := base) T;have G_ltake := kt (P := P) (w := w) (base := base) T;refine db (N := ["_law_pile_here", "_law_n", "_law_whole", "_law_a", "_law_b", "_law_c", "_law_way", "_law_both"]) (W := [2, 3, 4, 5, 6, 7]) T.F_lterm sc_lterm dC fun cdv A outer s H E hr => ?_
 have hu := hr.units;exact (aj (aX 2 sc_lterm.nd (ae (aQ jy (aQ qq af (ag 1)) af)))
   (aj (aX 3 sc_lterm.nd (dn eO (ae af) (aw G_ltake (hr.mono dC) (by rfl) T.m_ltake T.F_ltake.kp T.n_ltake (aK 0 (aK 2 aH)))))
   (aj (aX 4 sc_lterm.nd (dn eO (ae af) (aw G_ltake (hr.mono dC) (by rfl) T.m_ltake T.F_ltake.kp T.n_ltake (aK 0 (aK 2 aH)))))
   (aj (aX 5 sc_lterm.nd (dn eO (ae af) (aw G_ltake (hr.mono dC) (by rfl) T.m_ltake T.F_ltake.kp T.n_ltake (aK 0 (aK 2 aH)))))
   (aj (aX 6 sc_lterm.nd (aw G_ltake (hr.mono dC) (by rfl) T.m_ltake T.F_ltake.kp T.n_ltake (aK 0 (bL (ae af) aH))))
   (aj (cA (bI (dR hu) (ae (ag 6)) (ae af) (bz _)) (av (bx (cu (ai (dn cR (dn cR (ae aY) (aw G_lletters (hr.mono dC) (by rfl) T.m_lletters T.F_lletters.kp T.n_lletters (aK 3 aH))) (ae aY)) (ai (by exact (dA (ai (cu (ai (ae (ag 3)) (ai (ae af) aR))) aR))) aR))))) bR)
   (aj (cA (bI (dR hu) (ae (ag 6)) (ae af) (bz _)) (av (bx (cu (ai (dn cR (dn cR (dn cR (dn cR (ae aY) (aw G_lletters (hr.mono dC) (by rfl) T.m_lletters T.F_lletters.kp T.n_lletters (aK 3 aH))) (ae aY)) (aw G_lletters (hr.mono dC) (by rfl) T.m_lletters T.F_lletters.kp T.n_lletters (aK 4 aH))) (ae aY)) (ai (by exact (dA (ai (cu (ai (ae (aQ je (ag 3) (ag 4))) (ai (ae af) aR))) (ai (cu (ai (ae (ag 4)) (ai (ae (cW af)) aR))) aR)))) aR))))) bR)
   (aj (aX 7 sc_lterm.nd (dn cR (dn cR (dn cR (ae aY) (aw G_lletters (hr.mono dC) (by rfl) T.m_lletters T.F_lletters.kp T.n_lletters (aK 3 aH))) (ae aY)) (aw G_lletters (hr.mono dC) (by rfl) T.m_lletters T.F_lletters.kp T.n_lletters (aK 4 aH))))
   (aj (cA (bI (dR hu) (ae (ag 6)) (ae af) (bz _)) (av (bx (cu (ai (ae (aQ cR (ag 7) aY)) (ai (by exact (dA (ai (cu (ai (ae (ag 3)) (ai (ae af) aR))) (ai (cu (ai (ae (ag 4)) (ai (ae af) aR))) (ai (cu (ai (ae (aQ je (ag 3) (ag 4))) (ai (ae (cW af)) aR))) aR))))) aR))))) bR)
   (av (bx (cu (ai (dn cR (dn cR (ae (aQ cR (ag 7) aY)) (aw G_lletters (hr.mono dC) (by rfl) T.m_lletters T.F_lletters.kp T.n_lletters (aK 5 aH))) (ae aY)) (ai (by exact (dA (ai (cu (ai (ae (aQ je (ag 3) (ag 5))) (ai (ae af) aR))) (ai (cu (ai (ae (aQ je (ag 4) (ag 5))) (ai (ae af) aR))) (ai (cu (ai (ae (aQ je (aQ je (ag 3) (ag 4)) (ag 5))) (ai (ae (cW af)) aR))) (ai (cu (ai (ae (ag 5)) (ai (ae (cW af)) aR))) aR)))))) aR))))))))))))))
theorem kI (T : Tx t) : ck P w K mg base dc 4 t.a_read_known t.d_read_known ["n", "parts"] (dd K 2 fF) := by
 have G_read_group := iC (P := P) (w := w) (base := base) T;refine db (N := ["n", "parts"]) (W := []) T.F_read_known qe dC fun cdv A outer s H E hr => ?_
 have hu := hr.units;exact (aj (cA (bI xP (ae (eN (id := "len") iU (by rfl) T.b_len (by decide +kernel) (bf (ag 1) cj))) (ae af) (bz _)) cI bR)
   (av (bx (nB (bI (dR hu) (ae (eN (id := "len") iU (by rfl) T.b_len (by decide +kernel) (bf (ag 1) cj))) (ae af) (bz _)) (aw G_read_group (hr.mono dC) (by rfl) T.m_read_group T.F_read_group.kp T.n_read_group (aK 0 (bL (ae (df (hs := eh) (ag 1) af)) aH))) (ae af)))))
theorem z3 (T : Tx t) : ck P w K mg base dc 4 t.a_lsum t.d_lsum ["_law_script", "_law_start", "_law_n"] (dd K 3 nW) := by
 have G_ladded := v6 (P := P) (w := w) (base := base) T;have G_lnumber := nE (P := P) (w := w) (base := base) T;have G_lpile := rK (P := P) (w := w) (base := base) T;have G_ltake := kt (P := P) (w := w) (base := base) T;have G_lterm := xL (P := P) (w := w) (base := base) T;refine db (N := ["_law_script", "_law_start", "_law_n", "_law_row", "_law_text", "_law_k", "_law_pile_here", "_law_word", "_law_terms", "_law_number_here", "_law_low", "_law_ahead"]) (W := [3, 4, 5, 6, 7, 8, 9, 10, 11, 9, 11, 3, 4, 4]) T.F_lsum sc_lsum dC fun cdv A outer s H E hr => ?_
 have hu := hr.units;exact (aj (aX 3 sc_lsum.nd (qT (dA (ai (ae af) aR)) (ae (aQ jy (aQ qq af (ag 2)) af))))
   (aj (aX 4 sc_lsum.nd (ae aY))
   (aj (eZ (by rfl) (nz (by rfl) T.b_range (ai (dn eO (ae af) (aw G_ltake (hr.mono dC) (by rfl) T.m_ltake T.F_ltake.kp T.n_ltake (bL (aw G_lpile (hr.mono dC) (by rfl) T.m_lpile T.F_lpile.kp T.n_lpile (aK 0 (aK 1 aH))) (bL (ae af) aH)))) aR)) (bO 5 sc_lsum.nd) (aj (aX 6 sc_lsum.nd (aw G_lpile (hr.mono dC) (by rfl) T.m_lpile T.F_lpile.kp T.n_lpile (aK 0 (bL (ae (aQ eO (aQ eO (ag 1) af) (ag 5))) aH))))
   (aj (kY (aw G_lterm (hr.mono dC) (by rfl) T.m_lterm T.F_lterm.kp T.n_lterm (aK 6 (aK 2 aH))) (iu (by rfl) (cN (bO 7 sc_lsum.nd) (cN (bO 8 sc_lsum.nd) gw))))
   (aj (aX 9 sc_lsum.nd (yR (id := "abs") vv (by rfl) T.b_abs (by decide +kernel) (ai (aw G_lnumber (hr.mono dC) (by rfl) T.m_lnumber T.F_lnumber.kp T.n_lnumber (aK 6 aH)) aR)))
   (aj (aX 10 sc_lsum.nd (aw G_ltake (hr.mono dC) (by rfl) T.m_ltake T.F_ltake.kp T.n_ltake (aK 6 (bL (ae af) aH))))
   (aj (aX 11 sc_lsum.nd (ae (aQ cR (qp (T := "str") wL (by rfl) T.b_str (by decide +kernel) (bf (ag 9) cj)) aY)))
   (aj (cA (jH (jt (bI (dR hu) (ae (ag 9)) (ae af) (bz _)) (jW (jH (ny (bI (dR hu) (ae (ag 9)) (ae af) (bz _)) (md (bI (dR hu) (aw G_ltake (hr.mono dC) (by rfl) T.m_ltake T.F_ltake.kp T.n_ltake (aK 6 (bL (ae af) aH))) (ae af) (bz _)))))))) (aj (aX 9 sc_lsum.nd (ae af))
   (av (aX 11 sc_lsum.nd (ae aY)))) bR)
   (aj (aX 3 sc_lsum.nd (aw G_ladded (hr.mono dC) (by rfl) T.m_ladded T.F_ladded.kp T.n_ladded (aK 3 (aK 8 (bL (ae (df (nC (bf (ag 9) (bf (cW (ag 9)) cj))) (ag 10))) aH)))))
   (av (cA (bI (dR hu) (ae (ag 4)) (ae aY) (bz _)) (av (aX 4 sc_lsum.nd (ae (aQ cR (aQ cR (df (nC (bf aY (bf aY cj))) (ag 10)) (ag 11)) (ag 7))))) (av (aX 4 sc_lsum.nd (ae (aQ cR (aQ cR (aQ cR (ag 4) (df (nC (bf aY (bf aY cj))) (ag 10))) (ag 11)) (ag 7)))))))))))))) PassesOwn.never)
   (av (bx (cu (ai (ae (ag 4)) (ai (ia 3) aR))))))))
theorem rH (T : Tx t) : ck P w K mg base dc 5 t.a_read_rest t.d_read_rest ["n", "text"] (dd K 2 ig) := by
 have G_read_group := iC (P := P) (w := w) (base := base) T;have G_read_known := kI (P := P) (w := w) (base := base) T;have G_rest_row := tf (P := P) (w := w) (base := base) T;refine db (N := ["n", "text", "parts", "known"]) (W := [2, 3]) T.F_read_rest sc_read_rest dC fun cdv A outer s H E hr => ?_
 have hu := hr.units;exact (aj (aX 2 sc_read_rest.nd (ja (ae (ag 1)) (ae aY)))
   (aj (aX 3 sc_read_rest.nd (aw G_read_known (hr.mono dC) (by rfl) T.m_read_known T.F_read_known.kp T.n_read_known (aK 0 (aK 2 aH))))
   (av (bx (aw G_rest_row (hr.mono dC) (by rfl) T.m_rest_row T.F_rest_row.kp T.n_rest_row (aK 0 (bL (aw G_read_group (hr.mono dC) (by rfl) T.m_read_group T.F_read_group.kp T.n_read_group (aK 0 (bL (ae (df (hs := eh) (ag 2) af)) aH))) (aK 3 aH))))))))
theorem oV (T : Tx t) : ck P w K mg base dc 5 t.a_read_shared t.d_read_shared ["n", "text"] (dd K 2 gi) := by
 have G_in_two := v7 (P := P) (w := w) (base := base) T;have G_read_group := iC (P := P) (w := w) (base := base) T;have G_read_known := kI (P := P) (w := w) (base := base) T;have G_shared_row := qg (P := P) (w := w) (base := base) T;refine db (N := ["n", "text", "parts", "known", "both"]) (W := [2, 3, 4]) T.F_read_shared sc_read_shared dC fun cdv A outer s H E hr => ?_
 have hu := hr.units;exact (aj (aX 2 sc_read_shared.nd (ja (ae (ag 1)) (ae aY)))
   (aj (aX 3 sc_read_shared.nd (aw G_read_known (hr.mono dC) (by rfl) T.m_read_known T.F_read_known.kp T.n_read_known (aK 0 (aK 2 aH))))
   (aj (aX 4 sc_read_shared.nd (aw G_in_two (hr.mono dC) (by rfl) T.m_in_two T.F_in_two.kp T.n_in_two (bL (ae (df (hs := eh) (ag 2) af)) (bL (ae aY) aH))))
   (av (bx (aw G_shared_row (hr.mono dC) (by rfl) T.m_shared_row T.F_shared_row.kp T.n_shared_row (aK 0 (bL (aw G_read_group (hr.mono dC) (by rfl) T.m_read_group T.F_read_group.kp T.n_read_group (aK 0 (bL (ae (df (hs := eh) (ag 4) af)) aH))) (bL (aw G_read_group (hr.mono dC) (by rfl) T.m_read_group T.F_read_group.kp T.n_read_group (aK 0 (bL (ae (df (hs := eh) (ag 4) af)) aH))) (aK 3 aH))))))))))
theorem rJ (T : Tx t) : ck P w K mg base dc 6 t.a_read_form t.d_read_form ["n", "text"] (dd K 2 ii) := by
 have G_read_rest := rH (P := P) (w := w) (base := base) T;have G_read_shared := oV (P := P) (w := w) (base := base) T;refine db (N := ["n", "text"]) (W := []) T.F_read_form qL dC fun cdv A outer s H E hr => ?_
 have hu := hr.units;exact (aj (cA (jH (ny (g9 (ju (ae (ag 1)) (ae aY))) (md (g9 (tM (ae (ag 1)) (ae aY)))))) (av (bx (aw G_read_rest (hr.mono dC) (by rfl) T.m_read_rest T.F_read_rest.kp T.n_read_rest (aK 0 (bL (nA (ae (ag 1)) (hB af) (hB (cW af))) aH))))) bR)
   (aj (cA (jH (ny (g9 (ju (ae (ag 1)) (ae aY))) (md (g9 (tM (ae (ag 1)) (ae aY)))))) (av (bx (aw G_read_shared (hr.mono dC) (by rfl) T.m_read_shared T.F_read_shared.kp T.n_read_shared (aK 0 (bL (nA (ae (ag 1)) (hB af) (hB (cW af))) aH))))) bR)
   cI))
theorem rD (T : Tx t) : ck P w K mg base dc 7 t.a_read_term t.d_read_term ["n", "sign", "words"] (dd K 3 ic) := by
 have G_read_count := qh (P := P) (w := w) (base := base) T;have G_read_form := rJ (P := P) (w := w) (base := base) T;refine db (N := ["n", "sign", "words", "number"]) (W := [3, 3]) T.F_read_term sc_read_term dC fun cdv A outer s H E hr => ?_
 have hu := hr.units;exact (aj (cA (bI (dR hu) (ae (eN (id := "len") iU (by rfl) T.b_len (by decide +kernel) (bf (ag 2) cj))) (ae af) (bz _)) (av (aX 3 sc_read_term.nd (ae (ag 1)))) (av (cA (bI (dR hu) (ae (eN (id := "len") iU (by rfl) T.b_len (by decide +kernel) (bf (ag 2) cj))) (ae af) (bz _)) (av (aX 3 sc_read_term.nd (dn gg (ae (ag 1)) (aw G_read_count (hr.mono dC) (by rfl) T.m_read_count T.F_read_count.kp T.n_read_count (bL (ae (df (hs := eh) (ag 2) af)) (bL (ae af) aH)))))) cI)))
   (av (bx (o6 ["n", "sign", "words", "number", "x"] (ir (aw G_read_form (hr.mono dC) (by rfl) T.m_read_form T.F_read_form.kp T.n_read_form (aK 0 (bL (ae (df (ag 2) (cW af))) aH)))) (fun _ _ _ _ _ => by exact (bO 4 (show List.Nodup (["n", "sign", "words", "number", "x"] : List Str) by decide +kernel))) (fun _ _ _ _ _ => by exact mf) (fun _ _ _ _ _ => by exact (ae (aQ gg (ag 3) (ag 4))))))))
theorem mF (T : Tx t) : ck P w K mg base dc 8 t.a_read_row t.d_read_row ["n", "text"] (dd K 2 gS) := by
 have G_all_names := jb (P := P) (w := w) (base := base) T;have G_read_term := rD (P := P) (w := w) (base := base) T;have G_signed_terms := nD (P := P) (w := w) (base := base) T;refine db (N := ["n", "text", "row", "sign", "words"]) (W := [2, 3, 4, 2]) T.F_read_row sc_read_row dC fun cdv A outer s H E hr => ?_
 have hu := hr.units;exact (aj (aX 2 sc_read_row.nd (qT (dA (ai (ae af) aR)) (aw G_all_names (hr.mono dC) (by rfl) T.m_all_names T.F_all_names.kp T.n_all_names (aK 0 aH))))
   (aj (cA (bI (dR hu) (ae (ag 1)) (ae aY) (bz _)) cI bR)
   (aj (eZ (by rfl) (ir (aw G_signed_terms (hr.mono dC) (by rfl) T.m_signed_terms T.F_signed_terms.kp T.n_signed_terms (aK 1 aH))) (iu (by rfl) (cN (bO 3 sc_read_row.nd) (cN (bO 4 sc_read_row.nd) gw))) (av (EX 2 ["n", "text", "row", "sign", "words", "old", "number"] sc_read_row.nd (Bh (by rfl) T.b_zip (ia 2) (aw G_read_term (hr.mono dC) (by rfl) T.m_read_term T.F_read_term.kp T.n_read_term (aK 0 (aK 3 (aK 4 aH))))) (fun _ _ _ _ _ => by exact (iu (by rfl) (cN (bO 5 (show List.Nodup (["n", "text", "row", "sign", "words", "old", "number"] : List Str) by decide +kernel)) (cN (bO 6 (show List.Nodup (["n", "text", "row", "sign", "words", "old", "number"] : List Str) by decide +kernel)) gw)))) (fun _ _ _ _ _ => by exact mf) (fun _ _ _ _ _ => by exact (ae (aQ eO (ag 5) (ag 6)))))) PassesOwn.never)
   (av (bx (qo 2))))))
theorem oW (T : Tx t) : ck P w K mg base dc 9 t.a_read_saying t.d_read_saying ["n", "text"] (dd K 2 gj) := by
 have G_read_row := mF (P := P) (w := w) (base := base) T;have G_read_sign := rF (P := P) (w := w) (base := base) T;have G_read_whole := kH (P := P) (w := w) (base := base) T;refine db (N := ["n", "text", "words"]) (W := [2]) T.F_read_saying sc_read_saying dC fun cdv A outer s H E hr => ?_
 have hu := hr.units;exact (aj (aX 2 sc_read_saying.nd (ja (ae (ag 1)) (ae aY)))
   (aj (cA (bI u8 (ae (eN (id := "len") iU (by rfl) T.b_len (by decide +kernel) (bf (ag 2) cj))) (ae af) (bz _)) cI bR)
   (av (bx (cu (ai (aw G_read_row (hr.mono dC) (by rfl) T.m_read_row T.F_read_row.kp T.n_read_row (aK 0 (bL (oS (ae aY) (Bj (ag 2) oQ (hB (cW af)))) aH))) (ai (aw G_read_sign (hr.mono dC) (by rfl) T.m_read_sign T.F_read_sign.kp T.n_read_sign (bL (ae (df (ag 2) (cW af))) aH)) (ai (aw G_read_whole (hr.mono dC) (by rfl) T.m_read_whole T.F_read_whole.kp T.n_read_whole (bL (ae (df (ag 2) (cW af))) aH)) aR))))))))
theorem BM (T : Tx t) {f : Addr} {fd : FuncData} (F : Fun K "law" "law" nv f fd) : ck P w K mg base dc 10 f fd ["_law_script"] (dd K 1 jD) := by
 have G_lnumber := nE (P := P) (w := w) (base := base) T;have G_lpile := rK (P := P) (w := w) (base := base) T;have G_lsame := xM (P := P) (w := w) (base := base) T;have G_lsum := z3 (P := P) (w := w) (base := base) T;have G_ltake := kt (P := P) (w := w) (base := base) T;have G_read_row := mF (P := P) (w := w) (base := base) T;have G_read_saying := oW (P := P) (w := w) (base := base) T;refine db (N := ["_law_script", "_law_turn", "_law_pile_here", "_law_n", "_law_text", "_law_row", "_law_number_here", "_law_time", "_law_found", "_law_mark", "_law_sign", "_law_told"]) (W := [1, 2, 3, 4, 5, 6, 7, 8, 9, 10, 11]) F sc_law dC fun cdv A outer s H E hr => ?_
 have hu := hr.units;exact (aj (eZ (by rfl) (nz (by rfl) T.b_range (ai (ae af) aR)) (bO 1 sc_law.nd) (aj (aX 2 sc_law.nd (aw G_lpile (hr.mono dC) (by rfl) T.m_lpile T.F_lpile.kp T.n_lpile (aK 0 (bL (ae (aQ eO (aQ gg af (ag 1)) af)) aH))))
   (aj (aX 3 sc_law.nd (dn eO (ae af) (aw G_ltake (hr.mono dC) (by rfl) T.m_ltake T.F_ltake.kp T.n_ltake (aK 2 (bL (ae af) aH)))))
   (aj (kY (aw G_lsum (hr.mono dC) (by rfl) T.m_lsum T.F_lsum.kp T.n_lsum (aK 0 (bL (ae (aQ gg af (ag 1))) (aK 3 aH)))) (iu (by rfl) (cN (bO 4 sc_law.nd) (cN (bO 5 sc_law.nd) gw))))
   (aj (aX 6 sc_law.nd (aw G_lnumber (hr.mono dC) (by rfl) T.m_lnumber T.F_lnumber.kp T.n_lnumber (aK 2 aH)))
   (aj (eZ (by rfl) (nz (by rfl) T.b_range (ai (ae af) aR)) (bO 7 sc_law.nd) (aj (aX 8 sc_law.nd (aw G_read_row (hr.mono dC) (by rfl) T.m_read_row T.F_read_row.kp T.n_read_row (aK 3 (aK 4 aH))))
   (aj (cA (jX (g9 (aw G_lsame (hr.mono dC) (by rfl) T.m_lsame T.F_lsame.kp T.n_lsame (aK 8 (aK 5 aH))))) cI bR)
   (av (me (zL 8))))) PassesOwn.never)
   (av (eZ (by rfl) (ir (dA (ai (cu (ai (ae aY) (ai (ae aY) aR))) (ai (cu (ai (ae aY) (ai (ae aY) aR))) aR)))) (iu (by rfl) (cN (bO 9 sc_law.nd) (cN (bO 10 sc_law.nd) gw))) (aj (aX 11 sc_law.nd (aw G_read_saying (hr.mono dC) (by rfl) T.m_read_saying T.F_read_saying.kp T.n_read_saying (aK 3 (bL (ae (aQ cR (aQ cR (ag 4) (ag 9)) (qp (T := "str") wL (by rfl) T.b_str (by decide +kernel) (bf (ag 6) cj)))) aH))))
   (av (cA (jH (jt (jX (g9 (ae (eN (id := "isinstance") qA (by rfl) T.b_isinstance (by decide +kernel) (bf (ag 11) (bf (jv (T := "tuple") (by rfl) T.b_tuple (by decide +kernel)) cj)))))) (jt (zG 11 (oZ hu) (cu (ai (ia 5) (ai (ae (ag 10)) (ai (ae (ag 6)) aR)))) (bz _)) (jW (jX (g9 (Bk (rh 11 (pC (.int 0))) (xD G_lsame (hr.mono dC) (by rfl) T.m_lsame T.F_lsame.kp T.n_lsame (Bf 11 (oP 11) af (Bg 5 zI))) (aw G_lsame (hr.mono dC) (by rfl) T.m_lsame T.F_lsame.kp T.n_lsame (bL (yQ (ia 11) (ae af)) (aK 5 aH)))))))))) cI bR))) PassesOwn.never))))))) PassesOwn.never)
   (av (bx (ae Dh))))
end
noncomputable abbrev dX (K : PySem.W.Frag) (x : Str) (f : Addr) : Prop := nsIn K mainGlobals x = some (some (.ref f))
noncomputable abbrev d6 (K : PySem.W.Frag) (c : Value) (x : Str) : Prop := codeIn K c x = true
noncomputable abbrev dZ (K : PySem.W.Frag) (f : Addr) : Prop := keepIn K (.ref f) = true
noncomputable abbrev bW (x : Str) (s : Stmt) (k d p : Value) (a : Option Addr) (c t : Value) : FuncData := fnOf x x (j4 s) (hG s) (aM s) .none k d p a c t
noncomputable abbrev dY (K : PySem.W.Frag) (f : Addr) (o : Value) (d : Option Addr) (F : FuncData) (s : Array (Option Value)) : Prop := K.lookup f = some ⟨o, d, .func F, s⟩
theorem CA {l : PySem.W.OpenLaw} {w : World} {K : PySem.W.Frag} {h : Heap} {mg : Str -> Option Value} {fa : Addr} (X : K.In h) (G : h.Ns mainGlobals mg) (hfa : mg "law" = some (.ref fa))
 {f0 f1 f2 f3 f4 f5 f6 f7 f8 f9 f10 f11 f12 f13 f14 f15 f16 f17 f18 f19 f20 f21 f22 f23 f24 f25 f26 f27 f28 f29 : Addr} {od0 an0 od1 an1 od2 an2 od3 an3 od4 an4 od5 an5 od6 an6 od7 an7 od8 an8 od9 an9 od10 an10 od11 an11 od12 an12 od13 an13 od14 an14 od15 an15 od16 an16 od17 an17 od18 an18 od19 an19 od20 an20 od21 an21 od22 an22 od23 an23 od24 an24 od25 an25 od26 an26 od27 an27 od28 an28 od29 an29 : Option Addr} {sl0 sl1 sl2 sl3 sl4 sl5 sl6 sl7 sl8 sl9 sl10 sl11 sl12 sl13 sl14 sl15 sl16 sl17 sl18 sl19 sl20 sl21 sl22 sl23 sl24 sl25 sl26 sl27 sl28 sl29 : Array (Option Value)} {oc0 kV0 dc0 pm0 cd0 ct0 oc1 kV1 dc1 pm1 cd1 ct1 oc2 kV2 dc2 pm2 cd2 ct2 oc3 kV3 dc3 pm3 cd3 ct3 oc4 kV4 dc4 pm4 cd4 ct4 oc5 kV5 dc5 pm5 cd5 ct5 oc6 kV6 dc6 pm6 cd6 ct6 oc7 kV7 dc7 pm7 cd7 ct7 oc8 kV8 dc8 pm8 cd8 ct8 oc9 kV9 dc9 pm9 cd9 ct9 oc10 kV10 dc10 pm10 cd10 ct10 oc11 kV11 dc11 pm11 cd11 ct11 oc12 kV12 dc12 pm12 cd12 ct12 oc13 kV13 dc13 pm13 cd13 ct13 oc14 kV14 dc14 pm14 cd14 ct14 oc15 kV15 dc15 pm15 cd15 ct15 oc16 kV16 dc16 pm16 cd16 ct16 oc17 kV17 dc17 pm17 cd17 ct17 oc18 kV18 dc18 pm18 cd18 ct18 oc19 kV19 dc19 pm19 cd19 ct19 oc20 kV20 dc20 pm20 cd20 ct20 oc21 kV21 dc21 pm21 cd21 ct21 oc22 kV22 dc22 pm22 cd22 ct22 oc23 kV23 dc23 pm23 cd23 ct23 oc24 kV24 dc24 pm24 cd24 ct24 oc25 kV25 dc25 pm25 cd25 ct25 oc26 kV26 dc26 pm26 cd26 ct26 oc27 kV27 dc27 pm27 cd27 ct27 oc28 kV28 dc28 pm28 cd28 ct28 oc29 kV29 dc29 pm29 cd29 ct29 : Value}
  (a0 : dX K "read_number" f0) (l0 : dY K f0 oc0 od0 (bW "read_number" eV kV0 dc0 pm0 an0 cd0 ct0) sl0) (c0 : d6 K cd0 "read_number") (k0 : dZ K f0)
  (a1 : dX K "in_two" f1) (l1 : dY K f1 oc1 od1 (bW "in_two" i6 kV1 dc1 pm1 an1 cd1 ct1) sl1) (c1 : d6 K cd1 "in_two") (k1 : dZ K f1)
  (a2 : dX K "all_names" f2) (l2 : dY K f2 oc2 od2 (bW "all_names" fV kV2 dc2 pm2 an2 cd2 ct2) sl2) (c2 : d6 K cd2 "all_names") (k2 : dZ K f2)
  (a3 : dX K "names_in" f3) (l3 : dY K f3 oc3 od3 (bW "names_in" gG kV3 dc3 pm3 an3 cd3 ct3) sl3) (c3 : d6 K cd3 "names_in") (k3 : dZ K f3)
  (a4 : dX K "signed_terms" f4) (l4 : dY K f4 oc4 od4 (bW "signed_terms" eG kV4 dc4 pm4 an4 cd4 ct4) sl4) (c4 : d6 K cd4 "signed_terms") (k4 : dZ K f4)
  (a5 : dX K "read_sign" f5) (l5 : dY K f5 oc5 od5 (bW "read_sign" fS kV5 dc5 pm5 an5 cd5 ct5) sl5) (c5 : d6 K cd5 "read_sign") (k5 : dZ K f5)
  (a6 : dX K "_law_mixed" f6) (l6 : dY K f6 oc6 od6 (bW "_law_mixed" i4 kV6 dc6 pm6 an6 cd6 ct6) sl6) (c6 : d6 K cd6 "_law_mixed") (k6 : dZ K f6)
  (a7 : dX K "_law_pile" f7) (l7 : dY K f7 oc7 od7 (bW "_law_pile" jV kV7 dc7 pm7 an7 cd7 ct7) sl7) (c7 : d6 K cd7 "_law_pile") (k7 : dZ K f7)
  (a8 : dX K "_law_same" f8) (l8 : dY K f8 oc8 od8 (bW "_law_same" jU kV8 dc8 pm8 an8 cd8 ct8) sl8) (c8 : d6 K cd8 "_law_same") (k8 : dZ K f8)
  (a9 : dX K "_law_letters" f9) (l9 : dY K f9 oc9 od9 (bW "_law_letters" gH kV9 dc9 pm9 an9 cd9 ct9) sl9) (c9 : d6 K cd9 "_law_letters") (k9 : dZ K f9)
  (a10 : dX K "_law_added" f10) (l10 : dY K f10 oc10 od10 (bW "_law_added" i5 kV10 dc10 pm10 an10 cd10 ct10) sl10) (c10 : d6 K cd10 "_law_added") (k10 : dZ K f10)
  (a11 : dX K "row_of_terms" f11) (l11 : dY K f11 oc11 od11 (bW "row_of_terms" eH kV11 dc11 pm11 an11 cd11 ct11) sl11) (c11 : d6 K cd11 "row_of_terms") (k11 : dZ K f11)
  (a12 : dX K "show_group" f12) (l12 : dY K f12 oc12 od12 (bW "show_group" fv kV12 dc12 pm12 an12 cd12 ct12) sl12) (c12 : d6 K cd12 "show_group") (k12 : dZ K f12)
  (a13 : dX K "read_whole" f13) (l13 : dY K f13 oc13 od13 (bW "read_whole" fx kV13 dc13 pm13 an13 cd13 ct13) sl13) (c13 : d6 K cd13 "read_whole") (k13 : dZ K f13)
  (a14 : dX K "_law_take" f14) (l14 : dY K f14 oc14 od14 (bW "_law_take" jT kV14 dc14 pm14 an14 cd14 ct14) sl14) (c14 : d6 K cd14 "_law_take") (k14 : dZ K f14)
  (a15 : dX K "rest_row" f15) (l15 : dY K f15 oc15 od15 (bW "rest_row" gE kV15 dc15 pm15 an15 cd15 ct15) sl15) (c15 : d6 K cd15 "rest_row") (k15 : dZ K f15)
  (a16 : dX K "shared_row" f16) (l16 : dY K f16 oc16 od16 (bW "shared_row" fw kV16 dc16 pm16 an16 cd16 ct16) sl16) (c16 : d6 K cd16 "shared_row") (k16 : dZ K f16)
  (a17 : dX K "read_count" f17) (l17 : dY K f17 oc17 od17 (bW "read_count" fB kV17 dc17 pm17 an17 cd17 ct17) sl17) (c17 : d6 K cd17 "read_count") (k17 : dZ K f17)
  (a18 : dX K "read_group" f18) (l18 : dY K f18 oc18 od18 (bW "read_group" fA kV18 dc18 pm18 an18 cd18 ct18) sl18) (c18 : d6 K cd18 "read_group") (k18 : dZ K f18)
  (a19 : dX K "_law_number" f19) (l19 : dY K f19 oc19 od19 (bW "_law_number" iq kV19 dc19 pm19 an19 cd19 ct19) sl19) (c19 : d6 K cd19 "_law_number") (k19 : dZ K f19)
  (a20 : dX K "_law_term" f20) (l20 : dY K f20 oc20 od20 (bW "_law_term" jS kV20 dc20 pm20 an20 cd20 ct20) sl20) (c20 : d6 K cd20 "_law_term") (k20 : dZ K f20)
  (a21 : dX K "read_known" f21) (l21 : dY K f21 oc21 od21 (bW "read_known" fy kV21 dc21 pm21 an21 cd21 ct21) sl21) (c21 : d6 K cd21 "read_known") (k21 : dZ K f21)
  (a22 : dX K "_law_sum" f22) (l22 : dY K f22 oc22 od22 (bW "_law_sum" kT kV22 dc22 pm22 an22 cd22 ct22) sl22) (c22 : d6 K cd22 "_law_sum") (k22 : dZ K f22)
  (a23 : dX K "read_rest" f23) (l23 : dY K f23 oc23 od23 (bW "read_rest" fT kV23 dc23 pm23 an23 cd23 ct23) sl23) (c23 : d6 K cd23 "read_rest") (k23 : dZ K f23)
  (a24 : dX K "read_shared" f24) (l24 : dY K f24 oc24 od24 (bW "read_shared" eT kV24 dc24 pm24 an24 cd24 ct24) sl24) (c24 : d6 K cd24 "read_shared") (k24 : dZ K f24)
  (a25 : dX K "read_form" f25) (l25 : dY K f25 oc25 od25 (bW "read_form" fU kV25 dc25 pm25 an25 cd25 ct25) sl25) (c25 : d6 K cd25 "read_form") (k25 : dZ K f25)
  (a26 : dX K "read_term" f26) (l26 : dY K f26 oc26 od26 (bW "read_term" fR kV26 dc26 pm26 an26 cd26 ct26) sl26) (c26 : d6 K cd26 "read_term") (k26 : dZ K f26)
  (a27 : dX K "read_row" f27) (l27 : dY K f27 oc27 od27 (bW "read_row" gF kV27 dc27 pm27 an27 cd27 ct27) sl27) (c27 : d6 K cd27 "read_row") (k27 : dZ K f27)
  (a28 : dX K "read_saying" f28) (l28 : dY K f28 oc28 od28 (bW "read_saying" eU kV28 dc28 pm28 an28 cd28 ct28) sl28) (c28 : d6 K cd28 "read_saying") (k28 : dZ K f28)
  (a29 : dX K "law" f29) (l29 : dY K f29 oc29 od29 (bW "law" nv kV29 dc29 pm29 an29 cd29 ct29) sl29) (c29 : d6 K cd29 "law") (k29 : dZ K f29)
  (z_abs : nsIn K mainGlobals "abs" = some none)
  (z_all : nsIn K mainGlobals "all" = some none)
  (z_bool : nsIn K mainGlobals "bool" = some none)
  (z_enumerate : nsIn K mainGlobals "enumerate" = some none)
  (z_int : nsIn K mainGlobals "int" = some none)
  (z_isinstance : nsIn K mainGlobals "isinstance" = some none)
  (z_len : nsIn K mainGlobals "len" = some none)
  (z_list : nsIn K mainGlobals "list" = some none)
  (z_range : nsIn K mainGlobals "range" = some none)
  (z_str : nsIn K mainGlobals "str" = some none)
  (z_tuple : nsIn K mainGlobals "tuple" = some none)
  (z_zip : nsIn K mainGlobals "zip" = some none)
  {t_FIGURES : Tok} (v_FIGURES : nsIn K mainGlobals "FIGURES" = some (some (.str "0123456789" t_FIGURES)))
  {t_LETTERS : Tok} (v_LETTERS : nsIn K mainGlobals "LETTERS" = some (some (.str "abcd" t_LETTERS)))
  {t_MOST_FIGURES : Tok} (v_MOST_FIGURES : nsIn K mainGlobals "MOST_FIGURES" = some (some (.int 2000 t_MOST_FIGURES)))
  {t_MOST_NAMES : Tok} (v_MOST_NAMES : nsIn K mainGlobals "MOST_NAMES" = some (some (.int 4 t_MOST_NAMES)))
  : ∃ fd : FuncData, (∀ (s : Shared) (v : Value), BindsTo s fd ⟨[v], []⟩ [("_law_script", v)]) /\ ∀ base : Heap, K.In base -> base.Ns mainGlobals mg -> ck l.prog w K mg base dc 10 fa fd ["_law_script"] (dd K 1 jD) := by
 have e := hfa.symm.trans (mg_of X G a29);cases e;have F0 := bV (st := eV) l0 c0 k0;have b0 := F0.binds (ps := ["text"]) fun _ _ _ _ _ _ us hl => by rcases us with _ | ⟨_, _ | ⟨_, us⟩⟩ <;> first | rfl | (simp at hl) | cases hl
 have F1 := bV (st := i6) l1 c1 k1;have b1 := F1.binds (ps := ["text", "sign"]) fun _ _ _ _ _ _ us hl => by rcases us with _ | ⟨_, _ | ⟨_, _ | ⟨_, us⟩⟩⟩ <;> first | rfl | (simp at hl) | cases hl
 have F2 := bV (st := fV) l2 c2 k2;have b2 := F2.binds (ps := ["n"]) fun _ _ _ _ _ _ us hl => by rcases us with _ | ⟨_, _ | ⟨_, us⟩⟩ <;> first | rfl | (simp at hl) | cases hl
 have F3 := bV (st := gG) l3 c3 k3;have b3 := F3.binds (ps := ["n", "group"]) fun _ _ _ _ _ _ us hl => by rcases us with _ | ⟨_, _ | ⟨_, _ | ⟨_, us⟩⟩⟩ <;> first | rfl | (simp at hl) | cases hl
 have F4 := bV (st := eG) l4 c4 k4;have b4 := F4.binds (ps := ["text"]) fun _ _ _ _ _ _ us hl => by rcases us with _ | ⟨_, _ | ⟨_, us⟩⟩ <;> first | rfl | (simp at hl) | cases hl
 have F5 := bV (st := fS) l5 c5 k5;have b5 := F5.binds (ps := ["word"]) fun _ _ _ _ _ _ us hl => by rcases us with _ | ⟨_, _ | ⟨_, us⟩⟩ <;> first | rfl | (simp at hl) | cases hl
 have F6 := bV (st := i4) l6 c6 k6;have b6 := F6.binds (ps := ["_law_cell", "_law_k"]) fun _ _ _ _ _ _ us hl => by rcases us with _ | ⟨_, _ | ⟨_, _ | ⟨_, us⟩⟩⟩ <;> first | rfl | (simp at hl) | cases hl
 have F7 := bV (st := jV) l7 c7 k7;have b7 := F7.binds (ps := ["_law_script", "_law_k"]) fun _ _ _ _ _ _ us hl => by rcases us with _ | ⟨_, _ | ⟨_, _ | ⟨_, us⟩⟩⟩ <;> first | rfl | (simp at hl) | cases hl
 have F8 := bV (st := jU) l8 c8 k8;have b8 := F8.binds (ps := ["_law_found", "_law_due"]) fun _ _ _ _ _ _ us hl => by rcases us with _ | ⟨_, _ | ⟨_, _ | ⟨_, us⟩⟩⟩ <;> first | rfl | (simp at hl) | cases hl
 have F9 := bV (st := gH) l9 c9 k9;have b9 := F9.binds (ps := ["_law_group"]) fun _ _ _ _ _ _ us hl => by rcases us with _ | ⟨_, _ | ⟨_, us⟩⟩ <;> first | rfl | (simp at hl) | cases hl
 have F10 := bV (st := i5) l10 c10 k10;have b10 := F10.binds (ps := ["_law_row", "_law_terms", "_law_times"]) fun _ _ _ _ _ _ us hl => by rcases us with _ | ⟨_, _ | ⟨_, _ | ⟨_, _ | ⟨_, us⟩⟩⟩⟩ <;> first | rfl | (simp at hl) | cases hl
 have F11 := bV (st := eH) l11 c11 k11;have b11 := F11.binds (ps := ["n", "terms"]) fun _ _ _ _ _ _ us hl => by rcases us with _ | ⟨_, _ | ⟨_, _ | ⟨_, us⟩⟩⟩ <;> first | rfl | (simp at hl) | cases hl
 have F12 := bV (st := fv) l12 c12 k12;have b12 := F12.binds (ps := ["group"]) fun _ _ _ _ _ _ us hl => by rcases us with _ | ⟨_, _ | ⟨_, us⟩⟩ <;> first | rfl | (simp at hl) | cases hl
 have F13 := bV (st := fx) l13 c13 k13;have b13 := F13.binds (ps := ["text"]) fun _ _ _ _ _ _ us hl => by rcases us with _ | ⟨_, _ | ⟨_, us⟩⟩ <;> first | rfl | (simp at hl) | cases hl
 have F14 := bV (st := jT) l14 c14 k14;have b14 := F14.binds (ps := ["_law_pile_here", "_law_many"]) fun _ _ _ _ _ _ us hl => by rcases us with _ | ⟨_, _ | ⟨_, _ | ⟨_, us⟩⟩⟩ <;> first | rfl | (simp at hl) | cases hl
 have F15 := bV (st := gE) l15 c15 k15;have b15 := F15.binds (ps := ["n", "a", "b"]) fun _ _ _ _ _ _ us hl => by rcases us with _ | ⟨_, _ | ⟨_, _ | ⟨_, _ | ⟨_, us⟩⟩⟩⟩ <;> first | rfl | (simp at hl) | cases hl
 have F16 := bV (st := fw) l16 c16 k16;have b16 := F16.binds (ps := ["n", "a", "b", "c"]) fun _ _ _ _ _ _ us hl => by rcases us with _ | ⟨_, _ | ⟨_, _ | ⟨_, _ | ⟨_, _ | ⟨_, us⟩⟩⟩⟩⟩ <;> first | rfl | (simp at hl) | cases hl
 have F17 := bV (st := fB) l17 c17 k17;have b17 := F17.binds (ps := ["text", "least"]) fun _ _ _ _ _ _ us hl => by rcases us with _ | ⟨_, _ | ⟨_, _ | ⟨_, us⟩⟩⟩ <;> first | rfl | (simp at hl) | cases hl
 have F18 := bV (st := fA) l18 c18 k18;have b18 := F18.binds (ps := ["n", "text"]) fun _ _ _ _ _ _ us hl => by rcases us with _ | ⟨_, _ | ⟨_, _ | ⟨_, us⟩⟩⟩ <;> first | rfl | (simp at hl) | cases hl
 have F19 := bV (st := iq) l19 c19 k19;have b19 := F19.binds (ps := ["_law_pile_here"]) fun _ _ _ _ _ _ us hl => by rcases us with _ | ⟨_, _ | ⟨_, us⟩⟩ <;> first | rfl | (simp at hl) | cases hl
 have F20 := bV (st := jS) l20 c20 k20;have b20 := F20.binds (ps := ["_law_pile_here", "_law_n"]) fun _ _ _ _ _ _ us hl => by rcases us with _ | ⟨_, _ | ⟨_, _ | ⟨_, us⟩⟩⟩ <;> first | rfl | (simp at hl) | cases hl
 have F21 := bV (st := fy) l21 c21 k21;have b21 := F21.binds (ps := ["n", "parts"]) fun _ _ _ _ _ _ us hl => by rcases us with _ | ⟨_, _ | ⟨_, _ | ⟨_, us⟩⟩⟩ <;> first | rfl | (simp at hl) | cases hl
 have F22 := bV (st := kT) l22 c22 k22;have b22 := F22.binds (ps := ["_law_script", "_law_start", "_law_n"]) fun _ _ _ _ _ _ us hl => by rcases us with _ | ⟨_, _ | ⟨_, _ | ⟨_, _ | ⟨_, us⟩⟩⟩⟩ <;> first | rfl | (simp at hl) | cases hl
 have F23 := bV (st := fT) l23 c23 k23;have b23 := F23.binds (ps := ["n", "text"]) fun _ _ _ _ _ _ us hl => by rcases us with _ | ⟨_, _ | ⟨_, _ | ⟨_, us⟩⟩⟩ <;> first | rfl | (simp at hl) | cases hl
 have F24 := bV (st := eT) l24 c24 k24;have b24 := F24.binds (ps := ["n", "text"]) fun _ _ _ _ _ _ us hl => by rcases us with _ | ⟨_, _ | ⟨_, _ | ⟨_, us⟩⟩⟩ <;> first | rfl | (simp at hl) | cases hl
 have F25 := bV (st := fU) l25 c25 k25;have b25 := F25.binds (ps := ["n", "text"]) fun _ _ _ _ _ _ us hl => by rcases us with _ | ⟨_, _ | ⟨_, _ | ⟨_, us⟩⟩⟩ <;> first | rfl | (simp at hl) | cases hl
 have F26 := bV (st := fR) l26 c26 k26;have b26 := F26.binds (ps := ["n", "sign", "words"]) fun _ _ _ _ _ _ us hl => by rcases us with _ | ⟨_, _ | ⟨_, _ | ⟨_, _ | ⟨_, us⟩⟩⟩⟩ <;> first | rfl | (simp at hl) | cases hl
 have F27 := bV (st := gF) l27 c27 k27;have b27 := F27.binds (ps := ["n", "text"]) fun _ _ _ _ _ _ us hl => by rcases us with _ | ⟨_, _ | ⟨_, _ | ⟨_, us⟩⟩⟩ <;> first | rfl | (simp at hl) | cases hl
 have F28 := bV (st := eU) l28 c28 k28;have b28 := F28.binds (ps := ["n", "text"]) fun _ _ _ _ _ _ us hl => by rcases us with _ | ⟨_, _ | ⟨_, _ | ⟨_, us⟩⟩⟩ <;> first | rfl | (simp at hl) | cases hl
 have F29 := bV (st := nv) l29 c29 k29
 let t : Txt K mg := ⟨f0, bW "read_number" eV kV0 dc0 pm0 an0 cd0 ct0, f1, bW "in_two" i6 kV1 dc1 pm1 an1 cd1 ct1, f2, bW "all_names" fV kV2 dc2 pm2 an2 cd2 ct2, f3, bW "names_in" gG kV3 dc3 pm3 an3 cd3 ct3, f4, bW "signed_terms" eG kV4 dc4 pm4 an4 cd4 ct4, f5, bW "read_sign" fS kV5 dc5 pm5 an5 cd5 ct5, f6, bW "_law_mixed" i4 kV6 dc6 pm6 an6 cd6 ct6, f7, bW "_law_pile" jV kV7 dc7 pm7 an7 cd7 ct7, f8, bW "_law_same" jU kV8 dc8 pm8 an8 cd8 ct8, f9, bW "_law_letters" gH kV9 dc9 pm9 an9 cd9 ct9, f10, bW "_law_added" i5 kV10 dc10 pm10 an10 cd10 ct10, f11, bW "row_of_terms" eH kV11 dc11 pm11 an11 cd11 ct11, f12, bW "show_group" fv kV12 dc12 pm12 an12 cd12 ct12, f13, bW "read_whole" fx kV13 dc13 pm13 an13 cd13 ct13, f14, bW "_law_take" jT kV14 dc14 pm14 an14 cd14 ct14, f15, bW "rest_row" gE kV15 dc15 pm15 an15 cd15 ct15, f16, bW "shared_row" fw kV16 dc16 pm16 an16 cd16 ct16, f17, bW "read_count" fB kV17 dc17 pm17 an17 cd17 ct17, f18, bW "read_group" fA kV18 dc18 pm18 an18 cd18 ct18, f19, bW "_law_number" iq kV19 dc19 pm19 an19 cd19 ct19, f20, bW "_law_term" jS kV20 dc20 pm20 an20 cd20 ct20, f21, bW "read_known" fy kV21 dc21 pm21 an21 cd21 ct21, f22, bW "_law_sum" kT kV22 dc22 pm22 an22 cd22 ct22, f23, bW "read_rest" fT kV23 dc23 pm23 an23 cd23 ct23, f24, bW "read_shared" eT kV24 dc24 pm24 an24 cd24 ct24, f25, bW "read_form" fU kV25 dc25 pm25 an25 cd25 ct25, f26, bW "read_term" fR kV26 dc26 pm26 an26 cd26 ct26, f27, bW "read_row" gF kV27 dc27 pm27 an27 cd27 ct27, f28, bW "read_saying" eU kV28 dc28 pm28 an28 cd28 ct28⟩
 have T : Tx t := ⟨F0, mg_of X G a0, b0, F1, mg_of X G a1, b1, F2, mg_of X G a2, b2, F3, mg_of X G a3, b3, F4, mg_of X G a4, b4, F5, mg_of X G a5, b5, F6, mg_of X G a6, b6, F7, mg_of X G a7, b7, F8, mg_of X G a8, b8, F9, mg_of X G a9, b9, F10, mg_of X G a10, b10, F11, mg_of X G a11, b11, F12, mg_of X G a12, b12, F13, mg_of X G a13, b13, F14, mg_of X G a14, b14, F15, mg_of X G a15, b15, F16, mg_of X G a16, b16, F17, mg_of X G a17, b17, F18, mg_of X G a18, b18, F19, mg_of X G a19, b19, F20, mg_of X G a20, b20, F21, mg_of X G a21, b21, F22, mg_of X G a22, b22, F23, mg_of X G a23, b23, F24, mg_of X G a24, b24, F25, mg_of X G a25, b25, F26, mg_of X G a26, b26, F27, mg_of X G a27, b27, F28, mg_of X G a28, b28, mg_none_of X G z_abs, mg_none_of X G z_all, mg_none_of X G z_bool, mg_none_of X G z_enumerate, mg_none_of X G z_int, mg_none_of X G z_isinstance, mg_none_of X G z_len, mg_none_of X G z_list, mg_none_of X G z_range, mg_none_of X G z_str, mg_none_of X G z_tuple, mg_none_of X G z_zip, ⟨_, mg_of X G v_FIGURES⟩, ⟨_, mg_of X G v_LETTERS⟩, ⟨_, mg_of X G v_MOST_FIGURES⟩, ⟨_, mg_of X G v_MOST_NAMES⟩⟩;exact ⟨bW "law" nv kV29 dc29 pm29 an29 cd29 ct29, fun s v => .of_eq rfl, fun base _ _ => BM T F29⟩
theorem Ez {l : PySem.W.OpenLaw} {q : Program} {loose : List Str} {XP : (Str -> Option Value) -> Heap -> Prop} {YP : World -> Heap -> Prop} {d : DefRec} {K : Params -> PySem.W.Frag} (hn : l.most = some 63) (hdf : d.params.defaults = [])
  (hY : ∀ (w : World) (h : Heap), YP w h -> (K w.params).In h) (hg : ∀ ns : List Int, ns.length <= 63 -> ∃ d, jD [.lst false (ns.map D.int)] = some (.bl true, [d]))
  (F : ∀ (w : World) (mg : Str -> Option Value) (fa : Addr) (h : Heap), (K w.params).In h -> h.Ns mainGlobals mg -> mg d.name = some (.ref fa) ->
   ∃ fd : FuncData, (∀ (s : Shared) (u : Value), BindsTo s fd ⟨[u], []⟩ [("_law_script", u)]) /\ ∀ base : Heap, (K w.params).In base -> base.Ns mainGlobals mg -> ck l.prog w (K w.params) mg base dc 10 fa fd ["_law_script"] (dd (K w.params) 1 jD)) :
  PySem.W.WalkO q loose XP YP l.row.toRowW d [] (fun f vs => PySem.call f vs) :=
 L2.walk_of (n := 63) (k := 10) (x := "_law_script") (CX := fun _ => dc) (sp := fun w => dd (K w.params) 1 jD) hn dC hdf ⟨rfl, by decide, by decide, rfl⟩ hY F (fun _ _ a ns hl _ hS => BU (hg ns hl) hS) fun _ _ _ _ _ z => z
end LW
namespace LW
open PySem L2 DD TT
structure dQ where
 yscript : List Int
 yk : Int
 ycell : Int
noncomputable def px : {f : ((List Int) × Int × Unit) -> Option ((List Int) × ((List Int) × Int × Unit)) // JF iW f (Pc (rM rI) (Pc rI Pn)) (rL rI) (Pc (rM rI) (Pc rI Pn))} := ⟨_, by
 exact cC (S := dQ) (N := 3) (W := [2, 2]) (c := uo) (Γn := []) (ro := (rL rI)) (Γp := [some ⟨dQ.yscript, (rM rI)⟩, some ⟨dQ.yk, rI⟩]) (Γr := [some ⟨dQ.yscript, (rM rI)⟩, some ⟨dQ.yk, rI⟩, none]) (init := (fun p => (⟨p.1, p.2.1, 0⟩ : dQ))) (ar (get := dQ.yscript) dC (fun _ => rfl) fun _ => (ar (get := dQ.yk) dC (fun _ => rfl) fun _ => bF))
  (aq (aW 2 (get := dQ.ycell) (put := fun s v => {s with ycell := v}) (ab (ao 0)))
  (aq (cB (Γ' := [some ⟨dQ.yscript, (rM rI)⟩, some ⟨dQ.yk, rI⟩, some ⟨dQ.ycell, rI⟩]) (bJ (aU iP (ab (ah 1 rfl)) (ab (eQ ji (ah 0 rfl))))) (aW 2 (get := dQ.ycell) (put := fun s v => {s with ycell := v}) (ab (au dr (ah 0 rfl) (ah 1 rfl)))) bS)
  (bA (dD (r := rI) (bK (ab (au eW (ah 2 rfl) (eQ Am (au iP (eQ sg (ah 2 rfl)) (au fP (ao 10) (ao 18)))))) (bK (ab (ah 2 rfl)) (bK (ab (au eW (ao 97) (ah 1 rfl))) dB))))))) (ap dC rfl (ap dC rfl bj))⟩
noncomputable def oJ := px.1
theorem pc : JF iW oJ (Pc (rM rI) (Pc rI Pn)) (rL rI) (Pc (rM rI) (Pc rI Pn)) := px.2
structure eB where
 ycell : Int
 yk : Int
 ynumber_here : Int
noncomputable def ni : {f : (Int × Int × Unit) -> Option (Int × (Int × Int × Unit)) // JF kz f (Pc rI (Pc rI Pn)) rI (Pc rI (Pc rI Pn))} := ⟨_, by
 exact cC (S := eB) (N := 3) (W := [2, 2]) (c := sI) (Γn := []) (ro := rI) (Γp := [some ⟨eB.ycell, rI⟩, some ⟨eB.yk, rI⟩]) (Γr := [some ⟨eB.ycell, rI⟩, some ⟨eB.yk, rI⟩, none]) (init := (fun p => (⟨p.1, p.2.1, 0⟩ : eB))) (ar (get := eB.ycell) dC (fun _ => rfl) fun _ => (ar (get := eB.yk) dC (fun _ => rfl) fun _ => bF))
  (aq (aW 2 (get := eB.ynumber_here) (put := fun s v => {s with ynumber_here := v}) (ab (au fP (au bQ (au bQ (au eW (au fP (ah 0 rfl) (ao 2147483647)) (ao 48271)) (au eW (ah 1 rfl) (ao 69621))) (ao 11)) (ao 2147483647))))
  (aq (aW 2 (get := eB.ynumber_here) (put := fun s v => {s with ynumber_here := v}) (ab (au fP (au eW (ah 2 rfl) (ah 2 rfl)) (ao 2147483629))))
  (bA (ab (au fP (au eW (ah 2 rfl) (ah 2 rfl)) (ao 2147483587)))))) (ap dC rfl (ap dC rfl bj))⟩
noncomputable def mS := ni.1
theorem ye : JF kz mS (Pc rI (Pc rI Pn)) rI (Pc rI (Pc rI Pn)) := ni.2
structure dP where
 ypile_here : List Int
 ymany : Int
 ydigit : Int
noncomputable def pv : {f : ((List Int) × Int × Unit) -> Option (Int × ((List Int) × Int × Unit)) // JF dl f (Pc (rL rI) (Pc rI Pn)) rI (Pc (rL rI) (Pc rI Pn))} := ⟨_, by
 exact cC (S := dP) (N := 3) (W := [2]) (c := ul) (Γn := []) (ro := rI) (Γp := [some ⟨dP.ypile_here, (rL rI)⟩, some ⟨dP.ymany, rI⟩]) (Γr := [some ⟨dP.ypile_here, (rL rI)⟩, some ⟨dP.ymany, rI⟩, none]) (init := (fun p => (⟨p.1, p.2.1, 0⟩ : dP))) (ar (get := dP.ypile_here) dC (fun _ => rfl) fun _ => (ar (get := dP.ymany) dC (fun _ => rfl) fun _ => bF))
  (aq (cB (Γ' := [some ⟨dP.ypile_here, (rL rI)⟩, some ⟨dP.ymany, rI⟩, none]) (bJ (ab (au DB (au dr (ah 0 rfl) (ao 0)) (nI (fD (ao 0) (fD (cX (ao 1)) mq)))))) (aq (o8 0 (get := dP.ypile_here) (put := fun s v => {s with ypile_here := v}) (ab (au bQ (au dr (ah 0 rfl) (ao 2)) (ao 1))) (ao 2) rfl)
  (bA (aU fP (ax ye (bD (ab (au dr (ah 0 rfl) (ao 1))) (bD (ab (au dr (ah 0 rfl) (ao 2))) aB)) (bC (bC aA)) (bB (bB ay))) (ab (ah 1 rfl))))) bS)
  (aq (aW 2 (get := dP.ydigit) (put := fun s v => {s with ydigit := v}) (ab (au fP (au dr (ah 0 rfl) (ao 0)) (ah 1 rfl))))
  (aq (o8 0 (get := dP.ypile_here) (put := fun s v => {s with ypile_here := v}) (ab (au fP (au dr (ah 0 rfl) (ao 0)) (ah 1 rfl))) (ao 0) rfl)
  (bA (ab (ah 2 rfl)))))) (ap dC rfl (ap dC rfl bj))⟩
noncomputable def oH := pv.1
theorem dO : JF dl oH (Pc (rL rI) (Pc rI Pn)) rI (Pc (rL rI) (Pc rI Pn)) := pv.2
structure gY where
 ygroup : Int
noncomputable def oo : {f : (Int × Unit) -> Option (Str × (Int × Unit)) // JF dL f (Pc rI Pn) rS (Pc rI Pn)} := ⟨_, by
 exact cC (S := gY) (N := 1) (W := []) (c := oh) (Γn := []) (ro := rS) (Γp := [some ⟨gY.ygroup, rI⟩]) (Γr := [some ⟨gY.ygroup, rI⟩]) (init := (fun p => (⟨p.1⟩ : gY))) (ar (get := gY.ygroup) dC (fun _ => rfl) fun _ => bF)
  (bA (o9 (ab (bM "")) (kv (ve (ab (bM "abcd"))) Le.refl (B2 1 2 rfl rfl) (fun x1 => (bJ (aU dg (ab (au bQ (au fP (ah 0 rfl) (ah 1 rfl)) (ao 1))) (ab (ao 1))))) (fun x1 => (ab (ah 2 rfl)))))) (ap dC rfl bj)⟩
noncomputable def kj := oo.1
theorem fK : JF dL kj (Pc rI Pn) rS (Pc rI Pn) := oo.2
structure aZ where
 ypile_here : List Int
 yn : Int
 ywhole : Int
 ya : Int
 yb : Int
 yc : Int
 yway : Int
 yboth : Str
noncomputable def pq : {f : ((List Int) × Int × Unit) -> Option ((Str × (List (Int × Int))) × ((List Int) × Int × Unit)) // JF my f (Pc (rL rI) (Pc rI Pn)) (cL rS (rL (cL rI rI))) (Pc (rL rI) (Pc rI Pn))} := ⟨_, by
 exact cC (S := aZ) (N := 8) (W := [2, 3, 4, 5, 6, 7]) (c := uk) (Γn := []) (ro := (cL rS (rL (cL rI rI)))) (Γp := [some ⟨aZ.ypile_here, (rL rI)⟩, some ⟨aZ.yn, rI⟩]) (Γr := [some ⟨aZ.ypile_here, (rL rI)⟩, some ⟨aZ.yn, rI⟩, none, none, none, none, none, none]) (init := (fun p => (⟨p.1, p.2.1, 0, 0, 0, 0, 0, ""⟩ : aZ))) (ar (get := aZ.ypile_here) dC (fun _ => rfl) fun _ => (ar (get := aZ.yn) dC (fun _ => rfl) fun _ => bF))
  (aq (aW 2 (get := aZ.ywhole) (put := fun s v => {s with ywhole := v}) (ab (au bQ (au fP (ao 1) (ah 1 rfl)) (ao 1))))
  (aq (aW 3 (get := aZ.ya) (put := fun s v => {s with ya := v}) (aU bQ (ab (ao 1)) (ax dO (aC 0 rfl (aC 2 rfl aB)) (cq 0 rfl (bi 2 rfl aA)) (cn 0 (get := aZ.ypile_here) (put := fun s v => {s with ypile_here := v}) (h := bh 2 ay)))))
  (aq (aW 4 (get := aZ.yb) (put := fun s v => {s with yb := v}) (aU bQ (ab (ao 1)) (ax dO (aC 0 rfl (aC 2 rfl aB)) (cq 0 rfl (bi 2 rfl aA)) (cn 0 (get := aZ.ypile_here) (put := fun s v => {s with ypile_here := v}) (h := bh 2 ay)))))
  (aq (aW 5 (get := aZ.yc) (put := fun s v => {s with yc := v}) (aU bQ (ab (ao 1)) (ax dO (aC 0 rfl (aC 2 rfl aB)) (cq 0 rfl (bi 2 rfl aA)) (cn 0 (get := aZ.ypile_here) (put := fun s v => {s with ypile_here := v}) (h := bh 2 ay)))))
  (aq (aW 6 (get := aZ.yway) (put := fun s v => {s with yway := v}) (ax dO (aC 0 rfl (bD (ab (ao 4)) aB)) (cq 0 rfl (bC aA)) (cn 0 (get := aZ.ypile_here) (put := fun s v => {s with ypile_here := v}) (h := bB ay))))
  (aq (cB (Γ' := [some ⟨aZ.ypile_here, (rL rI)⟩, some ⟨aZ.yn, rI⟩, some ⟨aZ.ywhole, rI⟩, some ⟨aZ.ya, rI⟩, some ⟨aZ.yb, rI⟩, some ⟨aZ.yc, rI⟩, some ⟨aZ.yway, rI⟩, none]) (bJ (aU dg (ab (ah 6 rfl)) (ab (ao 0)))) (bA (dh (aU cD (aU cD (ab (bM "h(")) (ax fK (aC 3 rfl aB) (bi 3 rfl aA) (bh 3 ay))) (ab (bM ")"))) (dD (r := (cL rI rI)) (bK (dh (ab (ah 3 rfl)) (ab (ao 1))) dB)))) bS)
  (aq (cB (Γ' := [some ⟨aZ.ypile_here, (rL rI)⟩, some ⟨aZ.yn, rI⟩, some ⟨aZ.ywhole, rI⟩, some ⟨aZ.ya, rI⟩, some ⟨aZ.yb, rI⟩, some ⟨aZ.yc, rI⟩, some ⟨aZ.yway, rI⟩, none]) (bJ (aU dg (ab (ah 6 rfl)) (ab (ao 1)))) (bA (dh (aU cD (aU cD (aU cD (aU cD (ab (bM "h(")) (ax fK (aC 3 rfl aB) (bi 3 rfl aA) (bh 3 ay))) (ab (bM "|"))) (ax fK (aC 4 rfl aB) (bi 4 rfl aA) (bh 4 ay))) (ab (bM ")"))) (dD (r := (cL rI rI)) (bK (dh (ab (au bQ (ah 3 rfl) (ah 4 rfl))) (ab (ao 1))) (bK (dh (ab (ah 4 rfl)) (ab (cX (ao 1)))) dB))))) bS)
  (aq (aW 7 (get := aZ.yboth) (put := fun s v => {s with yboth := v}) (aU cD (aU cD (aU cD (ab (bM "s(")) (ax fK (aC 3 rfl aB) (bi 3 rfl aA) (bh 3 ay))) (ab (bM ";"))) (ax fK (aC 4 rfl aB) (bi 4 rfl aA) (bh 4 ay))))
  (aq (cB (Γ' := [some ⟨aZ.ypile_here, (rL rI)⟩, some ⟨aZ.yn, rI⟩, some ⟨aZ.ywhole, rI⟩, some ⟨aZ.ya, rI⟩, some ⟨aZ.yb, rI⟩, some ⟨aZ.yc, rI⟩, some ⟨aZ.yway, rI⟩, some ⟨aZ.yboth, rS⟩]) (bJ (aU dg (ab (ah 6 rfl)) (ab (ao 2)))) (bA (dh (ab (au cD (ah 7 rfl) (bM ")"))) (dD (r := (cL rI rI)) (bK (dh (ab (ah 3 rfl)) (ab (ao 1))) (bK (dh (ab (ah 4 rfl)) (ab (ao 1))) (bK (dh (ab (au bQ (ah 3 rfl) (ah 4 rfl))) (ab (cX (ao 1)))) dB))))) inferInstance (by first | exact Le.refl | (repeat (first | exact Le.nil | refine Le.som inferInstance ?_ | refine Le.non ?_)))) bS)
  (bA (dh (aU cD (aU cD (ab (au cD (ah 7 rfl) (bM "|"))) (ax fK (aC 5 rfl aB) (bi 5 rfl aA) (bh 5 ay))) (ab (bM ")"))) (dD (r := (cL rI rI)) (bK (dh (ab (au bQ (ah 3 rfl) (ah 5 rfl))) (ab (ao 1))) (bK (dh (ab (au bQ (ah 4 rfl) (ah 5 rfl))) (ab (ao 1))) (bK (dh (ab (au bQ (au bQ (ah 3 rfl) (ah 4 rfl)) (ah 5 rfl))) (ab (cX (ao 1)))) (bK (dh (ab (ah 5 rfl)) (ab (cX (ao 1)))) dB)))))) inferInstance (by first | exact Le.refl | (repeat (first | exact Le.nil | refine Le.som inferInstance ?_ | refine Le.non ?_))))))))))))) (ap dC rfl (ap dC rfl bj))⟩
noncomputable def oG := pq.1
theorem Ao : JF my oG (Pc (rL rI) (Pc rI Pn)) (cL rS (rL (cL rI rI))) (Pc (rL rI) (Pc rI Pn)) := pq.2
structure bT where
 ypile_here : List Int
 yway : Int
 ynumber_here : Int
 yk : Int
noncomputable def lR : {f : ((List Int) × Unit) -> Option (Int × ((List Int) × Unit)) // JF iz f (Pc (rL rI) Pn) rI (Pc (rL rI) Pn)} := ⟨_, by
 exact cC (S := bT) (N := 4) (W := [1, 2, 3, 2]) (c := pO) (Γn := []) (ro := rI) (Γp := [some ⟨bT.ypile_here, (rL rI)⟩]) (Γr := [some ⟨bT.ypile_here, (rL rI)⟩, none, none, none]) (init := (fun p => (⟨p.1, 0, 0, 0⟩ : bT))) (ar (get := bT.ypile_here) dC (fun _ => rfl) fun _ => bF)
  (aq (aW 1 (get := bT.yway) (put := fun s v => {s with yway := v}) (ax dO (aC 0 rfl (bD (ab (ao 4)) aB)) (cq 0 rfl (bC aA)) (cn 0 (get := bT.ypile_here) (put := fun s v => {s with ypile_here := v}) (h := bB ay))))
  (aq (cB (Γ' := [some ⟨bT.ypile_here, (rL rI)⟩, some ⟨bT.yway, rI⟩, none, none]) (bJ (aU dg (ab (ah 1 rfl)) (ab (ao 0)))) (aq (aW 2 (get := bT.ynumber_here) (put := fun s v => {s with ynumber_here := v}) (ab (ao 0)))
  (aq (fX (nJ (ab (ao 4))) Le.refl (d7 3 (get := bT.yk) (put := fun s v => {s with yk := v})) (aW 2 (get := bT.ynumber_here) (put := fun s v => {s with ynumber_here := v}) (aU bQ (ab (au eW (ah 2 rfl) (au fP (ao 10) (ao 10)))) (ax dO (aC 0 rfl (bD (ab (au fP (ao 10) (ao 10))) aB)) (cq 0 rfl (bC aA)) (cn 0 (get := bT.ypile_here) (put := fun s v => {s with ypile_here := v}) (h := bB ay))))))
  (bA (DH (dD (r := rI) (bK (ab (ah 2 rfl)) (bK (ab (cX (ah 2 rfl))) dB))) (ax dO (aC 0 rfl (bD (ab (ao 2)) aB)) (cq 0 rfl (bC aA)) (cn 0 (get := bT.ypile_here) (put := fun s v => {s with ypile_here := v}) (h := bB ay))))))) bS)
  (aq (cB (Γ' := [some ⟨bT.ypile_here, (rL rI)⟩, some ⟨bT.yway, rI⟩, none, none]) (bJ (aU dg (ab (ah 1 rfl)) (ab (ao 1)))) (bA (aU bQ (ax dO (aC 0 rfl (bD (ab (ao 2001)) aB)) (cq 0 rfl (bC aA)) (cn 0 (get := bT.ypile_here) (put := fun s v => {s with ypile_here := v}) (h := bB ay))) (ab (ao 1000)))) bS)
  (bA (aU bQ (ax dO (aC 0 rfl (bD (ab (ao 9)) aB)) (cq 0 rfl (bC aA)) (cn 0 (get := bT.ypile_here) (put := fun s v => {s with ypile_here := v}) (h := bB ay))) (ab (ao 4))))))) (ap dC rfl bj)⟩
noncomputable def ip := lR.1
theorem pK : JF iz ip (Pc (rL rI) Pn) rI (Pc (rL rI) Pn) := lR.2
structure bY where
 yrow : List Int
 yterms : List (Int × Int)
 ytimes : Int
 yfound : List Int
 ygroup : Int
 ynumber_here : Int
noncomputable def nj : {f : ((List Int) × (List (Int × Int)) × Int × Unit) -> Option ((List Int) × ((List Int) × (List (Int × Int)) × Int × Unit)) // JF kA f (Pc (rL rI) (Pc (rL (cL rI rI)) (Pc rI Pn))) (rL rI) (Pc (rL rI) (Pc (rM (cL rI rI)) (Pc rI Pn)))} := ⟨_, by
 exact cC (S := bY) (N := 6) (W := [3, 4, 5]) (c := sJ) (Γn := []) (ro := (rL rI)) (Γp := [some ⟨bY.yrow, (rL rI)⟩, some ⟨bY.yterms, (rL (cL rI rI))⟩, some ⟨bY.ytimes, rI⟩]) (Γr := [some ⟨bY.yrow, (rL rI)⟩, some ⟨bY.yterms, (rM (cL rI rI))⟩, some ⟨bY.ytimes, rI⟩, none, none, none]) (init := (fun p => (⟨p.1, p.2.1, p.2.2.1, [], 0, 0⟩ : bY))) (ar (get := bY.yrow) dC (fun _ => rfl) fun _ => (ar (get := bY.yterms) dC (fun _ => rfl) fun _ => (ar (get := bY.ytimes) dC (fun _ => rfl) fun _ => bF)))
  (aq (aW 3 (get := bY.yfound) (put := fun s v => {s with yfound := v}) (x9 (ah 0 rfl)))
  (aq (fX (iy (iQ 1 rfl)) Le.refl (mv (d7 4 (get := bY.ygroup) (put := fun s v => {s with ygroup := v})) (d7 5 (get := bY.ynumber_here) (put := fun s v => {s with ynumber_here := v}))) (cB (Γ' := [some ⟨bY.yrow, (rL rI)⟩, some ⟨bY.yterms, (rM (cL rI rI))⟩, some ⟨bY.ytimes, rI⟩, some ⟨bY.yfound, (rL rI)⟩, some ⟨bY.ygroup, rI⟩, some ⟨bY.ynumber_here, rI⟩]) (bJ (aU iP (ab (ah 4 rfl)) (ab (ao 0)))) (o8 3 (get := bY.yfound) (put := fun s v => {s with yfound := v}) (ab (au bQ (au dr (ah 3 rfl) (au bQ (ah 4 rfl) (ao 1))) (au eW (ah 2 rfl) (ah 5 rfl)))) (au bQ (ah 4 rfl) (ao 1)) rfl) bS))
  (bA (qy 3 rfl)))) (ap dC rfl (ap dC rfl (ap dC rfl bj)))⟩
noncomputable def mT := nj.1
theorem yf : JF kA mT (Pc (rL rI) (Pc (rL (cL rI rI)) (Pc rI Pn))) (rL rI) (Pc (rL rI) (Pc (rM (cL rI rI)) (Pc rI Pn))) := nj.2
structure aG where
 yscript : List Int
 ystart : Int
 yn : Int
 yrow : List Int
 ytext : Str
 yk : Int
 ypile_here : List Int
 yword : Str
 yterms : List (Int × Int)
 ynumber_here : Int
 ylow : Int
 yahead : Str
noncomputable def sO : {f : ((List Int) × Int × Int × Unit) -> Option ((Str × (List Int)) × ((List Int) × Int × Int × Unit)) // JF nW f (Pc (rM rI) (Pc rI (Pc rI Pn))) (cL rS (rM rI)) (Pc (rM rI) (Pc rI (Pc rI Pn)))} := ⟨_, by
 exact cC (S := aG) (N := 12) (W := [3, 4, 5, 6, 7, 8, 9, 10, 11, 9, 11, 3, 4, 4]) (c := wM) (Γn := []) (ro := (cL rS (rM rI))) (Γp := [some ⟨aG.yscript, (rM rI)⟩, some ⟨aG.ystart, rI⟩, some ⟨aG.yn, rI⟩]) (Γr := [some ⟨aG.yscript, (rM rI)⟩, some ⟨aG.ystart, rI⟩, some ⟨aG.yn, rI⟩, none, none, none, none, none, none, none, none, none]) (init := (fun p => (⟨p.1, p.2.1, p.2.2.1, [], "", 0, [], "", [], 0, 0, ""⟩ : aG))) (ar (get := aG.yscript) dC (fun _ => rfl) fun _ => (ar (get := aG.ystart) dC (fun _ => rfl) fun _ => (ar (get := aG.yn) dC (fun _ => rfl) fun _ => bF)))
  (aq (aW 3 (get := aG.yrow) (put := fun s v => {s with yrow := v}) (sf (dD (r := rI) (bK (ab (ao 0)) dB)) (ab (au bQ (au fP (ao 1) (ah 2 rfl)) (ao 1)))))
  (aq (aW 4 (get := aG.ytext) (put := fun s v => {s with ytext := v}) (ab (bM "")))
  (aq (fX (nJ (aU bQ (ab (ao 1)) (ax dO (bD (ax pc (aC 0 rfl (aC 1 rfl aB)) (cq 0 rfl (bi 1 rfl aA)) (cn 0 (get := aG.yscript) (put := fun s v => {s with yscript := v}) (h := bh 1 ay))) (bD (ab (ao 5)) aB)) (bC (bC aA)) (bB (bB ay))))) Le.refl (d7 5 (get := aG.yk) (put := fun s v => {s with yk := v})) (aq (aW 6 (get := aG.ypile_here) (put := fun s v => {s with ypile_here := v}) (ax pc (aC 0 rfl (bD (ab (au bQ (au bQ (ah 1 rfl) (ao 1)) (ah 5 rfl))) aB)) (cq 0 rfl (bC aA)) (cn 0 (get := aG.yscript) (put := fun s v => {s with yscript := v}) (h := bB ay))))
  (aq (wn (ax Ao (aC 6 rfl (aC 2 rfl aB)) (cq 6 rfl (bi 2 rfl aA)) (cn 6 (get := aG.ypile_here) (put := fun s v => {s with ypile_here := v}) (h := bh 2 ay))) (mv (d7 7 (get := aG.yword) (put := fun s v => {s with yword := v})) (d7 8 (get := aG.yterms) (put := fun s v => {s with yterms := v}))))
  (aq (aW 9 (get := aG.ynumber_here) (put := fun s v => {s with ynumber_here := v}) (y0 sg (ax pK (aC 6 rfl aB) (cq 6 rfl aA) (cn 6 (get := aG.ypile_here) (put := fun s v => {s with ypile_here := v}) (h := ay)))))
  (aq (aW 10 (get := aG.ylow) (put := fun s v => {s with ylow := v}) (ax dO (aC 6 rfl (bD (ab (ao 2)) aB)) (cq 6 rfl (bC aA)) (cn 6 (get := aG.ypile_here) (put := fun s v => {s with ypile_here := v}) (h := bB ay))))
  (aq (aW 11 (get := aG.yahead) (put := fun s v => {s with yahead := v}) (ab (au cD (eQ t7 (ah 9 rfl)) (bM " "))))
  (aq (cB (Γ' := [some ⟨aG.yscript, (rM rI)⟩, some ⟨aG.ystart, rI⟩, some ⟨aG.yn, rI⟩, some ⟨aG.yrow, (rL rI)⟩, some ⟨aG.ytext, rS⟩, some ⟨aG.yk, rI⟩, some ⟨aG.ypile_here, (rL rI)⟩, some ⟨aG.yword, rS⟩, some ⟨aG.yterms, (rL (cL rI rI))⟩, some ⟨aG.ynumber_here, rI⟩, some ⟨aG.ylow, rI⟩, some ⟨aG.yahead, rS⟩]) (jz (bJ (aU dg (ab (ah 9 rfl)) (ab (ao 0)))) (nH (bJ (aU dg (ab (ah 9 rfl)) (ab (ao 1)))) (bJ (aU dg (ax dO (aC 6 rfl (bD (ab (ao 2)) aB)) (cq 6 rfl (bC aA)) (cn 6 (get := aG.ypile_here) (put := fun s v => {s with ypile_here := v}) (h := bB ay))) (ab (ao 0)))))) (aq (aW 9 (get := aG.ynumber_here) (put := fun s v => {s with ynumber_here := v}) (ab (ao 1)))
  (aW 11 (get := aG.yahead) (put := fun s v => {s with yahead := v}) (ab (bM "")))) bS)
  (aq (aW 3 (get := aG.yrow) (put := fun s v => {s with yrow := v}) (ax yf (aC 3 rfl (aC 8 rfl (bD (ab (au dr (nI (fD (ah 9 rfl) (fD (cX (ah 9 rfl)) mq))) (ah 10 rfl))) aB))) (cq 3 rfl (cq 8 rfl (bC aA))) (cn 3 (get := aG.yrow) (put := fun s v => {s with yrow := v}) (h := cn 8 (get := aG.yterms) (put := fun s v => {s with yterms := v}) (h := bB ay)))))
  (cB (Γ' := [some ⟨aG.yscript, (rM rI)⟩, some ⟨aG.ystart, rI⟩, some ⟨aG.yn, rI⟩, some ⟨aG.yrow, (rL rI)⟩, some ⟨aG.ytext, rS⟩, some ⟨aG.yk, rI⟩, some ⟨aG.ypile_here, (rL rI)⟩, some ⟨aG.yword, rS⟩, some ⟨aG.yterms, (rM (cL rI rI))⟩, some ⟨aG.ynumber_here, rI⟩, some ⟨aG.ylow, rI⟩, some ⟨aG.yahead, rS⟩]) (bJ (aU dg (ab (ah 4 rfl)) (ab (bM "")))) (aW 4 (get := aG.ytext) (put := fun s v => {s with ytext := v}) (ab (au cD (au cD (au dr (nI (fD (bM "") (fD (bM "-") mq))) (ah 10 rfl)) (ah 11 rfl)) (ah 7 rfl)))) (aW 4 (get := aG.ytext) (put := fun s v => {s with ytext := v}) (ab (au cD (au cD (au cD (ah 4 rfl) (au dr (nI (fD (bM " + ") (fD (bM " - ") mq))) (ah 10 rfl))) (ah 11 rfl)) (ah 7 rfl)))))))))))))
  (bA (dh (ab (ah 4 rfl)) (iQ 3 rfl)))))) (ap dC rfl (ap dC rfl (ap dC rfl bj)))⟩
noncomputable def qD := sO.1
theorem Cc : JF nW qD (Pc (rM rI) (Pc rI (Pc rI Pn))) (cL rS (rM rI)) (Pc (rM rI) (Pc rI (Pc rI Pn))) := sO.2
structure fZ where
 xn : Int
noncomputable def mP : {f : (Int × Unit) -> Option (Int × (Int × Unit)) // JF e8 f (Pc rI Pn) rI (Pc rI Pn)} := ⟨_, by
 exact cC (S := fZ) (N := 1) (W := []) (c := mN) (Γn := []) (ro := rI) (Γp := [some ⟨fZ.xn, rI⟩]) (Γr := [some ⟨fZ.xn, rI⟩]) (init := (fun p => (⟨p.1⟩ : fZ))) (ar (get := fZ.xn) dC (fun _ => rfl) fun _ => bF)
  (bA (ab (au bQ (au fP (ao 1) (ah 0 rfl)) (ao 1)))) (ap dC rfl bj)⟩
noncomputable def jG := mP.1
theorem jK : JF e8 jG (Pc rI Pn) rI (Pc rI Pn) := mP.2
structure ak where
 xtext : Str
 xsigns : List Int
 xterms : List (List Str)
 xword : Str
noncomputable def hJ : {f : (Str × Unit) -> Option ((List (Int × (List Str))) × (Str × Unit)) // JF fL f (Pc rS Pn) (rL (cL rI (rM rS))) (Pc rS Pn)} := ⟨_, by
 exact cC (S := ak) (N := 4) (W := [1, 2, 3]) (c := j7) (Γn := []) (ro := (rL (cL rI (rM rS)))) (Γp := [some ⟨ak.xtext, rS⟩]) (Γr := [some ⟨ak.xtext, rS⟩, none, none, none]) (init := (fun p => (⟨p.1, [], [], ""⟩ : ak))) (ar (get := ak.xtext) dC (fun _ => rfl) fun _ => bF)
  (aq (aW 1 (get := ak.xsigns) (put := fun s v => {s with xsigns := v}) (dD (r := rI) (bK (nM (r := rI) (Γ' := [some ⟨ak.xtext, rS⟩, none, none, none]) (bJ (jB (ab (ah 0 rfl)) (ab (bM "-")))) (ab (cX (ao 1))) (ab (ao 1))) dB)))
  (aq (aW 2 (get := ak.xterms) (put := fun s v => {s with xterms := v}) (dD (r := (rL rS)) (bK (dD (dB (r := rS))) dB)))
  (aq (fX (iy (jh (nM (r := rS) (Γ' := [some ⟨ak.xtext, rS⟩, some ⟨ak.xsigns, (rL rI)⟩, some ⟨ak.xterms, (rL (rL rS))⟩, none]) (bJ (aU dg (ab (au dr (ah 1 rfl) (ao 0))) (ab (cX (ao 1))))) (nK (ab (ah 0 rfl)) (gu (ao 1)) m5) (ab (ah 0 rfl))) (ab (bM " ")))) Le.refl (d7 3 (get := ak.xword) (put := fun s v => {s with xword := v})) (cB (Γ' := [some ⟨ak.xtext, rS⟩, some ⟨ak.xsigns, (rL rI)⟩, some ⟨ak.xterms, (rL (rL rS))⟩, some ⟨ak.xword, rS⟩]) (jz (bJ (aU dg (ab (ah 3 rfl)) (ab (bM "+")))) (bJ (aU dg (ab (ah 3 rfl)) (ab (bM "-"))))) (aq (mo (t6 1 (get := ak.xsigns) (put := fun s v => {s with xsigns := v}) (nM (r := rI) (Γ' := [some ⟨ak.xtext, rS⟩, some ⟨ak.xsigns, (rL rI)⟩, some ⟨ak.xterms, (rL (rL rS))⟩, some ⟨ak.xword, rS⟩]) (bJ (aU dg (ab (ah 3 rfl)) (ab (bM "+")))) (ab (ao 1)) (ab (cX (ao 1)))) rfl rfl))
  (mo (t6 2 (get := ak.xterms) (put := fun s v => {s with xterms := v}) (dD (dB (r := rS))) rfl rfl))) (mo (Aj 2 (get := ak.xterms) (put := fun s v => {s with xterms := v}) (ah 3 rfl) (cX (ao 1)) rfl))))
  (bA (DF (iQ 1 rfl) (iQ 2 rfl)))))) (ap dC rfl bj)⟩
noncomputable def g6 := hJ.1
theorem pb : JF fL g6 (Pc rS Pn) (rL (cL rI (rM rS))) (Pc rS Pn) := hJ.2
structure cv where
 xtext : Str
 xfigures : Str
noncomputable def gp : {f : (Str × Unit) -> Option (Int × (Str × Unit)) // JF gk f (Pc rS Pn) rI (Pc rS Pn)} := ⟨_, by
 exact cC (S := cv) (N := 2) (W := [1]) (c := kO) (Γn := []) (ro := rI) (Γp := [some ⟨cv.xtext, rS⟩]) (Γr := [some ⟨cv.xtext, rS⟩, none]) (init := (fun p => (⟨p.1, ""⟩ : cv))) (ar (get := cv.xtext) dC (fun _ => rfl) fun _ => bF)
  (aq (aW 1 (get := cv.xfigures) (put := fun s v => {s with xfigures := v}) (nM (r := rS) (Γ' := [some ⟨cv.xtext, rS⟩, none]) (bJ (jB (ab (ah 0 rfl)) (ab (bM "-")))) (nK (ab (ah 0 rfl)) (gu (ao 1)) m5) (ab (ah 0 rfl))))
  (aq (cB (Γ' := [some ⟨cv.xtext, rS⟩, some ⟨cv.xfigures, rS⟩]) (jz (bJ (aU iP (ab (eQ t8 (ah 1 rfl))) (ab (ao 1)))) (jz (bJ (aU iP (ab (eQ t8 (ah 1 rfl))) (ab (ao 2000)))) (jZ (bJ (y0 B8 (kv (B1 (ab (ah 1 rfl))) Le.refl (se 2 rfl) (fun x3 => mn) (fun x3 => (ab (au BZ (ah 2 rfl) (bM "0123456789")))))))))) dt bS)
  (aq (cB (Γ' := [some ⟨cv.xtext, rS⟩, some ⟨cv.xfigures, rS⟩]) (nH (bJ (aU dg (ab (au wu (ah 1 rfl) (ao 0))) (ab (bM "0")))) (bJ (aU mr (ab (ah 0 rfl)) (ab (bM "0"))))) dt bS)
  (bA (ab (eQ Al (ah 0 rfl))))))) (ap dC rfl bj)⟩
noncomputable def cU := gp.1
theorem ql : JF gk cU (Pc rS Pn) rI (Pc rS Pn) := gp.2
structure dE where
 xtext : Str
 xnumber : Int
noncomputable def jo : {f : (Str × Unit) -> Option (Int × (Str × Unit)) // JF fE f (Pc rS Pn) rI (Pc rS Pn)} := ⟨_, by
 exact cC (S := dE) (N := 2) (W := [1]) (c := lG) (Γn := []) (ro := rI) (Γp := [some ⟨dE.xtext, rS⟩]) (Γr := [some ⟨dE.xtext, rS⟩, none]) (init := (fun p => (⟨p.1, 0⟩ : dE))) (ar (get := dE.xtext) dC (fun _ => rfl) fun _ => bF)
  (aq (aW 1 (get := dE.xnumber) (put := fun s v => {s with xnumber := v}) (ax ql (aC 0 rfl aB) (bi 0 rfl aA) (bh 0 ay)))
  (aq (cB (Γ' := [some ⟨dE.xtext, rS⟩, some ⟨dE.xnumber, rI⟩]) (bJ (aU iP (ab (eQ sg (ah 1 rfl))) (ab (au fP (ao 10) (ao 40))))) dt bS)
  (bA (ab (ah 1 rfl))))) (ap dC rfl bj)⟩
noncomputable def gB := jo.1
theorem li : JF fE gB (Pc rS Pn) rI (Pc rS Pn) := jo.2
structure cz where
 xtext : Str
 xleast : Int
 xnumber : Int
noncomputable def jp : {f : (Str × Int × Unit) -> Option (Int × (Str × Int × Unit)) // JF gT f (Pc rS (Pc rI Pn)) rI (Pc rS (Pc rI Pn))} := ⟨_, by
 exact cC (S := cz) (N := 3) (W := [2]) (c := lK) (Γn := []) (ro := rI) (Γp := [some ⟨cz.xtext, rS⟩, some ⟨cz.xleast, rI⟩]) (Γr := [some ⟨cz.xtext, rS⟩, some ⟨cz.xleast, rI⟩, none]) (init := (fun p => (⟨p.1, p.2.1, 0⟩ : cz))) (ar (get := cz.xtext) dC (fun _ => rfl) fun _ => (ar (get := cz.xleast) dC (fun _ => rfl) fun _ => bF))
  (aq (aW 2 (get := cz.xnumber) (put := fun s v => {s with xnumber := v}) (ax li (aC 0 rfl aB) (bi 0 rfl aA) (bh 0 ay)))
  (aq (cB (Γ' := [some ⟨cz.xtext, rS⟩, some ⟨cz.xleast, rI⟩, some ⟨cz.xnumber, rI⟩]) (bJ (aU iP (ab (ah 2 rfl)) (ab (ah 1 rfl)))) dt bS)
  (bA (ab (ah 2 rfl))))) (ap dC rfl (ap dC rfl bj))⟩
noncomputable def iZ := jp.1
theorem sj : JF gT iZ (Pc rS (Pc rI Pn)) rI (Pc rS (Pc rI Pn)) := jp.2
structure em where
 xn : Int
 xgroup : Int
noncomputable def om : {f : (Int × Int × Unit) -> Option ((List Int) × (Int × Int × Unit)) // JF iS f (Pc rI (Pc rI Pn)) (rL rI) (Pc rI (Pc rI Pn))} := ⟨_, by
 exact cC (S := em) (N := 2) (W := []) (c := og) (Γn := []) (ro := (rL rI)) (Γp := [some ⟨em.xn, rI⟩, some ⟨em.xgroup, rI⟩]) (Γr := [some ⟨em.xn, rI⟩, some ⟨em.xgroup, rI⟩]) (init := (fun p => (⟨p.1, p.2.1⟩ : em))) (ar (get := em.xn) dC (fun _ => rfl) fun _ => (ar (get := em.xgroup) dC (fun _ => rfl) fun _ => bF))
  (bA (kv (nJ (ab (ah 0 rfl))) Le.refl (se 2 rfl) (fun x6 => (bJ (aU mr (ab (au bQ (ah 1 rfl) (au fP (ao 1) (ah 2 rfl)))) (ab (ao 0))))) (fun x6 => (ab (ah 2 rfl))))) (ap dC rfl (ap dC rfl bj))⟩
noncomputable def uP := om.1
theorem vg : JF iS uP (Pc rI (Pc rI Pn)) (rL rI) (Pc rI (Pc rI Pn)) := om.2
structure fH where
 xgroup : Int
noncomputable def lP : {f : (Int × Unit) -> Option (Str × (Int × Unit)) // JF gQ f (Pc rI Pn) rS (Pc rI Pn)} := ⟨_, by
 exact cC (S := fH) (N := 1) (W := []) (c := lE) (Γn := []) (ro := rS) (Γp := [some ⟨fH.xgroup, rI⟩]) (Γr := [some ⟨fH.xgroup, rI⟩]) (init := (fun p => (⟨p.1⟩ : fH))) (ar (get := fH.xgroup) dC (fun _ => rfl) fun _ => bF)
  (bA (o9 (ab (bM "")) (kv (iy (ax vg (bD (ab (ao 4)) (aC 0 rfl aB)) (bC (bi 0 rfl aA)) (bB (bh 0 ay)))) Le.refl (se 1 rfl) (fun x5 => mn) (fun x5 => (ab (au wu (bM "abcd") (ah 1 rfl))))))) (ap dC rfl bj)⟩
noncomputable def qC := lP.1
theorem sh : JF gQ qC (Pc rI Pn) rS (Pc rI Pn) := lP.2
structure cx where
 xn : Int
 xtext : Str
 xgroup : Int
noncomputable def lQ : {f : (Int × Str × Unit) -> Option (Int × (Int × Str × Unit)) // JF dW f (Pc rI (Pc rS Pn)) rI (Pc rI (Pc rS Pn))} := ⟨_, by
 exact cC (S := cx) (N := 3) (W := [2]) (c := lJ) (Γn := []) (ro := rI) (Γp := [some ⟨cx.xn, rI⟩, some ⟨cx.xtext, rS⟩]) (Γr := [some ⟨cx.xn, rI⟩, some ⟨cx.xtext, rS⟩, none]) (init := (fun p => (⟨p.1, p.2.1, 0⟩ : cx))) (ar (get := cx.xn) dC (fun _ => rfl) fun _ => (ar (get := cx.xtext) dC (fun _ => rfl) fun _ => bF))
  (aq (fX (DC (ab (ao 1)) (aU bQ (ax jK (aC 0 rfl aB) (bi 0 rfl aA) (bh 0 ay)) (ab (ao 1)))) Le.refl (d7 2 (get := cx.xgroup) (put := fun s v => {s with xgroup := v})) (cB (Γ' := [some ⟨cx.xn, rI⟩, some ⟨cx.xtext, rS⟩, some ⟨cx.xgroup, rI⟩]) (bJ (aU dg (ax sh (aC 2 rfl aB) (bi 2 rfl aA) (bh 2 ay)) (ab (ah 1 rfl)))) (bA (ab (ah 2 rfl))) bS))
  dt) (ap dC rfl (ap dC rfl bj))⟩
noncomputable def gC := lQ.1
theorem gP : JF dW gC (Pc rI (Pc rS Pn)) rI (Pc rI (Pc rS Pn)) := lQ.2
structure cw where
 xn : Int
 xparts : List Str
noncomputable def gX : {f : (Int × (List Str) × Unit) -> Option (Int × (Int × (List Str) × Unit)) // JF fF f (Pc rI (Pc (rL rS) Pn)) rI (Pc rI (Pc (rL rS) Pn))} := ⟨_, by
 exact cC (S := cw) (N := 2) (W := []) (c := lI) (Γn := []) (ro := rI) (Γp := [some ⟨cw.xn, rI⟩, some ⟨cw.xparts, (rL rS)⟩]) (Γr := [some ⟨cw.xn, rI⟩, some ⟨cw.xparts, (rL rS)⟩]) (init := (fun p => (⟨p.1, p.2.1⟩ : cw))) (ar (get := cw.xn) dC (fun _ => rfl) fun _ => (ar (get := cw.xparts) dC (fun _ => rfl) fun _ => bF))
  (aq (cB (Γ' := [some ⟨cw.xn, rI⟩, some ⟨cw.xparts, (rL rS)⟩]) (bJ (aU iP (ab (eQ ji (ah 1 rfl))) (ab (ao 2)))) dt bS)
  (bA (nM (r := rI) (Γ' := [some ⟨cw.xn, rI⟩, some ⟨cw.xparts, (rL rS)⟩]) (bJ (aU dg (ab (eQ ji (ah 1 rfl))) (ab (ao 2)))) (ax gP (aC 0 rfl (bD (ab (au dr (ah 1 rfl) (ao 1))) aB)) (bi 0 rfl (bC aA)) (bh 0 (bB ay))) (ab (ao 0))))) (ap dC rfl (ap dC rfl bj))⟩
noncomputable def fo := gX.1
theorem lj : JF fF fo (Pc rI (Pc (rL rS) Pn)) rI (Pc rI (Pc (rL rS) Pn)) := gX.2
structure ba where
 xn : Int
 xterms : List (Int × Int)
 xrow : List Int
 xgroup : Int
 xnumber : Int
noncomputable def hU : {f : (Int × (List (Int × Int)) × Unit) -> Option ((List Int) × (Int × (List (Int × Int)) × Unit)) // JF eK f (Pc rI (Pc (rL (cL rI rI)) Pn)) (rL rI) (Pc rI (Pc (rM (cL rI rI)) Pn))} := ⟨_, by
 exact cC (S := ba) (N := 5) (W := [2, 3, 4]) (c := j8) (Γn := []) (ro := (rL rI)) (Γp := [some ⟨ba.xn, rI⟩, some ⟨ba.xterms, (rL (cL rI rI))⟩]) (Γr := [some ⟨ba.xn, rI⟩, some ⟨ba.xterms, (rM (cL rI rI))⟩, none, none, none]) (init := (fun p => (⟨p.1, p.2.1, [], 0, 0⟩ : ba))) (ar (get := ba.xn) dC (fun _ => rfl) fun _ => (ar (get := ba.xterms) dC (fun _ => rfl) fun _ => bF))
  (aq (aW 2 (get := ba.xrow) (put := fun s v => {s with xrow := v}) (sf (dD (r := rI) (bK (ab (ao 0)) dB)) (ax jK (aC 0 rfl aB) (bi 0 rfl aA) (bh 0 ay))))
  (aq (fX (iy (iQ 1 rfl)) Le.refl (mv (d7 3 (get := ba.xgroup) (put := fun s v => {s with xgroup := v})) (d7 4 (get := ba.xnumber) (put := fun s v => {s with xnumber := v}))) (cB (Γ' := [some ⟨ba.xn, rI⟩, some ⟨ba.xterms, (rM (cL rI rI))⟩, some ⟨ba.xrow, (rL rI)⟩, some ⟨ba.xgroup, rI⟩, some ⟨ba.xnumber, rI⟩]) (bJ (aU mr (ab (ah 3 rfl)) (ab (ao 0)))) (Af 2 (get := ba.xrow) (put := fun s v => {s with xrow := v}) bQ (au bQ (ah 3 rfl) (ao 1)) (ah 4 rfl) rfl) bS))
  (bA (qy 2 rfl)))) (ap dC rfl (ap dC rfl bj))⟩
noncomputable def g7 := hU.1
theorem j0 : JF eK g7 (Pc rI (Pc (rL (cL rI rI)) Pn)) (rL rI) (Pc rI (Pc (rM (cL rI rI)) Pn)) := hU.2
structure di where
 xn : Int
 xa : Int
 xb : Int
noncomputable def kD : {f : (Int × Int × Int × Unit) -> Option ((List Int) × (Int × Int × Int × Unit)) // JF iR f (Pc rI (Pc rI (Pc rI Pn))) (rL rI) (Pc rI (Pc rI (Pc rI Pn)))} := ⟨_, by
 exact cC (S := di) (N := 3) (W := []) (c := n9) (Γn := []) (ro := (rL rI)) (Γp := [some ⟨di.xn, rI⟩, some ⟨di.xa, rI⟩, some ⟨di.xb, rI⟩]) (Γr := [some ⟨di.xn, rI⟩, some ⟨di.xa, rI⟩, some ⟨di.xb, rI⟩]) (init := (fun p => (⟨p.1, p.2.1, p.2.2.1⟩ : di))) (ar (get := di.xn) dC (fun _ => rfl) fun _ => (ar (get := di.xa) dC (fun _ => rfl) fun _ => (ar (get := di.xb) dC (fun _ => rfl) fun _ => bF)))
  (bA (ax j0 (aC 0 rfl (bD (dD (r := (cL rI rI)) (bK (dh (ab (au bQ (ah 1 rfl) (ah 2 rfl))) (ab (ao 1))) (bK (dh (ab (ah 2 rfl)) (ab (cX (ao 1)))) dB))) aB)) (bi 0 rfl (bC aA)) (bh 0 (bB ay)))) (ap dC rfl (ap dC rfl (ap dC rfl bj)))⟩
noncomputable def ki := kD.1
theorem vf : JF iR ki (Pc rI (Pc rI (Pc rI Pn))) (rL rI) (Pc rI (Pc rI (Pc rI Pn))) := kD.2
structure cT where
 xn : Int
 xtext : Str
 xparts : List Str
 xknown : Int
noncomputable def im : {f : (Int × Str × Unit) -> Option ((List Int) × (Int × Str × Unit)) // JF ig f (Pc rI (Pc rS Pn)) (rL rI) (Pc rI (Pc rS Pn))} := ⟨_, by
 exact cC (S := cT) (N := 4) (W := [2, 3]) (c := mL) (Γn := []) (ro := (rL rI)) (Γp := [some ⟨cT.xn, rI⟩, some ⟨cT.xtext, rS⟩]) (Γr := [some ⟨cT.xn, rI⟩, some ⟨cT.xtext, rS⟩, none, none]) (init := (fun p => (⟨p.1, p.2.1, [], 0⟩ : cT))) (ar (get := cT.xn) dC (fun _ => rfl) fun _ => (ar (get := cT.xtext) dC (fun _ => rfl) fun _ => bF))
  (aq (aW 2 (get := cT.xparts) (put := fun s v => {s with xparts := v}) (jh (ab (ah 1 rfl)) (ab (bM "|"))))
  (aq (aW 3 (get := cT.xknown) (put := fun s v => {s with xknown := v}) (ax lj (aC 0 rfl (aC 2 rfl aB)) (bi 0 rfl (cq 2 rfl aA)) (bh 0 (cn 2 (get := cT.xparts) (put := fun s v => {s with xparts := v}) (h := ay)))))
  (bA (ax vf (aC 0 rfl (bD (ax gP (aC 0 rfl (bD (ab (au dr (ah 2 rfl) (ao 0))) aB)) (bi 0 rfl (bC aA)) (bh 0 (bB ay))) (aC 3 rfl aB))) (bi 0 rfl (bC (bi 3 rfl aA))) (bh 0 (bB (bh 3 ay))))))) (ap dC rfl (ap dC rfl bj))⟩
noncomputable def eY := im.1
theorem tu : JF ig eY (Pc rI (Pc rS Pn)) (rL rI) (Pc rI (Pc rS Pn)) := im.2
structure dG where
 xtext : Str
 xsign : Str
 xparts : List Str
noncomputable def nk : {f : (Str × Str × Unit) -> Option ((List Str) × (Str × Str × Unit)) // JF kB f (Pc rS (Pc rS Pn)) (rL rS) (Pc rS (Pc rS Pn))} := ⟨_, by
 exact cC (S := dG) (N := 3) (W := [2]) (c := sK) (Γn := []) (ro := (rL rS)) (Γp := [some ⟨dG.xtext, rS⟩, some ⟨dG.xsign, rS⟩]) (Γr := [some ⟨dG.xtext, rS⟩, some ⟨dG.xsign, rS⟩, none]) (init := (fun p => (⟨p.1, p.2.1, []⟩ : dG))) (ar (get := dG.xtext) dC (fun _ => rfl) fun _ => (ar (get := dG.xsign) dC (fun _ => rfl) fun _ => bF))
  (aq (aW 2 (get := dG.xparts) (put := fun s v => {s with xparts := v}) (jh (ab (ah 0 rfl)) (ab (ah 1 rfl))))
  (aq (cB (Γ' := [some ⟨dG.xtext, rS⟩, some ⟨dG.xsign, rS⟩, some ⟨dG.xparts, (rL rS)⟩]) (bJ (aU mr (ab (eQ ji (ah 2 rfl))) (ab (ao 2)))) dt bS)
  (bA (qy 2 rfl)))) (ap dC rfl (ap dC rfl bj))⟩
noncomputable def mU := nk.1
theorem yg : JF kB mU (Pc rS (Pc rS Pn)) (rL rS) (Pc rS (Pc rS Pn)) := nk.2
structure bZ where
 xn : Int
 xa : Int
 xb : Int
 xc : Int
noncomputable def jm : {f : (Int × Int × Int × Int × Unit) -> Option ((List Int) × (Int × Int × Int × Int × Unit)) // JF gR f (Pc rI (Pc rI (Pc rI (Pc rI Pn)))) (rL rI) (Pc rI (Pc rI (Pc rI (Pc rI Pn))))} := ⟨_, by
 exact cC (S := bZ) (N := 4) (W := []) (c := lF) (Γn := []) (ro := (rL rI)) (Γp := [some ⟨bZ.xn, rI⟩, some ⟨bZ.xa, rI⟩, some ⟨bZ.xb, rI⟩, some ⟨bZ.xc, rI⟩]) (Γr := [some ⟨bZ.xn, rI⟩, some ⟨bZ.xa, rI⟩, some ⟨bZ.xb, rI⟩, some ⟨bZ.xc, rI⟩]) (init := (fun p => (⟨p.1, p.2.1, p.2.2.1, p.2.2.2.1⟩ : bZ))) (ar (get := bZ.xn) dC (fun _ => rfl) fun _ => (ar (get := bZ.xa) dC (fun _ => rfl) fun _ => (ar (get := bZ.xb) dC (fun _ => rfl) fun _ => (ar (get := bZ.xc) dC (fun _ => rfl) fun _ => bF))))
  (bA (ax j0 (aC 0 rfl (bD (dD (r := (cL rI rI)) (bK (dh (ab (au bQ (ah 1 rfl) (ah 3 rfl))) (ab (ao 1))) (bK (dh (ab (au bQ (ah 2 rfl) (ah 3 rfl))) (ab (ao 1))) (bK (dh (ab (au bQ (au bQ (ah 1 rfl) (ah 2 rfl)) (ah 3 rfl))) (ab (cX (ao 1)))) (bK (dh (ab (ah 3 rfl)) (ab (cX (ao 1)))) dB))))) aB)) (bi 0 rfl (bC aA)) (bh 0 (bB ay))) inferInstance (by first | exact Le.refl | (repeat (first | exact Le.nil | refine Le.som inferInstance ?_ | refine Le.non ?_)))) (ap dC rfl (ap dC rfl (ap dC rfl (ap dC rfl bj))))⟩
noncomputable def iY := jm.1
theorem si : JF gR iY (Pc rI (Pc rI (Pc rI (Pc rI Pn)))) (rL rI) (Pc rI (Pc rI (Pc rI (Pc rI Pn)))) := jm.2
structure cg where
 xn : Int
 xtext : Str
 xparts : List Str
 xknown : Int
 xboth : List Str
noncomputable def gn : {f : (Int × Str × Unit) -> Option ((List Int) × (Int × Str × Unit)) // JF gi f (Pc rI (Pc rS Pn)) (rL rI) (Pc rI (Pc rS Pn))} := ⟨_, by
 exact cC (S := cg) (N := 5) (W := [2, 3, 4]) (c := kL) (Γn := []) (ro := (rL rI)) (Γp := [some ⟨cg.xn, rI⟩, some ⟨cg.xtext, rS⟩]) (Γr := [some ⟨cg.xn, rI⟩, some ⟨cg.xtext, rS⟩, none, none, none]) (init := (fun p => (⟨p.1, p.2.1, [], 0, []⟩ : cg))) (ar (get := cg.xn) dC (fun _ => rfl) fun _ => (ar (get := cg.xtext) dC (fun _ => rfl) fun _ => bF))
  (aq (aW 2 (get := cg.xparts) (put := fun s v => {s with xparts := v}) (jh (ab (ah 1 rfl)) (ab (bM "|"))))
  (aq (aW 3 (get := cg.xknown) (put := fun s v => {s with xknown := v}) (ax lj (aC 0 rfl (aC 2 rfl aB)) (bi 0 rfl (cq 2 rfl aA)) (bh 0 (cn 2 (get := cg.xparts) (put := fun s v => {s with xparts := v}) (h := ay)))))
  (aq (aW 4 (get := cg.xboth) (put := fun s v => {s with xboth := v}) (ax yg (bD (ab (au dr (ah 2 rfl) (ao 0))) (bD (ab (bM ";")) aB)) (bC (bC aA)) (bB (bB ay))))
  (bA (ax si (aC 0 rfl (bD (ax gP (aC 0 rfl (bD (ab (au dr (ah 4 rfl) (ao 0))) aB)) (bi 0 rfl (bC aA)) (bh 0 (bB ay))) (bD (ax gP (aC 0 rfl (bD (ab (au dr (ah 4 rfl) (ao 1))) aB)) (bi 0 rfl (bC aA)) (bh 0 (bB ay))) (aC 3 rfl aB)))) (bi 0 rfl (bC (bC (bi 3 rfl aA)))) (bh 0 (bB (bB (bh 3 ay))))))))) (ap dC rfl (ap dC rfl bj))⟩
noncomputable def ee := gn.1
theorem qj : JF gi ee (Pc rI (Pc rS Pn)) (rL rI) (Pc rI (Pc rS Pn)) := gn.2
structure cK where
 xn : Int
 xtext : Str
noncomputable def io : {f : (Int × Str × Unit) -> Option ((List Int) × (Int × Str × Unit)) // JF ii f (Pc rI (Pc rS Pn)) (rL rI) (Pc rI (Pc rS Pn))} := ⟨_, by
 exact cC (S := cK) (N := 2) (W := []) (c := mM) (Γn := []) (ro := (rL rI)) (Γp := [some ⟨cK.xn, rI⟩, some ⟨cK.xtext, rS⟩]) (Γr := [some ⟨cK.xn, rI⟩, some ⟨cK.xtext, rS⟩]) (init := (fun p => (⟨p.1, p.2.1⟩ : cK))) (ar (get := cK.xn) dC (fun _ => rfl) fun _ => (ar (get := cK.xtext) dC (fun _ => rfl) fun _ => bF))
  (aq (cB (Γ' := [some ⟨cK.xn, rI⟩, some ⟨cK.xtext, rS⟩]) (nH (bJ (jB (ab (ah 1 rfl)) (ab (bM "h(")))) (bJ (t5 (ab (ah 1 rfl)) (ab (bM ")"))))) (bA (ax tu (aC 0 rfl (bD (nK (ab (ah 1 rfl)) (gu (ao 2)) (gu (cX (ao 1)))) aB)) (bi 0 rfl (bC aA)) (bh 0 (bB ay)))) bS)
  (aq (cB (Γ' := [some ⟨cK.xn, rI⟩, some ⟨cK.xtext, rS⟩]) (nH (bJ (jB (ab (ah 1 rfl)) (ab (bM "s(")))) (bJ (t5 (ab (ah 1 rfl)) (ab (bM ")"))))) (bA (ax qj (aC 0 rfl (bD (nK (ab (ah 1 rfl)) (gu (ao 2)) (gu (cX (ao 1)))) aB)) (bi 0 rfl (bC aA)) (bh 0 (bB ay)))) bS)
  dt)) (ap dC rfl (ap dC rfl bj))⟩
noncomputable def eu := io.1
theorem tw : JF ii eu (Pc rI (Pc rS Pn)) (rL rI) (Pc rI (Pc rS Pn)) := io.2
structure bn where
 xn : Int
 xsign : Int
 xwords : List Str
 xnumber : Int
noncomputable def ik : {f : (Int × Int × (List Str) × Unit) -> Option ((List Int) × (Int × Int × (List Str) × Unit)) // JF ic f (Pc rI (Pc rI (Pc (rM rS) Pn))) (rL rI) (Pc rI (Pc rI (Pc (rM rS) Pn)))} := ⟨_, by
 exact cC (S := bn) (N := 4) (W := [3, 3]) (c := mJ) (Γn := []) (ro := (rL rI)) (Γp := [some ⟨bn.xn, rI⟩, some ⟨bn.xsign, rI⟩, some ⟨bn.xwords, (rM rS)⟩]) (Γr := [some ⟨bn.xn, rI⟩, some ⟨bn.xsign, rI⟩, some ⟨bn.xwords, (rM rS)⟩, none]) (init := (fun p => (⟨p.1, p.2.1, p.2.2.1, 0⟩ : bn))) (ar (get := bn.xn) dC (fun _ => rfl) fun _ => (ar (get := bn.xsign) dC (fun _ => rfl) fun _ => (ar (get := bn.xwords) dC (fun _ => rfl) fun _ => bF)))
  (aq (cB (Γ' := [some ⟨bn.xn, rI⟩, some ⟨bn.xsign, rI⟩, some ⟨bn.xwords, (rM rS)⟩, some ⟨bn.xnumber, rI⟩]) (bJ (aU dg (ab (eQ ji (ah 2 rfl))) (ab (ao 1)))) (aW 3 (get := bn.xnumber) (put := fun s v => {s with xnumber := v}) (ab (ah 1 rfl))) (cB (Γ' := [some ⟨bn.xn, rI⟩, some ⟨bn.xsign, rI⟩, some ⟨bn.xwords, (rM rS)⟩, some ⟨bn.xnumber, rI⟩]) (bJ (aU dg (ab (eQ ji (ah 2 rfl))) (ab (ao 2)))) (aW 3 (get := bn.xnumber) (put := fun s v => {s with xnumber := v}) (aU eW (ab (ah 1 rfl)) (ax sj (bD (ab (au dr (ah 2 rfl) (ao 0))) (bD (ab (ao 1)) aB)) (bC (bC aA)) (bB (bB ay))))) dt))
  (bA (kv (iy (ax tw (aC 0 rfl (bD (ab (au dr (ah 2 rfl) (cX (ao 1)))) aB)) (bi 0 rfl (bC aA)) (bh 0 (bB ay)))) Le.refl (se 4 rfl) (fun x4 => mn) (fun x4 => (ab (au eW (ah 3 rfl) (ah 4 rfl))))))) (ap dC rfl (ap dC rfl (ap dC rfl bj)))⟩
noncomputable def dN := ik.1
theorem tp : JF ic dN (Pc rI (Pc rI (Pc (rM rS) Pn))) (rL rI) (Pc rI (Pc rI (Pc (rM rS) Pn))) := ik.2
structure ce where
 xn : Int
 xtext : Str
 xrow : List Int
 xsign : Int
 xwords : List Str
noncomputable def kE : {f : (Int × Str × Unit) -> Option ((List Int) × (Int × Str × Unit)) // JF gS f (Pc rI (Pc rS Pn)) (rL rI) (Pc rI (Pc rS Pn))} := ⟨_, by
 exact cC (S := ce) (N := 5) (W := [2, 3, 4, 2]) (c := oa) (Γn := []) (ro := (rL rI)) (Γp := [some ⟨ce.xn, rI⟩, some ⟨ce.xtext, rS⟩]) (Γr := [some ⟨ce.xn, rI⟩, some ⟨ce.xtext, rS⟩, none, none, none]) (init := (fun p => (⟨p.1, p.2.1, [], 0, []⟩ : ce))) (ar (get := ce.xn) dC (fun _ => rfl) fun _ => (ar (get := ce.xtext) dC (fun _ => rfl) fun _ => bF))
  (aq (aW 2 (get := ce.xrow) (put := fun s v => {s with xrow := v}) (sf (dD (r := rI) (bK (ab (ao 0)) dB)) (ax jK (aC 0 rfl aB) (bi 0 rfl aA) (bh 0 ay))))
  (aq (cB (Γ' := [some ⟨ce.xn, rI⟩, some ⟨ce.xtext, rS⟩, some ⟨ce.xrow, (rL rI)⟩, none, none]) (bJ (aU dg (ab (ah 1 rfl)) (ab (bM "0")))) dt bS)
  (aq (fX (iy (ax pb (aC 1 rfl aB) (bi 1 rfl aA) (bh 1 ay))) Le.refl (mv (d7 3 (get := ce.xsign) (put := fun s v => {s with xsign := v})) (d7 4 (get := ce.xwords) (put := fun s v => {s with xwords := v}))) (aW 2 (get := ce.xrow) (put := fun s v => {s with xrow := v}) (kv (B0 (iQ 2 rfl) (ax tp (aC 0 rfl (aC 3 rfl (aC 4 rfl aB))) (bi 0 rfl (bi 3 rfl (cq 4 rfl aA))) (bh 0 (bh 3 (cn 4 (get := ce.xwords) (put := fun s v => {s with xwords := v}) (h := ay)))))) Le.refl (B2 5 6 rfl rfl) (fun x2 => mn) (fun x2 => (ab (au bQ (ah 5 rfl) (ah 6 rfl)))))))
  (bA (qy 2 rfl))))) (ap dC rfl (ap dC rfl bj))⟩
noncomputable def iL := kE.1
theorem nO : JF gS iL (Pc rI (Pc rS Pn)) (rL rI) (Pc rI (Pc rS Pn)) := kE.2
structure ef where
 yfound : List Int
 ydue : List Int
noncomputable def pw : {f : ((List Int) × (List Int) × Unit) -> Option (Bool × ((List Int) × (List Int) × Unit)) // JF iV f (Pc (rL rI) (Pc (rM rI) Pn)) rB (Pc (rL rI) (Pc (rM rI) Pn))} := ⟨_, by
 exact cC (S := ef) (N := 2) (W := []) (c := um) (Γn := []) (ro := rB) (Γp := [some ⟨ef.yfound, (rL rI)⟩, some ⟨ef.ydue, (rM rI)⟩]) (Γr := [some ⟨ef.yfound, (rL rI)⟩, some ⟨ef.ydue, (rM rI)⟩]) (init := (fun p => (⟨p.1, p.2.1⟩ : ef))) (ar (get := ef.yfound) dC (fun _ => rfl) fun _ => (ar (get := ef.ydue) dC (fun _ => rfl) fun _ => bF))
  (aq (cB (Γ' := [some ⟨ef.yfound, (rL rI)⟩, some ⟨ef.ydue, (rM rI)⟩]) (jz (jZ (bJ (ab (qw nN (ah 0 rfl) (qv "list"))))) (bJ (ab (au mr (ah 0 rfl) (ah 1 rfl))))) dt bS)
  (bA (aU dg (Ai 1 (get := ef.ydue) (put := fun s v => {s with ydue := v}) (Ag (Γ2 := [none, none]) 0 (get := ef.yfound) (put := fun s v => {s with yfound := v}) (kv (iy (iQ 0 rfl)) Le.refl (se 2 rfl) (fun x7 => (jz (bJ (ab (qw nN (ah 2 rfl) (qv "bool")))) (jZ (bJ (ab (qw nN (ah 2 rfl) (qv "int"))))))) (fun x7 => (iQ 2 rfl))) (by repeat (first | exact Tw.nil | refine Tw.som inferInstance ?_ | refine Tw.non ?_)) rfl) rfl) (dD (dB (r := rI)))) inferInstance (by first | exact Le.refl | (repeat (first | exact Le.nil | refine Le.som inferInstance ?_ | refine Le.non ?_))))) (ap dC rfl (ap dC rfl bj))⟩
noncomputable def oI := pw.1
theorem t9 : JF iV oI (Pc (rL rI) (Pc (rM rI) Pn)) rB (Pc (rL rI) (Pc (rM rI) Pn)) := pw.2
structure eA where
 xword : Str
noncomputable def mO : {f : (Str × Unit) -> Option (Str × (Str × Unit)) // JF ie f (Pc rS Pn) rS (Pc rS Pn)} := ⟨_, by
 exact cC (S := eA) (N := 1) (W := []) (c := mK) (Γn := []) (ro := rS) (Γp := [some ⟨eA.xword, rS⟩]) (Γr := [some ⟨eA.xword, rS⟩]) (init := (fun p => (⟨p.1⟩ : eA))) (ar (get := eA.xword) dC (fun _ => rfl) fun _ => bF)
  (aq (cB (Γ' := [some ⟨eA.xword, rS⟩]) (bJ (aU dg (ab (ah 0 rfl)) (ab (bM "=")))) (bA (ab (bM "="))) bS)
  (aq (cB (Γ' := [some ⟨eA.xword, rS⟩]) (bJ (aU dg (ab (ah 0 rfl)) (ab (bM ">=")))) (bA (ab (bM ">"))) bS)
  dt)) (ap dC rfl bj)⟩
noncomputable def hV := mO.1
theorem tq : JF ie hV (Pc rS Pn) rS (Pc rS Pn) := mO.2
structure ci where
 xn : Int
 xtext : Str
 xwords : List Str
noncomputable def iH : {f : (Int × Str × Unit) -> Option (((List Int) × Str × Int) × (Int × Str × Unit)) // JF gj f (Pc rI (Pc rS Pn)) (gJ (rL rI) rS rI) (Pc rI (Pc rS Pn))} := ⟨_, by
 exact cC (S := ci) (N := 3) (W := [2]) (c := kN) (Γn := []) (ro := (gJ (rL rI) rS rI)) (Γp := [some ⟨ci.xn, rI⟩, some ⟨ci.xtext, rS⟩]) (Γr := [some ⟨ci.xn, rI⟩, some ⟨ci.xtext, rS⟩, none]) (init := (fun p => (⟨p.1, p.2.1, []⟩ : ci))) (ar (get := ci.xn) dC (fun _ => rfl) fun _ => (ar (get := ci.xtext) dC (fun _ => rfl) fun _ => bF))
  (aq (aW 2 (get := ci.xwords) (put := fun s v => {s with xwords := v}) (jh (ab (ah 1 rfl)) (ab (bM " "))))
  (aq (cB (Γ' := [some ⟨ci.xn, rI⟩, some ⟨ci.xtext, rS⟩, some ⟨ci.xwords, (rL rS)⟩]) (bJ (aU iP (ab (eQ ji (ah 2 rfl))) (ab (ao 3)))) dt bS)
  (bA (yZ (ax nO (aC 0 rfl (bD (o9 (ab (bM " ")) (B3 (ah 2 rfl) m5 (gu (cX (ao 2))))) aB)) (bi 0 rfl (bC aA)) (bh 0 (bB ay))) (ax tq (bD (ab (au dr (ah 2 rfl) (cX (ao 2)))) aB) (bC aA) (bB ay)) (ax li (bD (ab (au dr (ah 2 rfl) (cX (ao 1)))) aB) (bC aA) (bB ay)))))) (ap dC rfl (ap dC rfl bj))⟩
noncomputable def iB := iH.1
theorem qk : JF gj iB (Pc rI (Pc rS Pn)) (gJ (rL rI) rS rI) (Pc rI (Pc rS Pn)) := iH.2
structure bq where
 yscript : List Int
 yturn : Int
 ypile_here : List Int
 yn : Int
 ytext : Str
 yrow : List Int
 ynumber_here : Int
 ytime : Int
 yfound : List Int
 ymark : Str
 ysign : Str
 ytold : (List Int) × Str × Int
noncomputable def vx : {f : ((List Int) × Unit) -> Option (Bool × ((List Int) × Unit)) // JF jD f (Pc (rM rI) Pn) rB (Pc (rM rI) Pn)} := ⟨_, by
 exact cC (S := bq) (N := 12) (W := [1, 2, 3, 4, 5, 6, 7, 8, 9, 10, 11]) (c := za) (Γn := []) (ro := rB) (Γp := [some ⟨bq.yscript, (rM rI)⟩]) (Γr := [some ⟨bq.yscript, (rM rI)⟩, none, none, none, none, none, none, none, none, none, none, none]) (init := (fun p => (⟨p.1, 0, [], 0, "", [], 0, 0, [], "", "", ([], "", 0)⟩ : bq))) (ar (get := bq.yscript) dC (fun _ => rfl) fun _ => bF)
  (aq (fX (nJ (ab (ao 8))) Le.refl (d7 1 (get := bq.yturn) (put := fun s v => {s with yturn := v})) (aq (aW 2 (get := bq.ypile_here) (put := fun s v => {s with ypile_here := v}) (ax pc (aC 0 rfl (bD (ab (au bQ (au eW (ao 8) (ah 1 rfl)) (ao 7))) aB)) (cq 0 rfl (bC aA)) (cn 0 (get := bq.yscript) (put := fun s v => {s with yscript := v}) (h := bB ay))))
  (aq (aW 3 (get := bq.yn) (put := fun s v => {s with yn := v}) (aU bQ (ab (ao 1)) (ax dO (aC 2 rfl (bD (ab (ao 4)) aB)) (cq 2 rfl (bC aA)) (cn 2 (get := bq.ypile_here) (put := fun s v => {s with ypile_here := v}) (h := bB ay)))))
  (aq (wn (ax Cc (aC 0 rfl (bD (ab (au eW (ao 8) (ah 1 rfl))) (aC 3 rfl aB))) (cq 0 rfl (bC (bi 3 rfl aA))) (cn 0 (get := bq.yscript) (put := fun s v => {s with yscript := v}) (h := bB (bh 3 ay)))) (mv (d7 4 (get := bq.ytext) (put := fun s v => {s with ytext := v})) (d7 5 (get := bq.yrow) (put := fun s v => {s with yrow := v}))))
  (aq (aW 6 (get := bq.ynumber_here) (put := fun s v => {s with ynumber_here := v}) (ax pK (aC 2 rfl aB) (cq 2 rfl aA) (cn 2 (get := bq.ypile_here) (put := fun s v => {s with ypile_here := v}) (h := ay))))
  (aq (fX (nJ (ab (ao 2))) Le.refl (d7 7 (get := bq.ytime) (put := fun s v => {s with ytime := v})) (aq (aW 8 (get := bq.yfound) (put := fun s v => {s with yfound := v}) (ax nO (aC 3 rfl (aC 4 rfl aB)) (bi 3 rfl (bi 4 rfl aA)) (bh 3 (bh 4 ay))))
  (aq (cB (Γ' := [some ⟨bq.yscript, (rM rI)⟩, some ⟨bq.yturn, rI⟩, some ⟨bq.ypile_here, (rL rI)⟩, some ⟨bq.yn, rI⟩, some ⟨bq.ytext, rS⟩, some ⟨bq.yrow, (rM rI)⟩, some ⟨bq.ynumber_here, rI⟩, some ⟨bq.ytime, rI⟩, some ⟨bq.yfound, (rL rI)⟩, none, none, none]) (jZ (bJ (ax t9 (aC 8 rfl (aC 5 rfl aB)) (cq 8 rfl (cq 5 rfl aA)) (cn 8 (get := bq.yfound) (put := fun s v => {s with yfound := v}) (h := cn 5 (get := bq.yrow) (put := fun s v => {s with yrow := v}) (h := ay)))))) dt bS)
  (mo (B5 8 (get := bq.yfound) (put := fun s v => {s with yfound := v}) rfl)))))
  (fX (iy (dD (r := (cL rS rS)) (bK (dh (ab (bM " >= ")) (ab (bM ">"))) (bK (dh (ab (bM " = ")) (ab (bM "="))) dB)))) Le.refl (mv (d7 9 (get := bq.ymark) (put := fun s v => {s with ymark := v})) (d7 10 (get := bq.ysign) (put := fun s v => {s with ysign := v}))) (aq (aW 11 (get := bq.ytold) (put := fun s v => {s with ytold := v}) (ax qk (aC 3 rfl (bD (ab (au cD (au cD (ah 4 rfl) (ah 9 rfl)) (eQ t7 (ah 6 rfl)))) aB)) (bi 3 rfl (bC aA)) (bh 3 (bB ay))))
  (cB (Γ' := [some ⟨bq.yscript, (rM rI)⟩, some ⟨bq.yturn, rI⟩, some ⟨bq.ypile_here, (rL rI)⟩, some ⟨bq.yn, rI⟩, some ⟨bq.ytext, rS⟩, some ⟨bq.yrow, (rM rI)⟩, some ⟨bq.ynumber_here, rI⟩, none, none, some ⟨bq.ymark, rS⟩, some ⟨bq.ysign, rS⟩, some ⟨bq.ytold, (gJ (rL rI) rS rI)⟩]) (jz (jZ (bJ (ab (qw nN (ah 11 rfl) (qv "tuple"))))) (jz (bJ (B4 11 mr rfl rfl (yZ (iQ 5 rfl) (ab (ah 10 rfl)) (ab (ah 6 rfl))))) (jZ (bJ (Ah 11 rfl BS (yd t9 (Ca 11 rfl BS (B9 5 rfl An)) (B7 11 (put := fun s v => {s with ytold := v}) rfl Dx (by intro _ _; rfl) (by intro _; repeat (first | exact Fr.nil | refine Fr.som (fun _ _ h => h) ?_ | refine Fr.non ?_)) (B6 5 (get := bq.yrow) (put := fun s v => {s with yrow := v}) (by intro _ _; rfl) (by intro _; repeat (first | exact Fr.nil | refine Fr.som (fun _ _ h => h) ?_ | refine Fr.non ?_)) Ak)))))))) dt bS)))))))))
  (bA (ab (EZ true)))) (ap dC rfl bj)⟩
noncomputable def uQ := vx.1
theorem DJ : JF jD uQ (Pc (rM rI) Pn) rB (Pc (rM rI) Pn) := vx.2
end LW
namespace LW
open PySem L2 DD TT TX
theorem qm {x : Str} (h : ∀ c ∈ x.cps.toList, c < 1114112) : Py.ok TT.rS x = true := by
 show x.cps.all (fun c => decide (c < 1114112)) = true;rw [<- Array.all_toList, List.all_eq_true];intro c hc;exact decide_eq_true (h c hc)
theorem lf {x y : Str} (hx : ∀ c ∈ x.cps.toList, c < 1114112) (hy : ∀ c ∈ y.cps.toList, c < 1114112) : (Py.ok TT.rS x && Py.ok TT.rS y && decide (min (Py.k TT.rS) (Py.k TT.rS) <= 50)) = true := by
 rw [qm hx, qm hy]; rfl
theorem jR {x y : Str} (h : x.cps.toList ≠ y.cps.toList) : (x == y) = false := by
 rw [beq_eq_false_iff_ne];intro e;rw [e] at h;exact h rfl
theorem jE : (Str.ofString "-").cps.toList = [45] := by decide +kernel
theorem uq : (Str.ofString "+").cps.toList = [43] := by decide +kernel
theorem ut : (Str.ofString " ").cps.toList = [32] := by decide +kernel
theorem ur : (Str.ofString "0").cps.toList = [48] := by decide +kernel
theorem pP : (Str.ofString "").cps.toList = [] := by decide +kernel
theorem FU : (Str.ofString " - ").cps.toList = [32, 45, 32] := by decide +kernel
theorem FS : (Str.ofString " + ").cps.toList = [32, 43, 32] := by decide +kernel
theorem mZ {c : Nat} {y : Str} (h : y.cps.toList = [c]) (hc : c < 128) : ∀ d ∈ y.cps.toList, d < 1114112 := fun d hd => by
 rw [h] at hd;simp at hd;omega
theorem vJ {n : Nat} (h : n <= 100000) : n <= sizeLine := by
 have hz : sizeLine = 16777216 := rfl;omega
theorem fj {n : Nat} (h : n <= 100000) : decide (n <= sizeLine) = true := decide_eq_true (vJ h)
noncomputable def El (c : Nat) : Bool := !(Builtin.Str.occurrences (Str.ofString "0123456789") ⟨#[c]⟩ 0 (Str.ofString "0123456789").length 1).isEmpty
theorem Ax : ((List.range 10).all fun k => El (48 + k)) = true := by decide +kernel
theorem wz {c : Nat} (h : 48 <= c /\ c <= 57) : El c = true := by
 have := List.all_eq_true.mp Ax (c - 48) (List.mem_range.mpr oM)
 rw [show 48 + (c - 48) = c by omega] at this;exact this
theorem iD {a b : Int} : (Py.ok rI a && Py.ok rI b && decide (min (Py.k rI) (Py.k rI) <= 50)) = true := rfl
theorem xA {x : Str} {n : Int} {c : Nat} {r : List Nat} (hx : x.cps.toList = c :: r) (hc : 49 <= c /\ c <= 57) (hd : NumText.AllDigits x.cps.toList) (hl : x.length <= 40) (hn : intText? x = some n) : cU (x, ()) = some (n, x, ()) := by
 have e1 : Txt.startswith x (Str.ofString "-") = false := by
  rw [km jE, hx];exact beq_false_of_ne oM
 have hlx : x.length = r.length + 1 := by rw [br, hx]; rfl
 have d1 : decide ((x.length : Int) < 1) = false := decide_eq_false oM;have d2 : decide ((2000 : Int) < (x.length : Int)) = false := decide_eq_false oM;have a1 : (x.cps.all fun c => decide (c < 128)) = true := by
  rw [<- Array.all_toList, List.all_eq_true];intro c hc
  have := hd c hc
  exact decide_eq_true oM
 have hs : (signs x).length = x.length := by unfold signs; rw [List.length_map, <- br]
 have all1 : ((signs x).map fun y => !(Builtin.Str.occurrences (Str.ofString "0123456789") y 0 (Str.ofString "0123456789").length 1).isEmpty).all id = true := by
  rw [List.all_map, List.all_eq_true];intro y hy;unfold signs at hy;obtain ⟨c', hc', rfl⟩ := List.mem_map.mp hy;exact wz (hd c' hc')
 have at0 : uw x 0 = some ⟨#[c]⟩ := by
  unfold uw;rw [if_pos (vJ oM), hx];show (L2.atI (c :: r) ((0 : Nat) : Int)).map _ = _;rw [L2.atI_nat (show (c :: r)[0]? = some c from rfl)];rfl
 have ne0 : ((⟨#[c]⟩ : Str) == Str.ofString "0") = false := jR (by rw [ur]; show [c] ≠ [48]; intro h; injection h; omega);have o0 : (Py.ok TT.rS (⟨#[c]⟩ : Str) && Py.ok TT.rS (Str.ofString "0") && decide (min (Py.k TT.rS) (Py.k TT.rS) <= 50)) = true := lf (fun d h => by
  have : d = c := by simpa using h
  omega) (mZ ur dC)
 have hl6 : decide (x.length <= 640) = true := decide_eq_true oM;unfold cU gp;simp only [TT.tSeq, bind_some, map_some, e1, Bool.false_eq_true, if_false];have hsz : (if x.length <= sizeLine then some (x.length : Int) else none) = some (x.length : Int) := if_pos (vJ oM);simp only [bind_some, map_some, hsz, d1, d2, Bool.false_eq_true, if_false, aD a1];rw [aD (gv oM), lh (f := fun y => !(Builtin.Str.occurrences (Str.ofString "0123456789") y 0 (Str.ofString "0123456789").length 1).isEmpty) (fun _ _ => rfl) (fun _ _ => rfl)];simp only [bind_some, map_some, all1, Bool.not_true, Bool.false_eq_true, if_false, at0, aD o0, ne0, hn, aD hl6]
theorem qP {m : Nat} (h1 : 1 <= m) (h : m < 10 ^ 40) : cU (bU (m : Int), ()) = some ((m : Int), bU (m : Int), ()) := by
 obtain ⟨c, r, hx, hc⟩ := ku h1;exact xA hx hc (gx m) (e7 h) (xR h)
theorem FB : decide ((0 : Int) <= 40 /\ (40 : Int) <= 1000000 /\ Int.natAbs 10 < 2 ^ 64) = true := by decide
theorem tK {x : Str} {n : Int} (hx : cU (x, ()) = some (n, x, ())) (h : n.natAbs < 10 ^ 40) : gB (x, ()) = some (n, x, ()) := by
 have hd : decide ((10 : Int) ^ Int.toNat 40 <= if n < 0 then -n else n) = false := by
  refine decide_eq_false ?_;have e : (10 : Int) ^ Int.toNat 40 = ((10 ^ 40 : Nat) : Int) := by decide
  rw [e];split <;> omega
 unfold gB jo;simp only [TT.tSeq, bind_some, map_some, hx, aD FB, hd, Bool.false_eq_true, if_false]
theorem zD {m : Nat} (h1 : 1 <= m) (h : m < 10 ^ 40) : iZ (bU (m : Int), 1, ()) = some ((m : Int), bU (m : Int), 1, ()) := by
 have hd : decide ((m : Int) < 1) = false := decide_eq_false oM;unfold iZ jp;simp only [TT.tSeq, bind_some, map_some, tK (qP h1 h) (by simpa using h), hd, Bool.false_eq_true, if_false]
theorem Dz {a : Str} {ys : List Str} {b n : Nat} (h : ∀ p ∈ ys, p.length <= b) (hn : ys.length <= n) (hb : n * (b + a.length) <= 16777216) : qx a ys = true := by
 refine decide_eq_true ?_;have h1 := AZ h;have h2 : ys.length * b <= n * b := Nat.mul_le_mul_right _ hn;have h3 : ys.length * a.length <= n * a.length := Nat.mul_le_mul_right _ hn;rw [Nat.mul_add] at hb;omega
theorem tJ {y : Str} {ps : List Str} {b n : Nat} (hy : (y.length == 0) = false) (hs : Txt.split (Txt.join y ps) y = ps) (h : ∀ p ∈ ps, p.length <= b) (hn : ps.length <= n) (hb : n * (b + y.length) <= 16777216) (hn2 : n <= 16777216) : fJ (Txt.join y ps) y = true := by
 have h1 := sd (y := y) h;have h2 : ps.length * (b + y.length) <= n * (b + y.length) := Nat.mul_le_mul_right _ hn;have hz : sizeLine = 16777216 := rfl;unfold fJ;rw [hy, hs, decide_eq_true oM, decide_eq_true oM];rfl
structure Wd (w : Str) : Prop where
 nb : 32 ∉ w.cps.toList
 np : w.cps.toList ≠ [43]
 nm : w.cps.toList ≠ [45]
 ok : ∀ c ∈ w.cps.toList, c < 128
 ln : w.length <= 100
noncomputable def fu (s : Int) : Str := if s = 1 then Str.ofString "+" else Str.ofString "-"
noncomputable abbrev cr := Int × List Str
structure Pk (p : cr) : Prop where
 s : p.1 = 1 \/ p.1 = -1
 l : 1 <= p.2.length /\ p.2.length <= 2
 w : ∀ w ∈ p.2, Wd w
noncomputable def de : List cr -> List Str
 | [] => []
 | q :: qs => fu q.1 :: (q.2 ++ de qs)
noncomputable def body (p : cr) (ps : List cr) : Str := Txt.join (Str.ofString " ") (p.2 ++ de ps)
noncomputable def cm (p : cr) (ps : List cr) : Str := if p.1 = 1 then body p ps else Str.ofString "-" ++ body p ps
theorem uS {s : Int} : ∀ c ∈ (fu s).cps.toList, c = 43 \/ c = 45 := fun c hc => by
 unfold fu at hc;split at hc
 ·rw [uq] at hc; simp at hc; exact .inl hc
 ·rw [jE] at hc; simp at hc; exact .inr hc
theorem C3 (s : Int) : (fu s).length <= 100 := by
 unfold fu;split
 ·rw [br, uq]; decide
 ·rw [br, jE]; decide
theorem pF : ∀ {ps : List cr}, (∀ p ∈ ps, Pk p) -> (de ps).length <= 3 * ps.length := by
 intro ps
 induction ps with
 | nil => intro _; simp [de]
 | cons p ps ih =>
  intro h;have h1 := ih fun q hq => h q (List.mem_cons_of_mem _ hq)
  have h2 := (h p (by simp)).l.2;simp only [de, List.length_cons, List.length_append];omega
theorem xu : ∀ {ps : List cr}, (∀ p ∈ ps, Pk p) -> ∀ w ∈ de ps, 32 ∉ w.cps.toList /\ w.length <= 100 /\ ∀ c ∈ w.cps.toList, c < 128 := by
 intro ps
 induction ps with
 | nil => intro _ w hw; cases hw
 | cons p ps ih =>
  intro h w hw;simp only [de, List.mem_cons, List.mem_append] at hw;rcases hw with rfl | hw | hw
  ·exact ⟨fun hc => by have := uS _ hc; omega, C3 _, fun c hc => by have := uS _ hc; omega⟩
  ·have := (h p (by simp)).w w hw
   exact ⟨this.nb, this.ln, this.ok⟩
  ·exact ih (fun q hq => h q (List.mem_cons_of_mem _ hq)) w hw
section
variable {p : cr} {ps : List cr}
theorem lL (hp : Pk p) (h : ∀ p ∈ ps, Pk p) : ∀ w ∈ p.2 ++ de ps, 32 ∉ w.cps.toList /\ w.length <= 100 /\ ∀ c ∈ w.cps.toList, c < 128 := fun w hw => by
 rcases List.mem_append.mp hw with hw | hw
 ·have := hp.w w hw
  exact ⟨this.nb, this.ln, this.ok⟩
 ·exact xu h w hw
theorem pi (hp : Pk p) (h : ∀ p ∈ ps, Pk p) (hl : ps.length <= 40) : (p.2 ++ de ps).length <= 200 := by
 have := pF h
 have := hp.l.2
 rw [List.length_append];omega
theorem oi (hp : Pk p) (h : ∀ p ∈ ps, Pk p) : Txt.split (body p ps) (Str.ofString " ") = p.2 ++ de ps :=
 nq (m := 32) (off := 0) (by rw [br, ut]; decide) (by rw [ut]; rfl) (fun k e => by
  rw [ut] at e
  match k, e with
  | 0, _ => rfl
  | k + 1, e => simp at e) (by decide +kernel) (by
   intro e;have e2 := congrArg List.length e
   have := hp.l.1
   rw [List.length_append] at e2;simp only [List.length_nil] at e2;omega) (fun w hw => (lL hp h w hw).1)
theorem t4 : (Str.ofString " ").length = 1 := by decide +kernel
theorem yC (hp : Pk p) (h : ∀ p ∈ ps, Pk p) (hl : ps.length <= 40) : fJ (body p ps) (Str.ofString " ") = true :=
 tJ (b := 100) (n := 200) (by rw [t4]; rfl) (oi hp h) (fun w hw => (lL hp h w hw).2.1) (pi hp h hl) (by rw [t4]; decide) dC
theorem yD (hp : Pk p) (h : ∀ p ∈ ps, Pk p) (hl : ps.length <= 40) : (body p ps).length <= 20200 := by
 have h1 := sd (y := Str.ofString " ") (ps := p.2 ++ de ps) (b := 100) (fun w hw => (lL hp h w hw).2.1);have h2 := pi hp h hl;rw [t4] at h1;show (Txt.join _ _).length <= _;omega
theorem wQ (hp : Pk p) (h : ∀ p ∈ ps, Pk p) : ∀ c ∈ (body p ps).cps.toList, c < 128 := fun c hc => by
 rcases xZ hc with hc | ⟨w, hw, hc⟩
 ·rw [ut] at hc; simp at hc; omega
 ·exact (lL hp h w hw).2.2 c hc
theorem yJ (hp : Pk p) (h : ∀ p ∈ ps, Pk p) : ∀ c ∈ (cm p ps).cps.toList, c < 128 := fun c hc => by
 unfold cm at hc;split at hc
 ·exact wQ hp h c hc
 ·rcases uz hc with hc | hc
  ·rw [jE] at hc; simp at hc; omega
  ·exact wQ hp h c hc
theorem oF (hp : Pk p) (h : ∀ p ∈ ps, Pk p) (hl : ps.length <= 40) : (cm p ps).length <= 20201 := by
 have := yD hp h hl
 unfold cm;split
 ·omega
 ·rw [aE, show (Str.ofString "-").length = 1 by decide +kernel]; omega
end
noncomputable def CI (ps : List cr) (s : ak) : Prop := s.xsigns = ps.map (·.1) /\ s.xterms = ps.map (·.2)
theorem zB {put : ak -> Str -> ak} {b : ak -> Option (TR ak (List (Int × List Str)))} {t : Str}
  (hW : ∀ s w T l, Wd w -> s.xterms = T ++ [l] -> l.length <= 5 -> s.xtext = t -> ∃ s', b (put s w) = some (.nx s') /\ s'.xsigns = s.xsigns /\ s'.xterms = T ++ [l ++ [w]] /\ s'.xtext = t)
  (hS : ∀ s g, (g = 1 \/ g = -1) -> s.xsigns.length <= 100 -> s.xterms.length <= 100 -> s.xtext = t -> ∃ s', b (put s (fu g)) = some (.nx s') /\ s'.xsigns = s.xsigns ++ [g] /\ s'.xterms = s.xterms ++ [[]] /\ s'.xtext = t) :
  ∀ (ps : List cr) {s : ak} {qs : List cr}, (∀ p ∈ ps, Pk p) -> qs.length + ps.length <= 60 -> CI qs s -> s.xtext = t -> ∃ s', cO put b (de ps) s = some (.nx s') /\ CI (qs ++ ps) s' /\ s'.xtext = t := by
 have words : ∀ (ws : List Str) {s : ak} {T : List (List Str)} {l : List Str} {cY : List Str}, (∀ w ∈ ws, Wd w) -> l.length + ws.length <= 5 -> s.xterms = T ++ [l] -> s.xtext = t -> ∃ s', cO put b (ws ++ cY) s = cO put b cY s' /\ s'.xsigns = s.xsigns /\ s'.xterms = T ++ [l ++ ws] /\ s'.xtext = t := by
  intro ws
  induction ws with
  | nil => intro s T l cY _ _ e1 e2; exact ⟨s, rfl, rfl, by rw [e1]; simp, e2⟩
  | cons w ws ih =>
   intro s T l cY h hl e1 e2;simp only [List.length_cons] at hl;obtain ⟨s1, q1, q2, q3, q4⟩ := hW s w T l (h w (by simp)) e1 oM e2;obtain ⟨s2, p1, p2, p3, p4⟩ := ih (cY := cY) (fun x hx => h x (List.mem_cons_of_mem _ hx)) (by rw [List.length_append, List.length_singleton]; omega) q3 q4;refine ⟨s2, ?_, by rw [p2, q2], by rw [p3]; simp, p4⟩;rw [List.cons_append];simp only [cO, q1, bind_some, p1]
 intro ps
 induction ps with
 | nil => intro s qs _ _ h e; exact ⟨s, rfl, by simpa using h, e⟩
 | cons p ps ih =>
  intro s qs hp hl h e;simp only [List.length_cons] at hl;obtain ⟨s1, q1, q2, q3, q4⟩ := hS s p.1 (hp p (by simp)).s (by rw [h.1, List.length_map]; omega) (by rw [h.2, List.length_map]; omega) e;obtain ⟨s2, p1, p2, p3, p4⟩ := words p.2 (s := s1) (T := s.xterms) (l := []) (cY := de ps) (hp p (by simp)).w (by have := (hp p (by simp)).l.2; simp only [List.length_nil]; omega) q3 q4;obtain ⟨s3, r1, r2, r3⟩ := ih (s := s2) (qs := qs ++ [p]) (fun q hq => hp q (List.mem_cons_of_mem _ hq)) (by rw [List.length_append, List.length_singleton]; omega) ⟨by rw [p2, q2, h.1]; simp, by rw [p3, h.2]; simp⟩ p4;refine ⟨s3, ?_, by simpa using r2, r3⟩;simp only [de, cO, q1, bind_some, p1, r1]
theorem uL {put : ak -> Str -> ak} {b : ak -> Option (TR ak (List (Int × List Str)))} {t : Str}
  (hW : ∀ s w T l, Wd w -> s.xterms = T ++ [l] -> l.length <= 5 -> s.xtext = t -> ∃ s', b (put s w) = some (.nx s') /\ s'.xsigns = s.xsigns /\ s'.xterms = T ++ [l ++ [w]] /\ s'.xtext = t) :
  ∀ (ws : List Str) {s : ak} {T : List (List Str)} {l : List Str} {cY : List Str}, (∀ w ∈ ws, Wd w) -> l.length + ws.length <= 5 -> s.xterms = T ++ [l] -> s.xtext = t -> ∃ s', cO put b (ws ++ cY) s = cO put b cY s' /\ s'.xsigns = s.xsigns /\ s'.xterms = T ++ [l ++ ws] /\ s'.xtext = t := by
 intro ws
 induction ws with
 | nil => intro s T l cY _ _ e1 e2; exact ⟨s, rfl, rfl, by rw [e1]; simp, e2⟩
 | cons w ws ih =>
  intro s T l cY h hl e1 e2;simp only [List.length_cons] at hl;obtain ⟨s1, q1, q2, q3, q4⟩ := hW s w T l (h w (by simp)) e1 oM e2;obtain ⟨s2, p1, p2, p3, p4⟩ := ih (cY := cY) (fun x hx => h x (List.mem_cons_of_mem _ hx)) (by rw [List.length_append, List.length_singleton]; omega) q3 q4;refine ⟨s2, ?_, by rw [p2, q2], by rw [p3]; simp, p4⟩;rw [List.cons_append];simp only [cO, q1, bind_some, p1]
theorem yh {n : Nat} : L2.ixN (n + 1) (-1) = some n := by
 unfold L2.ixN;rw [if_neg dC, if_pos oM];congr 1;omega
theorem xp {α : Type} (T : List α) (l l' : α) : (T ++ [l]).set T.length l' = T ++ [l'] := by
 rw [List.set_append, if_neg oM, Nat.sub_self]; rfl
theorem AL : ∀ ps : List cr, (ps.map (·.1)).zip (ps.map (·.2)) = ps := by
 intro ps
 induction ps with
 | nil => rfl
 | cons p ps ih => simp only [List.map_cons, List.zip_cons_cons, ih]
theorem A2 {γ γ' : Type} {put : ak -> Str -> ak} {b : ak -> Option (TR ak (List (Int × List Str)))} {t : Str} {k : TR ak (List (Int × List Str)) -> Option γ'} {k2 : γ' -> Option γ} {p : cr} {ps : List cr} {s0 : ak} (Q : Option γ -> Prop) (hp : Pk p) (h : ∀ p ∈ ps, Pk p) (hl : ps.length <= 40)
  (hW : ∀ s w T l, Wd w -> s.xterms = T ++ [l] -> l.length <= 5 -> s.xtext = t -> ∃ s', b (put s w) = some (.nx s') /\ s'.xsigns = s.xsigns /\ s'.xterms = T ++ [l ++ [w]] /\ s'.xtext = t)
  (hS : ∀ s g, (g = 1 \/ g = -1) -> s.xsigns.length <= 100 -> s.xterms.length <= 100 -> s.xtext = t -> ∃ s', b (put s (fu g)) = some (.nx s') /\ s'.xsigns = s.xsigns ++ [g] /\ s'.xterms = s.xterms ++ [[]] /\ s'.xtext = t)
  (h1 : s0.xsigns = [p.1]) (h2 : s0.xterms = [[]]) (h3 : s0.xtext = t) (hk : ∀ s', CI (p :: ps) s' -> s'.xtext = t -> Q ((k (.nx s')).bind k2)) : Q (((cO put b (p.2 ++ de ps) s0).bind k).bind k2) := by
 obtain ⟨s1, e1, e2, e3, e4⟩ := uL hW p.2 (s := s0) (T := []) (l := []) (cY := de ps) hp.w (by have := hp.l.2; simp only [List.length_nil]; omega) h2 h3;rw [e1];obtain ⟨s2, f1, f2, f3⟩ := zB hW hS ps (s := s1) (qs := [p]) h (by simp only [List.length_singleton]; omega) ⟨by rw [e2, h1]; rfl, by rw [e3]; rfl⟩ e4;rw [f1];exact hk s2 f2 f3
theorem xm {p : cr} {ps : List cr} (hp : Pk p) (h : ∀ p ∈ ps, Pk p) (hl : ps.length <= 40) (hd : ∃ c r, (body p ps).cps.toList = c :: r /\ c ≠ 45) : g6 (cm p ps, ()) = some (p :: ps, cm p ps, ()) := by
 obtain ⟨c, r, hbc, hc45⟩ := hd;have h0 : gD ([] : List Str).length = true := gv (by simp);have h01 : gD ([[]] : List (List Str)).length = true := gv (by simp);have hs1 : ∀ g : Int, gD ([g] : List Int).length = true := fun g => gv (by simp)
 have ata : ∀ g : Int, L2.atI [g] 0 = some g := fun g => rfl
 have tl := oF hp h hl;have st : Txt.startswith (cm p ps) (Str.ofString "-") = !decide (p.1 = 1) := by
  rw [km jE];by_cases e1 : p.1 = 1
  ·rw [show cm p ps = body p ps from if_pos e1, hbc, decide_eq_true e1]
   exact beq_false_of_ne hc45
  ·rw [show cm p ps = Str.ofString "-" ++ body p ps from if_neg e1, bb, jE, decide_eq_false e1]
   rfl
 have src : ∀ s : ak, (if (p.1 == -1) = true then (if decide ((cm p ps).length <= sizeLine) = true then some (Txt.slice (cm p ps) (some 1) none, s) else none) else some (cm p ps, s)) = some (body p ps, s) := fun s => by
  rcases hp.s with e1 | e1
  ·rw [show cm p ps = body p ps from if_pos e1, e1]; rfl
  ·have e2 : cm p ps = Str.ofString "-" ++ body p ps := if_neg (by rw [e1]; decide)
   rw [if_pos (by rw [e1]; rfl), aD (fj oM), e2];congr 2;apply ext';rw [show (some (1 : Int)) = some ((1 : Nat) : Int) from rfl, nu (by rw [aE, show (Str.ofString "-").length = 1 by decide +kernel]; omega), bb, jE];rfl
 have first : (if Txt.startswith (cm p ps) (Str.ofString "-") = true then some ((-1 : Int), ({ xtext := cm p ps, xsigns := [], xterms := [], xword := Str.ofString "" } : ak)) else some (1, { xtext := cm p ps, xsigns := [], xterms := [], xword := Str.ofString "" })) = some (p.1, { xtext := cm p ps, xsigns := [], xterms := [], xword := Str.ofString "" }) := by
  rw [st];rcases hp.s with e1 | e1
  ·rw [e1]; rfl
  ·rw [e1]; rfl
 unfold g6 hJ;simp only [TT.tSeq, bind_some, map_some];rw [first];simp only [bind_some, map_some, aD (hs1 _), aD h0, aD h01, ata, aD iD];rw [src];simp only [bind_some, aD (yC hp h hl), oi hp h];refine A2 (t := cm p ps) (fun o => o = some (p :: ps, cm p ps, ())) hp h hl ?_ ?_ rfl rfl rfl ?_
 ·rintro ⟨x1, x2, x3, x4⟩ w T l hw e1 e2 e3
  dsimp only at e1 e3;subst e1; subst e3;have o1 : (Py.ok TT.rS w && Py.ok TT.rS (Str.ofString "+") && decide (min (Py.k TT.rS) (Py.k TT.rS) <= 50)) = true := lf (fun c hc => by have := hw.ok c hc; omega) (mZ uq dC);have o2 : (Py.ok TT.rS w && Py.ok TT.rS (Str.ofString "-") && decide (min (Py.k TT.rS) (Py.k TT.rS) <= 50)) = true := lf (fun c hc => by have := hw.ok c hc; omega) (mZ jE dC);have n1 : (w == Str.ofString "+") = false := jR (by rw [uq]; exact hw.np);have n2 : (w == Str.ofString "-") = false := jR (by rw [jE]; exact hw.nm);have il : L2.ixN (T ++ [l]).length (-1) = some T.length := by rw [List.length_append, List.length_singleton]; exact yh
  have gl : (T ++ [l])[T.length]? = some l := by simp
  simp only [aD o1, aD o2, n1, n2, map_some, bind_some, Bool.false_eq_true, if_false, il, gl];rw [aD (wd oM)];simp only [map_some, xp];exact ⟨_, rfl, rfl, rfl, rfl⟩
 ·rintro ⟨x1, x2, x3, x4⟩ g hg e1 e2 e3
  dsimp only at e1 e2 e3;subst e3;have sc : ∀ c ∈ (fu g).cps.toList, c < 1114112 := fun c hc => by have := uS c hc; omega
  have o1 : (Py.ok TT.rS (fu g) && Py.ok TT.rS (Str.ofString "+") && decide (min (Py.k TT.rS) (Py.k TT.rS) <= 50)) = true := lf sc (mZ uq dC);have o2 : (Py.ok TT.rS (fu g) && Py.ok TT.rS (Str.ofString "-") && decide (min (Py.k TT.rS) (Py.k TT.rS) <= 50)) = true := lf sc (mZ jE dC);rcases hg with rfl | rfl
  ·have n1 : (fu 1 == Str.ofString "+") = true := by decide +kernel
   simp only [aD o1, aD o2, n1, map_some, bind_some, if_true];rw [aD (wd oM)];simp only [map_some, bind_some];rw [aD (wd oM)];exact ⟨_, rfl, rfl, rfl, rfl⟩
  ·have n1 : (fu (-1) == Str.ofString "+") = false := by decide +kernel
   have n2 : (fu (-1) == Str.ofString "-") = true := by decide +kernel
   simp only [aD o1, aD o2, n1, n2, map_some, bind_some, Bool.false_eq_true, if_false, if_true];rw [aD (wd oM)];simp only [map_some, bind_some];rw [aD (wd oM)];exact ⟨_, rfl, rfl, rfl, rfl⟩
 ·intro s' hq q3
  obtain ⟨q1, q2⟩ := hq;have hd2 : decide (s'.xsigns.length = s'.xterms.length /\ 1 <= s'.xsigns.length) = true := decide_eq_true (by rw [q1, q2]; simp);dsimp only;rw [aD hd2, q1, q2, AL];simp only [map_some, bind_some, q3]
noncomputable def eS (a b : List Int) : List Int := (a.zip b).map fun z => z.1 + z.2
structure Nn (n : Int) (N : Nat) : Prop where
 an : jG (n, ()) = some ((N : Int), n, ())
 l : N <= 15
theorem sN {a b : List Int} {N : Nat} (ha : a.length = N) (hb : b.length = N) : (eS a b).length = N := by
 unfold eS; rw [List.length_map, List.length_zip, ha, hb]; omega
theorem vn (N : Nat) : (List.replicate N ([0] : List Int)).flatten = List.replicate N 0 := by
 induction N with
 | zero => rfl
 | succ N ih => rw [List.replicate_succ, List.flatten_cons, ih]; rfl
theorem AY : gD ([0] : List Int).length = true := gv (by simp)
theorem uU {N : Nat} (h : N <= 15) : oO ([0] : List Int).length (N : Int) = true := Da oM oM (by simp; omega)
theorem su {S α ρ γ γ' δ : Type} {put : S -> α -> S} {b : S -> Option (TR S ρ)} {xs : List α} {s : S} {k : TR S ρ -> Option γ'} {k2 : γ' -> Option γ} (v : S -> δ) (f : δ -> α -> δ) (I : S -> Prop) (J : δ -> Prop) (Q : Option γ -> Prop) (hb : ∀ s x, x ∈ xs -> I s -> J (v s) -> ∃ s', b (put s x) = some (.nx s') /\ I s' /\ v s' = f (v s) x) (hj : ∀ c x, x ∈ xs -> J c -> J (f c x)) (h : I s) (j : J (v s))
  (hk : ∀ s', I s' -> v s' = xs.foldl f (v s) -> Q ((k (.nx s')).bind k2)) : Q (((cO put b xs s).bind k).bind k2) := by
 obtain ⟨s', e, p, q⟩ := pI hb hj h j;rw [e]; exact hk s' p q
theorem C7 {n : Int} {N : Nat} (hn : Nn n N) {p : cr} {ps : List cr} {R : cr -> List Int} (hp : Pk p) (h : ∀ p ∈ ps, Pk p) (hl : ps.length <= 40) (hd : ∃ c r, (body p ps).cps.toList = c :: r /\ c ≠ 45) (h48 : (cm p ps).cps.toList ≠ [48])
  (hR : ∀ q ∈ p :: ps, dN (n, q.1, q.2, ()) = some (R q, n, q.1, q.2, ()) /\ (R q).length = N) : iL (n, cm p ps, ()) = some ((p :: ps).foldl (fun c q => eS c (R q)) (List.replicate N 0), n, cm p ps, ()) := by
 have o : (Py.ok TT.rS (cm p ps) && Py.ok TT.rS (Str.ofString "0") && decide (min (Py.k TT.rS) (Py.k TT.rS) <= 50)) = true := lf (fun c hc => by have := yJ hp h c hc; omega) (mZ ur dC);have ne : (cm p ps == Str.ofString "0") = false := jR (by rw [ur]; exact h48);unfold iL kE;simp only [TT.tSeq, bind_some, map_some, aD AY, hn.an, aD (uU hn.l), Int.toNat_natCast, vn, aD o, ne, Bool.false_eq_true, if_false, xm hp h hl hd];refine su (S := ce) (α := cr) (fun s => s.xrow) (fun c q => eS c (R q)) (fun s => s.xn = n /\ s.xtext = cm p ps) (fun c => c.length = N) (fun o => o = some ((p :: ps).foldl (fun c q => eS c (R q)) (List.replicate N 0), n, cm p ps, ())) ?_ ?_ ⟨rfl, rfl⟩ (by simp) ?_
 ·rintro ⟨x1, x2, x3, x4, x5⟩ q hq ⟨f1, f2⟩ f3
  dsimp only at f1 f2 f3;subst f1; subst f2;obtain ⟨r1, r2⟩ := hR q hq;have hN := hn.l;simp only [r1, map_some, bind_some];rw [aD (gv (by rw [List.length_zip, f3, r2]; omega)), lh (f := fun z : Int × Int => z.1 + z.2) (fun _ _ => rfl) (fun _ _ => rfl)];exact ⟨_, rfl, ⟨rfl, rfl⟩, rfl⟩
 ·intro c q hq hc
  exact sN hc (hR q hq).2
 ·rintro ⟨x1, x2, x3, x4, x5⟩ ⟨f1, f2⟩ f3
  dsimp only at f1 f2 f3;subst f1; subst f2;simp only [bind_some, f3]
noncomputable def aS (g : Nat) : Str := ⟨(((List.range 4).filter fun k => g.testBit k).map fun k => 97 + k).toArray⟩
noncomputable def Ep (g : Nat) : Bool := decide (kj ((g : Int), ()) = some (aS g, (g : Int), ())) && (((aS g).cps.toList.all fun c => decide (97 <= c /\ c <= 100)) && decide ((aS g).length <= 4))
theorem AD : ((List.range 15).all fun k => Ep (k + 1)) = true := by decide +kernel
structure Gk (g : Nat) : Prop where
 ll : kj ((g : Int), ()) = some (aS g, (g : Int), ())
 c : ∀ c ∈ (aS g).cps.toList, 97 <= c /\ c <= 100
 tl : (aS g).length <= 4
theorem DR {g : Nat} (h : 1 <= g /\ g <= 15) : Gk g := by
 have := List.all_eq_true.mp AD (g - 1) (List.mem_range.mpr oM)
 rw [show g - 1 + 1 = g by omega] at this;simp only [Ep, Bool.and_eq_true, decide_eq_true_eq, List.all_eq_true] at this;exact ⟨this.1, this.2.1, this.2.2⟩
noncomputable def uj (n : Nat) : Bool := decide (jG ((n : Int), ()) = some (((2 ^ n - 1 : Nat) : Int), (n : Int), ())) && (List.range (2 ^ n - 1)).all fun k => decide (gC ((n : Int), aS (k + 1), ()) = some (((k + 1 : Nat) : Int), (n : Int), aS (k + 1), ()))
theorem AE : (uj 1 && (uj 2 && (uj 3 && uj 4))) = true := by decide +kernel
structure Fk (n N : Nat) : Prop where
 e : N = 2 ^ n - 1
 b : 1 <= n /\ n <= 4
 nn : Nn (n : Int) N
 rg : ∀ g : Nat, 1 <= g -> g <= N -> gC ((n : Int), aS g, ()) = some ((g : Int), (n : Int), aS g, ())
theorem DW {n : Nat} (h : 1 <= n /\ n <= 4) : Fk n (2 ^ n - 1) := by
 have hc := AE;simp only [Bool.and_eq_true] at hc;have hn : uj n = true := by
  match n, h with
  | 1, _ => exact hc.1
  | 2, _ => exact hc.2.1
  | 3, _ => exact hc.2.2.1
  | 4, _ => exact hc.2.2.2
 have hp : 2 ^ n <= 2 ^ 4 := Nat.pow_le_pow_right oM h.2;simp only [uj, Bool.and_eq_true, decide_eq_true_eq, List.all_eq_true] at hn;exact ⟨rfl, h, ⟨hn.1, by omega⟩, fun g h1 h2 => by
  have := hn.2 (g - 1) (List.mem_range.mpr oM)
  rw [show g - 1 + 1 = g by omega] at this;exact this⟩
theorem one {y a : Str} : Txt.join y [a] = a := ext' (by rw [hE]; rfl)
theorem nr {y : Str} {m : Nat} (cy : y.cps.toList = [m]) (hk : PySem.Builtin.Str.strKind y = 1) {ps : List Str} (hne : ps ≠ []) (hf : ∀ p ∈ ps, m ∉ p.cps.toList) (hl : ∀ p ∈ ps, p.length <= 100) (hn : ps.length <= 200) :
  Txt.split (Txt.join y ps) y = ps /\ fJ (Txt.join y ps) y = true := by
 have h1 : y.length = 1 := by rw [br, cy]; rfl
 have e : Txt.split (Txt.join y ps) y = ps := nq (m := m) (off := 0) oM (by rw [cy]; rfl) (fun k e => by
  rw [cy] at e;cases k with
  | zero => rfl
  | succ k => simp at e) hk hne hf
 exact ⟨e, tJ (b := 100) (n := 200) (by rw [h1]; rfl) e hl hn (by rw [h1]; decide) dC⟩
theorem zc : (Str.ofString "|").cps.toList = [124] := by decide +kernel
theorem zb : (Str.ofString ";").cps.toList = [59] := by decide +kernel
theorem Ek : PySem.Builtin.Str.strKind (Str.ofString "|") = 1 := by decide +kernel
theorem FI : PySem.Builtin.Str.strKind (Str.ofString ";") = 1 := by decide +kernel
section
variable {n N a b c : Nat}
theorem fW {m : Nat} (h : Gk a) (hm : m < 97 \/ 100 < m) : m ∉ (aS a).cps.toList := fun q => by have := h.c m q; omega
theorem wm {n : Int} {x : Str} : fo (n, [x], ()) = some (0, n, [x], ()) := by
 unfold fo gX;simp only [TT.tSeq, bind_some, map_some, List.length_cons, List.length_nil, show decide ((2 : Int) < ((0 + 1 : Nat) : Int)) = false by decide, Bool.false_eq_true, if_false, aD iD, show (((0 + 1 : Nat) : Int) == 2) = false by decide]
theorem wl {n g : Int} {x y : Str} (h : gC (n, y, ()) = some (g, n, y, ())) : fo (n, [x, y], ()) = some (g, n, [x, y], ()) := by
 have a1 : L2.atI [x, y] 1 = some y := rfl;unfold fo gX;simp only [TT.tSeq, bind_some, map_some, List.length_cons, List.length_nil, show decide ((2 : Int) < ((0 + 1 + 1 : Nat) : Int)) = false by decide, Bool.false_eq_true, if_false, aD iD, show (((0 + 1 + 1 : Nat) : Int) == 2) = true by decide, if_true, a1, h]
theorem lN {α : Type} {P : α -> Prop} {x y : α} (hx : P x) (hy : P y) : ∀ p ∈ [x, y], P p := fun p hp => by
 simp only [List.mem_cons, List.not_mem_nil, or_false] at hp;rcases hp with rfl | rfl <;> assumption
theorem yK {x y : Str} (hx : 59 ∉ x.cps.toList) (hy : 59 ∉ y.cps.toList) (lx : x.length <= 100) (ly : y.length <= 100) : mU (x ++ Str.ofString ";" ++ y, Str.ofString ";", ()) = some ([x, y], x ++ Str.ofString ";" ++ y, Str.ofString ";", ()) := by
 obtain ⟨s1, s2⟩ := nr (ps := [x, y]) zb FI (by simp) (lN hx hy) (lN lx ly) (by simp);rw [TX.two] at s1 s2;unfold mU nk;simp only [TT.tSeq, bind_some, map_some, aD s2, s1, List.length_cons, List.length_nil, aD iD, show (!(((0 + 1 + 1 : Nat) : Int) == 2)) = false by decide, Bool.false_eq_true, if_false]
end
noncomputable def gA (t : Int) (r : List Int) (p : Int × Int) : List Int := if p.1 = 0 then r else r.set (p.1.toNat - 1) (((r[p.1.toNat - 1]?).getD 0) + t * p.2)
noncomputable def fG (N : Nat) (ts : List (Int × Int)) : List Int := ts.foldl (gA 1) (List.replicate N 0)
theorem kc (t : Int) (r : List Int) (p : Int × Int) : (gA t r p).length = r.length := by
 unfold gA; split
 ·rfl
 ·rw [List.length_set]
theorem yt (t : Int) (ts : List (Int × Int)) : ∀ r : List Int, (ts.foldl (gA t) r).length = r.length := by
 induction ts with
 | nil => intro r; rfl
 | cons p ts ih => intro r; rw [List.foldl_cons, ih, kc]
theorem uA (N : Nat) (ts : List (Int × Int)) : (fG N ts).length = N := by unfold fG; rw [yt, List.length_replicate]
theorem vh {g : Int} {l : Nat} (h : 1 <= g) (h2 : g <= (l : Int)) : L2.ixN l (g - 1) = some (g.toNat - 1) := by
 unfold L2.ixN;rw [if_pos oM, if_pos oM];congr 1; omega
theorem DZ {r : List Int} {g : Int} (h : 1 <= g) (h2 : g <= (r.length : Int)) : L2.atI r (g - 1) = some ((r[g.toNat - 1]?).getD 0) := by
 have e : (r[g.toNat - 1]?).getD 0 = r[g.toNat - 1]'(by omega) := by rw [List.getElem?_eq_getElem oM, Option.getD_some]
 rw [e];unfold L2.atI;rw [vh h h2, bind_some, List.getElem?_eq_getElem oM]
theorem tI {n : Int} {N : Nat} (hn : Nn n N) {ts : List (Int × Int)} (h : ∀ p ∈ ts, 0 <= p.1 /\ p.1 <= (N : Int)) : g7 (n, ts, ()) = some (fG N ts, n, ts, ()) := by
 unfold g7 hU;simp only [TT.tSeq, bind_some, map_some, aD AY, hn.an, aD (uU hn.l), Int.toNat_natCast, vn];refine su (S := ba) (α := Int × Int) (fun s => s.xrow) (gA 1) (fun s => s.xn = n /\ s.xterms = ts) (fun c => c.length = N) (fun o => o = some (fG N ts, n, ts, ())) ?_ ?_ ⟨rfl, rfl⟩ (by simp) ?_
 ·rintro ⟨x1, x2, x3, x4, x5⟩ q hq ⟨f1, f2⟩ f3
  dsimp only at f1 f2 f3;subst f1; subst f2;have hb := h q hq;simp only [aD iD, map_some, bind_some];by_cases e : q.1 = 0
  ·simp only [e, beq_self_eq_true, Bool.not_true, Bool.false_eq_true, if_false]
   exact ⟨_, rfl, ⟨rfl, rfl⟩, by unfold gA; rw [if_pos e]⟩
  ·have e2 : (q.1 == 0) = false := beq_false_of_ne e
   have e3 : x3[q.1.toNat - 1]? = some ((x3[q.1.toNat - 1]?).getD 0) := by rw [List.getElem?_eq_getElem oM, Option.getD_some]
   simp only [e2, Bool.not_false, if_true];rw [vh oM oM, bind_some, e3, bind_some];exact ⟨_, rfl, ⟨rfl, rfl⟩, by unfold gA; rw [if_neg e, Int.one_mul]⟩
 ·intro c q hq hc
  rw [kc, hc]
 ·rintro ⟨x1, x2, x3, x4, x5⟩ ⟨f1, f2⟩ f3
  dsimp only at f1 f2 f3;subst f1; subst f2;simp only [bind_some, f3];rfl
theorem AI {r : List Int} {ts : List (Int × Int)} {t : Int} (h : ∀ p ∈ ts, 0 <= p.1 /\ p.1 <= (r.length : Int) /\ (p.2 = 1 \/ p.2 = -1)) : mT (r, ts, t, ()) = some (ts.foldl (gA t) r, r, ts, t, ()) := by
 unfold mT nj;simp only [TT.tSeq, bind_some, map_some];refine su (S := bY) (α := Int × Int) (fun s => s.yfound) (gA t) (fun s => s.yrow = r /\ s.yterms = ts /\ s.ytimes = t) (fun c => c.length = r.length) (fun o => o = some (ts.foldl (gA t) r, r, ts, t, ())) ?_ ?_ ⟨rfl, rfl, rfl⟩ rfl ?_
 ·rintro ⟨x1, x2, x3, x4, x5, x6⟩ q hq ⟨f1, f2, f4⟩ f3
  dsimp only at f1 f2 f3 f4;subst f1; subst f2; subst f4;have hb := h q hq;by_cases e : q.1 = 0
  ·simp only [e, show decide ((0 : Int) < 0) = false by decide, Bool.false_eq_true, if_false]
   exact ⟨_, rfl, ⟨rfl, rfl, rfl⟩, by unfold gA; rw [if_pos e]⟩
  ·have e2 : decide ((0 : Int) < q.1) = true := decide_eq_true oM
   simp only [aD e2, DZ (show 1 <= q.1 by omega) (show q.1 <= (x4.length : Int) by omega), vh (show 1 <= q.1 by omega) (show q.1 <= (x4.length : Int) by omega), aD (iE (x := x3) (y := q.2) oM), bind_some, map_some];exact ⟨_, rfl, ⟨rfl, rfl, rfl⟩, by unfold gA; rw [if_neg e]⟩
 ·intro c q hq hc
  rw [kc, hc]
 ·rintro ⟨x1, x2, x3, x4, x5, x6⟩ ⟨f1, f2, f4⟩ f3
  dsimp only at f1 f2 f3 f4;subst f1; subst f2; subst f4;simp only [bind_some, f3]
theorem yF {r z : List Int} {i : Nat} {w : Int} (h : r.length = z.length) (hi : i < z.length) : eS r (z.set i w) = (eS r z).set i ((r[i]?).getD 0 + w) := by
 unfold eS;apply List.ext_getElem
 ·simp
 ·intro k h1 h2
  simp only [List.getElem_map, List.getElem_zip, List.getElem_set];split
  ·rename_i e
   subst e;rw [List.getElem?_eq_getElem oM, Option.getD_some]
  ·rfl
theorem wU {r z : List Int} {t : Int} {p : Int × Int} (h : r.length = z.length) (hp : 0 <= p.1 /\ p.1 <= (z.length : Int)) : eS r ((gA 1 z p).map fun y => t * y) = gA t (eS r (z.map fun y => t * y)) p := by
 unfold gA;by_cases e : p.1 = 0
 ·rw [if_pos e, if_pos e]
 ·rw [if_neg e, if_neg e, List.map_set, yF (by rw [List.length_map, h]) (by rw [List.length_map]; omega)]
  congr 1;unfold eS;have hi : p.1.toNat - 1 < z.length := by omega
  have hj : p.1.toNat - 1 < r.length := by omega
  simp only [List.getElem?_map, List.getElem?_zip_eq_some, List.zip, List.getElem?_eq_getElem hi, List.getElem?_eq_getElem hj, Option.getD_some, List.getElem?_zipWith, map_some];rw [Int.mul_add, Int.one_mul];omega
theorem wV {t : Int} {ts : List (Int × Int)} {r : List Int} : ∀ {z : List Int}, r.length = z.length -> (∀ p ∈ ts, 0 <= p.1 /\ p.1 <= (z.length : Int)) -> eS r ((ts.foldl (gA 1) z).map fun y => t * y) = ts.foldl (gA t) (eS r (z.map fun y => t * y)) := by
 induction ts with
 | nil => intro z _ _; rfl
 | cons p ts ih =>
  intro z h hp;rw [List.foldl_cons, List.foldl_cons, ih (by rw [kc, h]) (fun q hq => by rw [kc]; exact hp q (List.mem_cons_of_mem _ hq)), wU h (hp p List.mem_cons_self)]
theorem tE {t : Int} {N : Nat} : ∀ {r : List Int}, r.length = N -> eS r ((List.replicate N 0).map fun y => t * y) = r := by
 induction N with
 | zero => intro r h; rw [List.length_eq_zero_iff.mp h]; rfl
 | succ N ih =>
  intro r h;cases r with
  | nil => cases h
  | cons x r =>
   rw [List.replicate_succ, List.map_cons];show (x + t * 0) :: eS r _ = _;rw [ih (Nat.succ.inj h), Int.mul_zero, Int.add_zero]
theorem CB {t : Int} {ts : List (Int × Int)} {r : List Int} {N : Nat} (h : r.length = N) (hp : ∀ p ∈ ts, 0 <= p.1 /\ p.1 <= (N : Int)) : eS r ((fG N ts).map fun y => t * y) = ts.foldl (gA t) r := by
 unfold fG;rw [wV (by rw [List.length_replicate, h]) (by rw [List.length_replicate]; exact hp), tE h]
theorem Az {ts : List (Int × Int)} : ∀ {z : List Int} {B : Nat}, (∀ p ∈ ts, p.2 = 1 \/ p.2 = -1) -> (∀ x ∈ z, x.natAbs <= B) -> ∀ x ∈ ts.foldl (gA 1) z, x.natAbs <= B + ts.length := by
 induction ts with
 | nil => intro z B _ h; exact h
 | cons p ts ih =>
  intro z B hp h x hx;rw [List.foldl_cons] at hx
  have := ih (B := B + 1) (fun q hq => hp q (List.mem_cons_of_mem _ hq)) (fun y hy => by
   unfold gA at hy;split at hy
   ·have := h y hy; omega
   ·rcases List.mem_or_eq_of_mem_set hy with hy | rfl
    ·have := h y hy; omega
    ·have h1 : ((z[p.1.toNat - 1]?).getD 0).natAbs <= B := by
      rcases e : z[p.1.toNat - 1]? with _ | v
      ·rw [Option.getD_none]; exact Nat.zero_le _
      ·rw [Option.getD_some]; exact h v (List.mem_of_getElem? e)
     have := hp p List.mem_cons_self
     rw [Int.one_mul];omega) x hx
  rw [List.length_cons]; omega
theorem CD {N : Nat} {ts : List (Int × Int)} (h : ∀ p ∈ ts, p.2 = 1 \/ p.2 = -1) : ∀ x ∈ fG N ts, x.natAbs <= ts.length := fun x hx => by
 have := Az (B := 0) h (fun y hy => by rw [List.eq_of_mem_replicate hy]; exact Nat.zero_le _) x hx
 omega
theorem rn : ∀ a : Fin 16, ∀ b : Fin 16, Builtin.bitOr (a.val : Int) (b.val : Int) = ((a.val ||| b.val : Nat) : Int) := by decide +kernel
theorem ib {n N : Nat} (h : N = 2 ^ n - 1) (hn : n <= 4) {a b : Int} (ha : 0 <= a /\ a <= (N : Int)) (hb : 0 <= b /\ b <= (N : Int)) : 0 <= Builtin.bitOr a b /\ Builtin.bitOr a b <= (N : Int) := by
 have hp : 2 ^ n <= 2 ^ 4 := Nat.pow_le_pow_right oM hn;have h1 : 0 < 2 ^ n := Nat.two_pow_pos n;have e := rn ⟨a.toNat, by omega⟩ ⟨b.toNat, by omega⟩;simp only [Int.toNat_of_nonneg ha.1, Int.toNat_of_nonneg hb.1] at e
 have := Nat.or_lt_two_pow (x := a.toNat) (y := b.toNat) (n := n) oM oM
 rw [e]; omega
theorem yT {a : Int} (h : 0 <= a /\ a <= 15) : Builtin.bitOr a 0 = a := by
 have e := rn ⟨a.toNat, by omega⟩ ⟨0, by omega⟩;simp only [Int.toNat_of_nonneg h.1, Nat.or_zero] at e;exact e
noncomputable def pM (w : Int) (a b c : Nat) : Str := if w = 0 then aS a else if w = 1 then aS a ++ Str.ofString "|" ++ aS b else if w = 2 then aS a ++ Str.ofString ";" ++ aS b else aS a ++ Str.ofString ";" ++ aS b ++ Str.ofString "|" ++ aS c
noncomputable def tP (w : Int) : Str := if w = 0 \/ w = 1 then Str.ofString "h(" else Str.ofString "s("
noncomputable def dM (w : Int) (a b c : Nat) : Str := tP w ++ pM w a b c ++ Str.ofString ")"
noncomputable def g5 (w a b c : Int) : List (Int × Int) := if w = 0 then [(a, 1)] else if w = 1 then [(Builtin.bitOr a b, 1), (b, -1)] else if w = 2 then [(a, 1), (b, 1), (Builtin.bitOr a b, -1)] else [(Builtin.bitOr a c, 1), (Builtin.bitOr b c, 1), (Builtin.bitOr (Builtin.bitOr a b) c, -1), (c, -1)]
section
variable {n N a b c : Nat} {w : Int}
theorem vI (f : Fk n N) (ha : 1 <= a /\ a <= N) (hb : 1 <= b /\ b <= N) (hc : 1 <= c /\ c <= N) : ∀ p ∈ g5 w a b c, 0 <= p.1 /\ p.1 <= (N : Int) /\ (p.2 = 1 \/ p.2 = -1) := by
 have A : 0 <= (a : Int) /\ (a : Int) <= N := by omega
 have B : 0 <= (b : Int) /\ (b : Int) <= N := by omega
 have C : 0 <= (c : Int) /\ (c : Int) <= N := by omega
 have o1 := ib f.e f.b.2 A B;have o2 := ib f.e f.b.2 A C;have o3 := ib f.e f.b.2 B C;have o4 := ib f.e f.b.2 o1 C;intro p hp;unfold g5 at hp;split at hp
 ·simp only [List.mem_cons, List.not_mem_nil, or_false] at hp
  subst hp; exact ⟨A.1, A.2, .inl rfl⟩
 ·split at hp
  ·simp only [List.mem_cons, List.not_mem_nil, or_false] at hp
   rcases hp with rfl | rfl
   ·exact ⟨o1.1, o1.2, .inl rfl⟩
   ·exact ⟨B.1, B.2, .inr rfl⟩
  ·split at hp
   ·simp only [List.mem_cons, List.not_mem_nil, or_false] at hp
    rcases hp with rfl | rfl | rfl
    ·exact ⟨A.1, A.2, .inl rfl⟩
    ·exact ⟨B.1, B.2, .inl rfl⟩
    ·exact ⟨o1.1, o1.2, .inr rfl⟩
   ·simp only [List.mem_cons, List.not_mem_nil, or_false] at hp
    rcases hp with rfl | rfl | rfl | rfl
    ·exact ⟨o2.1, o2.2, .inl rfl⟩
    ·exact ⟨o3.1, o3.2, .inl rfl⟩
    ·exact ⟨o4.1, o4.2, .inr rfl⟩
    ·exact ⟨C.1, C.2, .inr rfl⟩
theorem zv : (g5 w a b c).length <= 4 := by
 unfold g5; split
 ·simp
 ·split
  ·simp
  ·split <;> simp
theorem pY (N : Nat) (ts : List (Int × Int)) (x : Int) : fG N (ts ++ [(0, x)]) = fG N ts := by
 unfold fG;rw [List.foldl_append, List.foldl_cons, List.foldl_nil];exact if_pos rfl
theorem Ec {x y : Int × Int} : gD [x, y].length = true := gv (by simp)
theorem Ea {x y z u : Int × Int} : gD [x, y, z, u].length = true := gv (by simp)
theorem nw (f : Fk n N) {x y : Int} (hx : 0 <= x /\ x <= (N : Int)) (hy : 0 <= y /\ y <= (N : Int)) : ki ((n : Int), x, y, ()) = some (fG N [(Builtin.bitOr x y, 1), (y, -1)], (n : Int), x, y, ()) := by
 have o1 := ib f.e f.b.2 hx hy;unfold ki kD;simp only [TT.tSeq, bind_some, map_some, aD Ec, tI f.nn (ts := [(Builtin.bitOr x y, 1), (y, -1)]) (lN o1 hy)]
theorem kS (f : Fk n N) {x y z : Int} (hx : 0 <= x /\ x <= (N : Int)) (hy : 0 <= y /\ y <= (N : Int)) (hz : 0 <= z /\ z <= (N : Int)) : iY ((n : Int), x, y, z, ()) = some (fG N [(Builtin.bitOr x z, 1), (Builtin.bitOr y z, 1), (Builtin.bitOr (Builtin.bitOr x y) z, -1), (z, -1)], (n : Int), x, y, z, ()) := by
 have o1 := ib f.e f.b.2 hx hz;have o2 := ib f.e f.b.2 hy hz;have o3 := ib f.e f.b.2 (ib f.e f.b.2 hx hy) hz;unfold iY jm;simp only [TT.tSeq, bind_some, map_some, aD Ea, tI f.nn (ts := [(Builtin.bitOr x z, 1), (Builtin.bitOr y z, 1), (Builtin.bitOr (Builtin.bitOr x y) z, -1), (z, -1)]) (fun p hp => by
  rcases List.mem_cons.mp hp with rfl | hp
  ·exact o1
  ·rcases List.mem_cons.mp hp with rfl | hp
   ·exact o2
   ·exact lN (P := fun p : Int × Int => 0 <= p.1 /\ p.1 <= (N : Int)) o3 hz p hp)]
theorem eJ (f : Fk n N) (ha : 1 <= a /\ a <= N) : Gk a := DR (by have := f.nn.l; omega)
theorem Cy {x : Str} (hx : 124 ∉ x.cps.toList) (lx : x.length <= 100) : Txt.split x (Str.ofString "|") = [x] /\ fJ x (Str.ofString "|") = true := by
 have := nr (ps := [x]) zc Ek (by simp) (fun p hp => by rw [List.mem_singleton.mp hp]; exact hx) (fun p hp => by rw [List.mem_singleton.mp hp]; exact lx) (by simp)
 rw [one] at this;exact this
theorem Cw {x y : Str} (hx : 124 ∉ x.cps.toList) (hy : 124 ∉ y.cps.toList) (lx : x.length <= 100) (ly : y.length <= 100) : Txt.split (x ++ Str.ofString "|" ++ y) (Str.ofString "|") = [x, y] /\ fJ (x ++ Str.ofString "|" ++ y) (Str.ofString "|") = true := by
 have := nr (ps := [x, y]) zc Ek (by simp) (lN hx hy) (lN lx ly) (by simp)
 rw [TX.two] at this;exact this
theorem C9 (f : Fk n N) (ha : 1 <= a /\ a <= N) : eY ((n : Int), aS a, ()) = some (fG N [((a : Int), 1)], (n : Int), aS a, ()) := by
 have g := eJ f ha;have hN := f.nn.l;obtain ⟨s1, s2⟩ := Cy (fW g oM) (by have := g.tl; omega);have a0 : L2.atI [aS a] 0 = some (aS a) := rfl;have e : fG N [(Builtin.bitOr (a : Int) 0, 1), (0, -1)] = fG N [((a : Int), 1)] := by
  rw [yT oM]; exact pY N [((a : Int), 1)] (-1)
 unfold eY im;simp only [TT.tSeq, bind_some, map_some, aD s2, s1, wm, a0, f.rg a ha.1 ha.2, nw f (x := (a : Int)) (y := 0) oM oM, e]
theorem C8 (f : Fk n N) (ha : 1 <= a /\ a <= N) (hb : 1 <= b /\ b <= N) : eY ((n : Int), aS a ++ Str.ofString "|" ++ aS b, ()) = some (fG N [(Builtin.bitOr (a : Int) b, 1), ((b : Int), -1)], (n : Int), aS a ++ Str.ofString "|" ++ aS b, ()) := by
 have g := eJ f ha;have g2 := eJ f hb;obtain ⟨s1, s2⟩ := Cw (fW g oM) (fW g2 oM) (by have := g.tl; omega) (by have := g2.tl; omega);have a0 : L2.atI [aS a, aS b] 0 = some (aS a) := rfl;unfold eY im;simp only [TT.tSeq, bind_some, map_some, aD s2, s1, wl (f.rg b hb.1 hb.2), a0, f.rg a ha.1 ha.2, nw f (x := (a : Int)) (y := (b : Int)) oM oM]
theorem nG : (Str.ofString ";").length = 1 := by decide +kernel
theorem uu {m : Nat} (g : Gk a) (g2 : Gk b) (hm : m < 97 \/ 100 < m) (h59 : m ≠ 59) : m ∉ (aS a ++ Str.ofString ";" ++ aS b).cps.toList := fun q => by
 rw [bb, bb, zb] at q;simp only [List.mem_append, List.mem_singleton] at q;rcases q with (q | q) | q
 ·exact fW g hm q
 ·exact h59 q
 ·exact fW g2 hm q
theorem wN (g : Gk a) (g2 : Gk b) : (aS a ++ Str.ofString ";" ++ aS b).length <= 9 := by
 have := g.tl; have := g2.tl
 rw [aE, aE, nG]; omega
theorem C2 (f : Fk n N) (ha : 1 <= a /\ a <= N) (hb : 1 <= b /\ b <= N) : ee ((n : Int), aS a ++ Str.ofString ";" ++ aS b, ()) = some (fG N [((a : Int), 1), ((b : Int), 1), (Builtin.bitOr (a : Int) b, -1)], (n : Int), aS a ++ Str.ofString ";" ++ aS b, ()) := by
 have g := eJ f ha;have g2 := eJ f hb;have hN := f.nn.l;have bl := wN g g2;obtain ⟨s1, s2⟩ := Cy (uu g g2 (m := 124) oM oM) oM;have a0 : L2.atI [aS a ++ Str.ofString ";" ++ aS b] 0 = some (aS a ++ Str.ofString ";" ++ aS b) := rfl;have b0 : L2.atI [aS a, aS b] 0 = some (aS a) := rfl;have b1 : L2.atI [aS a, aS b] 1 = some (aS b) := rfl;have o1 := ib f.e f.b.2 (a := a) (b := b) oM oM;have e : fG N [(Builtin.bitOr (a : Int) 0, 1), (Builtin.bitOr (b : Int) 0, 1), (Builtin.bitOr (Builtin.bitOr (a : Int) b) 0, -1), (0, -1)] = fG N [((a : Int), 1), ((b : Int), 1), (Builtin.bitOr (a : Int) b, -1)] := by
  rw [yT (a := (a : Int)) oM, yT (a := (b : Int)) oM, yT (a := Builtin.bitOr (a : Int) b) oM];exact pY N [((a : Int), 1), ((b : Int), 1), (Builtin.bitOr (a : Int) b, -1)] (-1)
 have t2 := yK (fW g oM) (fW g2 oM) (by have := g.tl; omega) (by have := g2.tl; omega);unfold ee gn;simp only [TT.tSeq, bind_some, map_some, aD s2, s1, wm, a0, t2, b0, b1, f.rg a ha.1 ha.2, f.rg b hb.1 hb.2, kS f (x := (a : Int)) (y := (b : Int)) (z := 0) oM oM oM, e]
theorem C1 (f : Fk n N) (ha : 1 <= a /\ a <= N) (hb : 1 <= b /\ b <= N) (hc : 1 <= c /\ c <= N) : ee ((n : Int), aS a ++ Str.ofString ";" ++ aS b ++ Str.ofString "|" ++ aS c, ()) = some (fG N [(Builtin.bitOr (a : Int) c, 1), (Builtin.bitOr (b : Int) c, 1), (Builtin.bitOr (Builtin.bitOr (a : Int) b) c, -1), ((c : Int), -1)], (n : Int), aS a ++ Str.ofString ";" ++ aS b ++ Str.ofString "|" ++ aS c, ()) := by
 have g := eJ f ha;have g2 := eJ f hb;have g3 := eJ f hc;have bl := wN g g2;obtain ⟨s1, s2⟩ := Cw (uu g g2 (m := 124) oM oM) (fW g3 oM) oM (by have := g3.tl; omega);have a0 : L2.atI [aS a ++ Str.ofString ";" ++ aS b, aS c] 0 = some (aS a ++ Str.ofString ";" ++ aS b) := rfl;have b0 : L2.atI [aS a, aS b] 0 = some (aS a) := rfl;have b1 : L2.atI [aS a, aS b] 1 = some (aS b) := rfl;have t2 := yK (fW g oM) (fW g2 oM) (by have := g.tl; omega) (by have := g2.tl; omega);unfold ee gn;simp only [TT.tSeq, bind_some, map_some, aD s2, s1, wl (f.rg c hc.1 hc.2), a0, t2, b0, b1, f.rg a ha.1 ha.2, f.rg b hb.1 hb.2, kS f (x := (a : Int)) (y := (b : Int)) (z := (c : Int)) oM oM oM]
end
theorem Ce {n : Nat} (h : 3 <= n) : Builtin.Str.strSliceIndices (some 2) (some (-1)) 1 n = Builtin.Str.strSliceIndices (some 2) (some ((n : Int) - 1)) 1 n := by
 have h0 : ¬ ((2 : Int) < 0) := by decide
 have h1 : ¬ (((n : Int) - 1) < 0) := by omega
 have h2 : (1 : Int) > 0 := by decide
 have h3 : (-1 : Int) < 0 := by decide
 simp only [Builtin.Str.strSliceIndices, h0, h1, h2, h3, if_false, if_true];congr 1
theorem qG {p x q : Str} (hp : p.length = 2) (hq : q.length = 1) : Txt.slice (p ++ x ++ q) (some 2) (some (-1)) = x := by
 have hl : (p ++ x ++ q).length = x.length + 3 := by rw [aE, aE]; omega
 have e : Txt.slice (p ++ x ++ q) (some 2) (some (-1)) = Txt.slice (p ++ x ++ q) (some 2) (some (((p ++ x ++ q).length : Int) - 1)) := by
  unfold Txt.slice;rw [Ce oM]
 rw [e, beq_iff_eq.mp (PyProof.Rows.slice_closesL (x := p ++ x ++ q) (i := 2) (j := ((p ++ x ++ q).length : Int) - 1) oM oM oM)];apply ext';have e1 : (((p ++ x ++ q).length : Int) - 1 - 2).toNat = x.cps.toList.length := by rw [<- br]; omega
 have e2 : p.cps.toList.length = 2 := by rw [<- br, hp]
 rw [e1];show ((p ++ x ++ q).cps.toList.drop 2).take _ = _;rw [bb, bb, List.append_assoc, <- e2, List.drop_left, List.take_left]
theorem lH : (Str.ofString "h(").length = 2 := by decide +kernel
theorem lS : (Str.ofString "s(").length = 2 := by decide +kernel
theorem lC : (Str.ofString ")").length = 1 := by decide +kernel
theorem Fv : Txt.startswith (Str.ofString "s(") (Str.ofString "h(") = false := by decide +kernel
theorem vM (p x q : Str) : Txt.startswith (p ++ x ++ q) p = true := by
 rw [PySem.W.KAf.starts_left (by rw [aE]; omega)]; exact PySem.W.KT.starts_app _ _
theorem xl (x q : Str) : Txt.startswith (Str.ofString "s(" ++ x ++ q) (Str.ofString "h(") = false := by
 rw [PySem.W.KAf.starts_left (by rw [aE, lS, lH]; omega), PySem.W.KAf.starts_left (by rw [lS, lH]; omega)]; exact Fv
section
variable {n N a b c : Nat} {w : Int} {x : Str} {v : List Int}
theorem wD {n : Int} (h : eY (n, x, ()) = some (v, n, x, ())) (lx : x.length <= 50) : eu (n, Str.ofString "h(" ++ x ++ Str.ofString ")", ()) = some (v, n, Str.ofString "h(" ++ x ++ Str.ofString ")", ()) := by
 have l : decide ((Str.ofString "h(" ++ x ++ Str.ofString ")").length <= sizeLine) = true := fj (by rw [aE, aE, lH, lC]; omega);have sl := qG (x := x) lH lC;have h1 := vM (Str.ofString "h(") x (Str.ofString ")");have h2 := PySem.W.KT.ends_app (Str.ofString "h(" ++ x) (Str.ofString ")");unfold eu io;simp only [TT.tSeq, bind_some, map_some, h1, h2, if_true, aD l, sl, h]
theorem Cm {n : Int} (h : ee (n, x, ()) = some (v, n, x, ())) (lx : x.length <= 50) : eu (n, Str.ofString "s(" ++ x ++ Str.ofString ")", ()) = some (v, n, Str.ofString "s(" ++ x ++ Str.ofString ")", ()) := by
 have l : decide ((Str.ofString "s(" ++ x ++ Str.ofString ")").length <= sizeLine) = true := fj (by rw [aE, aE, lS, lC]; omega);have sl := qG (x := x) lS lC;have h1 := vM (Str.ofString "s(") x (Str.ofString ")");have h2 := PySem.W.KT.ends_app (Str.ofString "s(" ++ x) (Str.ofString ")");have h3 := xl x (Str.ofString ")")
 unfold eu io;simp only [TT.tSeq, bind_some, map_some, h1, h2, h3, Bool.false_eq_true, if_false, if_true, aD l, sl, h]
theorem pJ : (Str.ofString "|").length = 1 := by decide +kernel
theorem uc (ga : Gk a) (gb : Gk b) (gc : Gk c) : (pM w a b c).length <= 14 := by
 have := ga.tl; have := gb.tl; have := gc.tl
 unfold pM;split
 ·omega
 ·split
  ·rw [aE, aE, pJ]; omega
  ·split
   ·rw [aE, aE, nG]; omega
   ·rw [aE, aE, aE, aE, nG, pJ]; omega
theorem Cl (f : Fk n N) (ha : 1 <= a /\ a <= N) (hb : 1 <= b /\ b <= N) (hc : 1 <= c /\ c <= N) (hw : 0 <= w /\ w <= 3) : eu ((n : Int), dM w a b c, ()) = some (fG N (g5 w a b c), (n : Int), dM w a b c, ()) := by
 have lx := uc (w := w) (eJ f ha) (eJ f hb) (eJ f hc);unfold dM tP;by_cases e0 : w = 0
 ·rw [if_pos (.inl e0)]
  refine wD ?_ oM;unfold pM g5;rw [if_pos e0, if_pos e0]; exact C9 f ha
 ·by_cases e1 : w = 1
  ·rw [if_pos (.inr e1)]
   refine wD ?_ oM;unfold pM g5;rw [if_neg e0, if_pos e1, if_neg e0, if_pos e1]; exact C8 f ha hb
  ·rw [if_neg (fun q => q.elim e0 e1)]
   refine Cm ?_ oM;unfold pM g5;rw [if_neg e0, if_neg e1, if_neg e0, if_neg e1];by_cases e2 : w = 2
   ·rw [if_pos e2, if_pos e2]; exact C2 f ha hb
   ·rw [if_neg e2, if_neg e2]; exact C1 f ha hb hc
noncomputable def kQ (m : Option Nat) (x : Str) : List Str := match m with
 | none => [x]
 | some k => [bU (k : Int), x]
noncomputable def mW (m : Option Nat) : Int := match m with
 | none => 1
 | some k => (k : Int)
theorem BR {s m : Int} (h : s = 1 \/ s = -1) : gM s m = true := by
 refine iE (.inl ?_); omega
theorem AT {n s : Int} (h : eu (n, x, ()) = some (v, n, x, ())) (hs : s = 1 \/ s = -1) {m : Option Nat} (hm : ∀ k, m = some k -> 1 <= k /\ k < 10 ^ 40) (hv : ∀ y ∈ v, y.natAbs <= 4) (lv : v.length <= 15) : dN (n, s, kQ m x, ()) = some (v.map fun y => s * mW m * y, n, s, kQ m x, ()) := by
 cases m with
 | none =>
  have a1 : L2.atI [x] (-1) = some x := rfl;unfold dN ik kQ mW;simp only [TT.tSeq, bind_some, map_some, aD iD, List.length_cons, List.length_nil, show (((0 + 1 : Nat) : Int) == 1) = true by decide, if_true, a1, h];rw [aD (gv oM), lh (f := fun y => s * y) (fun _ _ => rfl) (fun y hy => by
   rw [aD (iE (.inr (by have := hv y hy; omega)))]; rfl), Int.mul_one]
  rfl
 | some k =>
  have a1 : L2.atI [bU (k : Int), x] (-1) = some x := rfl;have a0 : L2.atI [bU (k : Int), x] 0 = some (bU (k : Int)) := rfl;have rc := zD (hm k rfl).1 (hm k rfl).2;unfold dN ik kQ mW;simp only [TT.tSeq, bind_some, map_some, aD iD, List.length_cons, List.length_nil, show (((0 + 1 + 1 : Nat) : Int) == 1) = false by decide, show (((0 + 1 + 1 : Nat) : Int) == 2) = true by decide, Bool.false_eq_true, if_false, if_true, a0, a1, h, rc, aD (BR hs)];rw [aD (gv oM), lh (f := fun y => s * k * y) (fun _ _ => rfl) (fun y hy => by
   rw [aD (iE (.inr (by have := hv y hy; omega)))]; rfl)]
  rfl
end
end LW
namespace TX
open PySem
theorem tW {m : Nat} (h : 1 <= m) : (bU (-(m : Int))).cps.toList = 45 :: (bU (m : Int)).cps.toList := by
 obtain ⟨k, rfl⟩ : ∃ k, m = k + 1 := ⟨m - 1, by omega⟩;have e : (-(((k + 1 : Nat)) : Int)) = Int.negSucc k := rfl;rw [e, gy];show (Str.ofString (toString (Int.negSucc k))).cps.toList = _;rw [PyProof.Rows.signs_ofString];show (("-" ++ Nat.repr (k + 1) : String)).toList.map Char.toNat = _;rw [String.toList_append, List.map_append, Nat.toList_repr];rfl
end TX
namespace LW
open PySem L2 DD TT TX
theorem xy {m : Nat} (h1 : 1 <= m) (h : m < 10 ^ 40) : cU (bU (-(m : Int)), ()) = some (-(m : Int), bU (-(m : Int)), ()) := by
 obtain ⟨c, r, hx, hc⟩ := ku h1;have hd := gx m;have hl := e7 h;have hn := tW h1;have hlx : (bU (m : Int)).length = r.length + 1 := by rw [br, hx]; rfl
 have hln : (bU (-(m : Int))).length = (bU (m : Int)).length + 1 := by rw [br, hn, List.length_cons, <- br]
 have e1 : Txt.startswith (bU (-(m : Int))) (Str.ofString "-") = true := by
  rw [km jE, hn]; rfl
 have esl : Txt.slice (bU (-(m : Int))) (some 1) none = bU (m : Int) := by
  apply ext';rw [show (some (1 : Int)) = some ((1 : Nat) : Int) from rfl, nu oM, hn];rfl
 have d1 : decide (((bU (m : Int)).length : Int) < 1) = false := decide_eq_false oM;have d2 : decide ((2000 : Int) < ((bU (m : Int)).length : Int)) = false := decide_eq_false oM;have a1 : ((bU (m : Int)).cps.all fun c => decide (c < 128)) = true := by
  rw [<- Array.all_toList, List.all_eq_true];intro c hc
  have := hd c hc
  exact decide_eq_true oM
 have hs : (signs (bU (m : Int))).length = (bU (m : Int)).length := by unfold signs; rw [List.length_map, <- br]
 have all1 : ((signs (bU (m : Int))).map fun y => !(Builtin.Str.occurrences (Str.ofString "0123456789") y 0 (Str.ofString "0123456789").length 1).isEmpty).all id = true := by
  rw [List.all_map, List.all_eq_true];intro y hy;unfold signs at hy;obtain ⟨c', hc', rfl⟩ := List.mem_map.mp hy;exact wz (hd c' hc')
 have at0 : uw (bU (m : Int)) 0 = some ⟨#[c]⟩ := by
  unfold uw;rw [if_pos (vJ oM), hx];show (L2.atI (c :: r) ((0 : Nat) : Int)).map _ = _;rw [L2.atI_nat (show (c :: r)[0]? = some c from rfl)];rfl
 have ne0 : ((⟨#[c]⟩ : Str) == Str.ofString "0") = false := jR (by rw [ur]; show [c] ≠ [48]; intro h; injection h; omega);have o0 : (Py.ok TT.rS (⟨#[c]⟩ : Str) && Py.ok TT.rS (Str.ofString "0") && decide (min (Py.k TT.rS) (Py.k TT.rS) <= 50)) = true := lf (fun d h => by
  have : d = c := by simpa using h
  omega) (mZ ur dC)
 have hi : intText? (bU (-(m : Int))) = some (-(m : Int)) := by
  have e := PySem.intText_neg hn hd (rV m) oM;rw [gy, PySem.W.KIN.val_back] at e;exact e
 have hl6 : decide ((bU (-(m : Int))).length <= 640) = true := decide_eq_true oM;unfold cU gp;simp only [TT.tSeq, bind_some, map_some, e1, if_true];rw [aD (fj (show (bU (-(m : Int))).length <= 100000 by omega))];have hsz : (if (bU (m : Int)).length <= sizeLine then some ((bU (m : Int)).length : Int) else none) = some ((bU (m : Int)).length : Int) := if_pos (vJ oM);simp only [bind_some, map_some, esl, hsz, d1, d2, Bool.false_eq_true, if_false, aD a1];rw [aD (gv oM), lh (f := fun y => !(Builtin.Str.occurrences (Str.ofString "0123456789") y 0 (Str.ofString "0123456789").length 1).isEmpty) (fun _ _ => rfl) (fun _ _ => rfl)];simp only [bind_some, map_some, all1, Bool.not_true, Bool.false_eq_true, if_false, at0, aD o0, ne0, hi, aD hl6]
theorem A5 : cU (bU 0, ()) = some (0, bU 0, ()) := by
 have : decide (cU (bU 0, ()) = some (0, bU 0, ())) = true := by decide +kernel
 exact of_decide_eq_true this
theorem xz {x : Int} (h : x.natAbs < 10 ^ 40) : gB (bU x, ()) = some (x, bU x, ()) := by
 refine tK ?_ h;rcases Int.lt_trichotomy x 0 with hx | hx | hx
 ·obtain ⟨m, rfl⟩ : ∃ m : Nat, x = -(m : Int) := ⟨x.natAbs, by omega⟩
  exact xy oM (by simpa using h)
 ·subst hx; exact A5
 ·obtain ⟨m, rfl⟩ : ∃ m : Nat, x = (m : Int) := ⟨x.natAbs, by omega⟩
  exact qP oM (by simpa using h)
theorem tX {x : Int} (h : x.natAbs < 10 ^ 40) : (∀ c ∈ (bU x).cps.toList, c = 45 \/ (48 <= c /\ c <= 57)) /\ (bU x).length <= 41 := by
 rcases Int.lt_trichotomy x 0 with hx | hx | hx
 ·obtain ⟨m, rfl⟩ : ∃ m : Nat, x = -(m : Int) := ⟨x.natAbs, by omega⟩
  have hm : m < 10 ^ 40 := by simpa using h
  have hn := tW (m := m) oM;refine ⟨fun c hc => ?_, ?_⟩
  ·rw [hn] at hc
   rcases List.mem_cons.mp hc with hc | hc
   ·exact .inl hc
   ·exact .inr (gx m c hc)
  ·rw [br, hn, List.length_cons, <- br]
   have := e7 hm
   omega
 ·subst hx
  exact ⟨fun c hc => .inr (gx 0 c hc), Nat.le_trans (e7 (m := 0) dC) dC⟩
 ·obtain ⟨m, rfl⟩ : ∃ m : Nat, x = (m : Int) := ⟨x.natAbs, by omega⟩
  exact ⟨fun c hc => .inr (gx m c hc), Nat.le_trans (e7 (by simpa using h)) dC⟩
end LW
namespace TX
open PySem PySem.StrLaws
theorem wt {Y : List Nat} {bs : List (List Nat)} (hb : bs ≠ []) : ∀ {ps : List (List Nat)}, ps ≠ [] -> cP Y (ps ++ bs) = cP Y ps ++ (Y ++ cP Y bs) := by
 intro ps
 induction ps with
 | nil => intro h; exact absurd rfl h
 | cons p ps ih =>
  intro _;cases ps with
  | nil =>
   cases bs with
   | nil => exact absurd rfl hb
   | cons b bs => rfl
  | cons q r =>
   have i := ih (by simp);show p ++ (Y ++ cP Y ((q :: r) ++ bs)) = (p ++ (Y ++ cP Y (q :: r))) ++ (Y ++ cP Y bs);rw [i]; simp only [List.append_assoc]
end TX
namespace LW
open PySem L2 DD TT TX
theorem jg {as bs : List Str} (ha : as ≠ []) (hb : bs ≠ []) : (Txt.join (Str.ofString " ") (as ++ bs)).cps.toList = (Txt.join (Str.ofString " ") as).cps.toList ++ (32 :: (Txt.join (Str.ofString " ") bs).cps.toList) := by
 rw [hE, hE, hE, ut, List.map_append, wt (by simpa using hb) (by simpa using ha)];rfl
theorem uT (q : cr) : ∀ ps : List cr, de (ps ++ [q]) = de ps ++ (fu q.1 :: q.2) := by
 intro ps
 induction ps with
 | nil => show fu q.1 :: (q.2 ++ []) = _; rw [List.append_nil]; rfl
 | cons p ps ih =>
  show fu p.1 :: (p.2 ++ de (ps ++ [q])) = fu p.1 :: (p.2 ++ de ps) ++ (fu q.1 :: q.2);rw [ih, List.cons_append, List.append_assoc]
noncomputable def kF (s : Int) : Str := if s = 1 then Str.ofString " + " else Str.ofString " - "
noncomputable def pE (s : Int) : Str := if s = 1 then Str.ofString "" else Str.ofString "-"
theorem C5 (s : Int) : (kF s).cps.toList = 32 :: ((fu s).cps.toList ++ [32]) := by
 unfold kF fu; split
 ·rw [FS, uq]; rfl
 ·rw [FU, jE]; rfl
noncomputable def jw (p : cr) : Str := Txt.join (Str.ofString " ") p.2
section
variable {p q : cr} {ps : List cr}
theorem pQ (hp : p.2 ≠ []) (hq : q.2 ≠ []) : body p (ps ++ [q]) = body p ps ++ kF q.1 ++ jw q := by
 apply ext';unfold body jw;have e1 : (Txt.join (Str.ofString " ") (fu q.1 :: q.2)).cps.toList = (fu q.1).cps.toList ++ (32 :: (Txt.join (Str.ofString " ") q.2).cps.toList) := by
  have := jg (as := [fu q.1]) (bs := q.2) (by simp) hq
  rw [one] at this; exact this
 rw [uT, <- List.append_assoc, jg (by simp [hp]) (by simp), e1, bb, bb, C5];simp only [List.append_assoc, List.cons_append, List.nil_append]
theorem xf (hp : p.2 ≠ []) (hq : q.2 ≠ []) : cm p (ps ++ [q]) = cm p ps ++ kF q.1 ++ jw q := by
 unfold cm;split
 ·exact pQ hp hq
 ·rw [pQ hp hq]
  apply ext';simp only [bb, List.append_assoc]
theorem zr : cm p [] = pE p.1 ++ jw p := by
 unfold cm pE body jw;show (if p.1 = 1 then Txt.join (Str.ofString " ") (p.2 ++ []) else Str.ofString "-" ++ Txt.join (Str.ofString " ") (p.2 ++ [])) = _;rw [List.append_nil];split
 ·apply ext'; rw [bb, pP, List.nil_append]
 ·rfl
theorem uv (hp : p.2 ≠ []) : ∃ r, (body p ps).cps.toList = (jw p).cps.toList ++ r := by
 unfold body jw;rcases h : de ps with _ | ⟨w, ws⟩
 ·exact ⟨[], by rw [List.append_nil, List.append_nil]⟩
 ·exact ⟨_, jg hp (by simp)⟩
end
noncomputable def kf (p : cr) (ps : List cr) : List Str := if p.1 = 1 then p.2 ++ de ps else (match p.2 ++ de ps with
 | [] => []
 | w :: ws => (Str.ofString "-" ++ w) :: ws)
structure Wk (w : Str) : Prop where
 nb : 32 ∉ w.cps.toList
 ln : w.length <= 100
 ok : ∀ c ∈ w.cps.toList, c < 128
theorem AN {x : Int} (h : x.natAbs < 10 ^ 40) : Wk (bU x) := by
 obtain ⟨h1, h2⟩ := tX h;exact ⟨fun hc => by have := h1 _ hc; omega, by omega, fun c hc => by have := h1 c hc; omega⟩
section
variable {p : cr} {ps : List cr}
theorem wW (hp : p.2 ≠ []) : kf p ps ≠ [] := by
 unfold kf;split
 ·simp [hp]
 ·split
  ·rename_i h; simp [hp] at h
  ·simp
theorem qB (hp : p.2 ≠ []) : cm p ps = Txt.join (Str.ofString " ") (kf p ps) := by
 unfold cm kf body;split
 ·rfl
 ·split
  ·rename_i h; simp [hp] at h
  ·rename_i w ws h
   rw [h];apply ext';rw [bb, hE, hE];cases ws with
   | nil => simp only [List.map_cons, List.map_nil, cP, bb]
   | cons v vs =>
    simp only [List.map_cons, cP, bb, List.append_assoc]
theorem AM (hp : Pk p) (h : ∀ p ∈ ps, Pk p) (l99 : ∀ w ∈ p.2, w.length <= 99) : ∀ w ∈ kf p ps, Wk w := fun w hw => by
 have ok := lL hp h;unfold kf at hw;split at hw
 ·have := ok w hw; exact ⟨this.1, this.2.1, this.2.2⟩
 ·split at hw
  ·cases hw
  ·rename_i v vs e
   rw [e] at ok;rcases List.mem_cons.mp hw with rfl | hw
   ·have o := ok v List.mem_cons_self
    have hv : v.length <= 99 := by
     have hl := hp.l.1;rcases e2 : p.2 with _ | ⟨u, us⟩
     ·rw [e2] at hl; simp at hl
     ·rw [e2] at e
      injection e with e3 e4;rw [<- e3]; exact l99 u (by rw [e2]; exact List.mem_cons_self)
    have cs : ∀ c ∈ (Str.ofString "-" ++ v).cps.toList, c = 45 \/ c ∈ v.cps.toList := fun c hc => by
     rcases uz hc with hc | hc
     ·rw [jE] at hc; exact .inl (List.mem_singleton.mp hc)
     ·exact .inr hc
    refine ⟨fun hc => ?_, by rw [aE, br, jE]; show 1 + _ <= _; omega, fun c hc => ?_⟩
    ·rcases cs _ hc with hc | hc
     ·omega
     ·exact o.1 hc
    ·rcases cs _ hc with hc | hc
     ·omega
     ·exact o.2.2 c hc
   ·have := ok w (List.mem_cons_of_mem _ hw); exact ⟨this.1, this.2.1, this.2.2⟩
theorem zq (hp : Pk p) (h : ∀ p ∈ ps, Pk p) (hl : ps.length <= 40) : (kf p ps).length <= 190 := by
 have a := pi hp h hl;have b := pF h;have c := hp.l.2;unfold kf;split
 ·rw [List.length_append]; omega
 ·split
  ·simp
  ·rename_i v vs e
   have := congrArg List.length e
   rw [List.length_append, List.length_cons] at this;rw [List.length_cons]; omega
end
noncomputable def Rn (n : Int) (q : cr) : List Int := ((dN (n, q.1, q.2, ())).map (·.1)).getD []
structure Pz (n N : Nat) (q : cr) : Prop where
 k : Pk q
 r : dN ((n : Int), q.1, q.2, ()) = some (Rn n q, (n : Int), q.1, q.2, ()) /\ (Rn n q).length = N
 hd : ∃ c r, (jw q).cps.toList = c :: r /\ c ≠ 45
 l3 : 3 <= (jw q).length
 l99 : ∀ w ∈ q.2, w.length <= 99
theorem Pz.ne {n N : Nat} {q : cr} (h : Pz n N q) : q.2 ≠ [] := fun e => by
 have := h.k.l.1; rw [e] at this; simp at this
noncomputable def RT (n : Int) (N : Nat) (ps : List cr) : List Int := ps.foldl (fun c q => eS c (Rn n q)) (List.replicate N 0)
section
variable {n N : Nat} {p : cr} {ps : List cr}
theorem vG (hp : Pz n N p) : 3 <= (cm p ps).length := by
 obtain ⟨r, e⟩ := uv (ps := ps) hp.ne;have hb : 3 <= (body p ps).length := by
  have := hp.l3
  rw [br] at this ⊢;rw [e, List.length_append]; omega
 unfold cm;split
 ·exact hb
 ·rw [aE]; omega
theorem yN (f : Fk n N) (hp : Pz n N p) (h : ∀ q ∈ ps, Pz n N q) (hl : ps.length <= 40) : iL ((n : Int), cm p ps, ()) = some (RT n N (p :: ps), (n : Int), cm p ps, ()) := by
 refine C7 f.nn hp.k (fun q hq => (h q hq).k) hl ?_ ?_ ?_
 ·obtain ⟨r, e⟩ := uv (ps := ps) hp.ne
  obtain ⟨c, r2, e2, hc⟩ := hp.hd;exact ⟨c, r2 ++ r, by rw [e, e2]; rfl, hc⟩
 ·intro e
  have := vG (ps := ps) hp
  rw [br, e] at this;simp at this
 ·intro q hq
  rcases List.mem_cons.mp hq with rfl | hq
  ·exact hp.r
  ·exact (h q hq).r
end
noncomputable def sT (g : Str) : Str := if (g == Str.ofString "=") = true then Str.ofString "=" else Str.ofString ">="
noncomputable def mk (g : Str) : Str := if (g == Str.ofString "=") = true then Str.ofString " = " else Str.ofString " >= "
theorem CP (g : Str) : Wk (sT g) := by
 unfold sT;split
 ·exact ⟨by decide +kernel, by decide +kernel, fun c hc => by rw [show (Str.ofString "=").cps.toList = [61] by decide +kernel] at hc; simp at hc; omega⟩
 ·exact ⟨by decide +kernel, by decide +kernel, fun c hc => by rw [show (Str.ofString ">=").cps.toList = [62, 61] by decide +kernel] at hc; simp at hc; omega⟩
theorem EW (g : Str) : (mk g).cps.toList = 32 :: ((sT g).cps.toList ++ [32]) := by
 unfold mk sT;split <;> decide +kernel
noncomputable def vi (g : Str) : Prop := g = Str.ofString "=" \/ g = Str.ofString ">"
theorem FQ : (Str.ofString "=").cps.toList = [61] := by decide +kernel
theorem FP : (Str.ofString ">").cps.toList = [62] := by decide +kernel
theorem A3 {g : Str} (h : vi g) : ∀ c ∈ g.cps.toList, c < 1114112 := fun c hc => by
 rcases h with rfl | rfl
 ·rw [FQ] at hc; simp at hc; omega
 ·rw [FP] at hc; simp at hc; omega
theorem sZ {g : Str} (h : vi g) : hV (sT g, ()) = some (g, sT g, ()) := by
 have h1 : decide (hV (sT (Str.ofString "="), ()) = some (Str.ofString "=", sT (Str.ofString "="), ())) = true := by decide +kernel
 have h2 : decide (hV (sT (Str.ofString ">"), ()) = some (Str.ofString ">", sT (Str.ofString ">"), ())) = true := by decide +kernel
 rcases h with rfl | rfl
 ·exact of_decide_eq_true h1
 ·exact of_decide_eq_true h2
theorem Ct {α : Type} (T : List α) (a b : α) : jl (T ++ [a] ++ [b]) none (some (-2)) = T := by
 unfold jl;have hl : (T ++ [a] ++ [b]).length = T.length + 2 := by simp
 rw [hl];have h2 : HT.sIx (T.length + 2) (T.length + 2) (some (-2)) = T.length := by
  show (if (-2 : Int) < 0 then ((-2 : Int) + ((T.length + 2 : Nat) : Int)).toNat else min (-2 : Int).toNat (T.length + 2)) = _;rw [if_pos dC]; omega
 rw [HT.sIx_none, h2, List.drop_zero, Nat.sub_zero, List.append_assoc, List.take_left]
theorem D0 {α : Type} (T : List α) (a b : α) : L2.atI (T ++ [a] ++ [b]) (-2) = some a := by
 have hl : (T ++ [a] ++ [b]).length = T.length + 2 := by simp
 have h1 : L2.ixN (T.length + 2) (-2) = some T.length := by
  unfold L2.ixN;rw [if_neg dC, if_pos oM];congr 1;omega
 unfold L2.atI;rw [hl, h1, bind_some];simp
section
variable {n N : Nat} {p : cr} {ps : List cr} {g : Str} {x : Int}
noncomputable def kR (p : cr) (ps : List cr) (g : Str) (x : Int) : List Str := kf p ps ++ [sT g] ++ [bU x]
theorem xk (hp : p.2 ≠ []) : cm p ps ++ mk g ++ bU x = Txt.join (Str.ofString " ") (kR p ps g x) := by
 apply ext';unfold kR;rw [jg (by simp) (by simp), jg (wW hp) (by simp), one, one, <- qB hp, bb, bb, EW];simp only [List.append_assoc, List.cons_append, List.nil_append]
theorem xr (f : Fk n N) (hp : Pz n N p) (h : ∀ q ∈ ps, Pz n N q) (hl : ps.length <= 40) (hx : x.natAbs < 10 ^ 40) (hg : vi g) : iB ((n : Int), cm p ps ++ mk g ++ bU x, ()) = some ((RT n N (p :: ps), g, x), (n : Int), cm p ps ++ mk g ++ bU x, ()) := by
 have hk : ∀ q ∈ ps, Pk q := fun q hq => (h q hq).k
 have w1 := zq hp.k hk hl;have w2 := AM hp.k hk hp.l99;have w3 : 1 <= (kf p ps).length := List.length_pos_iff.mpr (wW hp.ne);have e := xk (ps := ps) (g := g) (x := x) hp.ne;have hlw : (kR p ps g x).length = (kf p ps).length + 2 := by unfold kR; simp
 have wok : ∀ w ∈ kR p ps g x, Wk w := fun w hw => by
  unfold kR at hw;rcases List.mem_append.mp hw with hw | hw
  ·rcases List.mem_append.mp hw with hw | hw
   ·exact w2 w hw
   ·rw [List.mem_singleton.mp hw]; exact CP g
  ·rw [List.mem_singleton.mp hw]; exact AN hx
 obtain ⟨s1, s2⟩ := nr (ps := kR p ps g x) ut (by decide +kernel) (fun q => by rw [q] at hlw; simp at hlw) (fun w hw => (wok w hw).nb) (fun w hw => (wok w hw).ln) oM;rw [<- e] at s1 s2;have hl3 : decide (((kR p ps g x).length : Int) < 3) = false := decide_eq_false oM;have jc : qx (Str.ofString " ") (kf p ps) = true := Dz (b := 100) (n := 200) (fun w hw => (w2 w hw).ln) oM (by rw [t4]; decide);have c1 : jl (kR p ps g x) none (some (-2)) = kf p ps := Ct _ _ _;have c2 : L2.atI (kR p ps g x) (-2) = some (sT g) := D0 _ _ _;have c3 : L2.atI (kR p ps g x) (-1) = some (bU x) := L2.atI_last _ _;unfold iB iH;simp only [TT.tSeq, bind_some, map_some, aD s2, s1, hl3, Bool.false_eq_true, if_false, c1, aD jc];rw [<- qB hp.ne, yN f hp h hl];simp only [bind_some, map_some, c2, c3, sZ hg, xz hx]
end
theorem FO : (Str.ofString "h(").cps.toList = [104, 40] := by decide +kernel
theorem FN : (Str.ofString "s(").cps.toList = [115, 40] := by decide +kernel
theorem FR : (Str.ofString ")").cps.toList = [41] := by decide +kernel
theorem uZ (w : Int) : (tP w).cps.toList = [104, 40] \/ (tP w).cps.toList = [115, 40] := by
 unfold tP; split
 ·exact .inl FO
 ·exact .inr FN
section
variable {n N a b c : Nat} {w : Int}
theorem DL (ga : Gk a) (gb : Gk b) (gc : Gk c) : ∀ x ∈ (pM w a b c).cps.toList, (97 <= x /\ x <= 100) \/ x = 124 \/ x = 59 := fun x hx => by
 have A := ga.c x; have B := gb.c x; have C := gc.c x;unfold pM at hx;split at hx
 ·exact .inl (A hx)
 ·split at hx
  ·rw [bb, bb, zc] at hx
   simp only [List.mem_append, List.mem_singleton] at hx;rcases hx with (hx | hx) | hx
   ·exact .inl (A hx)
   ·exact .inr (.inl hx)
   ·exact .inl (B hx)
  ·split at hx
   ·rw [bb, bb, zb] at hx
    simp only [List.mem_append, List.mem_singleton] at hx;rcases hx with (hx | hx) | hx
    ·exact .inl (A hx)
    ·exact .inr (.inr hx)
    ·exact .inl (B hx)
   ·rw [bb, bb, bb, bb, zb, zc] at hx
    simp only [List.mem_append, List.mem_singleton] at hx;rcases hx with (((hx | hx) | hx) | hx) | hx
    ·exact .inl (A hx)
    ·exact .inr (.inr hx)
    ·exact .inl (B hx)
    ·exact .inr (.inl hx)
    ·exact .inl (C hx)
theorem Ck (ga : Gk a) (gb : Gk b) (gc : Gk c) : ∀ x ∈ (dM w a b c).cps.toList, 40 <= x /\ x < 128 := fun x hx => by
 unfold dM at hx;rw [bb, bb, FR] at hx;simp only [List.mem_append, List.mem_singleton] at hx;rcases hx with (hx | hx) | hx
 ·rcases uZ w with e | e
  ·rw [e] at hx; simp at hx; omega
  ·rw [e] at hx; simp at hx; omega
 ·have := DL ga gb gc x hx; omega
 ·omega
theorem Dl (w : Int) : (tP w).length = 2 := by
 rw [br];rcases uZ w with e | e <;> rw [e] <;> rfl
theorem m7 (ga : Gk a) (gb : Gk b) (gc : Gk c) : 3 <= (dM w a b c).length /\ (dM w a b c).length <= 17 := by
 have := uc (w := w) ga gb gc
 unfold dM;rw [aE, aE, Dl, lC]; omega
theorem Ay : ∃ d r, (dM w a b c).cps.toList = d :: r /\ d ≠ 45 := by
 unfold dM;rw [bb, bb];rcases uZ w with e | e
 ·exact ⟨104, _, by rw [e]; rfl, by decide⟩
 ·exact ⟨115, _, by rw [e]; rfl, by decide⟩
theorem vC (ga : Gk a) (gb : Gk b) (gc : Gk c) : Wd (dM w a b c) := by
 have hl := m7 (w := w) ga gb gc;have h2 := hl.1;rw [br] at h2;have hc := Ck (w := w) ga gb gc;refine ⟨fun h => by have := hc _ h; omega, fun e => ?_, fun e => ?_, fun x hx => (hc x hx).2, by omega⟩
 ·rw [e] at h2; simp at h2
 ·rw [e] at h2; simp at h2
theorem AO {k : Nat} (hx : 1 <= k) (hb : k < 10 ^ 40) : Wd (bU (k : Int)) := by
 obtain ⟨c, r, e, hc⟩ := ku (m := k) hx;have hd := gx k;refine ⟨fun h => by have := hd _ h; omega, ?_, ?_, fun c hc => by have := hd c hc; omega, Nat.le_trans (e7 hb) dC⟩
 ·rw [e]; intro h; injection h; omega
 ·rw [e]; intro h; injection h; omega
noncomputable def oj (m : Option Nat) : Str := match m with
 | none => Str.ofString ""
 | some k => bU (k : Int) ++ Str.ofString " "
theorem vc (s : Int) (m : Option Nat) (x : Str) : jw (s, kQ m x) = oj m ++ x := by
 cases m with
 | none => show Txt.join _ [x] = _; rw [one]; exact ext' (by rw [bb]; show _ = (Str.ofString "").cps.toList ++ _; rw [pP]; rfl)
 | some k => show Txt.join _ [bU (k : Int), x] = _; rw [TX.two]; rfl
noncomputable def BN (m : Option Nat) : Prop := ∀ k, m = some k -> 1 <= k /\ k < 10 ^ 40
noncomputable def jY (s : Int) (m : Option Nat) (w : Int) (a b c : Nat) : cr := (s, kQ m (dM w a b c))
theorem pz (f : Fk n N) (ha : 1 <= a /\ a <= N) (hb : 1 <= b /\ b <= N) (hc : 1 <= c /\ c <= N) (hw : 0 <= w /\ w <= 3) {s : Int} (hs : s = 1 \/ s = -1) {m : Option Nat} (hm : BN m) : Pz n N (jY s m w a b c) /\ Rn n (jY s m w a b c) = (fG N (g5 w a b c)).map fun y => s * mW m * y := by
 have ga := eJ f ha;have gb := eJ f hb;have gc := eJ f hc;have hN := f.nn.l;have tk := vI (w := w) f ha hb hc;have e := AT (n := (n : Int)) (s := s) (m := m) (Cl f ha hb hc hw) hs hm (fun y hy => Nat.le_trans (CD (fun p hp => (tk p hp).2.2) y hy) zv) (by rw [uA]; omega);have er : Rn n (jY s m w a b c) = (fG N (g5 w a b c)).map fun y => s * mW m * y := by
  show ((dN ((n : Int), s, kQ m (dM w a b c), ())).map (·.1)).getD [] = _;rw [e]; rfl
 have fl := m7 (w := w) ga gb gc;refine ⟨⟨⟨hs, ?_, ?_⟩, ⟨by rw [er]; exact e, by rw [er, List.length_map, uA]⟩, ?_, ?_, ?_⟩, er⟩
 ·cases m <;> simp [jY, kQ]
 ·intro v hv
  cases m with
  | none => rw [List.mem_singleton.mp (show v ∈ [dM w a b c] from hv)]; exact vC ga gb gc
  | some k => exact lN (AO (hm k rfl).1 (hm k rfl).2) (vC ga gb gc) v hv
 ·unfold jY
  rw [vc];cases m with
  | none =>
   obtain ⟨d, r, e1, e2⟩ := Ay (a := a) (b := b) (c := c) (w := w);exact ⟨d, r, by rw [bb]; show (Str.ofString "").cps.toList ++ _ = _; rw [pP, e1]; rfl, e2⟩
  | some k =>
   obtain ⟨d, r, e1, e2⟩ := ku (hm k rfl).1;exact ⟨d, _, by rw [bb]; show (bU (k : Int) ++ Str.ofString " ").cps.toList ++ _ = _; rw [bb, e1]; rfl, by omega⟩
 ·unfold jY
  rw [vc, aE]; omega
 ·intro v hv
  cases m with
  | none => rw [List.mem_singleton.mp (show v ∈ [dM w a b c] from hv)]; omega
  | some k => exact lN (P := fun v : Str => v.length <= 99) (Nat.le_trans (e7 (hm k rfl).2) dC) oM v hv
end
end LW
namespace LW
open PySem L2 DD TT
theorem z9 (c k : Int) : ∃ m, mS (c, k, ()) = some (m, c, k, ()) /\ 0 <= m /\ m < 2147483587 := by
 have d4 : decide ((0 : Int) < 2147483647) = true := by decide
 have d5 : decide ((0 : Int) < 2147483629) = true := by decide
 have d3 : decide ((0 : Int) < 2147483587) = true := by decide
 have m1 : ∀ q : Int, gM q 48271 = true := fun q => iE oM
 have m2 : ∀ q : Int, gM q 69621 = true := fun q => iE oM
 have m3 : ∀ q : Int, gM (q % 2147483647) (q % 2147483647) = true := fun q => iE oM
 have m4 : ∀ q : Int, gM (q % 2147483629) (q % 2147483629) = true := fun q => iE oM
 unfold mS ni;simp only [TT.tSeq, bind_some, map_some, aD d4, aD d5, aD d3, aD (m1 _), aD (m2 _), aD (m3 _), aD (m4 _)];exact ⟨_, rfl, Int.emod_nonneg _ dC, Int.emod_lt_of_pos _ dC⟩
theorem Eh : decide ((0 : Int) <= 18 /\ (18 : Int) <= 1000000 /\ Int.natAbs 10 < 2 ^ 64) = true := by decide
theorem Eb {a b c : Int} : gD ([a, b, c] : List Int).length = true := gv (by simp)
theorem qW (r : List Int) (k : Nat) : ∃ p, oJ (r, (k : Int), ()) = some (p, r, (k : Int), ()) /\ p.length = 3 := by
 have m1 : ∀ (q : Int) (b : Bool), gM q (if b = true then 1 else 0) = true := fun q b => iE (by cases b <;> simp)
 have m2 : gM 97 (k : Int) = true := iE oM;unfold oJ px;simp only [TT.tSeq, bind_some, map_some];cases hd : decide ((k : Int) < (r.length : Int))
 ·simp only [Bool.false_eq_true, if_false, bind_some, map_some, aD Eh, aD (m1 _ _), aD m2, aD Eb]
  exact ⟨_, rfl, rfl⟩
 ·have hk : k < r.length := by simpa using hd
  simp only [if_true, bind_some, map_some, Cz hk, aD Eh, aD (m1 _ _), aD m2, aD Eb];exact ⟨_, rfl, rfl⟩
theorem AW {a b : Int} : gD ([a, b] : List Int).length = true := gv (by simp)
theorem DK {a : Int} {ys : List Int} : wy (fun a_1 => Py.ok TT.rI a_1 && Py.ok TT.rI a && decide (min (Py.k TT.rI) (Py.k TT.rI) <= 50)) (fun a_1 => a_1 == a) ys = some (ys.any fun z => z == a) := by
 unfold wy;rw [if_pos (List.all_eq_true.mpr fun _ _ => FD)]
theorem eF {p : List Int} (hp : p.length = 3) {m : Int} (hm : 1 <= m /\ m <= 10000000000) : ∃ d p', oH (p, m, ()) = some (d, p', m, ()) /\ p'.length = 3 /\ 0 <= d /\ d < m := by
 match p, hp with
 | [a, b, c], _ =>
  have a0 : atI [a, b, c] 0 = some a := rfl;have a2 : atI [a, b, c] 2 = some c := rfl;have b1 : atI [a, b, c + 1] 1 = some b := rfl;have b2 : atI [a, b, c + 1] 2 = some (c + 1) := rfl;have i2 : ixN 3 2 = some 2 := rfl;have i0 : ixN 3 0 = some 0 := rfl;have l3 : [a, b, c].length = 3 := rfl;have e3 : [a, b, c].set 2 (c + 1) = [a, b, c + 1] := rfl;have e4 : ∀ x, [a, b, c].set 0 x = [x, b, c] := fun _ => rfl
  have dm : decide (0 < m) = true := decide_eq_true oM;have fd : ∀ x, vo x m = true := fun x => Fb (by
   refine decide_eq_true ⟨by omega, ?_⟩;have h1 : m.natAbs < 2 ^ 64 := by omega
   have h2 := (Nat.log2_lt (n := m.natAbs) (k := 64) oM).mpr h1;omega)
  obtain ⟨q, hq, _, _⟩ := z9 b (c + 1);unfold oH pv;simp only [TT.tSeq, bind_some, map_some, a0, aD AW, DK];cases ([0, -1] : List Int).any fun z => z == a
  ·simp only [Bool.false_eq_true, if_false, bind_some, map_some, a0, aD dm, aD (fd _), l3, i0, e4]
   exact ⟨_, _, rfl, rfl, Int.emod_nonneg _ oM, Int.emod_lt_of_pos _ oM⟩
  ·simp only [if_true, bind_some, map_some, a2, l3, i2, e3, b1, b2, hq, aD dm]
   exact ⟨_, _, rfl, rfl, Int.emod_nonneg _ oM, Int.emod_lt_of_pos _ oM⟩
end LW
namespace LW
open PySem L2 DD TT TX
noncomputable def Et (o : Option (Int × List Int × Unit)) : Prop := ∃ v p', o = some (v, p', ()) /\ p'.length = 3 /\ v.natAbs < 10 ^ 40
theorem Er {x : Int} (h : -1000 <= x /\ x <= 1001) : x.natAbs < 10 ^ 40 := Nat.lt_of_le_of_lt (show x.natAbs <= 1001 by omega) dC
theorem FC : decide ((0 : Int) <= 10 /\ (10 : Int) <= 1000000 /\ Int.natAbs 10 < 2 ^ 64) = true := by decide
theorem Cq : (10 : Int) ^ Int.toNat 10 = 10000000000 := by decide +kernel
theorem r4 : i8 4 = true := yO oM oM
theorem xQ {p : List Int} (hp : p.length = 3) : Et (ip (p, ())) := by
 obtain ⟨d, p1, e1, l1, h0, h1⟩ := eF hp (m := 4) oM;obtain ⟨o, ho⟩ : ∃ o, o = ip (p, ()) := ⟨_, rfl⟩;rw [<- ho];unfold ip lR at ho;simp only [TT.tSeq, map_some] at ho
 (repeat rw [bind_some] at ho)
 dsimp only at ho;rw [e1, map_some, map_some] at ho
 (repeat rw [bind_some] at ho)
 dsimp only at ho
 (repeat rw [bind_some] at ho)
 dsimp only at ho;rw [aD iD, map_some, bind_some] at ho;dsimp only at ho;cases hq : (d == 0)
 ·rw [hq] at ho
  simp only [Bool.false_eq_true, if_false] at ho;rw [bind_some] at ho;dsimp only at ho
  (repeat rw [bind_some] at ho)
  dsimp only at ho;rw [aD iD, map_some, bind_some] at ho;dsimp only at ho;cases hq1 : (d == 1)
  ·obtain ⟨d2, p2, e2, l2, _, _⟩ := eF l1 (m := 9) oM
   simp only [hq1, Bool.false_eq_true, if_false, bind_some, map_some, e2] at ho;exact ⟨_, _, ho, l2, Er oM⟩
  ·obtain ⟨d2, p2, e2, l2, _, _⟩ := eF l1 (m := 2001) oM
   simp only [hq1, if_true, bind_some, map_some, e2] at ho;exact ⟨_, _, ho, l2, Er oM⟩
 ·rw [hq] at ho
  simp only [if_true] at ho;rw [bind_some] at ho;dsimp only at ho;rw [bind_some] at ho;dsimp only at ho;rw [aD r4, bind_some] at ho;dsimp only at ho;rw [Option.bind_assoc, Option.bind_assoc] at ho;rw [ho];refine vb (S := bT) (P := fun s => s.ypile_here.length = 3 /\ 0 <= s.ynumber_here /\ s.ynumber_here < (10000000000 : Int) ^ 4) Et ?_ fun s' h => ?_
  ·refine mX (S := bT) (fun k s => s.ypile_here.length = 3 /\ 0 <= s.ynumber_here /\ s.ynumber_here < (10000000000 : Int) ^ k) ⟨l1, (by decide : (0 : Int) <= 0), (by decide : (0 : Int) < (10000000000 : Int) ^ 0)⟩ ?_ (fun _ h => h)
   rintro k ⟨p2, w, n0, k0⟩ x hx ⟨hl, hn0, hn1⟩;dsimp only at hl hn0 hn1;have mm : gM n0 10000000000 = true := iE oM;obtain ⟨d2, p3, e2, l2, hd0, hd1⟩ := eF hl (m := 10000000000) oM;simp only [bind_some, map_some, aD FC, Cq, aD mm, e2];refine ⟨_, rfl, l2, ?_, ?_⟩
   ·show 0 <= n0 * 10000000000 + d2
    omega
   ·show n0 * 10000000000 + d2 < (10000000000 : Int) ^ (k + 1)
    rw [Int.pow_succ];omega
  ·obtain ⟨p2, w, n0, k0⟩ := s'
   obtain ⟨h, hn0, hn1⟩ := h;dsimp only at h hn0 hn1;have hb : n0.natAbs < 10 ^ 40 := by
    have e : (10000000000 : Int) ^ 4 = ((10 ^ 40 : Nat) : Int) := by decide
    rw [e] at hn1;omega
   obtain ⟨d2, p3, e2, l2, g0, g1⟩ := eF h (m := 2) oM;have hd : d2 = 0 \/ d2 = 1 := by omega
   dsimp only;rw [bind_some];dsimp only;rw [bind_some, map_some, bind_some];dsimp only;rw [aD AW, bind_some];dsimp only;rw [bind_some, bind_some];dsimp only;rw [e2, map_some, bind_some];dsimp only;rcases hd with rfl | rfl
   ·exact ⟨_, _, rfl, l2, hb⟩
   ·exact ⟨_, _, rfl, l2, by rw [Int.natAbs_neg]; exact hb⟩
theorem rR {p : List Int} (hp : p.length = 3) : ∃ v p', ip (p, ()) = some (v, p', ()) /\ p'.length = 3 /\ v.natAbs < 10 ^ 40 := xQ hp
section
variable {n N a b c : Nat} {w : Int}
theorem xE (f : Fk n N) : (1 : Int) * 2 ^ ((n : Int)).toNat - 1 = (N : Int) := by
 have h1 : 0 < 2 ^ n := Nat.two_pow_pos n
 have := f.e
 have e : (2 : Int) ^ n = ((2 ^ n : Nat) : Int) := by norm_cast
 rw [Int.toNat_natCast, Int.one_mul, e]; omega
theorem Cg (f : Fk n N) : decide (0 <= (n : Int) /\ (n : Int) <= 1000000 /\ Int.natAbs 1 < 2 ^ 64) = true := decide_eq_true ⟨by omega, by have := f.b; omega, by decide⟩
theorem EL {x : Int × Int} : gD [x].length = true := gv (by simp)
theorem EK {x y z : Int × Int} : gD [x, y, z].length = true := gv (by simp)
theorem xi (f : Fk n N) {p : List Int} (hp : p.length = 3) : ∃ w a b c p', oG (p, (n : Int), ()) = some ((dM w a b c, g5 w (a : Int) (b : Int) (c : Int)), p', (n : Int), ()) /\ p'.length = 3 /\ (1 <= a /\ a <= N) /\ (1 <= b /\ b <= N) /\ (1 <= c /\ c <= N) /\ 0 <= w /\ w <= 3 := by
 have hN := f.nn.l;have hN1 : 1 <= N := by
  have := f.e
  have h2 : 2 ^ 1 <= 2 ^ n := Nat.pow_le_pow_right oM f.b.1;omega
 obtain ⟨d1, p1, e1, l1, b1, c1⟩ := eF hp (m := (N : Int)) oM;obtain ⟨d2, p2, e2, l2, b2, c2⟩ := eF l1 (m := (N : Int)) oM;obtain ⟨d3, p3, e3, l3, b3, c3⟩ := eF l2 (m := (N : Int)) oM;obtain ⟨w, p4, e4, l4, b4, c4⟩ := eF l3 (m := 4) oM;obtain ⟨a, ha⟩ : ∃ a : Nat, 1 + d1 = (a : Int) := ⟨(1 + d1).toNat, by omega⟩;obtain ⟨b, hb⟩ : ∃ b : Nat, 1 + d2 = (b : Int) := ⟨(1 + d2).toNat, by omega⟩;obtain ⟨c, hc⟩ : ∃ c : Nat, 1 + d3 = (c : Int) := ⟨(1 + d3).toNat, by omega⟩;have ga := eJ f (a := a) oM;have gb := eJ f (a := b) oM;have gc := eJ f (a := c) oM;have ta := ga.tl; have tb := gb.tl; have tc := gc.tl;refine ⟨w, a, b, c, p4, ?_, l4, by omega, by omega, by omega, by omega, by omega⟩;unfold oG pq;simp only [TT.tSeq, bind_some, map_some, aD (Cg f), xE f, e1, e2, e3, e4, ha, hb, hc, aD iD, ga.ll, gb.ll, gc.ll];have q1 : decide ((Str.ofString "h(").length + (aS a).length <= sizeLine) = true := fj (by rw [lH]; omega)
 have q2 : decide ((Str.ofString "h(" ++ aS a).length + (Str.ofString ")").length <= sizeLine) = true := fj (by rw [aE, lH, lC]; omega);have q3 : decide ((Str.ofString "h(" ++ aS a).length + (Str.ofString "|").length <= sizeLine) = true := fj (by rw [aE, lH, pJ]; omega)
 have q4 : decide ((Str.ofString "h(" ++ aS a ++ Str.ofString "|").length + (aS b).length <= sizeLine) = true := fj (by rw [aE, aE, lH, pJ]; omega)
 have q5 : decide ((Str.ofString "h(" ++ aS a ++ Str.ofString "|" ++ aS b).length + (Str.ofString ")").length <= sizeLine) = true := fj (by rw [aE, aE, aE, lH, pJ, lC]; omega);have r1 : decide ((Str.ofString "s(").length + (aS a).length <= sizeLine) = true := fj (by rw [lS]; omega)
 have r2 : decide ((Str.ofString "s(" ++ aS a).length + (Str.ofString ";").length <= sizeLine) = true := fj (by rw [aE, lS, nG]; omega)
 have r3 : decide ((Str.ofString "s(" ++ aS a ++ Str.ofString ";").length + (aS b).length <= sizeLine) = true := fj (by rw [aE, aE, lS, nG]; omega)
 have r4 : decide ((Str.ofString "s(" ++ aS a ++ Str.ofString ";" ++ aS b).length + (Str.ofString ")").length <= sizeLine) = true := fj (by rw [aE, aE, aE, lS, nG, lC]; omega);have r5 : decide ((Str.ofString "s(" ++ aS a ++ Str.ofString ";" ++ aS b).length + (Str.ofString "|").length <= sizeLine) = true := fj (by rw [aE, aE, aE, lS, nG, pJ]; omega)
 have r6 : decide ((Str.ofString "s(" ++ aS a ++ Str.ofString ";" ++ aS b ++ Str.ofString "|").length + (aS c).length <= sizeLine) = true := fj (by rw [aE, aE, aE, aE, lS, nG, pJ]; omega)
 have r7 : decide ((Str.ofString "s(" ++ aS a ++ Str.ofString ";" ++ aS b ++ Str.ofString "|" ++ aS c).length + (Str.ofString ")").length <= sizeLine) = true := fj (by rw [aE, aE, aE, aE, aE, lS, nG, pJ, lC]; omega);by_cases w0 : w = 0
 ·subst w0
  simp only [beq_self_eq_true, if_true, aD q1, aD q2, aD EL, ga.ll, bind_some, map_some];rfl
 ·by_cases w1 : w = 1
  ·subst w1
   simp only [show ((1 : Int) == 0) = false by decide, beq_self_eq_true, Bool.false_eq_true, if_false, if_true, aD q1, aD q3, aD q4, aD q5, aD Ec, ga.ll, gb.ll, bind_some, map_some];rw [show Str.ofString "h(" ++ aS a ++ Str.ofString "|" ++ aS b ++ Str.ofString ")" = dM 1 a b c from ext' (by
    show _ = (Str.ofString "h(" ++ (aS a ++ Str.ofString "|" ++ aS b) ++ Str.ofString ")").cps.toList;simp only [bb, List.append_assoc])]
   rfl
  ·by_cases w2 : w = 2
   ·subst w2
    simp only [show ((2 : Int) == 0) = false by decide, show ((2 : Int) == 1) = false by decide, beq_self_eq_true, Bool.false_eq_true, if_false, if_true, aD r1, aD r2, aD r3, aD r4, aD EK, ga.ll, gb.ll, bind_some, map_some];rw [show Str.ofString "s(" ++ aS a ++ Str.ofString ";" ++ aS b ++ Str.ofString ")" = dM 2 a b c from ext' (by
     show _ = (Str.ofString "s(" ++ (aS a ++ Str.ofString ";" ++ aS b) ++ Str.ofString ")").cps.toList;simp only [bb, List.append_assoc])]
    rfl
   ·have w3 : w = 3 := by omega
    subst w3;simp only [show ((3 : Int) == 0) = false by decide, show ((3 : Int) == 1) = false by decide, show ((3 : Int) == 2) = false by decide, Bool.false_eq_true, if_false, if_true, aD r1, aD r2, aD r3, aD r5, aD r6, aD r7, aD Ea, ga.ll, gb.ll, gc.ll, bind_some, map_some];rw [show Str.ofString "s(" ++ aS a ++ Str.ofString ";" ++ aS b ++ Str.ofString "|" ++ aS c ++ Str.ofString ")" = dM 3 a b c from ext' (by
     show _ = (Str.ofString "s(" ++ (aS a ++ Str.ofString ";" ++ aS b ++ Str.ofString "|" ++ aS c) ++ Str.ofString ")").cps.toList;simp only [bb, List.append_assoc])]
    rfl
end
noncomputable def Bd {S ρ : Type} (o : Option (TR S ρ)) (P : S -> Prop) : Prop := ∃ s1, o = some (.nx s1) /\ P s1
theorem Bd.seq {S ρ : Type} {f g : S -> Option (TR S ρ)} {s : S} {P P1 : S -> Prop} (h1 : Bd (f s) P1) (h2 : ∀ s1, P1 s1 -> Bd (g s1) P) : Bd (TT.tSeq f g s) P := by
 obtain ⟨s1, e, p⟩ := h1;unfold TT.tSeq;rw [e]; exact h2 s1 p
theorem Bd.seqE {S ρ : Type} {f g : S -> Option (TR S ρ)} {s s1 : S} {P : S -> Prop} (e : f s = some (.nx s1)) (h2 : Bd (g s1) P) : Bd (TT.tSeq f g s) P := by
 unfold TT.tSeq;rw [e]; exact h2
theorem E5 : jL "list" "list" = some true := by decide +kernel
theorem E4 : jL "int" "bool" = some false := by decide +kernel
theorem E3 : jL "int" "int" = some true := by decide +kernel
theorem E1 : jL "tuple" "tuple" = some true := by decide +kernel
theorem xt (n : Int) : (rng 0 n).length = n.toNat := by simp [rng]
theorem qN {n k : Int} {j : Nat} (h : (rng 0 n)[j]? = some k) : k = (j : Int) /\ (j : Int) < n := by
 unfold rng at h;rw [List.getElem?_map] at h;rcases h2 : (List.range (n - 0).toNat)[j]? with _ | i
 ·rw [h2] at h; cases h
 ·rw [h2] at h
  obtain ⟨hi, e⟩ := List.getElem?_eq_some_iff.mp h2;rw [List.getElem_range] at e;rw [List.length_range] at hi;simp only [map_some, Option.some.injEq] at h;omega
theorem v8 {a b : List Int} : (Py.ok (TT.rM rI) a && Py.ok (rL rI) b && decide (min (Py.k (TT.rM rI)) (Py.k (rL rI)) <= 50)) = true := by
 have h1 : ∀ a : List Int, Py.ok (TT.rM rI) a = true := fun a => List.all_eq_true.mpr fun _ _ => rfl
 have h2 : ∀ a : List Int, Py.ok (rL rI) a = true := fun a => List.all_eq_true.mpr fun _ _ => rfl
 rw [h1, h2]; rfl
theorem xO {a b : List Int} : (Py.ok (rL rI) a && Py.ok (rL rI) b && decide (min (Py.k (rL rI)) (Py.k (rL rI)) <= 50)) = true := v8
theorem BO {a b : List Int} : (Py.ok (rL rI) a && Py.ok (TT.rM rI) b && decide (min (Py.k (rL rI)) (Py.k (TT.rM rI)) <= 50)) = true := v8
theorem Eo (v : List Int) : sy (fun a b : Int => a == b) v v = true := sx (fun a => by simp) v
theorem vP {v : List Int} (hl : v.length <= 1000) : oI (v, v, ()) = some (true, v, v, ()) := by
 have h0 : gD ([] : List Int).length = true := gv (by simp);unfold oI pw;simp only [TT.tSeq, bind_some, map_some, E5, Bool.not_true, Bool.false_eq_true, if_false, aD BO, Eo];rw [aD (gv hl), wg (f := fun x => x) (p := fun _ => false) (fun x _ => by simp only [E4, E3, map_some, bind_some, Bool.false_eq_true, if_false]; rfl) (fun x _ h => by cases h)];have e : (v.filter fun _ => false).map (fun x => x) = [] := by simp
 simp only [e, bind_some, if_true, map_some, aD h0, aD xO];rfl
theorem tZ {S α ρ γ γ' : Type} {put : S -> α -> S} {b : S -> Option (TR S ρ)} {xs : List α} {s : S} {k : TR S ρ -> Option γ'} {k2 : γ' -> Option γ} {P : S -> Prop} (Q : Option γ -> Prop) (h : ∃ s', cO put b xs s = some (.nx s') /\ P s') (hk : ∀ s', P s' -> Q ((k (.nx s')).bind k2)) : Q (((cO put b xs s).bind k).bind k2) := by
 obtain ⟨s', e, p⟩ := h;rw [e]; exact hk s' p
noncomputable def tx : List cr -> Str
 | [] => Str.ofString ""
 | p :: ps => cm p ps
theorem AJ {n : Int} {N : Nat} {qs : List cr} {q : cr} : RT n N (qs ++ [q]) = eS (RT n N qs) (Rn n q) := by
 unfold RT; rw [List.foldl_append]; rfl
section
variable {n N : Nat}
theorem wX {qs : List cr} (h : ∀ q ∈ qs, Pz n N q) : (RT n N qs).length = N := by
 have go : ∀ (qs : List cr) (r : List Int), (∀ q ∈ qs, Pz n N q) -> r.length = N -> (qs.foldl (fun c q => eS c (Rn n q)) r).length = N := by
  intro qs
  induction qs with
  | nil => intro r _ hr; exact hr
  | cons q qs ih =>
   intro r h hr;exact ih _ (fun x hx => h x (List.mem_cons_of_mem _ hx)) (sN hr (h q List.mem_cons_self).r.2)
 exact go qs _ h List.length_replicate
theorem zt {qs : List cr} {q : cr} (h : ∀ q ∈ qs, Pz n N q) (hq : Pz n N q) (e : qs ≠ []) : tx (qs ++ [q]) = tx qs ++ kF q.1 ++ jw q := by
 cases qs with
 | nil => exact absurd rfl e
 | cons p ps => exact xf (h p List.mem_cons_self).ne hq.ne
theorem AS {qs : List cr} (h : ∀ q ∈ qs, Pz n N q) (hl : qs.length <= 40) : (tx qs).length <= 20201 := by
 cases qs with
 | nil => show (Str.ofString "").length <= _; rw [br, pP]; decide
 | cons p ps => exact oF (h p List.mem_cons_self).k (fun q hq => (h q (List.mem_cons_of_mem _ hq)).k) (by simp only [List.length_cons] at hl; omega)
theorem CS {qs : List cr} (h : ∀ q ∈ qs, Pz n N q) : ∀ c ∈ (tx qs).cps.toList, c < 1114112 := fun c hc => by
 cases qs with
 | nil => rw [show tx [] = Str.ofString "" from rfl, pP] at hc; cases hc
 | cons p ps => have := yJ (h p List.mem_cons_self).k (fun q hq => (h q (List.mem_cons_of_mem _ hq)).k) c hc; omega
theorem CT {qs : List cr} (h : ∀ q ∈ qs, Pz n N q) (e : qs ≠ []) : (tx qs == Str.ofString "") = false := by
 cases qs with
 | nil => exact absurd rfl e
 | cons p ps =>
  refine jR fun e2 => ?_
  have := vG (ps := ps) (h p List.mem_cons_self)
  rw [br, show cm p ps = tx (p :: ps) from rfl, e2, pP] at this;simp at this
theorem BT {k : Nat} (h : k < 10 ^ 40) : decide (((k : Nat) : Int).natAbs.log2 < 1920) = true := by
 refine decide_eq_true ?_;rw [Int.natAbs_natCast];by_cases e : k = 0
 ·subst e; decide
 ·exact (Nat.log2_lt e).mpr (Nat.lt_trans h (by decide +kernel))
theorem Fu {d : Int} (h : 0 <= d /\ d < 2) : ∃ s : Int, (s = 1 \/ s = -1) /\ L2.atI [Str.ofString "", Str.ofString "-"] d = some (pE s) /\ L2.atI [Str.ofString " + ", Str.ofString " - "] d = some (kF s) /\ ∀ x : Int, L2.atI [x, -x] d = some (s * x) := by
 have : d = 0 \/ d = 1 := by omega
 rcases this with rfl | rfl
 ·exact ⟨1, .inl rfl, rfl, rfl, fun x => by rw [Int.one_mul]; rfl⟩
 ·exact ⟨-1, .inr rfl, rfl, rfl, fun x => by rw [Int.neg_one_mul]; rfl⟩
theorem AX {x y : Str} : gD [x, y].length = true := gv (by simp)
theorem EO {x y : Int} : gD [x, y].length = true := gv (by simp)
theorem AH {m : Option Nat} (h : BN m) : (oj m).length <= 41 := by
 cases m with
 | none => show (Str.ofString "").length <= _; rw [br, pP]; decide
 | some k => show (bU (k : Int) ++ Str.ofString " ").length <= _; rw [aE, t4]; have := e7 (h k rfl).2; omega
theorem Dj (f : Fk n N) : (1 : Int) * 2 ^ n - 1 = (N : Int) := by
 have := xE f; rwa [Int.toNat_natCast] at this
theorem Fd (v : Int) : (if v < 0 then -v else v) = ((v.natAbs : Nat) : Int) := by split <;> omega
theorem C4 (s : Int) : (kF s).length <= 3 := by unfold kF; split <;> decide +kernel
theorem C6 (s : Int) : (pE s).length <= 1 := by unfold pE; split <;> decide +kernel
structure CG (ns : List Int) (st n N : Nat) (qs : List cr) (s : aG) : Prop where
 e1 : s.yscript = ns
 e2 : s.ystart = (st : Int)
 e3 : s.yn = (n : Int)
 e4 : s.yrow = RT n N qs
 e5 : s.ytext = tx qs
 h : ∀ q ∈ qs, Pz n N q
theorem zy (f : Fk n N) (ns : List Int) (st : Nat) : ∃ p ps, qD (ns, (st : Int), (n : Int), ()) = some ((cm p ps, RT n N (p :: ps)), ns, (st : Int), (n : Int), ()) /\ (∀ q ∈ p :: ps, Pz n N q) /\ ps.length <= 40 := by
 obtain ⟨p0, ep0, lp0⟩ := qW ns st;obtain ⟨d, p1, ed, lp1, d0, d1⟩ := eF lp0 (m := 5) oM;have rk : i8 (1 + d) = true := yO oM oM;have hl : (rng 0 (1 + d)).length = (1 + d).toNat := xt _;unfold qD sO;simp only [TT.tSeq, bind_some, map_some, aD AY, aD (Cg f), xE f, Dj f, aD (uU f.nn.l), Int.toNat_natCast, vn, ep0, ed, aD rk];refine tZ (S := aG) (P := fun s => ∃ qs, CG ns st n N qs s /\ qs.length = (1 + d).toNat) (fun o => ∃ p ps, o = some ((cm p ps, RT n N (p :: ps)), ns, (st : Int), (n : Int), ()) /\ (∀ q ∈ p :: ps, Pz n N q) /\ ps.length <= 40) ?_ ?_
 ·refine mX (S := aG) (fun j s => ∃ qs, CG ns st n N qs s /\ qs.length = j) ⟨[], ⟨rfl, rfl, rfl, rfl, rfl, fun _ h => nomatch h⟩, rfl⟩ ?_ (fun s ⟨qs, q1, q2⟩ => ⟨qs, q1, by rw [q2, hl]⟩)
  rintro j ⟨a1, a2, a3, a4, a5, a6, a7, a8, a9, a10, a11, a12⟩ x hx ⟨qs, ⟨f1, f2, f3, f4, f5, f6⟩, hj⟩;dsimp only at f1 f2 f3 f4 f5;subst f1; subst f2; subst f3; subst f4; subst f5;obtain ⟨rfl, hjd⟩ := qN hx;have hj5 : j < 5 := by omega
  obtain ⟨p2, ep2, lp2⟩ := qW a1 (st + 1 + j);rw [show ((st + 1 + j : Nat) : Int) = (st : Int) + 1 + (j : Int) by omega] at ep2;obtain ⟨w, a, b, c, p3, et, lp3, ha, hb, hc, hw⟩ := xi f lp2;obtain ⟨v, p4, en, lp4, hv⟩ := rR lp3;obtain ⟨lo, p5, el, lp5, l0, l1⟩ := eF lp4 (m := 2) oM;obtain ⟨s, hs, i1, i2, i3⟩ := Fu ⟨l0, l1⟩;have fl := m7 (w := w) (eJ f ha) (eJ f hb) (eJ f hc);have k1 := e7 hv;have g1 : decide ((bU ((v.natAbs : Nat) : Int)).length + (Str.ofString " ").length <= sizeLine) = true := fj (by rw [t4]; omega);show Bd _ _;refine Bd.seqE (by simp only [ep2, map_some]; rfl) ?_;refine Bd.seqE (by simp only [et, map_some]; rfl) ?_;refine Bd.seqE (by simp only [en, map_some, bind_some, Fd]; rfl) ?_;refine Bd.seqE (by simp only [el, map_some]; rfl) ?_;refine Bd.seqE (by
   simp only [aD (BT hv), bind_some];rw [show Str.ofString (toString ((v.natAbs : Nat) : Int)) = bU ((v.natAbs : Nat) : Int) from rfl, aD g1, map_some, map_some]
   ) ?_
  refine Bd.seq (P1 := fun s1 => ∃ m pp, BN m /\ s1 = (⟨a1, (st : Int), (n : Int), RT n N qs, tx qs, (j : Int), pp, dM w a b c, g5 w a b c, mW m, lo, oj m⟩ : aG)) ?_ ?_
  ·show Bd _ _
   unfold Bd;simp only [aD iD, map_some, bind_some];by_cases k0 : v.natAbs = 0
   ·have e : (((v.natAbs : Nat) : Int) == 0) = true := by rw [k0]; rfl
    simp only [e, if_true, bind_some];exact ⟨_, rfl, none, p5, fun k h => (nomatch h), rfl⟩
   ·have e : (((v.natAbs : Nat) : Int) == 0) = false := beq_false_of_ne oM
    by_cases k2 : v.natAbs = 1
    ·have e2 : (((v.natAbs : Nat) : Int) == 1) = true := by rw [k2]; rfl
     obtain ⟨d', p6, e6, lp6, _, _⟩ := eF lp5 (m := 2) oM;simp only [e, e2, Bool.false_eq_true, if_false, if_true, bind_some, e6, map_some, aD iD];cases d' == 0
     ·exact ⟨_, rfl, some v.natAbs, p6, fun k h => by cases h; omega, rfl⟩
     ·exact ⟨_, rfl, none, p6, fun k h => (nomatch h), rfl⟩
    ·have e2 : (((v.natAbs : Nat) : Int) == 1) = false := beq_false_of_ne oM
     simp only [e, e2, Bool.false_eq_true, if_false, bind_some];exact ⟨_, rfl, some v.natAbs, p5, fun k h => by cases h; omega, rfl⟩
  ·rintro _ ⟨m, pp, hm, rfl⟩
   obtain ⟨hz, hr⟩ := pz f ha hb hc hw hs hm;have tk := vI (w := w) f ha hb hc;have rl := wX f6;have ea := AI (r := RT n N qs) (ts := g5 w a b c) (t := s * mW m) (by rw [rl]; exact tk);rw [<- CB rl (fun p hp => ⟨(tk p hp).1, (tk p hp).2.1⟩), <- hr, <- AJ] at ea;have hall : ∀ q ∈ qs ++ [jY s m w a b c], Pz n N q := fun q hq => by
    rcases List.mem_append.mp hq with hq | hq
    ·exact f6 q hq
    ·rw [List.mem_singleton.mp hq]; exact hz
   have tl := AS f6 oM;have al := AH hm;have bl := C4 s;have zl := C6 s;refine Bd.seqE (by simp only [aD EO, bind_some, i3, map_some, ea]; rfl) ?_;have oe : (Py.ok TT.rS (tx qs) && Py.ok TT.rS (Str.ofString "") && decide (min (Py.k TT.rS) (Py.k TT.rS) <= 50)) = true := lf (CS f6) (fun c hc => by rw [pP] at hc; cases hc);unfold Bd;simp only [aD oe, map_some, bind_some];by_cases q0 : qs = []
   ·subst q0
    have y1 : decide ((pE s).length + (oj m).length <= sizeLine) = true := fj oM;have y2 : decide ((pE s ++ oj m).length + (dM w a b c).length <= sizeLine) = true := fj (by rw [aE]; omega);simp only [show (tx [] == Str.ofString "") = true from beq_self_eq_true _, if_true, aD AX, bind_some, i1, aD y1, aD y2, map_some];refine ⟨_, rfl, [jY s m w a b c], ⟨rfl, rfl, rfl, rfl, ?_, hall⟩, by simp only [List.length_nil] at hj; subst hj; rfl⟩;show pE s ++ oj m ++ dM w a b c = cm (jY s m w a b c) [];rw [zr, show jw (jY s m w a b c) = _ from vc s m _];apply ext';simp only [bb, List.append_assoc];rfl
   ·have y1 : decide ((tx qs).length + (kF s).length <= sizeLine) = true := fj oM
    have y2 : decide ((tx qs ++ kF s).length + (oj m).length <= sizeLine) = true := fj (by rw [aE]; omega);have y3 : decide ((tx qs ++ kF s ++ oj m).length + (dM w a b c).length <= sizeLine) = true := fj (by rw [aE, aE]; omega);simp only [CT f6 q0, Bool.false_eq_true, if_false, aD AX, bind_some, i2, aD y1, aD y2, aD y3, map_some];refine ⟨_, rfl, qs ++ [jY s m w a b c], ⟨rfl, rfl, rfl, rfl, ?_, hall⟩, by rw [List.length_append, hj]; rfl⟩;show tx qs ++ kF s ++ oj m ++ dM w a b c = tx (qs ++ [jY s m w a b c]);rw [zt f6 hz q0, show jw (jY s m w a b c) = _ from vc s m _];apply ext';simp only [bb, List.append_assoc];rfl
 ·rintro ⟨a1, a2, a3, a4, a5, a6, a7, a8, a9, a10, a11, a12⟩ ⟨qs, ⟨f1, f2, f3, f4, f5, f6⟩, hj⟩
  dsimp only at f1 f2 f3 f4 f5;subst f1; subst f2; subst f3; subst f4; subst f5;cases qs with
  | nil => simp only [List.length_nil] at hj; omega
  | cons p ps => exact ⟨p, ps, rfl, f6, by simp only [List.length_cons] at hj; omega⟩
end
theorem FE {a b : List Int × Str × Int} (ha : ∀ c ∈ a.2.1.cps.toList, c < 1114112) (hb : ∀ c ∈ b.2.1.cps.toList, c < 1114112) : (Py.ok (gJ (rL rI) TT.rS rI) a && Py.ok (gJ (TT.rM rI) TT.rS rI) b && decide (min (Py.k (gJ (rL rI) TT.rS rI)) (Py.k (gJ (TT.rM rI) TT.rS rI)) <= 50)) = true := by
 have h1 : ∀ a : List Int, Py.ok (TT.rM rI) a = true := fun a => List.all_eq_true.mpr fun _ _ => rfl
 have h2 : ∀ a : List Int, Py.ok (rL rI) a = true := fun a => List.all_eq_true.mpr fun _ _ => rfl
 have k : ∀ a : List Int × Str × Int, (∀ c ∈ a.2.1.cps.toList, c < 1114112) -> Py.ok (gJ (TT.rM rI) TT.rS rI) a = true := fun a ha => by
  show (Py.ok (TT.rM rI) a.1 && Py.ok TT.rS a.2.1 && Py.ok rI a.2.2) = true;rw [h1, qm ha]; rfl
 have k2 : ∀ a : List Int × Str × Int, (∀ c ∈ a.2.1.cps.toList, c < 1114112) -> Py.ok (gJ (rL rI) TT.rS rI) a = true := fun a ha => by
  show (Py.ok (rL rI) a.1 && Py.ok TT.rS a.2.1 && Py.ok rI a.2.2) = true;rw [h2, qm ha]; rfl
 rw [k2 a ha, k b hb]; rfl
theorem EV (g : Str) : (mk g).length <= 4 := by unfold mk; split <;> decide +kernel
theorem EN {x y : Str × Str} : gD [x, y].length = true := gv (by simp)
theorem FH {x : Int} (h : x.natAbs < 10 ^ 40) : decide (x.natAbs.log2 < 1920) = true := BT h
theorem law_t (ns : List Int) (hl : ns.length <= 63) : ∃ q, uQ (ns, ()) = some (true, q) := by
 have r8 : i8 8 = true := yO oM oM;have r2 : i8 2 = true := yO oM oM;unfold uQ vx;simp only [TT.tSeq, bind_some, map_some, aD r8];refine tZ (S := bq) (P := fun s => s.yscript = ns) (fun o => ∃ q, o = some (true, q)) ?_ ?_
 ·refine mX (S := bq) (fun j s => s.yscript = ns) rfl ?_ (fun s q => q)
  rintro j ⟨a1, a2, a3, a4, a5, a6, a7, a8, a9, a10, a11, a12⟩ x hx hi;dsimp only at hi;subst hi;obtain ⟨rfl, hj⟩ := qN hx;have hm : gM 8 (j : Int) = true := iE oM;obtain ⟨p, ep, lp⟩ := qW a1 (8 * j + 7);rw [show ((8 * j + 7 : Nat) : Int) = 8 * (j : Int) + 7 by omega] at ep;obtain ⟨d, p2, ed, lp2, d0, d1⟩ := eF lp (m := 4) oM;obtain ⟨v, p3, ev, lp3, hv⟩ := rR lp2;obtain ⟨n, hn⟩ : ∃ n : Nat, 1 + d = (n : Int) := ⟨(1 + d).toNat, by omega⟩;have hn4 : 1 <= n /\ n <= 4 := by omega
  have f := DW hn4;generalize hNe : 2 ^ n - 1 = N at f;have hN := f.nn.l;obtain ⟨q, qs, es, hz, hq⟩ := zy f a1 (8 * j);rw [show ((8 * j : Nat) : Int) = 8 * (j : Int) by omega] at es;have hp := hz q List.mem_cons_self;have hps : ∀ r ∈ qs, Pz n N r := fun r hr => hz r (List.mem_cons_of_mem _ hr)
  have rl := wX hz;have tl : (cm q qs).length <= 20201 := oF hp.k (fun r hr => (hps r hr).k) hq;show Bd _ _;refine Bd.seqE (by simp only [aD hm, ep, map_some, bind_some]; rfl) ?_;refine Bd.seqE (by simp only [ed, hn, map_some, bind_some]; rfl) ?_;refine Bd.seqE (by simp only [aD hm, es, map_some, bind_some]; rfl) ?_;refine Bd.seqE (by simp only [ev, map_some, bind_some]; rfl) ?_;refine Bd.seq (P1 := fun s => s.yscript = a1 /\ s.yn = (n : Int) /\ s.ytext = cm q qs /\ s.yrow = RT n N (q :: qs) /\ s.ynumber_here = v) ?_ ?_
  ·simp only [aD r2, bind_some]
   refine mY (S := bq) (I := fun s => s.yscript = a1 /\ s.yn = (n : Int) /\ s.ytext = cm q qs /\ s.yrow = RT n N (q :: qs) /\ s.ynumber_here = v) ?_ ⟨rfl, rfl, rfl, rfl, rfl⟩;rintro ⟨b1, b2, b3, b4, b5, b6, b7, b8, b9, b10, b11, b12⟩ y hy ⟨f1, f2, f3, f4, f5⟩;dsimp only at f1 f2 f3 f4 f5;subst f1; subst f2; subst f3; subst f4; subst f5;show Bd _ _;refine Bd.seqE (by simp only [yN f hp hps hq, map_some]; rfl) ?_;refine Bd.seqE (by simp only [vP (v := RT n N (q :: qs)) oM, map_some, bind_some, Bool.not_true, Bool.false_eq_true, if_false]; rfl) ?_;exact ⟨_, rfl, rfl, rfl, rfl, rfl, rfl⟩
  ·rintro ⟨b1, b2, b3, b4, b5, b6, b7, b8, b9, b10, b11, b12⟩ ⟨f1, f2, f3, f4, f5⟩
   dsimp only at f1 f2 f3 f4 f5;subst f1; subst f2; subst f3; subst f4; subst f5;simp only [aD EN, bind_some];refine (mY (S := bq) (I := fun s => s.yscript = b1 /\ s.yn = (n : Int) /\ s.ytext = cm q qs /\ s.yrow = RT n N (q :: qs) /\ s.ynumber_here = b7) ?_ ⟨rfl, rfl, rfl, rfl, rfl⟩).imp fun s h => ⟨h.1, h.2.1⟩
   rintro ⟨c1, c2, c3, c4, c5, c6, c7, c8, c9, c10, c11, c12⟩ y hy ⟨f1, f2, f3, f4, f5⟩;dsimp only at f1 f2 f3 f4 f5;subst f1; subst f2; subst f3; subst f4; subst f5;obtain ⟨g, hg, rfl⟩ : ∃ g, vi g /\ y = (mk g, g) := by
    simp only [List.mem_cons, List.not_mem_nil, or_false] at hy;rcases hy with rfl | rfl
    ·exact ⟨Str.ofString ">", .inr rfl, by decide +kernel⟩
    ·exact ⟨Str.ofString "=", .inl rfl, by decide +kernel⟩
   have ml := EV g;have nl := (tX hv).2;have y1 : decide ((cm q qs).length + (mk g).length <= sizeLine) = true := fj oM;have y2 : decide ((cm q qs ++ mk g).length + (bU c7).length <= sizeLine) = true := fj (by rw [aE]; omega);show Bd _ _;refine Bd.seqE (by
    simp only [aD y1, aD (FH hv), bind_some, map_some];rw [show Str.ofString (toString c7) = bU c7 from rfl, aD y2];simp only [bind_some, map_some, xr f hp hps hq hv hg];rfl) ?_
   unfold Bd;simp only [E1, map_some, bind_some, Bool.not_true, Bool.false_eq_true, if_false];rw [aD (FE (a := (RT n N (q :: qs), g, c7)) (b := (RT n N (q :: qs), g, c7)) (A3 hg) (A3 hg))];simp only [Eo, beq_self_eq_true, Bool.and_self, map_some, bind_some, Bool.not_true, Bool.false_eq_true, if_false, vP (v := RT n N (q :: qs)) oM];exact ⟨_, rfl, rfl, rfl, rfl, rfl, rfl⟩
 ·rintro ⟨a1, a2, a3, a4, a5, a6, a7, a8, a9, a10, a11, a12⟩ hs
  exact ⟨_, rfl⟩
theorem holds : ∀ ns : List Int, ns.length <= 63 -> ∃ d, jD [.lst false (ns.map D.int)] = some (.bl true, [d]) := yo DJ law_t
end LW
def PySem.W.Fast.tw13540105875984218533:=()
def PySem.W.Fast.tw9384466429297309297:=()
def PySem.W.Fast.tw962245478840419708:=()
def PySem.W.Fast.tw9139187032959238132:=()
def PySem.W.Fast.tw3620305735874006761:=()
def PySem.W.Fast.tw7976959665401584227:=()
def PySem.W.Fast.tw6085452362043331046:=()
def PySem.W.Fast.tw8290239186368105828:=()
def PySem.W.Fast.tw7532076046409776173:=()
def PySem.W.Fast.tw3839342118217939335:=()
def PySem.W.Fast.tw865448181595202303:=()
def PySem.W.Fast.tw4384176188463513454:=()
def PySem.W.Fast.tw4046343567981321070:=()
def PySem.W.Fast.tw17328188122869393331:=()
def PySem.W.Fast.tw5918171806000023369:=()
def PySem.W.Fast.tw446997620884531784:=()
open PySem PySem.W PyProof.Rows
set_option maxRecDepth 100000 in
set_option maxHeartbeats 0 in
theorem PySem.Challenge.cw_telltight_k75_sums_of_terms_holds : PySem.Challenge.rw_telltight_k75_sums_of_terms.Holds := by
 w_on; o_law; k_head; (case hw => w_witness2)
 k_fill
 refine LW.Ez (l := PySem.Challenge.rw_telltight_k75_sums_of_terms) rfl rfl (fun w h Y => kIn_of Y) LW.holds ?F
 case F =>
  intro w mg fa h KX G hmg;refine' LW.CA KX G hmg ?a0 ?l0 ?c0 ?k0 ?a1 ?l1 ?c1 ?k1 ?a2 ?l2 ?c2 ?k2 ?a3 ?l3 ?c3 ?k3 ?a4 ?l4 ?c4 ?k4 ?a5 ?l5 ?c5 ?k5 ?a6 ?l6 ?c6 ?k6 ?a7 ?l7 ?c7 ?k7 ?a8 ?l8 ?c8 ?k8 ?a9 ?l9 ?c9 ?k9 ?a10 ?l10 ?c10 ?k10 ?a11 ?l11 ?c11 ?k11 ?a12 ?l12 ?c12 ?k12 ?a13 ?l13 ?c13 ?k13 ?a14 ?l14 ?c14 ?k14 ?a15 ?l15 ?c15 ?k15 ?a16 ?l16 ?c16 ?k16 ?a17 ?l17 ?c17 ?k17 ?a18 ?l18 ?c18 ?k18 ?a19 ?l19 ?c19 ?k19 ?a20 ?l20 ?c20 ?k20 ?a21 ?l21 ?c21 ?k21 ?a22 ?l22 ?c22 ?k22 ?a23 ?l23 ?c23 ?k23 ?a24 ?l24 ?c24 ?k24 ?a25 ?l25 ?c25 ?k25 ?a26 ?l26 ?c26 ?k26 ?a27 ?l27 ?c27 ?k27 ?a28 ?l28 ?c28 ?k28 ?a29 ?l29 ?c29 ?k29 ?z_abs ?z_all ?z_bool ?z_enumerate ?z_int ?z_isinstance ?z_len ?z_list ?z_range ?z_str ?z_tuple ?z_zip ?v_FIGURES ?v_LETTERS ?v_MOST_FIGURES ?v_MOST_NAMES
  case a0|a1|a2|a3|a4|a5|a6|a7|a8|a9|a10|a11|a12|a13|a14|a15|a16|a17|a18|a19|a20|a21|a22|a23|a24|a25|a26|a27|a28|a29 => delta LW.dX; k_is
  case l0|l1|l2|l3|l4|l5|l6|l7|l8|l9|l10|l11|l12|l13|l14|l15|l16|l17|l18|l19|l20|l21|l22|l23|l24|l25|l26|l27|l28|l29 => delta LW.dY LW.bW; k_is
  case c0|c1|c2|c3|c4|c5|c6|c7|c8|c9|c10|c11|c12|c13|c14|c15|c16|c17|c18|c19|c20|c21|c22|c23|c24|c25|c26|c27|c28|c29 => delta LW.d6; k_is
  case k0|k1|k2|k3|k4|k5|k6|k7|k8|k9|k10|k11|k12|k13|k14|k15|k16|k17|k18|k19|k20|k21|k22|k23|k24|k25|k26|k27|k28|k29 => delta LW.dZ; k_is
  case z_abs|z_all|z_bool|z_enumerate|z_int|z_isinstance|z_len|z_list|z_range|z_str|z_tuple|z_zip|v_FIGURES|v_LETTERS|v_MOST_FIGURES|v_MOST_NAMES => k_is
#print axioms PySem.Challenge.cw_telltight_k75_sums_of_terms_holds
