import PyProof.Rows.All
import Wide.All
import OpenK.AllK
import Wide.FinOn
import Lean
import PyProof.EqAt
import PyProof.EqKinds
import PyProof.TupleCall
import PyProof.FactsAll.list_3
import PyProof.EnumMake
import PyProof.Draws
import PyProof.Rows.CallKwBuiltin
import PyProof.ListRange
import PyProof.TupleIter
import PyProof.Rows.Range3
import PyProof.ZipIter
import PyProof.FactsAll.int_0
import PyProof.FactsAll.int_6
import PyProof.Rows.RuleM_int
import PyProof.ReprNest
import PyProof.ReprLen
import PyProof.StrOps
import KE.KDictOf
import PyProof.AttrMissHeap
import PyProof.MeetsDictList
import PyProof.DictRoadsH
import KE.KSortTup
import KE.KDictList
import PyProof.Rows.SortShell
import PyProof.MeetsSeq3
import PyProof.FactsAll.list_2
import KE.KSortAsk
import PyProof.TupleOfSeq
import PyProof.StrCalls2
import PyProof.StrCalls
import PyProof.Rows.StrJoin2
import KE.KIntText
import PyProof.CallStr
import PyProof.Rows.StrLen
import PyProof.StrBlockH
import PyProof.SliceStr2
import PyProof.StrWalks
import PyProof.StrLoop
import PyProof.Rows.FStr
import PyProof.StrOps2
import KE.KItemsList
import Lean
import PySem.Challenge.RW_telltight_k83_whole_two_safes
set_option bootstrap.genMatcherCode false
set_option compiler.extract_closed false
open Option (bind_some map_some)
open PySem.W (InstAt callWith_K cellsFrom_some codeIn codeRec_of findIn fnOf hasDictIn hideAll hideAll_get hideAll_none hideAll_size instObj kIn_of keepIn ki_setAt ki_setBack kia_one kitOne kitx_bool kitx_dict kitx_float kitx_int kitx_list kitx_none kitx_own kitx_str kitx_tuple lookIn methodObj mg_none_of mg_of mroIn nsIn of_hideAll plainGet plainOver specialIn takesIn)
theorem oM {p : Prop} (h : p:=by first | omega | (refine @id (@Ne Nat _ _) ?_; omega)) : p:=h
theorem dC {p : Prop} (h : p:=by decide) : p:=h
set_option Elab.async false
set_option linter.all false
set_option maxRecDepth 100000
theorem ma (_ : True:=by first | exact .inl rfl | exact .inr rfl | assumption) : True:=trivial
theorem cR (_ : True:=by decide) : True:=trivial
theorem GN (_ : True:=by first | exact zg _ dC dC | rfl) : True:=trivial
theorem kS (_ : True:=by intro _; rfl) : True:=trivial
theorem aI (_ : True:=by rfl) : True:=trivial
theorem Ax (_ : True:=by exact trivial) : True:=trivial
theorem rH (_ : True:=by first | exact Or.inl rfl | exact Or.inr (Or.inl rfl) | exact Or.inr (Or.inr rfl)) : True:=trivial
theorem hZ (_ : True:=by intro _ _; rfl) : True:=trivial
theorem vR (_ : True:=by first | exact Or.inl rfl | exact Or.inr rfl) : True:=trivial
theorem lZ (_ : True:=by (first | exact Le.refl | (repeat (first | exact Le.nil | refine Le.som inferInstance ?_ | refine Le.non ?_)))) : True:=trivial
theorem gn (_ : True:=by intro _; repeat (first | exact Fr.nil | refine Fr.som (fun _ _ h=>h) ?_ | refine Fr.non ?_)) : True:=trivial
theorem Gb (_ : True:=by infer_instance) : True:=trivial
theorem DL (_ : True:=by intro _; repeat (first | exact Le.nil | refine Le.som inferInstance ?_ | refine Le.non ?_)) : True:=trivial
theorem Ga (_ : True:=by intro _; (first | exact Le.refl | (repeat (first | exact Le.nil | refine Le.som inferInstance ?_ | refine Le.non ?_)))) : True:=trivial
namespace L2
open PySem PySem.Spec PyProof.Rows
noncomputable abbrev fO:=Sum Int Str
noncomputable def z7 : fO -> Value -> Bool
 | .inl k,v=>Value.isInt k v
 | .inr x,v=>Value.isStrOf x v
noncomputable def FD (w : World) : fO -> Int
 | .inl k=>hashInt k
 | .inr x=>hashStr w x
theorem dY : ∀ {k : fO} {v : Value},z7 k v = true -> (∃ i t,k = Sum.inl i /\ v = Value.int i t) \/ (∃ x t,k = Sum.inr x /\ v = Value.str x t)
 | .inl i,v,h=>by
  obtain ⟨t,e⟩:=Value.isInt_shape (k:=i) (v:=v) h;exact .inl ⟨i,t,rfl,e⟩
 | .inr x,v,h=>by
  obtain ⟨t,e⟩:=Value.isStrOf_shape (x:=x) (v:=v) h;exact .inr ⟨x,t,rfl,e⟩
theorem Da (a b : Int) : decide ((Sum.inl a : fO) = Sum.inl b) = (a == b):=by
 by_cases e : a = b
 ·subst e; simp
 ·have h : ¬ (Sum.inl a : fO) = Sum.inl b:=fun q=>e (Sum.inl.inj q)
  rw [decide_eq_false h];exact (beq_eq_false_iff_ne.mpr e).symm
theorem C7 (a b : Str) : decide ((Sum.inr a : fO) = Sum.inr b) = decide (a = b):=by
 by_cases e : a = b
 ·subst e; simp
 ·have h : ¬ (Sum.inr a : fO) = Sum.inr b:=fun q=>e (Sum.inr.inj q)
  rw [decide_eq_false h,decide_eq_false e]
theorem C9 (a : Int) (b : Str) : decide ((Sum.inl a : fO) = Sum.inr b) = false:=decide_eq_false (fun q=>nomatch q)
theorem C8 (a : Str) (b : Int) : decide ((Sum.inr a : fO) = Sum.inl b) = false:=decide_eq_false (fun q=>nomatch q)
noncomputable def uZ (prog : Program) (w : World) : PySem.KeyKind prog w fO where
 is:=z7
 hash:=FD w
 inj:=fun v a b ha hb=>by
  rcases dY ha with ⟨i,t,rfl,rfl⟩ | ⟨x,t,rfl,rfl⟩
  ·rcases dY hb with ⟨j,u,rfl,e⟩ | ⟨y,u,rfl,e⟩
   ·injection e with e1 _; rw [e1]
   ·exact nomatch e
  ·rcases dY hb with ⟨j,u,rfl,e⟩ | ⟨y,u,rfl,e⟩
   ·exact nomatch e
   ·injection e with e1 _; rw [e1]
 byValue:=fun k v h=>by
  rcases dY h with ⟨i,t,rfl,rfl⟩ | ⟨x,t,rfl,rfl⟩ <;> rfl
 pyHash:=fun hv h=>by
  rcases dY hv with ⟨i,t,rfl,rfl⟩ | ⟨x,t,rfl,rfl⟩
  ·exact wpAny_pyHash_int h
  ·exact wpAny_pyHash_str h
 eqBool:=fun hu hv h=>by
  rcases dY hu with ⟨i,t,rfl,rfl⟩ | ⟨x,t,rfl,rfl⟩
  ·rcases dY hv with ⟨j,u,rfl,rfl⟩ | ⟨y,u,rfl,rfl⟩
   ·rw [Da] at h; exact wpAny_eqBool_int h
   ·rw [C9] at h; exact SeqAt.EqAt.int_str i t y u _ _ _ _ h
  ·rcases dY hv with ⟨j,u,rfl,rfl⟩ | ⟨y,u,rfl,rfl⟩
   ·rw [C8] at h; exact SeqAt.EqAt.str_int x t j u _ _ _ _ h
   ·rw [C7] at h; exact wpAny_eqBool_str h
 «strs»:=fun k x t v h=>by
  rcases dY h with ⟨i,u,rfl,e⟩ | ⟨y,u,rfl,e⟩
  ·exact nomatch e
  ·injection e with e1 _
   subst e1;cases v <;> rfl
inductive V where
 | non | bl (b : Bool) | int (i : Int) | str (x : Str) | byt (b : Array UInt8) | flt (b : UInt64) | ref (a : Addr) | ty (n : String)
 deriving DecidableEq
noncomputable def RelV : V -> Value -> Prop
 | .non,u=>u = Value.none
 | .bl b,u=>u = Value.bool b
 | .int i,u=>∃ t,u = Value.int i t
 | .str x,u=>∃ t,u = Value.str x t
 | .byt b,u=>∃ t,u = Value.bytes b t
 | .flt b,u=>∃ t,u = Value.float b t
 | .ref a,u=>u = Value.ref a
 | .ty n,u=>u = Value.type n
noncomputable abbrev Vals : List V -> List Value -> Prop:=Paired RelV
theorem Vals.length {xs : List V} {us : List Value} (r : Vals xs us) : xs.length = us.length:=Paired.length r
theorem Vals.get : ∀ {xs : List V} {us : List Value} {i : Nat} {x : V},Vals xs us -> xs[i]? = some x -> ∃ u,us[i]? = some u /\ RelV x u
 | _,_,_,_,.nil,e=>by simp at e
 | _,_,0,_,.cons r _,e=>by simp at e; subst e; exact ⟨_,rfl,r⟩
 | _,_,i + 1,x,.cons _ t,e=>by
  obtain ⟨u,h1,h2⟩:=Vals.get (i:=i) (x:=x) t (by simpa using e);exact ⟨u,by simpa using h1,h2⟩
theorem Vals.set {x : V} {u : Value} (r : RelV x u) : ∀ {xs : List V} {us : List Value} (i : Nat),Vals xs us -> Vals (xs.set i x) (us.set i u)
 | _,_,_,.nil=>.nil
 | _,_,0,.cons _ t=>.cons r t
 | _,_,i + 1,.cons q t=>.cons q (Vals.set r i t)
theorem Vals.append : ∀ {xs ys : List V} {us ws : List Value},Vals xs us -> Vals ys ws -> Vals (xs ++ ys) (us ++ ws):=by
 intro xs ys us ws h s
 induction h with
 | nil=>exact s
 | cons r t ih=>exact .cons r ih
theorem Vals.take : ∀ {xs : List V} {us : List Value} (n : Nat),Vals xs us -> Vals (xs.take n) (us.take n):=by
 intro xs us n h
 induction h generalizing n with
 | nil=>cases n <;> exact .nil
 | cons r t ih=>cases n with
  | zero=>exact .nil
  | succ n=>exact .cons r (ih n)
theorem Vals.drop : ∀ {xs : List V} {us : List Value} (n : Nat),Vals xs us -> Vals (xs.drop n) (us.drop n):=by
 intro xs us n h
 induction h generalizing n with
 | nil=>cases n <;> exact .nil
 | cons r t ih=>cases n with
  | zero=>exact .cons r t
  | succ n=>exact ih n
noncomputable def zU : Option V -> Option Value -> Prop
 | some v,some u=>RelV v u
 | none,none=>True
 | _,_=>False
noncomputable def KV {κ : Type} : List (κ × V) -> List (κ × Value) -> Prop:=Paired fun (p : κ × V) (q : κ × Value)=>p.1 = q.1 /\ RelV p.2 q.2
noncomputable def kV : fO -> V
 | .inl i=>.int i
 | .inr x=>.str x
inductive HO where
  | lst (xs : List V)
  | tup (xs : List V)
  | dK (kvs : List (fO × V)) | dT (kvs : List (List fO × V))
  | set (S : Int -> Bool) (n : Nat)
  | ins (C dx : Addr) (fs : List (Str × V))
  | own (x : Addr)
  | xd (fs : List (Str × V))
  | met (f x : Addr)
  | rng (lo hi : Int)
  | frz (o : Obj) (u : HO)
  | tbl (ps : Array Value)
  | ext (φ : Heap -> Prop)
noncomputable abbrev Hp:=Addr -> Option HO
noncomputable def upd (H : Hp) (a : Addr) (o : HO) : Hp:=fun b=>if b = a then some o else H b
theorem cG {H : Hp} {a : Addr} {o : HO} : upd H a o a = some o:=by unfold upd; rw [if_pos rfl]
theorem aV {H : Hp} {a b : Addr} {o : HO} (h : b ≠ a) : upd H a o b = H b:=by unfold upd; rw [if_neg h]
theorem cm {H : Hp} {a b : Addr} {o : HO} (h : H a = some o) (h' : H b = none) : a ≠ b:=by
 intro e; subst e; rw [h] at h'; cases h'
section
variable (P : Program) (w : World)
noncomputable def ObjOk (H : Hp) (h : Heap) (a : Addr) : HO -> Prop
 | .lst xs=>xs.length <= sizeLine /\ ∃ (its : List Value) (n : Nat),Vals xs its /\ h.get? a = some { cls:=.type "list",data:=.seq its.toArray n }
 | .tup xs=>xs.length <= sizeLine /\ ∃ its : List Value,Vals xs its /\ IsTup h a its.toArray
 | .dK kvs=>kvs.length <= sizeLine /\ (a == sysModules) = false /\ ∃ vs,KV kvs vs /\ h.DictOf (uZ P w) a vs
 | .dT kvs=>kvs.length <= sizeLine /\ (a == sysModules) = false /\ ∃ xs : List (List fO × Addr × Value),
   Paired (fun (p : List fO × V) (q : List fO × Addr × Value)=>p.1 = q.1 /\ H q.2.1 = some (.tup (p.1.map kV)) /\ RelV p.2 q.2.2) kvs xs /\
   ∃ o es ep,h.get? a = some o /\ o.ExactDict /\ o.data = .dict es ep /\ es.toList = xs.map (entryOfKey (tupleKind (uZ P w))) /\ (xs.map (·.1)).Nodup
 | .set S n=>h.SetOf (intKind P w) a S n
 | .ins C dx fs=>H dx = some (.own a) /\ fs.length <= 1000 /\ dx ≠ a /\ h.get? a = some (instObj C dx) /\
   ∃ mA,h.Ns1 dx mA /\ (∀ f,zU (fs.lookup f) (mA f)) /\ PySem.Within mA (fs.map (·.1))
 | .own _=>∃ o,h.get? a = some o
 | .xd fs=>∃ mA,h.Ns1 a mA /\ ∀ f,zU (fs.lookup f) (mA f)
 | .rng lo hi=>∃ t u v,h.get? a = some { cls:=.type "range",data:=.fields #[.int lo t,.int hi u,.int 1 v] }
 | .frz o u=>h.get? a = some o /\ ObjOk H h a u
 | .tbl ps=>h.get? a = some { cls:=.none,data:=.fields ps }
 | .met f x=>h.get? a = some (methodObj (.ref f) (.ref x))
 | .ext φ=>φ h /\ (∃ o,h.get? a = some o) /\ ∀ h1 h2 : Heap,φ h1 -> (∀ o,h1.get? a = some o -> h2.get? a = some o) -> φ h2
noncomputable def HOk (H : Hp) (h : Heap) : Prop:=∀ a o,H a = some o -> ObjOk P w H h a o
end
section
variable {P : Program} {w : World} {H H' : Hp} {h h' : Heap} {a : Addr} {o : HO}
theorem ObjOk.lt (x : ObjOk P w H h a o) : a < h.objs.size:=by
 cases o with
 | lst xs=>obtain ⟨_,_,_,_,e⟩:=x; exact Heap.lt_size e
 | tup xs=>obtain ⟨_,_,_,p⟩:=x; exact p.lt
 | dK kvs=>obtain ⟨_,_,_,_,o,_,_,e,_⟩:=x; exact Heap.lt_size e
 | dT kvs=>obtain ⟨_,_,_,_,o,_,_,e,_⟩:=x; exact Heap.lt_size e
 | set S n=>obtain ⟨o,_,_,_,e,_⟩:=x; exact Heap.lt_size e
 | ins C dx fs=>obtain ⟨_,_,_,e,_⟩:=x; exact Heap.lt_size e
 | own y=>obtain ⟨_,e⟩:=x; exact Heap.lt_size e
 | xd fs=>obtain ⟨_,⟨_,_,_,e,_⟩,_⟩:=x; exact Heap.lt_size e
 | rng lo hi=>obtain ⟨_,_,_,e⟩:=x; exact Heap.lt_size e
 | frz ob u=>obtain ⟨e,_⟩:=x; exact Heap.lt_size e
 | tbl ps=>exact Heap.lt_size (show h.get? a = some _ from x)
 | met f y=>exact Heap.lt_size (show h.get? a = some _ from x)
 | ext φ=>obtain ⟨_,⟨_,e⟩,_⟩:=x; exact Heap.lt_size e
theorem Paired.mapP {α β : Type} {F G : α -> β -> Prop} : ∀ {l₁ : List α} {l₂ : List β},Paired F l₁ l₂ -> (∀ a b,F a b -> G a b) -> Paired G l₁ l₂:=by
 intro l₁ l₂ h f
 induction h with
 | nil=>exact .nil
 | cons r t ih=>exact .cons (f _ _ r) ih
theorem ObjOk.stay (x : ObjOk P w H h a o) (k : ∀ b u,(b = a \/ H b = some (.own a)) -> h.get? b = some u -> h'.get? b = some u)
  (ho : ∀ b,H b = some (.own a) -> H' b = some (.own a)) (ht : ∀ b xs,H b = some (.tup xs) -> H' b = some (.tup xs)) : ObjOk P w H' h' a o:=by
 induction o with
 | lst xs=>obtain ⟨z,its,n,r,e⟩:=x; exact ⟨z,its,n,r,k _ _ (.inl rfl) e⟩
 | tup xs=>obtain ⟨z,its,r,ob,e,c⟩:=x; exact ⟨z,its,r,ob,k _ _ (.inl rfl) e,c⟩
 | dK kvs=>obtain ⟨z,y,vs,r,ob,es,ep,e,c⟩:=x; exact ⟨z,y,vs,r,ob,es,ep,k _ _ (.inl rfl) e,c⟩
 | dT kvs =>
  obtain ⟨z,y,xs,r,ob,es,ep,e,c⟩:=x;exact ⟨z,y,xs,Paired.mapP r fun p q z=>⟨z.1,ht _ _ z.2.1,z.2.2⟩,ob,es,ep,k _ _ (.inl rfl) e,c⟩
 | set S n=>obtain ⟨ob,es,ep,t,e,c⟩:=x; exact ⟨ob,es,ep,t,k _ _ (.inl rfl) e,c⟩
 | ins C dx fs =>
  obtain ⟨d,z,ne,e,mA,⟨od,es,ep,e2,c⟩,r⟩:=x;exact ⟨ho _ d,z,ne,k _ _ (.inl rfl) e,mA,⟨od,es,ep,k _ _ (.inr d) e2,c⟩,r⟩
 | own y=>obtain ⟨ob,e⟩:=x; exact ⟨ob,k _ _ (.inl rfl) e⟩
 | xd fs=>obtain ⟨mA,⟨od,es,ep,e,c⟩,r⟩:=x; exact ⟨mA,⟨od,es,ep,k _ _ (.inl rfl) e,c⟩,r⟩
 | rng lo hi=>obtain ⟨t,u,v,e⟩:=x; exact ⟨t,u,v,k _ _ (.inl rfl) e⟩
 | frz ob u ih=>obtain ⟨e,q⟩:=x; exact ⟨k _ _ (.inl rfl) e,ih q⟩
 | tbl ps =>
  have e : h.get? a = some { cls:=.none,data:=.fields ps }:=x;show h'.get? a = some { cls:=.none,data:=.fields ps };exact k a _ (.inl rfl) e
 | met f y =>
  have e : h.get? a = some (methodObj (.ref f) (.ref y)):=x;show h'.get? a = some (methodObj (.ref f) (.ref y));exact k a _ (.inl rfl) e
 | ext φ=>obtain ⟨p,⟨o,e⟩,st⟩:=x; exact ⟨st _ _ p fun o q=>k _ _ (.inl rfl) q,⟨o,k _ _ (.inl rfl) e⟩,st⟩
theorem HOk.lt (x : HOk P w H h) (e : H a = some o) : a < h.objs.size:=(x a o e).lt
theorem HOk.fresh (x : HOk P w H h) (e : h.objs.size <= a) : H a = none:=by
 cases q : H a with
 | none=>rfl
 | some u=>exact absurd (Nat.lt_of_lt_of_le (x.lt q) e) (Nat.lt_irrefl _)
theorem HOk.kept (x : HOk P w H h) (k : ∀ b u,h.get? b = some u -> h'.get? b = some u) : HOk P w H h':=fun a o e =>
 (x a o e).stay (fun b u _ q=>k b u q) (fun _ q=>q) fun _ _ q=>q
theorem HOk.laid (x : HOk P w H h) (k : ∀ b u,h.get? b = some u -> h'.get? b = some u) (hp : h.objs.size <= a) (new : ObjOk P w (upd H a o) h' a o) : HOk P w (upd H a o) h':=fun b u e=>by
 have hn:=x.fresh hp;by_cases hb : b = a
 ·subst hb; rw [cG] at e; cases e; exact new
 ·rw [aV hb] at e
  exact (x b u e).stay (fun c v _ q=>k c v q) (fun c q=>by rw [aV (cm q hn)]; exact q) fun c xs q=>by rw [aV (cm q hn)]; exact q
end
noncomputable def Rd (H : Hp) (a : Addr) (u : HO) : Prop:=H a = some u \/ ∃ o,H a = some (.frz o u)
theorem Rd.ok {P : Program} {w : World} {H : Hp} {h : Heap} {a : Addr} {u : HO} (r : Rd H a u) (x : HOk P w H h) : ObjOk P w H h a u:=by
 rcases r with r | ⟨o,r⟩
 ·exact x a u r
 ·obtain ⟨_,q⟩:=x a _ r
  exact q
noncomputable def Aq : Option HO -> Prop
 | some (.lst _)=>True
 | some (.dK _)=>True
 | some (.dT _)=>True
 | some (.set _ _)=>True
 | some (.ins _ _ _)=>True
 | some (.ext _)=>True
 | _=>False
section
variable {P : Program} {w : World} {H : Hp} {h h' : Heap} {x e : Addr} {o' : HO}
theorem HOk.write (ok : HOk P w H h) (mu : Aq (H x)) (he : e = x \/ H e = some (.own x)) (k : ∀ b u,b ≠ e -> h.get? b = some u -> h'.get? b = some u) (heo : ∃ u,h'.get? e = some u)
  (new : ObjOk P w (upd H x o') h' x o') : HOk P w (upd H x o') h':=fun b u q=>by
 have nown : ∀ c y,H c = some (.own y) -> c ≠ x:=fun c y r z=>by subst z; rw [r] at mu; exact mu
 have ntup : ∀ c xs,H c = some (.tup xs) -> c ≠ x:=fun c xs r z=>by subst z; rw [r] at mu; exact mu
 by_cases hb : b = x
 ·subst hb; rw [cG] at q; cases q; exact new
 ·rw [aV hb] at q
  by_cases hbe : b = e
  ·have q' : H b = some (.own x):=by
    rcases he with z | z
    ·exact absurd (hbe.trans z) hb
    ·rw [hbe]; exact z
   rw [q] at q'; cases q';obtain ⟨v,hv⟩:=heo;exact ⟨v,by rw [hbe]; exact hv⟩
  ·refine (ok b u q).stay (fun c v hc r=>k c v ?_ r) (fun c r=>by rw [aV (nown c b r)]; exact r) fun c xs r=>by rw [aV (ntup c xs r)]; exact r
   rcases hc with rfl | hc
   ·exact hbe
   ·rintro rfl
    rcases he with z | z
    ·exact nown c b hc z
    ·rw [hc] at z; cases z; exact hb rfl
end
structure Un (fs ex : List Addr) (H H' : Hp) (h h' : Heap) : Prop where
 keep : ∀ b o,h.get? b = some o -> H b = none -> b ∉ fs -> b ∉ ex -> h'.get? b = some o
 slot : ∀ b o,h.get? b = some o -> H b = none -> b ∈ fs -> b ∉ ex -> ∃ sl,h'.get? b = some { o with slots:=sl }
 free : ∀ b o,h.get? b = some o -> H b = none -> b ∉ ex -> H' b = none
 there : ∀ b o,h.get? b = some o -> b ∉ ex -> ∃ o',h'.get? b = some o'
 tups : ∀ b xs,H b = some (.tup xs) -> H' b = some (.tup xs)
 frzs : ∀ b o u,H b = some (.frz o u) -> H' b = some (.frz o u)
 tbls : ∀ b ps,H b = some (.tbl ps) -> ∃ more,H' b = some (.tbl (ps ++ more))
section
variable {fs fs' ex ex' : List Addr} {H H1 H2 : Hp} {h h1 h2 h' : Heap} {a x e : Addr} {o : HO}
theorem Un.any (u : Un fs ex H H1 h h1) {b : Addr} {ob : Obj} (q : h.get? b = some ob) (n : H b = none) (hx : b ∉ ex) : ∃ sl,h1.get? b = some { ob with slots:=sl }:=by
 by_cases hb : b ∈ fs
 ·exact u.slot b ob q n hb hx
 ·exact ⟨ob.slots,u.keep b ob q n hb hx⟩
theorem Un.kept (k : ∀ b u,h.get? b = some u -> h'.get? b = some u) : Un fs ex H H h h' :=
 ⟨fun b ob q _ _ _=>k b ob q,fun b ob q _ _ _=>⟨ob.slots,k b ob q⟩,fun _ _ _ n _=>n,fun b ob q _=>⟨ob,k b ob q⟩,fun _ _ q=>q,fun _ _ _ q=>q,fun _ ps q=>⟨#[],by rw [q]; simp⟩⟩
theorem Un.refl : Un fs ex H H h h:=Un.kept fun _ _ q=>q
theorem Un.laid (k : ∀ b u,h.get? b = some u -> h'.get? b = some u) (hp : h.objs.size <= a) (hn : H a = none) : Un fs ex H (upd H a o) h h' where
 keep:=fun b u q _ _ _=>k b u q
 slot:=fun b u q _ _ _=>⟨u.slots,k b u q⟩
 free:=fun b u q n _=>by rw [aV (Nat.ne_of_lt (Nat.lt_of_lt_of_le (Heap.lt_size q) hp))]; exact n
 there:=fun b u q _=>⟨u,k b u q⟩
 tups:=fun b xs q=>by rw [aV (cm q hn)]; exact q
 frzs:=fun b u xs q=>by rw [aV (cm q hn)]; exact q
 tbls:=fun b ps q=>⟨#[],by rw [aV (cm q hn),q]; simp⟩
theorem Un.write (mu : Aq (H x)) (he : e = x \/ H e = some (.own x)) (k : ∀ b u,b ≠ e -> h.get? b = some u -> h'.get? b = some u) (heo : ∃ u,h'.get? e = some u) : Un fs ex H (upd H x o) h h':=by
 have hx : ∀ b,H b = none -> b ≠ x:=fun b n z=>by subst z; rw [n] at mu; exact mu
 have hb : ∀ b,H b = none -> b ≠ e:=fun b n z=>by
  subst z;rcases he with r | r
  ·exact hx b n r
  ·rw [n] at r; cases r
 have hm : ∀ b u,H b = some u -> ¬ Aq (some u) -> b ≠ x:=fun b u q nm z=>by subst z; rw [q] at mu; exact nm mu
 refine ⟨fun b u q n _ _=>k b u (hb b n) q,fun b u q n _ _=>⟨u.slots,k b u (hb b n) q⟩,fun b u q n _=>by rw [aV (hx b n)]; exact n,fun b u q _=>?_,
  fun b xs q=>by rw [aV (hm b _ q fun z=>z)]; exact q,fun b u xs q=>by rw [aV (hm b _ q fun z=>z)]; exact q,fun b ps q=>⟨#[],by rw [aV (hm b _ q fun z=>z),q]; simp⟩⟩
 by_cases hbe : b = e
 ·subst hbe; exact heo
 ·exact ⟨u,k b u hbe q⟩
end
noncomputable def zW (h : Heap) (H : Hp) : List Addr:=(List.range h.objs.size).filter fun a=>(H a).isSome
noncomputable def ly (h : Heap) (H : Hp) : Heap:=hideAll h (zW h H)
theorem ye (h : Heap) (H : Hp) : (ly h H).objs.size = h.objs.size:=hideAll_size _ _
theorem zE {h : Heap} {H : Hp} {b : Addr} {o : Obj} (e : h.get? b = some o) (n : H b = none) : (ly h H).get? b = some o :=
 hideAll_get _ e fun hm=>by
  have q : (H b).isSome = true:=(List.mem_filter.mp hm).2;rw [n] at q; simp at q
theorem Bf {h : Heap} {H : Hp} {b : Addr} {o : Obj} (e : (ly h H).get? b = some o) : h.get? b = some o /\ H b = none:=by
 have e' : h.get? b = some o:=of_hideAll (zW h H) e;refine ⟨e',?_⟩;cases q : H b with
 | none=>rfl
 | some x =>
  have hm : b ∈ zW h H:=List.mem_filter.mpr ⟨List.mem_range.mpr (Heap.lt_size e'),by simp [q]⟩;have z : (ly h H).get? b = none:=hideAll_none (zW h H) hm;rw [z] at e; cases e
noncomputable def BV (g h : Heap) (L : Addr) : List (Addr × Obj):=(List.range h.objs.size).filterMap fun a=>if a = L \/ (g.get? a).isSome = true then none else (h.get? a).map fun o=>(a,o)
noncomputable def eH (g h : Heap) (L d : Addr) : List (Addr × Obj):=(BV g h L).filter fun p=>decide (p.1 ≠ d)
structure Mod (K : PySem.W.Frag) (mg : Str -> Option Value) (base : Heap) : Prop where
 kin : K.In base
 glob : base.Ns mainGlobals mg
 blt : ∃ mb,base.Ns builtinsNs mb /\ ∀ x : Str,x ≠ "__name__" -> mb x = bootBuiltins x
 nolimit : base.NoLimit
structure Cx where
 prog : Program
 w : World
 K : PySem.W.Frag
 mg : Str -> Option Value
 base : Heap
 A : Around
 N : List Str
 s₀ : Shared
 H₀ : Hp
 env : Env
 outer : List Env
 stack : List Env
 ex : List Addr
 fn : Str -> Bool
 calm : Bool
 pn : List (Addr × Obj)
 xe : Value -> Shared -> Prop
noncomputable def kH (l : List Env) : List Addr:=l.filterMap (·.frame)
noncomputable abbrev Cx.fs (X : Cx) : List Addr:=kH X.outer
noncomputable def mI (sc : Scope) (x : Str) : Prop:=sc.names.lookup x = some .local \/ sc.names.lookup x = some .cell \/ sc.names.lookup x = some .free
noncomputable def lY (sc : Scope) (x : Str) : Prop:=sc.names.lookup x = some .local \/ sc.names.lookup x = some .cell
noncomputable def FZ (env : Env) (h : Heap) (m : Str -> Option Value) (x : Str) (u : Value) : Prop :=
 (env.kindOf x = some .local /\ m x = some u) \/ ((env.kindOf x = some .cell \/ env.kindOf x = some .free) /\ ∃ c,env.cells.lookup x = some c /\ h.IsCell c (some u))
structure Cx.Ok (X : Cx) : Prop where
 mod : Mod X.K X.mg X.base
 kind : X.env.scope.kind = .function
 glob : X.env.globals = mainGlobals
 blt : X.env.builtins = builtinsNs
 above : X.s₀.heap.objs.size <= X.env.locals
 inj : ∀ x y c,X.env.cells.lookup x = some c -> X.env.cells.lookup y = some c -> x = y
 has : ∀ x,(X.env.kindOf x = some .cell \/ X.env.kindOf x = some .free) -> ∃ c,X.env.cells.lookup x = some c
 cab : ∀ x c,X.fn x = true -> X.env.cells.lookup x = some c -> X.s₀.heap.objs.size <= c
 hd : X.calm = true -> X.A.handled = none
 frames : X.A.frames = some X.stack
 stk : X.stack = X.outer \/ (X.stack = X.env :: X.outer /\ X.env.frame = some X.env.locals)
 exf : ∀ b ∈ X.ex,b ≠ X.env.locals /\ ∀ x c,X.env.cells.lookup x = some c -> c ≠ b
 bs : ∀ b o,X.base.get? b = some o -> X.s₀.heap.get? b = some o /\ X.H₀ b = none
 bsz : X.base.objs.size <= X.s₀.heap.objs.size
 noex : ∀ b o,X.base.get? b = some o -> b ∉ X.ex
 exfs : ∀ b ∈ X.ex,b ∉ X.fs
 funs : X.s₀.heap.FunFrames X.base X.outer
 frf : ∀ b ∈ X.fs,X.H₀ b = none
structure Inv (X : Cx) (aa : List (Addr × Obj)) (σ : List (Option V)) (H : Hp) (s : Shared) : Prop where
 ok : X.Ok
 os : s.os = X.s₀.os
 bare : AllBare s.gens
 base : Un X.fs X.ex X.H₀ H X.s₀.heap s.heap
 loc : ∃ m,s.heap.Ns X.env.locals m /\ ∀ (i : Nat) (x : Str) (v : V),X.N[i]? = some x -> σ[i]? = some (some v) -> mI X.env.scope x -> ∃ u,RelV v u /\ FZ X.env s.heap m x u
 cell : ∀ x c,X.env.cells.lookup x = some c -> ∃ v,s.heap.IsCell c v
 free : H X.env.locals = none
 freeC : ∀ x c,X.env.cells.lookup x = some c -> H c = none
 pin : ∀ p ∈ X.pn ++ aa,s.heap.get? p.1 = some p.2 /\ H p.1 = none /\ p.1 ≠ X.env.locals /\ p.1 ∉ X.fs /\ ∀ v,p.2.data ≠ .cell v
 hok : HOk X.prog X.w H s.heap
 len : σ.length = X.N.length
section
variable {X : Cx} {aa : List (Addr × Obj)} {σ : List (Option V)} {H H' : Hp} {s : Shared} {h' : Heap}
theorem Cx.Ok.nofr (ok : X.Ok) {b : Addr} {o : Obj} (e : X.base.get? b = some o) : b ∉ X.fs:=fun hb=>by
 have:=(ok.funs.mem hb).1
 rw [e] at this; cases this
theorem Inv.bs (I : Inv X aa σ H s) : ∀ b o,X.base.get? b = some o -> s.heap.get? b = some o /\ H b = none:=fun b o e =>
 ⟨I.base.keep b o (I.ok.bs b o e).1 (I.ok.bs b o e).2 (I.ok.nofr e) (I.ok.noex b o e),I.base.free b o (I.ok.bs b o e).1 (I.ok.bs b o e).2 (I.ok.noex b o e)⟩
theorem Inv.bk (I : Inv X aa σ H s) : ∀ b o,X.base.get? b = some o -> s.heap.get? b = some o:=fun b o e=>(I.bs b o e).1
theorem Inv.mod (I : Inv X aa σ H s) : Mod X.K X.mg X.base:=I.ok.mod
theorem Inv.kIn (I : Inv X aa σ H s) : X.K.In s.heap:=I.ok.mod.kin.keeps I.bk
theorem Inv.lt (I : Inv X aa σ H s) : X.env.locals < s.heap.objs.size:=let ⟨_,hn,_⟩:=I.loc; hn.lt
theorem Inv.sz (I : Inv X aa σ H s) : X.s₀.heap.objs.size <= s.heap.objs.size:=Nat.le_trans I.ok.above (Nat.le_of_lt I.lt)
theorem Inv.nofs (I : Inv X aa σ H s) {a : Addr} (h : s.heap.objs.size <= a) : a ∉ X.fs:=fun hb=>by
 obtain ⟨_,o,ho,_⟩:=I.ok.funs.mem hb;exact absurd (Nat.lt_of_lt_of_le (Heap.lt_size ho) (Nat.le_trans I.sz h)) (Nat.lt_irrefl _)
theorem Inv.cne (I : Inv X aa σ H s) : ∀ x c,X.env.cells.lookup x = some c -> c ≠ X.env.locals:=fun x c e z=>by
 obtain ⟨v,o,ho,hd⟩:=I.cell x c e;obtain ⟨m,⟨o',es,ep,ho',hd',_⟩,_⟩:=I.loc;rw [z,ho'] at ho; cases ho; rw [hd'] at hd; cases hd
theorem Inv.funs (I : Inv X aa σ H s) : s.heap.FunFrames X.base X.outer:=by
 have all : ∀ (l : List Env),(∀ b ∈ kH l,b ∈ X.fs) -> X.s₀.heap.FunFrames X.base l -> s.heap.FunFrames X.base l:=by
  intro l
  induction l with
  | nil=>intro _ _; trivial
  | cons env r ih =>
   intro hs hl;obtain ⟨hk,⟨L,o,hf,hn,ho,hd⟩,hr⟩:=hl;have hL : L ∈ X.fs:=hs L (by unfold kH; rw [List.filterMap_cons,hf]; exact List.mem_cons_self);obtain ⟨sl,e⟩:=I.base.slot L o ho (I.ok.frf L hL) hL fun z=>I.ok.exfs L z hL
   exact ⟨hk,⟨L,_,hf,hn,e,hd⟩,ih (fun b hb=>hs b (by unfold kH; rw [List.filterMap_cons,hf]; exact List.mem_cons_of_mem _ hb)) hr⟩
 exact all X.outer (fun _ hb=>hb) I.ok.funs
theorem Inv.stack (I : Inv X aa σ H s) : s.heap.FunFrames X.base X.stack:=by
 rcases I.ok.stk with e | ⟨e,hf⟩
 ·rw [e]; exact I.funs
 ·rw [e]
  obtain ⟨m,hn,_⟩:=I.loc;refine .cons (by rw [I.ok.kind]; decide) hf hn ?_ I.funs;exact Heap.get?_none_of_le (Nat.le_trans I.ok.bsz I.ok.above)
theorem Inv.stkSub (I : Inv X aa σ H s) : ∀ b ∈ kH X.stack,b ∈ X.env.locals :: X.fs:=fun b hb=>by
 rcases I.ok.stk with e | ⟨e,hf⟩
 ·rw [e] at hb; exact List.mem_cons_of_mem _ hb
 ·rw [e] at hb
  unfold kH at hb;rw [List.filterMap_cons,hf] at hb;exact hb
theorem Inv.stkFree (I : Inv X aa σ H s) : ∀ b ∈ kH X.stack,H b = none:=fun b hb=>by
 rcases List.mem_cons.mp (I.stkSub b hb) with e | hb
 ·rw [e]; exact I.free
 ·obtain ⟨_,o,ho,_⟩:=I.ok.funs.mem hb
  exact I.base.free b o ho (I.ok.frf b hb) fun z=>I.ok.exfs b z hb
theorem Inv.step {g' : Array GenState} {t' : Nat} {d' : Drawn} {ch : List Addr} (I : Inv X aa σ H s)
  (hch : ∀ b ∈ ch,(b ∈ X.ex \/ X.s₀.heap.objs.size <= b) /\ b ≠ X.env.locals /\ (∀ x c,X.env.cells.lookup x = some c -> c ≠ b) /\ ∀ p ∈ X.pn ++ aa,p.1 ≠ b)
  (keep : ∀ b o,b ≠ X.env.locals -> b ∉ X.fs -> b ∉ ch -> s.heap.get? b = some o -> H b = none -> h'.get? b = some o)
  (slot : ∀ b o,b ≠ X.env.locals -> b ∈ X.fs -> b ∉ ch -> s.heap.get? b = some o -> H b = none -> ∃ sl,h'.get? b = some { o with slots:=sl }) (free : ∀ b o,b ∉ ch -> s.heap.get? b = some o -> H b = none -> H' b = none)
  (there : ∀ b o,b ∉ ch -> s.heap.get? b = some o -> ∃ o',h'.get? b = some o')
  (tups : ∀ b xs,H b = some (.tup xs) -> H' b = some (.tup xs)) (frzs : ∀ b o u,H b = some (.frz o u) -> H' b = some (.frz o u)) (tbls : ∀ b ps,H b = some (.tbl ps) -> ∃ more,H' b = some (.tbl (ps ++ more)))
  (ns : ∀ m,s.heap.Ns X.env.locals m -> h'.Ns X.env.locals m) (hok : HOk X.prog X.w H' h') (hg : AllBare g') :
  Inv X aa σ H' { s with heap:=h',gens:=g',drawn:=d',toks:=t' }:=by
 have neL : ∀ b o,X.s₀.heap.get? b = some o -> b ≠ X.env.locals:=fun b o e=>Nat.ne_of_lt (Nat.lt_of_lt_of_le (Heap.lt_size e) I.ok.above)
 have neC : ∀ b o,X.s₀.heap.get? b = some o -> b ∉ X.ex -> b ∉ ch:=fun b o e hx hb=>by
  rcases (hch b hb).1 with z | z
  ·exact hx z
  ·exact absurd (Nat.lt_of_lt_of_le (Heap.lt_size e) z) (Nat.lt_irrefl _)
 have cellK : ∀ x c,X.env.cells.lookup x = some c -> ∀ v,s.heap.IsCell c v -> h'.IsCell c v:=fun x c e v hq0=>by
  obtain ⟨o,ho,hd⟩:=hq0;have nch : c ∉ ch:=fun z=>(hch c z).2.2.1 x c e rfl
  by_cases hc : c ∈ X.fs
  ·obtain ⟨sl,q⟩:=slot c o (I.cne x c e) hc nch ho (I.freeC x c e)
   exact ⟨_,q,hd⟩
  ·exact ⟨o,keep c o (I.cne x c e) hc nch ho (I.freeC x c e),hd⟩
 refine ⟨I.ok,I.os,hg,⟨fun b o e n hb hx=>?_,fun b o e n hb hx=>?_,fun b o e n hx=>?_,fun b o e hx=>?_,fun b xs e=>tups b xs (I.base.tups b xs e),fun b o xs e=>frzs b o xs (I.base.frzs b o xs e),fun b ps e=>?_⟩,?_,fun x c e=>?_,?_,fun x c e=>?_,fun p hp=>?_,hok,I.len⟩
 ·exact keep b o (neL b o e) hb (neC b o e hx) (I.base.keep b o e n hb hx) (I.base.free b o e n hx)
 ·obtain ⟨sl,e1⟩:=I.base.slot b o e n hb hx
  obtain ⟨sl',e2⟩:=slot b _ (neL b o e) hb (neC b o e hx) e1 (I.base.free b o e n hx);exact ⟨sl',e2⟩
 ·obtain ⟨o',e1⟩:=I.base.there b o e hx
  exact free b o' (neC b o e hx) e1 (I.base.free b o e n hx)
 ·obtain ⟨o',e1⟩:=I.base.there b o e hx
  exact there b o' (neC b o e hx) e1
 ·obtain ⟨m1,e1⟩:=I.base.tbls b ps e
  obtain ⟨m2,e2⟩:=tbls b _ e1;exact ⟨m1 ++ m2,by rw [e2,Array.append_assoc]⟩
 ·obtain ⟨m,hn,hl⟩:=I.loc
  refine ⟨m,ns m hn,fun i x v e1 e2 e3=>?_⟩;obtain ⟨u,r,l⟩:=hl i x v e1 e2 e3;refine ⟨u,r,?_⟩;rcases l with l | ⟨k,c,e,z⟩
  ·exact .inl l
  ·exact .inr ⟨k,c,e,cellK x c e _ z⟩
 ·obtain ⟨v,z⟩:=I.cell x c e
  exact ⟨v,cellK x c e v z⟩
 ·obtain ⟨m,⟨o,_,_,ho,_⟩,_⟩:=I.loc
  exact free _ o (fun z=>(hch _ z).2.1 rfl) ho I.free
 ·obtain ⟨v,o,ho,hd⟩:=I.cell x c e
  exact free c o (fun z=>(hch c z).2.2.1 x c e rfl) ho (I.freeC x c e)
 ·obtain ⟨e,n,ne,nf,d⟩:=I.pin p hp
  have nch : p.1 ∉ ch:=fun z=>(hch p.1 z).2.2.2 p hp rfl
  exact ⟨keep p.1 p.2 ne nf nch e n,free p.1 p.2 nch e n,ne,nf,d⟩
theorem Inv.un {t' : Nat} (I : Inv X aa σ H s) (u : Un X.fs [] H H' s.heap h') (hok : HOk X.prog X.w H' h') : Inv X aa σ H' { s with heap:=h',toks:=t' }:=by
 obtain ⟨m,⟨o,es,ep,ho,r⟩,_⟩:=id I.loc;obtain ⟨sl,hL⟩:=u.any ho I.free (by simp);exact I.step (g':=s.gens) (d':=s.drawn) (ch:=[]) (fun _ z=>nomatch z) (fun b o _ hb _ e n=>u.keep b o e n hb (by simp)) (fun b o _ hb _ e n=>u.slot b o e n hb (by simp)) (fun b o _ e n=>u.free b o e n (by simp)) (fun b o _ e=>u.there b o e (by simp)) u.tups u.frzs u.tbls (fun m' hm=>by
  obtain ⟨o',es',ep',ho',r'⟩:=hm;rw [ho] at ho'; cases ho';exact ⟨_,es',ep',hL,r'⟩) hok I.bare
theorem Inv.call {g' : Array GenState} {t' : Nat} {d' : Drawn} {ch : List Addr} (I : Inv X aa σ H s) (u : Un (kH X.stack) ch H H' s.heap h') (hok : HOk X.prog X.w H' h') (hg : AllBare g')
  (hch : ∀ b ∈ ch,(b ∈ X.ex \/ X.s₀.heap.objs.size <= b) /\ b ≠ X.env.locals /\ (∀ x c,X.env.cells.lookup x = some c -> c ≠ b) /\ ∀ p ∈ X.pn ++ aa,p.1 ≠ b) :
  Inv X aa σ H' { s with heap:=h',gens:=g',drawn:=d',toks:=t' }:=by
 obtain ⟨m,⟨o,es,ep,ho,r⟩,_⟩:=id I.loc;obtain ⟨sl,hL⟩:=u.any ho I.free fun z=>(hch _ z).2.1 rfl
 exact I.step (ch:=ch) hch (fun b o hL hb hc e n=>u.keep b o e n (fun z=>(List.mem_cons.mp (I.stkSub b z)).elim hL hb) hc) (fun b o _ _ hc e n=>u.any e n hc) (fun b o hc e n=>u.free b o e n hc) (fun b o hc e=>u.there b o e hc) u.tups u.frzs u.tbls (fun m' hm=>by
  obtain ⟨o',es',ep',ho',r'⟩:=hm;rw [ho] at ho'; cases ho';exact ⟨_,es',ep',hL,r'⟩) hok hg
theorem Inv.turned {t' : Nat} {it : Addr} (I : Inv X aa σ H s) (k : ∀ b o,b ≠ it -> s.heap.get? b = some o -> h'.get? b = some o) (hn : H it = none) (hL : it ≠ X.env.locals)
  (h1 : it ∈ X.ex \/ X.s₀.heap.objs.size <= it) (h2 : ∀ x c,X.env.cells.lookup x = some c -> c ≠ it) (h3 : ∀ p ∈ X.pn ++ aa,p.1 ≠ it) : Inv X aa σ H { s with heap:=h',toks:=t' }:=by
 have nit : ∀ b u,H b = some u -> b ≠ it:=fun b u e z=>by rw [z,hn] at e; cases e
 refine I.step (g':=s.gens) (d':=s.drawn) (ch:=[it]) (fun b hb=>?_) (fun b o _ _ hc e _=>k b o (fun z=>hc (by simp [z])) e) (fun b o _ _ hc e _=>⟨o.slots,k b o (fun z=>hc (by simp [z])) e⟩) (fun _ _ _ _ n=>n)
  (fun b o hc e=>⟨o,k b o (fun z=>hc (by simp [z])) e⟩) (fun _ _ e=>e) (fun _ _ _ e=>e) (fun b ps e=>⟨#[],by rw [e]; simp⟩) (fun m hm=>?_) (fun b u e=>?_) I.bare
 ·have e : b = it:=by simpa using hb
  subst e;exact ⟨h1,hL,h2,h3⟩
 ·obtain ⟨o,es,ep,ho,r⟩:=hm
  exact ⟨o,es,ep,k _ o (Ne.symm hL) ho,r⟩
 ·refine (I.hok b u e).stay (fun c v hc q=>k c v ?_ q) (fun _ q=>q) fun _ _ q=>q
  rcases hc with z | z
  ·rw [z]; exact nit b u e
  ·exact nit c _ z
theorem Inv.tok (I : Inv X aa σ H s) (t : Nat) : Inv X aa σ H { s with toks:=t }:=I.un (h':=s.heap) (t':=t) Un.refl I.hok
theorem Inv.kept {t' : Nat} (I : Inv X aa σ H s) (k : ∀ b u,s.heap.get? b = some u -> h'.get? b = some u) : Inv X aa σ H { s with heap:=h',toks:=t' }:=I.un (Un.kept k) (I.hok.kept k)
theorem Inv.laid {a : Addr} {o : HO} {t' : Nat} (I : Inv X aa σ H s) (k : ∀ b u,s.heap.get? b = some u -> h'.get? b = some u) (hp : s.heap.objs.size <= a) (new : ObjOk X.prog X.w (upd H a o) h' a o) :
  Inv X aa σ (upd H a o) { s with heap:=h',toks:=t' }:=I.un (Un.laid k hp (I.hok.fresh hp)) (I.hok.laid k hp new)
theorem Inv.write {x e : Addr} {o : HO} {t' : Nat} (I : Inv X aa σ H s) (mu : Aq (H x)) (he : e = x \/ H e = some (.own x)) (k : ∀ b u,b ≠ e -> s.heap.get? b = some u -> h'.get? b = some u) (heo : ∃ u,h'.get? e = some u)
  (new : ObjOk X.prog X.w (upd H x o) h' x o) : Inv X aa σ (upd H x o) { s with heap:=h',toks:=t' }:=I.un (Un.write mu he k heo) (I.hok.write mu he k heo new)
theorem Inv.pins_of {pins' : List (Addr × Obj)} (I : Inv X aa σ H s) (h : ∀ p ∈ pins',s.heap.get? p.1 = some p.2 /\ H p.1 = none /\ p.1 ≠ X.env.locals /\ p.1 ∉ X.fs /\ ∀ v,p.2.data ≠ .cell v) : Inv X pins' σ H s :=
 ⟨I.ok,I.os,I.bare,I.base,I.loc,I.cell,I.free,I.freeC,fun p hp=>(List.mem_append.mp hp).elim (fun z=>I.pin p (List.mem_append_left _ z)) (h p),I.hok,I.len⟩
theorem sY {N : List Str} (hN : N.Nodup) {i j : Nat} {x : Str} (a : N[i]? = some x) (b : N[j]? = some x) : i = j:=by
 obtain ⟨h1,e1⟩:=List.getElem?_eq_some_iff.mp a;obtain ⟨h2,e2⟩:=List.getElem?_eq_some_iff.mp b;exact (List.getElem_inj hN).mp (e1.trans e2.symm)
theorem qK {M : Model} {A : Around} {E : Value -> Shared -> Prop} {i : Nat} {x : Str} {v : V} {u : Value} {Q : Unit -> Shared -> Prop} (I : Inv X aa σ H s) (hN : X.N.Nodup) (hi : X.N[i]? = some x) (hx : lY X.env.scope x) (r : RelV v u)
  (h : ∀ s',Inv X aa (σ.set i (some v)) H s' -> (∃ a,Heap.SameBut a s.heap s'.heap /\ (a = X.env.locals \/ X.env.cells.lookup x = some a)) -> Q () s') (hf : autoParam (X.fn x = true \/ X.env.scope.names.lookup x = some .local) ma._auto_1) : wpAny M A (storeName X.env x u) Q E s:=by
 obtain ⟨m,hn,hl⟩:=id I.loc;have hcls : (X.env.scope.kind == .class || (X.env.scope.kind == .module && X.env.locals != X.env.globals)) = false:=by rw [I.ok.kind]; rfl
 have hiσ : i < σ.length:=by rw [I.len]; exact (List.getElem?_eq_some_iff.mp hi).1
 have cne:=I.cne;have tracked : ∀ {a : Addr} {h' : Heap},(∃ o,s.heap.get? a = some o /\ H a = none) -> Heap.SameBut a s.heap h' -> HOk X.prog X.w H h':=fun {a h'} ha hs b ob e=>by
  obtain ⟨_,_,hfree⟩:=ha;refine (I.hok b ob e).stay (fun c w' hc q=>(hs.2 c ?_).trans q) (fun _ q=>q) fun _ _ q=>q
  rintro rfl;rcases hc with rfl | hc
  ·rw [hfree] at e; cases e
  ·rw [hfree] at hc; cases hc
 rcases hx with hk | hk
 ·refine wpAny_storeName_local hk hn (fun h' hn' hs=>?_) hcls
  obtain ⟨oL,_,_,hoL,_⟩:=id hn;refine h _ ⟨I.ok,I.os,I.bare,⟨fun b o e n hb hx=>?_,fun b o e n hb hx=>?_,I.base.free,fun b o e hx=>?_,I.base.tups,I.base.frzs,I.base.tbls⟩,⟨_,hn',fun j y v' e1 e2 e3=>?_⟩,fun y c e=>?_,I.free,I.freeC,fun p hp=>?_,tracked ⟨oL,hoL,I.free⟩ hs,by simpa using I.len⟩ ⟨_,hs,.inl rfl⟩
  ·exact (hs.2 b (Nat.ne_of_lt (Nat.lt_of_lt_of_le (Heap.lt_size e) I.ok.above))).trans (I.base.keep b o e n hb hx)
  ·obtain ⟨sl,e1⟩:=I.base.slot b o e n hb hx
   exact ⟨sl,(hs.2 b (Nat.ne_of_lt (Nat.lt_of_lt_of_le (Heap.lt_size e) I.ok.above))).trans e1⟩
  ·obtain ⟨o',e1⟩:=I.base.there b o e hx
   exact ⟨o',(hs.2 b (Nat.ne_of_lt (Nat.lt_of_lt_of_le (Heap.lt_size e) I.ok.above))).trans e1⟩
  ·by_cases hj : j = i
   ·subst hj
    rw [hi] at e1; cases e1;rw [List.getElem?_set_self hiσ] at e2;cases e2;exact ⟨u,r,.inl ⟨hk,by simp⟩⟩
   ·rw [List.getElem?_set_ne (Ne.symm hj)] at e2
    obtain ⟨u',r',q⟩:=hl j y v' e1 e2 e3;refine ⟨u',r',?_⟩;rcases q with ⟨k,e⟩ | ⟨k,c,e,z⟩
    ·refine .inl ⟨k,?_⟩
     have : y ≠ x:=fun e=>hj (sY hN e1 (e ▸ hi))
     simp [this,e]
    ·exact .inr ⟨k,c,e,z.sameBut hs (cne y c e)⟩
  ·obtain ⟨w',z⟩:=I.cell y c e
   exact ⟨w',z.sameBut hs (cne y c e)⟩
  ·obtain ⟨e,n,ne,nf,d⟩:=I.pin p hp
   exact ⟨(hs.2 p.1 ne).trans e,n,ne,nf,d⟩
 ·have hfn : X.fn x = true:=by
   rcases hf with z | z
   ·exact z
   ·rw [z] at hk; cases hk
  obtain ⟨c,hc⟩:=I.ok.has x (.inl hk);obtain ⟨w',z⟩:=I.cell x c hc;refine wpAny_storeName_cell I.ok.kind hk hc z (fun h' hc' hs=>?_);obtain ⟨oc,hoc,hocd⟩:=id z;refine h { s with heap:=h' } ⟨I.ok,I.os,I.bare,⟨fun b o e n hb hx=>?_,fun b o e n hb hx=>?_,I.base.free,fun b o e hx=>?_,I.base.tups,I.base.frzs,I.base.tbls⟩,⟨m,hn.sameBut hs (Ne.symm (cne x c hc)),fun j y v' e1 e2 e3=>?_⟩,fun y c' e=>?_,I.free,I.freeC,fun p hp=>?_,tracked ⟨oc,hoc,I.freeC x c hc⟩ hs,by simpa using I.len⟩ ⟨c,hs,.inr hc⟩
  ·exact (hs.2 b (Nat.ne_of_lt (Nat.lt_of_lt_of_le (Heap.lt_size e) (I.ok.cab x c hfn hc)))).trans (I.base.keep b o e n hb hx)
  ·obtain ⟨sl,e1⟩:=I.base.slot b o e n hb hx
   exact ⟨sl,(hs.2 b (Nat.ne_of_lt (Nat.lt_of_lt_of_le (Heap.lt_size e) (I.ok.cab x c hfn hc)))).trans e1⟩
  ·obtain ⟨o',e1⟩:=I.base.there b o e hx
   exact ⟨o',(hs.2 b (Nat.ne_of_lt (Nat.lt_of_lt_of_le (Heap.lt_size e) (I.ok.cab x c hfn hc)))).trans e1⟩
  ·by_cases hj : j = i
   ·subst hj
    rw [hi] at e1; cases e1;rw [List.getElem?_set_self hiσ] at e2;cases e2;exact ⟨u,r,.inr ⟨.inl hk,c,hc,hc'⟩⟩
   ·rw [List.getElem?_set_ne (Ne.symm hj)] at e2
    obtain ⟨u',r',q⟩:=hl j y v' e1 e2 e3;refine ⟨u',r',?_⟩;rcases q with q | ⟨k,c',e,z'⟩
    ·exact .inl q
    ·refine .inr ⟨k,c',e,z'.sameBut hs ?_⟩
     rintro rfl;exact hj (sY hN e1 (I.ok.inj _ _ _ e hc ▸ hi))
  ·by_cases hcc : c' = c
   ·subst hcc; exact ⟨_,hc'⟩
   ·obtain ⟨w2,z2⟩:=I.cell y c' e
    exact ⟨w2,z2.sameBut hs hcc⟩
  ·obtain ⟨e,n,ne,nf,d⟩:=I.pin p hp
   refine ⟨(hs.2 p.1 ?_).trans e,n,ne,nf,d⟩;intro q;rw [q,hoc] at e;have q' : oc = p.2:=Option.some.inj e;exact d w' (by rw [<- q']; exact hocd)
theorem nT {M : Model} {A : Around} {E : Value -> Shared -> Prop} {i : Nat} {x : Str} {v : V} {u : Value} {Q : Unit -> Shared -> Prop} (I : Inv X aa σ H s) (hN : X.N.Nodup) (hi : X.N[i]? = some x) (hx : lY X.env.scope x) (r : RelV v u)
  (h : ∀ s',Inv X aa (σ.set i (some v)) H s' -> Q () s') (hf : autoParam (X.fn x = true \/ X.env.scope.names.lookup x = some .local) ma._auto_1) : wpAny M A (storeName X.env x u) Q E s :=
 qK I hN hi hx r (fun s' I' _=>h s' I') hf
theorem Inv.call' {s' : Shared} {ch : List Addr} (I : Inv X aa σ H s) (ho : s'.os = s.os) (u : Un (kH X.stack) ch H H' s.heap s'.heap) (hok : HOk X.prog X.w H' s'.heap) (hg : AllBare s'.gens)
  (hch : ∀ b ∈ ch,(b ∈ X.ex \/ X.s₀.heap.objs.size <= b) /\ b ≠ X.env.locals /\ (∀ x c,X.env.cells.lookup x = some c -> c ≠ b) /\ ∀ p ∈ X.pn ++ aa,p.1 ≠ b) : Inv X aa σ H' s':=by
 obtain ⟨h',g',d',t',o'⟩:=s';have e : o' = s.os:=ho;subst e;exact I.call (g':=g') (t':=t') (d':=d') u hok hg hch
end
noncomputable abbrev XK:=Value -> Option Addr -> Hp -> Prop
noncomputable abbrev St:=List (Option V)
noncomputable abbrev VK:=V -> Hp -> Prop
noncomputable abbrev TE:=St -> Hp -> VK -> Prop
noncomputable abbrev TT:=St -> Hp -> (Bool -> Hp -> Prop) -> Prop
noncomputable abbrev TA:=St -> Hp -> (List V -> Hp -> Prop) -> Prop
structure lM where
 nx : St -> Hp -> Prop
 rt : VK
 bk : St -> Hp -> Prop:=fun _ _=>False
 ct : St -> Hp -> Prop:=fun _ _=>False
noncomputable abbrev TS:=lM -> St -> Hp -> Prop
noncomputable def EP (X : Cx) (aa : List (Addr × Obj)) (σ : St) (Q : VK) (u : Value) (s' : Shared) : Prop:=∃ v H',Inv X aa σ H' s' /\ RelV v u /\ Q v H'
noncomputable def TP (X : Cx) (aa : List (Addr × Obj)) (σ : St) (Q : Bool -> Hp -> Prop) (b : Bool) (s' : Shared) : Prop:=∃ H',Inv X aa σ H' s' /\ Q b H'
noncomputable def AP (X : Cx) (aa : List (Addr × Obj)) (σ : St) (Q : List V -> Hp -> Prop) (us : List Value) (s' : Shared) : Prop:=∃ vs H',Inv X aa σ H' s' /\ Vals vs us /\ Q vs H'
noncomputable def SP (X : Cx) (aa : List (Addr × Obj)) (D : lM) (f : Flow) (s' : Shared) : Prop :=
 match f with
 | .next=>∃ σ' H',Inv X aa σ' H' s' /\ D.nx σ' H'
 | .brk=>∃ σ' H',Inv X aa σ' H' s' /\ D.bk σ' H'
 | .cont=>∃ σ' H',Inv X aa σ' H' s' /\ D.ct σ' H'
 | .ret u=>∃ v σ' H',Inv X aa σ' H' s' /\ RelV v u /\ D.rt v H'
noncomputable def PE (X : Cx) (e : Expr) (t : TE) : Prop :=
 ∀ (aa : List (Addr × Obj)) (s : Shared) (σ : St) (H : Hp) (Q : VK),Inv X aa σ H s -> t σ H Q -> wpAny (model X.prog X.w) X.A (eval e X.env) (EP X aa σ Q) X.xe s
noncomputable def PT (X : Cx) (e : Expr) (t : TT) : Prop :=
 ∀ (aa : List (Addr × Obj)) (s : Shared) (σ : St) (H : Hp) (Q : Bool -> Hp -> Prop),Inv X aa σ H s -> t σ H Q -> wpAny (model X.prog X.w) X.A (isTrue e X.env (eval e X.env)) (TP X aa σ Q) X.xe s
noncomputable def PW (X : Cx) (e : Expr) (t : TT) : Prop :=
 ∀ (whole : Sem Value) (aa : List (Addr × Obj)) (s : Shared) (σ : St) (H : Hp) (Q : Bool -> Hp -> Prop),Inv X aa σ H s -> t σ H Q -> wpAny (model X.prog X.w) X.A (isTrue e X.env whole) (TP X aa σ Q) X.xe s
theorem PW.pt {X : Cx} {e : Expr} {t : TT} (h : PW X e t) : PT X e t:=h _
noncomputable def PA (X : Cx) (es : List Expr) (t : TA) : Prop :=
 ∀ (pos : Pos) (aa : List (Addr × Obj)) (s : Shared) (σ : St) (H : Hp) (Q : List V -> Hp -> Prop),Inv X aa σ H s -> t σ H Q -> wpAny (model X.prog X.w) X.A (spliced (backTo pos (starEach es X.env))) (AP X aa σ Q) X.xe s
noncomputable def PS (X : Cx) (st : Stmt) (t : TS) : Prop :=
 ∀ (aa : List (Addr × Obj)) (s : Shared) (σ : St) (H : Hp) (D : lM),Inv X aa σ H s -> t D σ H -> wpAny (model X.prog X.w) X.A (exec st X.env) (SP X aa D) X.xe s
noncomputable def PSs (X : Cx) (st : List Stmt) (t : TS) : Prop :=
 ∀ (aa : List (Addr × Obj)) (s : Shared) (σ : St) (H : Hp) (D : lM),Inv X aa σ H s -> t D σ H -> wpAny (model X.prog X.w) X.A (execs st X.env) (SP X aa D) X.xe s
theorem bL {α : Type} {t : Sem α} {Q Q' : α -> Shared -> Prop} {M : Model} {A : Around} {E : Value -> Shared -> Prop} {s : Shared} (h : wpAny M A t Q E s) (hQ : ∀ a s,Q a s -> Q' a s) : wpAny M A t Q' E s:=wpAny_mono h hQ fun _ _ x=>x
section
variable {X : Cx}
theorem GR {a b : Expr} {ta tb : TE} (ha : PE X a ta) (hb : PE X b tb) {aa : List (Addr × Obj)} {s : Shared} {σ : St} {H : Hp} {R : V -> V -> Hp -> Prop} (I : Inv X aa σ H s) (h : ta σ H fun x H1=>tb σ H1 fun y H2=>R x y H2)
  {α : Type} {Q : α -> Shared -> Prop} {f : Value -> Value -> Sem α}
  (hf : ∀ v u s2 x y H2,Inv X aa σ H2 s2 -> RelV x v -> RelV y u -> R x y H2 -> wpAny (model X.prog X.w) X.A (f v u) Q X.xe s2) :
  wpAny (model X.prog X.w) X.A (eval a X.env) (fun v s₁=>wpAny (model X.prog X.w) X.A (eval b X.env) (fun u s₂=>wpAny (model X.prog X.w) X.A (f v u) Q X.xe s₂) X.xe s₁) X.xe s:=by
 refine bL (ha aa s σ H _ I h) fun v s1 ⟨x,H1,I1,r1,q1⟩=>?_
 refine bL (hb aa s1 σ H1 _ I1 q1) fun u s2 ⟨y,H2,I2,r2,q2⟩=>?_
 exact hf v u s2 x y H2 I2 r1 r2 q2
noncomputable def Fd (i : Nat) : TE:=fun σ H Q=>∃ v,σ[i]? = some (some v) /\ Q v H
noncomputable def tC (v : V) : TE:=fun _ H Q=>Q v H
theorem iJ {i : Nat} {x : Str} {pos : Pos} (hN : X.N[i]? = some x) (hv : mI X.env.scope x) (hd : autoParam ((x == ("__debug__" : Str)) = false) cR._auto_1) (hcd : autoParam ((x == ("__classdict__" : Str)) = false) cR._auto_1) : PE X (.Name x pos) (Fd i):=by
 intro aa s σ H Q I h;obtain ⟨v,e,h⟩:=h;obtain ⟨m,hn,hl⟩:=I.loc;obtain ⟨u,r,l⟩:=hl i x v hN e hv;have fin : EP X aa σ Q u s:=⟨v,H,I,r,h⟩;rcases l with ⟨hk,hm⟩ | ⟨hk,c,hc,hcell⟩
 ·exact wpAny_Name (wpAny_loadName_local I.ok.kind hk hn hm fin) hd
 ·rcases hk with hk | hk
  ·exact wpAny_Name (wpAny_loadName_cell I.ok.kind hk hc hcell fin) hd
  ·exact wpAny_Name (wpAny_loadName_free I.ok.kind hk hc hcell fin hcd) hd
theorem CJ {i j pos} : PE X (.Constant (.int i) j pos) (tC (.int i)):=fun _ _ _ H _ I h=>wpAny_Constant_int ⟨.int i,H,I.tok _,⟨_,rfl⟩,h⟩
theorem El {b j pos} : PE X (.Constant (.bool b) j pos) (tC (.bl b)):=fun _ _ _ H _ I h=>Constant_bool ⟨.bl b,H,I,rfl,h⟩
noncomputable def Gl (X : Cx) (x : Str) : Prop:=X.env.kindOf x = some .globalImplicit
theorem u4 {E : Value -> Shared -> Prop} {aa : List (Addr × Obj)} {s : Shared} {σ : St} {H : Hp} {x : Str} {u : Value} {pos : Pos} {Q : Value -> Shared -> Prop} (I : Inv X aa σ H s) (hg : Gl X x) (hm : X.mg x = some u) (h : Q u s)
  (hd : autoParam ((x == ("__debug__" : Str)) = false) cR._auto_1) : wpAny (model X.prog X.w) X.A (eval (.Name x pos) X.env) Q E s :=
 Calls.Name_function_global I.ok.kind hg (Calls.loadGlobal_global (by rw [I.ok.glob]; exact I.mod.glob.keeps I.bk) hm h) hd
theorem e8 {E : Value -> Shared -> Prop} {aa : List (Addr × Obj)} {s : Shared} {σ : St} {H : Hp} {x : Str} {u : Value} {pos : Pos} {Q : Value -> Shared -> Prop} (I : Inv X aa σ H s) (hg : Gl X x) (hm : X.mg x = none) (hv : bootBuiltins x = some u) (h : Q u s)
  (hn : autoParam (x ≠ "__name__") cR._auto_1) (hd : autoParam ((x == ("__debug__" : Str)) = false) cR._auto_1) : wpAny (model X.prog X.w) X.A (eval (.Name x pos) X.env) Q E s:=by
 obtain ⟨mb,h1,h2⟩:=I.mod.blt;exact Calls.Name_function_global I.ok.kind hg (Calls.loadGlobal_builtin (by rw [I.ok.glob]; exact I.mod.glob.keeps I.bk) hm (by rw [I.ok.blt]; exact h1.keeps I.bk) ((h2 x hn).trans hv) h) hd
theorem A8 {x : Str} {v : V} {u : Value} {pos : Pos} (hg : Gl X x) (hm : X.mg x = some u) (r : RelV v u) (hd : autoParam ((x == ("__debug__" : Str)) = false) cR._auto_1) : PE X (.Name x pos) (tC v) :=
 fun _ _ _ H _ I h=>u4 I hg hm ⟨v,H,I,r,h⟩ hd
theorem Bb {x : Str} {v : V} {u : Value} {pos : Pos} (hg : Gl X x) (hm : X.mg x = none) (hv : bootBuiltins x = some u) (r : RelV v u) (hn : autoParam (x ≠ "__name__") cR._auto_1) (hd : autoParam ((x == ("__debug__" : Str)) = false) cR._auto_1) : PE X (.Name x pos) (tC v) :=
 fun _ _ _ H _ I h=>e8 I hg hm hv ⟨v,H,I,r,h⟩ hn hd
variable {a b : Expr} {ta tb : TE} {pos : Pos}
noncomputable def PC (X : Cx) (op : CmpOp) (a b : Expr) (t : TE) : Prop :=
 ∀ (aa : List (Addr × Obj)) (s : Shared) (σ : St) (H : Hp) (Q : VK),Inv X aa σ H s -> t σ H Q ->
  wpAny (model X.prog X.w) X.A (eval a X.env) (fun v s₁=>wpAny (model X.prog X.w) X.A (eval b X.env) (fun u s₂=>wpAny (model X.prog X.w) X.A (compareOp op v u) (EP X aa σ Q) X.xe s₂) X.xe s₁) X.xe s
theorem zg (b : Expr) {op : CmpOp} (h : op ≠ .In) (h2 : op ≠ .NotIn) : behindInMarks op b = false:=by
 have e1 : (op == CmpOp.In) = false:=by cases op <;> first | rfl | exact absurd rfl h
 have e2 : (op == CmpOp.NotIn) = false:=by cases op <;> first | rfl | exact absurd rfl h2
 cases b <;> simp [behindInMarks,e1,e2]
noncomputable def tB (t : TE) : TT:=fun σ H Q=>t σ H fun x H1=>∃ c,x = .bl c /\ Q c H1
theorem Gx {op : CmpOp} {t : TE} (h : PC X op a b t) (h1 : autoParam (behindInMarks op b = false) GN._auto_1) : PT X (.Compare a [op] [b] pos) (tB t):=by
 intro aa s σ H Q I hw;refine wpAny_isTrue_Compare1 (bL (h aa s σ H _ I hw) fun v s1 h1=>bL h1 fun u s2 h2=>bL h2 fun c s3 ⟨x,H1,I1,r1,q1⟩=>?_) h1;obtain ⟨d,rfl,q⟩:=q1;cases r1;exact wpAny_truthy_bool ⟨H1,I1,q⟩
theorem Cv {e : Expr} {t : TE} (h : PE X e t) (he : autoParam (∀ whole,isTrue e X.env whole = (do let v <- whole; standAt e.pos; holding [v] (truthy v))) kS._auto_1) : PT X e (tB t):=by
 intro aa s σ H Q I hw;refine isTrue_plain (bL (h aa s σ H _ I hw) fun v s1 ⟨x,H1,I1,r1,q1⟩=>?_) (he _);obtain ⟨d,rfl,q⟩:=q1;cases r1;exact wpAny_truthy_bool ⟨H1,I1,q⟩
variable {tA tB' : TT} {eH : List Expr}
noncomputable def Fo (t u : TT) : TT:=fun σ H Q=>t σ H fun c H1=>if c = true then u σ H1 Q else Q false H1
noncomputable def Gg (t u : TT) : TT:=fun σ H Q=>t σ H fun c H1=>if c = true then Q true H1 else u σ H1 Q
noncomputable def Fh (t : TT) : TT:=fun σ H Q=>t σ H fun c H1=>Q (!c) H1
theorem AY (ha : PT X a tA) : PW X (.BoolOp .And [a] pos) tA:=by
 intro wh aa s σ H Q I h;refine isTrue_and (bL (ha aa s σ H Q I h) fun c s1 e=>?_);cases c with
 | true=>exact isTrue_and_nil e
 | false=>exact e
theorem Cs (ha : PT X a tA) : PW X (.BoolOp .Or [a] pos) tA:=by
 intro wh aa s σ H Q I h;refine isTrue_or (bL (ha aa s σ H Q I h) fun c s1 e=>?_);cases c with
 | false=>exact isTrue_or_nil e
 | true=>exact e
theorem Ct (ha : PT X a tA) (hb : PW X (.BoolOp .And (b :: eH) pos) tB') : PW X (.BoolOp .And (a :: b :: eH) pos) (Fo tA tB'):=by
 intro wh aa s σ H Q I h;refine isTrue_and (bL (ha aa s σ H _ I h) fun c s1 ⟨H1,I1,q1⟩=>?_);cases c with
 | true=>exact hb wh aa s1 σ H1 Q I1 q1
 | false=>exact ⟨H1,I1,q1⟩
theorem Eh (ha : PT X a tA) (hb : PW X (.BoolOp .Or (b :: eH) pos) tB') : PW X (.BoolOp .Or (a :: b :: eH) pos) (Gg tA tB'):=by
 intro wh aa s σ H Q I h;refine isTrue_or (bL (ha aa s σ H _ I h) fun c s1 ⟨H1,I1,q1⟩=>?_);cases c with
 | true=>exact ⟨H1,I1,q1⟩
 | false=>exact hb wh aa s1 σ H1 Q I1 q1
theorem Cw (ha : PT X a tA) : PT X (.UnaryOp .Not a pos) (Fh tA):=by
 intro aa s σ H Q I h;exact isTrue_not (ha aa s σ H (fun c H1=>Q (!c) H1) I h)
noncomputable def DV (ta tb : TE) : TE:=fun σ H Q=>ta σ H fun x H1=>∃ c,x = .bl c /\ if c = true then tb σ H1 Q else Q (.bl false) H1
theorem CI {op} {t : TE} (h : PE X a t) : PE X (.BoolOp op [a] pos) t:=fun aa s σ H Q I hw=>BoolOp_one (h aa s σ H Q I hw)
theorem CK (ha : PE X a ta) (hb : PE X (.BoolOp .And (b :: eH) pos) tb) : PE X (.BoolOp .And (a :: b :: eH) pos) (DV ta tb):=by
 intro aa s σ H Q I h;refine BoolOp_and (bL (ha aa s σ H _ I h) fun v s1 ⟨x,H1,I1,r1,q1⟩=>?_);obtain ⟨c,rfl,q1⟩:=q1;cases r1;refine wpAny_truthy_bool ?_;cases c with
 | true=>exact hb aa s1 σ H1 Q I1 q1
 | false=>exact ⟨.bl false,H1,I1,rfl,q1⟩
noncomputable def Gh (t : TT) (ta tb : TE) : TE:=fun σ H Q=>t σ H fun c H1=>if c = true then ta σ H1 Q else tb σ H1 Q
theorem y3 {c : Expr} (hc : PT X c tA) (ha : PE X a ta) (hb : PE X b tb) : PE X (.IfExp c a b pos) (Gh tA ta tb):=by
 intro aa s σ H Q I h;refine wpAny_IfExp (bL (hc aa s σ H _ I h) fun d s1 ⟨H1,I1,q1⟩=>?_);cases d with
 | true=>exact ha aa s1 σ H1 Q I1 q1
 | false=>exact hb aa s1 σ H1 Q I1 q1
end
noncomputable def dJ (K : PySem.W.Frag) (H : Hp) (a : Addr) (xs : List V) : Prop :=
 Rd H a (.lst xs) \/
  ∃ (o : Obj) (its : Array Value) (n : Nat),K.lookup a = some o /\ o.cls = .type "list" /\ o.dict = none /\ o.data = .seq its n /\ its.size <= sizeLine /\ Vals xs its.toList
noncomputable def ug (K : PySem.W.Frag) (H : Hp) (a : Addr) (xs : List V) : Prop :=
 Rd H a (.tup xs) \/
  ∃ (o : Obj) (its : Array Value) (n : Nat),K.lookup a = some o /\ o.cls = .type "tuple" /\ o.data = .seq its n /\ its.size <= sizeLine /\ Vals xs its.toList
noncomputable def FY : Value -> Option V
 | .none=>some .non
 | .bool b=>some (.bl b)
 | .int i _=>some (.int i)
 | .str x _=>some (.str x)
 | .bytes b _=>some (.byt b)
 | .float b _=>some (.flt b)
 | .ref a=>some (.ref a)
 | .type n=>some (.ty n)
 | _=>none
theorem RelV.abs {x : V} {u : Value} (r : RelV x u) : FY u = some x:=by
 cases x with
 | non=>cases r; rfl
 | bl _=>cases r; rfl
 | int _=>obtain ⟨t,rfl⟩:=r; rfl
 | str _=>obtain ⟨t,rfl⟩:=r; rfl
 | byt _=>obtain ⟨t,rfl⟩:=r; rfl
 | flt _=>obtain ⟨t,rfl⟩:=r; rfl
 | ref _=>cases r; rfl
 | ty _=>cases r; rfl
theorem RelV.inj {x y : V} {u : Value} (r : RelV x u) (q : RelV y u) : x = y:=Option.some.inj (r.abs.symm.trans q.abs)
theorem Vals.inj {xs ys : List V} {us : List Value} (h : Vals xs us) : Vals ys us -> xs = ys:=by
 induction h generalizing ys with
 | nil=>intro h'; cases h'; rfl
 | cons r t ih =>
  intro h';cases h' with
  | cons r' t'=>rw [r.inj r',ih t']
section
variable {X : Cx} {aa : List (Addr × Obj)} {σ : St} {H : Hp} {s : Shared} {a : Addr} {xs ys : List V}
theorem Inv.list (I : Inv X aa σ H s) (h : dJ X.K H a xs) : ∃ its : List Value,Vals xs its /\ PlainL s.heap a its.toArray /\ xs.length <= sizeLine:=by
 rcases h with h | ⟨o,its,n,hk,hc,hd,hs,hz,r⟩
 ·obtain ⟨z,its,n,r,e⟩:=h.ok I.hok
  exact ⟨its,r,⟨_,n,e,rfl,rfl,rfl⟩,z⟩
 ·refine ⟨its.toList,r,⟨o,n,I.kIn a o hk,hc,hd,by simpa using hs⟩,?_⟩
  have e:=r.length;simp only [Array.length_toList] at e;omega
theorem Inv.tuple (I : Inv X aa σ H s) (h : ug X.K H a xs) : ∃ its : List Value,Vals xs its /\ IsTup s.heap a its.toArray /\ xs.length <= sizeLine:=by
 rcases h with h | ⟨o,its,n,hk,hc,hs,hz,r⟩
 ·obtain ⟨z,its,r,p⟩:=h.ok I.hok
  exact ⟨its,r,p,z⟩
 ·refine ⟨its.toList,r,⟨o,I.kIn a o hk,hc,n,by simpa using hs⟩,?_⟩
  have e:=r.length;simp only [Array.length_toList] at e;omega
theorem Inv.list_inj (I : Inv X aa σ H s) (h : dJ X.K H a xs) (h' : dJ X.K H a ys) : xs = ys:=by
 obtain ⟨its,r,⟨o,n,e,_,_,d⟩,_⟩:=I.list h;obtain ⟨its',r',⟨o',n',e',_,_,d'⟩,_⟩:=I.list h';rw [e] at e'; cases e';rw [d] at d';injection d' with d1 _;have : its = its':=by simpa using congrArg Array.toList d1
 subst this;exact r.inj r'
end
noncomputable abbrev Cx.wish (X : Cx) (E : Value -> Shared -> Prop) : Cx:={ X with xe:=E }
noncomputable abbrev Cx.nox (X : Cx) : Cx:=X.wish fun _ _=>False
theorem Cx.Ok.wish {X : Cx} (ok : X.Ok) (E : Value -> Shared -> Prop) : (X.wish E).Ok :=
 ⟨ok.mod,ok.kind,ok.glob,ok.blt,ok.above,ok.inj,ok.has,ok.cab,ok.hd,ok.frames,ok.stk,ok.exf,ok.bs,ok.bsz,ok.noex,ok.exfs,ok.funs,ok.frf⟩
theorem Cx.Ok.unwish {X : Cx} {E : Value -> Shared -> Prop} (ok : (X.wish E).Ok) : X.Ok :=
 ⟨ok.mod,ok.kind,ok.glob,ok.blt,ok.above,ok.inj,ok.has,ok.cab,ok.hd,ok.frames,ok.stk,ok.exf,ok.bs,ok.bsz,ok.noex,ok.exfs,ok.funs,ok.frf⟩
section
variable {X : Cx} {aa : List (Addr × Obj)} {σ : St} {H : Hp} {s : Shared} {E : Value -> Shared -> Prop}
theorem Inv.wish (I : Inv X aa σ H s) (E : Value -> Shared -> Prop) : Inv (X.wish E) aa σ H s:=⟨I.ok.wish E,I.os,I.bare,I.base,I.loc,I.cell,I.free,I.freeC,I.pin,I.hok,I.len⟩
theorem Inv.unwish (I : Inv (X.wish E) aa σ H s) : Inv X aa σ H s:=⟨I.ok.unwish,I.os,I.bare,I.base,I.loc,I.cell,I.free,I.freeC,I.pin,I.hok,I.len⟩
theorem SP.unwish {D : lM} {f : Flow} {s' : Shared} (h : SP (X.wish E) aa D f s') : SP X aa D f s':=by
 cases f with
 | next=>obtain ⟨σ',H',I,q⟩:=h; exact ⟨σ',H',I.unwish,q⟩
 | brk=>obtain ⟨σ',H',I,q⟩:=h; exact ⟨σ',H',I.unwish,q⟩
 | cont=>obtain ⟨σ',H',I,q⟩:=h; exact ⟨σ',H',I.unwish,q⟩
 | ret u=>obtain ⟨v,σ',H',I,r,q⟩:=h; exact ⟨v,σ',H',I.unwish,r,q⟩
theorem PSs.nox {st : List Stmt} {t : TS} (h : PSs X.nox st t) : PSs X st t:=fun aa s σ H D I hw =>
 wpAny_mono (h aa s σ H D (I.wish _) hw) (fun _ _ q=>q.unwish) fun _ _ z=>False.elim z
end
section
variable {X : Cx} {st : Stmt} {eH : List Stmt} {t u : TS} {e : Expr} {te : TE} {pos : Pos}
noncomputable def DQ : TS:=fun D σ H=>D.nx σ H
noncomputable def tSeq (t u : TS) : TS:=fun D σ H=>t { D with nx:=u D } σ H
theorem A0 : PSs X [] DQ:=fun _ _ σ H _ I h=>wpAny_execs_nil ⟨σ,H,I,h⟩
theorem yZ (h1 : PS X st t) (h2 : PSs X eH u) : PSs X (st :: eH) (tSeq t u):=by
 intro aa s σ H D I h;refine wpAny_execs_cons (bL (h1 aa s σ H { D with nx:=u D } I h) fun f s1 q=>?_);cases f with
 | next =>
  obtain ⟨σ',H',I',q⟩:=q;exact h2 aa s1 σ' H' D I' q
 | ret v=>exact q
 | brk=>exact q
 | cont=>exact q
theorem AZ (h1 : PS X st t) : PSs X [st] t:=by
 intro aa s σ H D I h;refine wpAny_execs_cons (bL (h1 aa s σ H D I h) fun f s1 q=>?_);cases f with
 | next=>exact wpAny_execs_nil q
 | ret v=>exact q
 | brk=>exact q
 | cont=>exact q
theorem Inv.quiet {aa : List (Addr × Obj)} {σ : St} {H : Hp} {s : Shared} (I : Inv X aa σ H s) : interactive X.env = false:=by simp [interactive,I.ok.kind]
noncomputable def DR (te : TE) : TS:=fun D σ H=>te σ H fun _ H1=>D.nx σ H1
theorem A1 (he : PE X e te) (hs : autoParam (swapsWith e none pos.line X.env = pure false) aI._auto_1) : PS X (.Expr e pos) (DR te):=by
 intro aa s σ H D I h;exact wpAny_Expr_any (bL (he aa s σ H _ I h) fun v s1 ⟨x,H1,I1,r1,q1⟩=>⟨σ,H1,I1,q1⟩) I.quiet hs
noncomputable def Fg (te : TE) : TS:=fun D σ H=>te σ H D.rt
theorem Cz (he : PE X e te) : PS X (.Return (some e) pos) (Fg te):=by
 intro aa s σ H D I h;exact wpAny_Return_some (bL (he aa s σ H _ I h) fun v s1 ⟨x,H1,I1,r1,q1⟩=>⟨x,σ,H1,I1,r1,q1⟩)
noncomputable def Fk (c : TT) (t u : TS) : TS:=fun D σ H=>c σ H fun b H1=>if b = true then t D σ H1 else u D σ H1
theorem Ei {c : Expr} {a b : List Stmt} {tc : TT} (hc : PT X c tc) (ha : PSs X a t) (hb : PSs X b u) : PS X (.If c a b pos) (Fk tc t u):=by
 intro aa s σ H D I h;refine wpAny_If (bL (hc aa s σ H _ I h) fun d s1 ⟨H1,I1,q1⟩=>?_);cases d with
 | true=>exact ha aa s1 σ H1 D I1 q1
 | false=>exact hb aa s1 σ H1 D I1 q1
noncomputable def B8 : TS:=fun _ _ _=>False
theorem xp {sts : List Stmt} : PSs X sts B8:=fun _ _ _ _ _ _ h=>h.elim
end
noncomputable abbrev TG:=V -> St -> Hp -> (St -> Hp -> Prop) -> Prop
noncomputable abbrev pQ:=List V -> St -> Hp -> (St -> Hp -> Prop) -> Prop
noncomputable def PG (X : Cx) (target : Expr) (t : TG) : Prop :=
 ∀ (aa : List (Addr × Obj)) (s : Shared) (σ : St) (H : Hp) (v : V) (u : Value) (Q : St -> Hp -> Prop),Inv X aa σ H s -> RelV v u -> t v σ H Q ->
  wpAny (model X.prog X.w) X.A (assign target X.env u) (fun _ s'=>∃ σ' H',Inv X aa σ' H' s' /\ Q σ' H') X.xe s
noncomputable def ui (X : Cx) (ts : List Expr) (t : pQ) : Prop :=
 ∀ (aa : List (Addr × Obj)) (s : Shared) (σ : St) (H : Hp) (vs : List V) (us : List Value) (Q : St -> Hp -> Prop),Inv X aa σ H s -> Vals vs us -> t vs σ H Q ->
  wpAny (model X.prog X.w) X.A (assignInOrder ((assignEach ts X.env).map (·.2)) us) (fun _ s'=>∃ σ' H',Inv X aa σ' H' s' /\ Q σ' H') X.xe s
noncomputable abbrev zT:=V -> V -> V -> Hp -> (Hp -> Prop) -> Prop
noncomputable def DF (X : Cx) (t : zT) : Prop :=
 ∀ (aa : List (Addr × Obj)) (s : Shared) (σ : St) (H : Hp) (o i v : V) (ov iv u : Value) (Q : Hp -> Prop),Inv X aa σ H s -> RelV o ov -> RelV i iv -> RelV v u -> t o i v H Q ->
  wpAny (model X.prog X.w) X.A (setItem ov iv u) (fun _ s'=>∃ H',Inv X aa σ H' s' /\ Q H') X.xe s
noncomputable abbrev DB:=V -> V -> Hp -> VK -> Prop
noncomputable def GJ (X : Cx) (op : Operator) (t : DB) : Prop :=
 ∀ (aa : List (Addr × Obj)) (s : Shared) (σ : St) (H : Hp) (x y : V) (v u : Value) (Q : VK),Inv X aa σ H s -> RelV x v -> RelV y u -> t x y H Q ->
  wpAny (model X.prog X.w) X.A (inplaceOp op v u) (EP X aa σ Q) X.xe s
section
variable {X : Cx} {pos : Pos}
noncomputable def ni (i : Nat) : TG:=fun v σ H Q=>Q (σ.set i (some v)) H
theorem uV {i : Nat} {x : Str} (hN : X.N.Nodup) (hi : X.N[i]? = some x) (hx : lY X.env.scope x) (hf : autoParam (X.fn x = true \/ X.env.scope.names.lookup x = some .local) ma._auto_1) : PG X (.Name x pos) (ni i):=by
 intro aa s σ H v u Q I r h;exact wpAny_assign_Name (nT I hN hi hx r (fun s' I'=>⟨_,H,I',h⟩) hf)
noncomputable def FN : pQ:=fun vs σ H Q=>vs = [] /\ Q σ H
noncomputable def EN (t : TG) (u : pQ) : pQ:=fun vs σ H Q=>∃ v r,vs = v :: r /\ t v σ H fun σ' H'=>u r σ' H' Q
theorem A7 : ui X [] FN:=by
 intro aa s σ H vs us Q I r h;obtain ⟨e,h⟩:=h;subst e;cases r;exact assignInOrder_nil ⟨σ,H,I,h⟩
theorem y0 {e : Expr} {es : List Expr} {t : TG} {u : pQ} (h1 : PG X e t) (h2 : ui X es u)
  (hs : autoParam ((assignEach (e :: es) X.env).map (·.2) = assign e X.env :: (assignEach es X.env).map (·.2)) aI._auto_1) : ui X (e :: es) (EN t u):=by
 intro aa s σ H vs us Q I r h;obtain ⟨v,vr,e1,h⟩:=h;subst e1;cases r with
 | cons r rr =>
  rw [hs];refine assignInOrder_cons (bL (h1 aa s σ H _ _ _ I r h) fun _ s1 ⟨σ1,H1,I1,q1⟩=>?_);exact h2 aa s1 σ1 H1 _ _ Q I1 rr q1
noncomputable def FK (K : PySem.W.Frag) (n : Nat) (t : pQ) : TG:=fun v σ H Q=>∃ a xs,v = .ref a /\ ug K H a xs /\ xs.length = n /\ t xs σ H Q
theorem CF {es : List Expr} {k : Nat} {t : pQ} {n : Nat} (hc : X.calm = true) (h : ui X es t)
  (hn : autoParam ((assignEach es X.env).length = n) aI._auto_1) (hst : autoParam ((assignEach es X.env).findIdx? (·.1) = none) aI._auto_1) : PG X (.Tuple es k pos) (FK X.K n t):=by
 intro aa s σ H v u Q I r hw;obtain ⟨a,xs,e1,hq,hl,hw⟩:=hw;subst e1;cases r;obtain ⟨its,rv,ht,hz⟩:=I.tuple hq;refine assign_Tuple_tuple (I.ok.hd hc) ht (by simp [hn,<- hl,rv.length]) hst fun h' hx=>?_
 have I1 : Inv X aa σ H { s with heap:=h' }:=I.kept (t':=s.toks) fun b o e=>hx b o (Nat.ne_of_lt (Heap.lt_size e)) e
 exact h aa _ σ H xs _ Q I1 (by simpa using rv) hw
noncomputable def kc (to ti : TE) (t : zT) : TG:=fun v σ H Q=>to σ H fun o H1=>ti σ H1 fun i H2=>t o i v H2 fun H3=>Q σ H3
theorem CG {o i : Expr} {to ti : TE} {t : zT} (ho : PE X o to) (hi : PE X i ti) (hs : DF X t)
  (ha : autoParam (∀ v,assign (.Subscript o i pos) X.env v = (do
   let ov <- holding [v] (eval o X.env)
   let iv <- holding [v,ov] (eval i X.env)
   standAt pos
   holding [v,ov,iv] (setItem ov iv v)
   release [v,ov,iv] [])) kS._auto_1) : PG X (.Subscript o i pos) (kc to ti t):=by
 intro aa s σ H v u Q I r h;rw [ha];refine wpAny_bind (wpAny_holding (bL (ho aa s σ H _ I h) fun ov s1 ⟨x,H1,I1,r1,q1⟩=>?_));refine wpAny_bind (wpAny_holding (bL (hi aa s1 σ H1 _ I1 q1) fun iv s2 ⟨y,H2,I2,r2,q2⟩=>?_));refine wpAny_bind (wpAny_standAt (wpAny_bind (wpAny_holding (bL (hs aa s2 σ H2 x y v ov iv u _ I2 r1 r2 r q2) fun _ s3 ⟨H3,I3,q3⟩=>?_))));exact wpAny_release ⟨σ,H3,I3,q3⟩
noncomputable def yK (te : TE) (g : TG) : TS:=fun D σ H=>te σ H fun x H1=>g x σ H1 D.nx
theorem CB {tg e : Expr} {te : TE} {g : TG} (he : PE X e te) (hg : PG X tg g) (hs : autoParam (swapsWithSole [tg] e pos.line X.env = pure false) aI._auto_1) (hw : autoParam (swappedStores [tg] e X.env = pure none) aI._auto_1)
  (h1 : autoParam ((assignEach [tg] X.env).map (·.2) = [assign tg X.env]) aI._auto_1) : PS X (.Assign [tg] e pos) (yK te g):=by
 intro aa s σ H D I h;refine wpAny_Assign_stores (bL (he aa s σ H _ I h) fun v s1 ⟨x,H1,I1,r1,q1⟩=>?_) hs hw;rw [h1];exact bL (hg aa s1 σ H1 x v _ I1 r1 q1) fun _ s2 q=>q
theorem Cy {i : Nat} {x : Str} {e : Expr} {te : TE} {pos' : Pos} (hN : X.N.Nodup) (hi : X.N[i]? = some x) (hx : lY X.env.scope x) (he : PE X e te) (hs : autoParam (swapsWith e (some (.Name x pos')) pos.line X.env = pure false) aI._auto_1) (hf : autoParam (X.fn x = true \/ X.env.scope.names.lookup x = some .local) ma._auto_1) :
  PS X (.Assign [.Name x pos'] e pos) (yK te (ni i)):=by
 intro aa s σ H D I h;refine wpAny_Assign_Name (bL (he aa s σ H _ I h) fun v s1 ⟨y,H1,I1,r1,q1⟩=>?_) hs;exact nT I1 hN hi hx r1 (fun s2 I2=>⟨_,H1,I2,q1⟩) hf
noncomputable def Fn (i : Nat) (te : TE) (ti : DB) : TS:=fun D σ H=>∃ x,σ[i]? = some (some x) /\ te σ H fun y H1=>ti x y H1 fun z H2=>D.nx (σ.set i (some z)) H2
theorem CA {i : Nat} {x : Str} {e : Expr} {te : TE} {op : Operator} {ti : DB} {pos' : Pos} (hN : X.N.Nodup) (hi : X.N[i]? = some x) (hx : lY X.env.scope x) (he : PE X e te) (ho : GJ X op ti) (hf : autoParam (X.fn x = true \/ X.env.scope.names.lookup x = some .local) ma._auto_1) :
  PS X (.AugAssign (.Name x pos') op e pos) (Fn i te ti):=by
 intro aa s σ H D I h;obtain ⟨v,e1,h⟩:=h;obtain ⟨m,hn,hl⟩:=I.loc;have vis : mI X.env.scope x:=by rcases hx with k | k; exact .inl k; exact .inr (.inl k)
 obtain ⟨u,r,l⟩:=hl i x v hi e1 vis;refine wpAny_AugAssign_Name ?_;have go : wpAny (model X.prog X.w) X.A (eval e X.env) (fun w s₂=>wpAny (model X.prog X.w) X.A (inplaceOp op u w) (fun r s₃=>wpAny (model X.prog X.w) X.A (storeName X.env x r) (fun _=>SP X aa D .next) X.xe s₃) X.xe s₂) X.xe s:=by
  refine bL (he aa s σ H _ I h) fun w s1 ⟨y,H1,I1,r1,q1⟩=>?_
  refine bL (ho aa s1 σ H1 v y u w _ I1 r r1 q1) fun z s2 ⟨zv,H2,I2,r2,q2⟩=>?_
  exact nT I2 hN hi hx r2 (fun s3 I3=>⟨_,H2,I3,q2⟩) hf
 rcases l with ⟨hk,hm⟩ | ⟨hk,c,hc,hcell⟩
 ·exact wpAny_loadName_local I.ok.kind hk hn hm go
 ·rcases hk with hk | hk
  ·exact wpAny_loadName_cell I.ok.kind hk hc hcell go
  ·rcases hx with k | k
   ·have : X.env.scope.names.lookup x = some .free:=hk
    rw [k] at this; cases this
   ·have : X.env.scope.names.lookup x = some .free:=hk
    rw [k] at this; cases this
end
section
variable {X : Cx} {pos : Pos}
end
structure It where
 go : Nat -> Hp -> Prop
 yld : Nat -> Hp -> V -> Hp -> Prop
 stop : Nat -> Hp -> Prop
noncomputable def gm (X : Cx) (aa : List (Addr × Obj)) (H : Hp) (b : Addr) : Prop :=
 H b = none /\ b ≠ X.env.locals /\ b ∉ X.fs /\ (b ∈ X.ex \/ X.s₀.heap.objs.size <= b) /\ (∀ x c,X.env.cells.lookup x = some c -> c ≠ b) /\ ∀ p ∈ X.pn ++ aa,p.1 ≠ b
theorem Inv.fpOk {X : Cx} {aa : List (Addr × Obj)} {σ : St} {H H' : Hp} {s : Shared} {b : Addr} (I : Inv X aa σ H s) (hb : s.heap.objs.size <= b) (hn : H' b = none) : gm X aa H' b:=by
 refine ⟨hn,Nat.ne_of_gt (Nat.lt_of_lt_of_le I.lt hb),I.nofs hb,.inr (Nat.le_trans I.sz hb),fun x c e z=>?_,fun p hp z=>?_⟩
 ·obtain ⟨v,q⟩:=I.cell x c e
  exact absurd (Nat.lt_of_lt_of_le q.lt (by rw [z]; exact hb)) (Nat.lt_irrefl _)
 ·exact absurd (Nat.lt_of_lt_of_le (Heap.lt_size (I.pin p hp).1) (by rw [z]; exact hb)) (Nat.lt_irrefl _)
structure mJ (P : Program) (w : World) (K : PySem.W.Frag) (tg : Expr) (J : It) (fp : List Addr) (it : Addr) (tn : Nat -> Heap -> Prop) : Prop where
 mem : it ∈ fp
 obj : ∀ i h,tn i h -> ∀ b ∈ fp,∃ o,h.get? b = some o /\ ∀ v,o.data ≠ .cell v
 keep : ∀ i h h',tn i h -> (∀ b ∈ fp,∀ o,h.get? b = some o -> h'.get? b = some o) -> tn i h'
 item : ∀ (X : Cx),X.prog = P -> X.w = w -> X.K = K -> X.calm = true -> ∀ (i : Nat) (aa : List (Addr × Obj)) (s : Shared) (σ : St) (H : Hp) (E : Value -> Shared -> Prop),Inv X aa σ H s -> (∀ b ∈ fp,gm X aa H b) -> tn i s.heap -> J.go i H ->
  wpAny (model P w) X.A (pyNext (.ref it)) (fun r s1=>∃ u,r = some u /\
   wpAny (model P w) X.A (letOwnedTupleGo tg (.ref it) u) (fun _ s2=>∃ x H',Inv X aa σ H' s2 /\ RelV x u /\ J.yld i H x H' /\ tn (i + 1) s2.heap /\ ∀ b ∈ fp,H' b = none) E s1) E s
 done : ∀ (X : Cx),X.prog = P -> X.w = w -> X.K = K -> X.calm = true -> ∀ (i : Nat) (aa : List (Addr × Obj)) (s : Shared) (σ : St) (H : Hp) (E : Value -> Shared -> Prop),Inv X aa σ H s -> (∀ b ∈ fp,gm X aa H b) -> tn i s.heap -> J.stop i H ->
  wpAny (model P w) X.A (pyNext (.ref it)) (fun r s1=>r = none /\ Inv X aa σ H s1) E s
 self : ∀ (A : Around) (i : Nat) (s : Shared) (Q : Value -> Shared -> Prop) (E : Value -> Shared -> Prop),tn i s.heap -> Q (.ref it) s -> wpAny (model P w) A (pyIter (.ref it)) Q E s
noncomputable abbrev TI:=St -> Hp -> (It -> Hp -> Prop) -> Prop
noncomputable def DH (X : Cx) (aa : List (Addr × Obj)) (σ : St) (tg : Expr) (R : It -> Hp -> Prop) (itv : Value) (s2 : Shared) : Prop :=
 ∃ (it : Addr) (fp : List Addr) (tn : Nat -> Heap -> Prop) (J : It) (H' : Hp),itv = .ref it /\ Inv X aa σ H' s2 /\ mJ X.prog X.w X.K tg J fp it tn /\ tn 0 s2.heap /\ (∀ b ∈ fp,gm X aa H' b) /\ R J H'
noncomputable def PI (X : Cx) (tg iter : Expr) (wi : TI) : Prop :=
 ∀ (aa : List (Addr × Obj)) (s : Shared) (σ : St) (H : Hp) (R : It -> Hp -> Prop),Inv X aa σ H s -> wi σ H R ->
  wpAny (model X.prog X.w) X.A (eval iter X.env) (fun v s1=>wpAny (model X.prog X.w) X.A (pyIter v) (DH X aa σ tg R) X.xe s1) X.xe s
theorem sh {M : Model} {A : Around} {E : Value -> Shared -> Prop} {s : Shared} {tg : Expr} {it : Addr} {u : Value} {o : Obj} {n : String} {vs : Array Value} {Q : Unit -> Shared -> Prop} (ho : s.heap.get? it = some o) (hc : o.cls = .type n) (hd : o.data = .fields vs)
  (hn : ["enumerate","zip","dict_itemiterator","dict_reverseitemiterator","odict_iterator","itertools.zip_longest","itertools.pairwise"].contains n = false) (hQ : Q () s) : wpAny M A (letOwnedTupleGo tg (.ref it) u) Q E s:=by
 unfold letOwnedTupleGo;cases tg <;> first
  | exact wpAny_pure hQ
  | (cases u <;> first
    | exact wpAny_pure hQ
    | (refine wpAny_bind (wpAny_load ho ?_)
       rw [hc,hd];show wpAny M A (if (["enumerate","zip","dict_itemiterator","dict_reverseitemiterator","odict_iterator","itertools.zip_longest","itertools.pairwise"].contains n && vs[0]? == some (rawInt _)) = true then _ else _) Q E s;rw [if_neg (by intro h; rw [hn,Bool.false_and] at h; cases h)];exact wpAny_pure hQ))
noncomputable def vQ (K : PySem.W.Frag) (a : Addr) : It :=
 ⟨fun i H=>∃ xs x,dJ K H a xs /\ xs[i]? = some x,fun i H x H'=>H' = H /\ ∀ xs,dJ K H a xs -> xs[i]? = some x,fun i H=>∃ xs,dJ K H a xs /\ xs.length <= i⟩
noncomputable def vP (lo : Int) (n : Nat) : It:=⟨fun i _=>i < n,fun i H x H'=>H' = H /\ x = .int (lo + i),fun i _=>n <= i⟩
theorem wQ {P : Program} {w : World} {K : PySem.W.Frag} {tg : Expr} (a it : Addr) : mJ P w K tg (vQ K a) [it] it (fun i h=>h.IsListIter it a i) where
 mem:=by simp
 obj:=fun i h st b hb=>by
  have e : b = it:=by simpa using hb
  subst e;obtain ⟨o,e,c,d⟩:=st;exact ⟨o,e,fun v z=>by rw [d] at z; cases z⟩
 keep:=fun i h h' st k=>st.at fun o e=>k it (by simp) o e
 item:=by
  intro X hP hw hK hc i aa s σ H E I hf st hg;subst hP hw hK;obtain ⟨xs,x,hq,hx⟩:=hg;obtain ⟨its,rv,p,hz⟩:=I.list hq;obtain ⟨u,hu,ru⟩:=rv.get hx;obtain ⟨f0,f1,f2,f3,f4,f5⟩:=hf it (by simp);refine wpAny_pyNext_list_item st p.isList (x:=u) (by simpa using hu) fun h' st' sb=>?_
  have I1 : Inv X aa σ H { s with heap:=h' }:=I.turned (t':=s.toks) (fun b o hb e=>(sb.2 b hb).trans e) f0 f1 f3 f4 f5;obtain ⟨o,e,c,d⟩:=id st';exact ⟨u,rfl,sh (s:={ s with heap:=h' }) e c d dC ⟨x,H,I1,ru,⟨rfl,fun ys hy=>by rw [I.list_inj hy hq]; exact hx⟩,st',fun b hb=>(hf b hb).1⟩⟩
 done:=by
  intro X hP hw hK hc i aa s σ H E I hf st hg;subst hP hw hK;obtain ⟨xs,hq,hx⟩:=hg;obtain ⟨its,rv,p,hz⟩:=I.list hq;obtain ⟨f0,f1,f2,f3,f4,f5⟩:=hf it (by simp);have hl:=rv.length;exact wpAny_pyNext_list_end (I.ok.hd hc) st p.isList (by simp; omega) fun h' eb=>⟨rfl,I.turned (t':=s.toks) (fun b o hb e=>eb b o hb e) f0 f1 f3 f4 f5⟩
 self:=fun _ _ _ _ _ st h=>wpAny_pyIter_listiter st h
theorem vT {P : Program} {w : World} {K : PySem.W.Frag} {tg : Expr} (it : Addr) (lo : Int) (n : Nat) : mJ P w K tg (vP lo n) [it] it (fun i h=>IsRangeIter h it (lo + (i : Nat) * 1) ((n : Int) - (i : Nat)) 1) where
 mem:=by simp
 obj:=fun i h st b hb=>by
  have e : b = it:=by simpa using hb
  subst e;exact ⟨_,st,fun v z=>by
   have z' : Data.fields _ = Data.cell v:=z;cases z'⟩
 keep:=fun i h h' st k=>k it (by simp) _ st
 item:=by
  intro X hP hw hK hc i aa s σ H E I hf st hg;subst hP hw hK;obtain ⟨f0,f1,f2,f3,f4,f5⟩:=hf it (by simp);have W:=Walks.range (prog:=X.prog) (w:=X.w) (I.ok.hd hc) it lo 1 n;refine W.item i s _ _ hg st fun v h' tk hv st' kk=>?_
  obtain ⟨t,rfl⟩:=hv;have I1 : Inv X aa σ H { s with heap:=h',toks:=tk }:=I.turned (fun b o hb e=>kk b o (by simpa using hb) e) f0 f1 f3 f4 f5;refine ⟨_,rfl,sh (s:={ s with heap:=h',toks:=tk }) (n:="range_iterator") st' rfl rfl dC ⟨.int (lo + i),H,I1,⟨t,?_⟩,⟨rfl,rfl⟩,st',fun b hb=>(hf b hb).1⟩⟩;rw [Int.mul_one]
 done:=by
  intro X hP hw hK hc i aa s σ H E I hf st hg;subst hP hw hK;obtain ⟨f0,f1,f2,f3,f4,f5⟩:=hf it (by simp);exact wpAny_pyNext_range_end (I.ok.hd hc) st (by have : n <= i:=hg; omega) fun h' eb=>⟨rfl,I.turned (t':=s.toks) (fun b o hb e=>eb b o hb e) f0 f1 f3 f4 f5⟩
 self:=fun _ _ _ _ _ st h=>wpAny_pyIter_rangeiter st h
section
variable {X : Cx} {tg : Expr}
noncomputable def EJ (K : PySem.W.Frag) (tl : TE) : TI:=fun σ H R=>tl σ H fun x H1=>∃ a,x = .ref a /\ (∃ xs,dJ K H1 a xs) /\ R (vQ K a) H1
theorem uU {l : Expr} {tl : TE} (hl : PE X l tl) : PI X tg l (EJ X.K tl):=by
 intro aa s σ H R I h;refine bL (hl aa s σ H _ I h) fun v s1 ⟨x,H1,I1,r1,q1⟩=>?_
 obtain ⟨a,e,⟨xs,hq⟩,q⟩:=q1;subst e;cases r1;obtain ⟨its,rv,p,hz⟩:=I1.list hq;refine wpAny_pyIter_list p.isList ?_;refine ⟨s1.heap.objs.size,[s1.heap.objs.size],_,_,H1,rfl,I1.kept (t':=s1.toks) fun b o e=>Heap.get?_push_of_some _ e,wQ a _,⟨_,Heap.get?_push_size _ rfl,rfl,rfl⟩,fun b hb=>?_,q⟩;have e : b = s1.heap.objs.size:=by simpa using hb
 subst e;exact I1.fpOk (Nat.le_refl _) (I1.hok.fresh (Nat.le_refl _))
theorem sH {aa : List (Addr × Obj)} {σ : St} {H : Hp} {s : Shared} {R : It -> Hp -> Prop} {E : Value -> Shared -> Prop} {lo hi : Int} {t u v : Tok} {tk : Nat} (I : Inv X aa σ H s) (h1 : -(2 ^ 62) <= lo) (h2 : lo < 2 ^ 62) (h3 : -(2 ^ 62) <= hi) (h4 : hi < 2 ^ 62)
  (q : R (vP lo (hi - lo).toNat) H) : wpAny (model X.prog X.w) X.A (pyIter (.ref s.heap.objs.size)) (DH X aa σ tg R) E { s with heap:=s.heap.push { cls:=.type "range",data:=.fields #[.int lo t,.int hi u,.int 1 v] },toks:=tk }:=by
 refine wpAny_pyIter_range (IsRange.new ..) (small_one h1 h2 h3 h4) ?_;have I1 : Inv X aa σ H { s with heap:=s.heap.push { cls:=.type "range",data:=.fields #[.int lo t,.int hi u,.int 1 v] },toks:=tk }:=I.kept fun b o e=>Heap.get?_push_of_some _ e
 refine ⟨(s.heap.push { cls:=.type "range",data:=.fields #[.int lo t,.int hi u,.int 1 v] }).objs.size,[(s.heap.push { cls:=.type "range",data:=.fields #[.int lo t,.int hi u,.int 1 v] }).objs.size],_,_,H,rfl,
  I1.kept (t':=tk) fun b o e=>Heap.get?_push_of_some _ e,vT _ lo (hi - lo).toNat,?_,fun b hb=>?_,q⟩
 ·have e1 : lo + ((0 : Nat) : Int) * 1 = lo:=by simp
  have e2 : (((hi - lo).toNat : Nat) : Int) - ((0 : Nat) : Int) = Builtin.Range.rangeSize lo hi 1:=by rw [rangeSize_one]; split <;> omega
  show IsRangeIter _ _ (lo + ((0 : Nat) : Int) * 1) ((((hi - lo).toNat : Nat) : Int) - ((0 : Nat) : Int)) 1;rw [e1,e2];exact Heap.get?_push_size _ rfl
 ·have e : b = (s.heap.push { cls:=.type "range",data:=.fields #[.int lo t,.int hi u,.int 1 v] }).objs.size:=by simpa using hb
  subst e;exact I1.fpOk (Nat.le_refl _) (I1.hok.fresh (Nat.le_refl _))
noncomputable def EI (ta : TA) : TI:=fun σ H R=>ta σ H fun vs H1=>∃ j : Int,vs = [.int j] /\ -(2 ^ 62) <= j /\ j < 2 ^ 62 /\ R (vP 0 j.toNat) H1
noncomputable def EH (ta : TA) : TI:=fun σ H R=>ta σ H fun vs H1=>∃ i j : Int,vs = [.int i,.int j] /\ (-(2 ^ 62) <= i /\ i < 2 ^ 62 /\ -(2 ^ 62) <= j /\ j < 2 ^ 62) /\ R (vP i (j - i).toNat) H1
theorem xw {a : Expr} {ta : TA} {p pos : Pos} (hg : Gl X "range") (hm : X.mg "range" = none) (ha : PA X [a] ta) (hs : autoParam (starEach [a] X.env = [(false,eval a X.env)]) aI._auto_1) : PI X tg (.Call (.Name "range" p) [a] [] pos) (EI ta):=by
 intro aa s σ H R I h;refine Call_ (e8 I hg hm boot_range (PyProof.Rows.callWith_type1 (bL (ha pos aa s σ H _ I h) fun us s1 ⟨vs,H1,I1,r1,q1⟩=>?_) hs rfl));obtain ⟨j,e,q1,q2,q⟩:=q1;subst e;cases r1 with
 | cons r rr =>
  cases rr;obtain ⟨t,rfl⟩:=r;exact call_range_1 (sH I1 oM oM q1 q2 (by simpa using q))
theorem xu {a b : Expr} {ta : TA} {p pos : Pos} (hg : Gl X "range") (hm : X.mg "range" = none) (ha : PA X [a,b] ta) (hs : autoParam (starEach [a,b] X.env = [(false,eval a X.env),(false,eval b X.env)]) aI._auto_1) (hs2 : autoParam (starEach [b] X.env = [(false,eval b X.env)]) aI._auto_1) :
  PI X tg (.Call (.Name "range" p) [a,b] [] pos) (EH ta):=by
 intro aa s σ H R I h;refine Call_ (e8 I hg hm boot_range (PyProof.Rows.callWith_type1 (bL (ha pos aa s σ H _ I h) fun us s1 ⟨vs,H1,I1,r1,q1⟩=>?_) (by rw [hs,hs2]) (by rw [hs2]; rfl)));obtain ⟨i,j,e,⟨q1,q2,q3,q4⟩,q⟩:=q1;subst e;cases r1 with
 | cons r rr =>
  cases rr with
  | cons r' rr =>
   cases rr;obtain ⟨t,rfl⟩:=r;obtain ⟨t',rfl⟩:=r';exact call_range_2 (sH I1 q1 q2 q3 q4 q)
noncomputable def Fl (wi : TI) (g : TG) (tb : TS) : TS:=fun D σ H=>wi σ H fun J H1=>∃ W : Nat -> Nat -> St -> Hp -> Prop,(∃ m,W 0 m σ H1) /\ ∀ i m σ H,W i m σ H ->
 (J.stop i H /\ D.nx σ H) \/ (J.go i H /\ ∃ N : St -> Hp -> Prop,(∀ σ' H',N σ' H' -> ∃ m',m' < m /\ W (i + 1) m' σ' H') /\ ∀ x H',J.yld i H x H' -> g x σ H' fun σ2 H2=>tb { D with nx:=N,ct:=N,bk:=D.nx } σ2 H2)
noncomputable def mn (fp : List Addr) (h : Heap) : List (Addr × Obj):=fp.filterMap fun b=>(h.get? b).map fun o=>(b,o)
theorem i6 {fp : List Addr} {h : Heap} {b : Addr} {o : Obj} (hb : b ∈ fp) (e : h.get? b = some o) : (b,o) ∈ mn fp h:=List.mem_filterMap.mpr ⟨b,hb,by rw [e]; rfl⟩
theorem xI {fp : List Addr} {h : Heap} {p : Addr × Obj} (hp : p ∈ mn fp h) : p.1 ∈ fp /\ h.get? p.1 = some p.2:=by
 obtain ⟨b,hb,e⟩:=List.mem_filterMap.mp hp;cases q : h.get? b with
 | none=>rw [q] at e; cases e
 | some o =>
  rw [q] at e;have e' : (b,o) = p:=Option.some.inj e;subst e';exact ⟨hb,q⟩
theorem Inv.pinned {aa : List (Addr × Obj)} {σ : St} {H : Hp} {s : Shared} {fp : List Addr} (I : Inv X aa σ H s) (hf : ∀ b ∈ fp,gm X aa H b) (ho : ∀ b ∈ fp,∃ o,s.heap.get? b = some o /\ ∀ v,o.data ≠ .cell v) : Inv X (aa ++ mn fp s.heap) σ H s :=
 I.pins_of fun p hp=>(List.mem_append.mp hp).elim (fun z=>I.pin p (List.mem_append_right _ z)) fun z=>by
  obtain ⟨hb,e⟩:=xI z;obtain ⟨f0,f1,f2,_⟩:=hf p.1 hb;obtain ⟨o,e',d⟩:=ho p.1 hb;rw [e] at e'; cases e';exact ⟨e,f0,f1,f2,d⟩
theorem Inv.unpinned {aa pl : List (Addr × Obj)} {σ : St} {H : Hp} {s : Shared} (I : Inv X (aa ++ pl) σ H s) : Inv X aa σ H s:=I.pins_of fun p hp=>I.pin p (List.mem_append_right _ (List.mem_append_left _ hp))
theorem xr {iter : Expr} {body : List Stmt} {wi : TI} {g : TG} {tb : TS} {pos : Pos} (hp : PassesOwn (model X.prog X.w) X.A X.env X.xe) (hc : X.calm = true) (hi : PI X tg iter wi) (hg : PG X tg g) (hb : PSs X body tb)
  (hs : autoParam (∀ x,foldedSetIterable iter X.env x = pure x) kS._auto_1) : PS X (.For tg iter body [] pos) (Fl wi g tb):=by
 intro aa s σ H D I h;refine wpAny_For (bL (hi aa s σ H _ I h) fun v s1 h1=>bL h1 fun itv s2 h2=>?_) hs;obtain ⟨it,fp,tn,J,H2,e,I2,T,st2,f2,W,⟨m0,w0⟩,turn⟩:=h2;subst e
 -- what stays true of the iterator's objects through the loop
 have stat : ∀ {H' : Hp},(∀ b ∈ fp,H' b = none) -> ∀ b ∈ fp,gm X aa H' b:=fun hn b hb=>⟨hn b hb,(f2 b hb).2⟩
 refine codeAny_forLoop_any (fun n s'=>∃ i σ' H',Inv X aa σ' H' s' /\ tn i s'.heap /\ (∀ b ∈ fp,H' b = none) /\ W i n σ' H') ?_ m0 ⟨0,σ,H2,I2,st2,fun b hb=>(f2 b hb).1,w0⟩;rintro n s3 ⟨i,σ3,H3,I3,st3,fr3,w3⟩;rcases turn i n σ3 H3 w3 with ⟨stop,qn⟩ | ⟨go,N,hN,step⟩
 ·refine wpAny_passesOwn hp (bL (T.done X rfl rfl rfl hc i aa s3 σ3 H3 X.xe I3 (stat fr3) st3 stop) fun r s4 ⟨hr,I4⟩=>?_)
  subst hr;exact wpAny_execs_nil ⟨σ3,H3,I4,qn⟩
 ·refine wpAny_passesOwn hp (bL (T.item X rfl rfl rfl hc i aa s3 σ3 H3 X.xe I3 (stat fr3) st3 go) fun r s4 ⟨u,hr,h4⟩=>?_)
  subst hr;refine wpAny_passesOwn hp (bL h4 fun _ s5 ⟨x,H5,I5,r5,y5,st5,fr5⟩=>?_);have I5':=I5.pinned (stat fr5) (T.obj _ _ st5);refine wpAny_passesOwn hp (bL (hg _ s5 σ3 H5 x u _ I5' r5 (step x H5 y5)) fun _ s6 ⟨σ6,H6,I6,q6⟩=>?_);refine wpAny_passesOwn hp (bL (hb _ s6 σ6 H6 _ I6 q6) fun f s7 q7=>?_);have again : ∀ {σ7 : St} {H7 : Hp},Inv X (aa ++ mn fp s5.heap) σ7 H7 s7 -> N σ7 H7 -> ∃ m,m < n /\ ∃ i σ' H',Inv X aa σ' H' s7 /\ tn i s7.heap /\ (∀ b ∈ fp,H' b = none) /\ W i m σ' H':=fun {σ7 H7} I7 n7=>by
   obtain ⟨m',hm,w7⟩:=hN σ7 H7 n7;refine ⟨m',hm,i + 1,σ7,H7,I7.unpinned,T.keep _ _ _ st5 fun b hb o e=>(I7.pin (b,o) (List.mem_append_right _ (List.mem_append_right _ (i6 hb e)))).1,fun b hb=>?_,w7⟩;obtain ⟨o,e,d⟩:=T.obj _ _ st5 b hb;exact (I7.pin (b,o) (List.mem_append_right _ (List.mem_append_right _ (i6 hb e)))).2.1
  cases f with
  | next=>obtain ⟨σ7,H7,I7,n7⟩:=q7; exact again I7 n7
  | cont=>obtain ⟨σ7,H7,I7,n7⟩:=q7; exact again I7 n7
  | brk=>obtain ⟨σ7,H7,I7,q7⟩:=q7; exact ⟨σ7,H7,I7.unpinned,q7⟩
  | ret v=>obtain ⟨x7,σ7,H7,I7,r7,q7⟩:=q7; exact ⟨x7,σ7,H7,I7.unpinned,r7,q7⟩
end
theorem zH {K : PySem.W.Frag} {a : Addr} {xs : List V} {g : TG} {tb : TS} {D : lM} {σ : St} {H : Hp} (Pv : Nat -> St -> Hp -> Prop) (h0 : Pv 0 σ H) (hl : ∀ i σ H,i <= xs.length -> Pv i σ H -> dJ K H a xs)
  (hs : ∀ i x σ H,xs[i]? = some x -> Pv i σ H -> g x σ H fun σ2 H2=>tb { D with nx:=Pv (i + 1),ct:=Pv (i + 1),bk:=D.nx } σ2 H2) (hd : ∀ σ H,Pv xs.length σ H -> D.nx σ H) :
  ∃ W : Nat -> Nat -> St -> Hp -> Prop,(∃ m,W 0 m σ H) /\ ∀ i m σ H,W i m σ H ->
   ((vQ K a).stop i H /\ D.nx σ H) \/ ((vQ K a).go i H /\ ∃ N : St -> Hp -> Prop,(∀ σ' H',N σ' H' -> ∃ m',m' < m /\ W (i + 1) m' σ' H') /\ ∀ x H',(vQ K a).yld i H x H' -> g x σ H' fun σ2 H2=>tb { D with nx:=N,ct:=N,bk:=D.nx } σ2 H2):=by
 refine ⟨fun i m σ H=>m = xs.length - i /\ i <= xs.length /\ Pv i σ H,⟨xs.length,by simp,Nat.zero_le _,h0⟩,?_⟩;rintro i m σ H ⟨rfl,hi,p⟩;have q:=hl i σ H hi p;by_cases hlt : i < xs.length
 ·refine .inr ⟨⟨xs,xs[i],q,by simp [hlt]⟩,Pv (i + 1),fun σ' H' p'=>⟨xs.length - (i + 1),by omega,rfl,hlt,p'⟩,fun x H' y=>?_⟩
  obtain ⟨e,y⟩:=y;subst e;exact hs i x σ _ (y xs q) p
 ·have e : i = xs.length:=by omega
  subst e;exact .inl ⟨⟨xs,q,Nat.le_refl _⟩,hd σ H p⟩
noncomputable abbrev R2:=V -> V -> Hp -> VK -> Prop
noncomputable def fk (X : Cx) (f : Value -> Value -> Sem Value) (r : R2) : Prop :=
 ∀ (aa : List (Addr × Obj)) (s : Shared) (σ : St) (H : Hp) (x y : V) (v u : Value) (Q : VK),Inv X aa σ H s -> RelV x v -> RelV y u -> r x y H Q ->
  wpAny (model X.prog X.w) X.A (f v u) (EP X aa σ Q) X.xe s
noncomputable def An (X : Cx) (f : Value -> Sem Value) (r : V -> Hp -> VK -> Prop) : Prop :=
 ∀ (aa : List (Addr × Obj)) (s : Shared) (σ : St) (H : Hp) (x : V) (v : Value) (Q : VK),Inv X aa σ H s -> RelV x v -> r x H Q ->
  wpAny (model X.prog X.w) X.A (f v) (EP X aa σ Q) X.xe s
noncomputable def CallR (X : Cx) (f : Value) (r : List V -> Hp -> VK -> Prop) : Prop :=
 ∀ (aa : List (Addr × Obj)) (s : Shared) (σ : St) (H : Hp) (xs : List V) (us : List Value) (Q : VK),Inv X aa σ H s -> Vals xs us -> r xs H Q ->
  wpAny (model X.prog X.w) X.A (call f us) (EP X aa σ Q) X.xe s
noncomputable def qJ (r : R2) (ta tb : TE) : TE:=fun σ H Q=>ta σ H fun x H1=>tb σ H1 fun y H2=>r x y H2 Q
noncomputable def Gd (r : V -> Hp -> VK -> Prop) (ta : TE) : TE:=fun σ H Q=>ta σ H fun x H1=>r x H1 Q
noncomputable def rI (C : Int -> Int -> Prop) (g : Int -> Int -> V) : R2:=fun x y H Q=>∃ i j,x = .int i /\ y = .int j /\ C i j /\ Q (g i j) H
noncomputable def kv (g : Int -> Int -> V) : R2:=fun x y H Q=>∃ i j,x = .int i /\ y = .int j /\ Q (g i j) H
noncomputable def rU (g : Int -> V) : V -> Hp -> VK -> Prop:=fun x H Q=>∃ i,x = .int i /\ Q (g i) H
section
variable {X : Cx} {a b c : Expr} {ta tb tc : TE} {pos : Pos}
theorem zQ (ha : PE X a ta) (hb : PE X b tb) {aa : List (Addr × Obj)} {s : Shared} {σ : St} {H : Hp} {R : V -> V -> Hp -> Prop} (I : Inv X aa σ H s)
  (h : ta σ H fun x H1=>tb σ H1 fun y H2=>R x y H2) {Q : Value -> Shared -> Prop} {f : Value -> Value -> Sem Value}
  (hf : ∀ v u s2 x y H2,Inv X aa σ H2 s2 -> RelV x v -> RelV y u -> R x y H2 -> wpAny (model X.prog X.w) X.A (f v u) Q X.xe s2) :
  wpAny (model X.prog X.w) X.A (eval a X.env) (fun v s₁=>wpAny (model X.prog X.w) X.A (eval b X.env) (fun u s₂=>wpAny (model X.prog X.w) X.A (f v u) Q X.xe s₂) X.xe s₁) X.xe s:=by
 refine bL (ha aa s σ H _ I h) fun v s1 ⟨x,H1,I1,r1,q1⟩=>?_
 refine bL (hb aa s1 σ H1 _ I1 q1) fun u s2 ⟨y,H2,I2,r2,q2⟩=>?_
 exact hf v u s2 x y H2 I2 r1 r2 q2
theorem oH {op : Operator} {r : R2} (ho : fk X (binaryOp op) r) (ha : PE X a ta) (hb : PE X b tb) : PE X (.BinOp a op b pos) (qJ r ta tb):=by
 intro aa s σ H Q I h;exact wpAny_BinOp (zQ ha hb I h fun v u s2 x y H2 I2 rx ry q=>ho aa s2 σ H2 x y v u Q I2 rx ry q)
theorem z4 {op : UnaryOp} {r : V -> Hp -> VK -> Prop} (ho : An X (unaryOp op) r) (ha : PE X a ta) : PE X (.UnaryOp op a pos) (Gd r ta):=by
 intro aa s σ H Q I h;exact UnaryOp_ (bL (ha aa s σ H _ I h) fun v s1 ⟨x,H1,I1,r1,q1⟩=>ho aa s1 σ H1 x v Q I1 r1 q1)
theorem xD {f : Value -> Value -> Sem Value} {C : Int -> Int -> Prop} {g : Int -> Int -> Int}
  (rule : ∀ (i j : Int) (t u : Tok) (s : Shared) (Q : Value -> Shared -> Prop) (E : Value -> Shared -> Prop),C i j -> Q (.int (g i j) s.toks) { s with toks:=s.toks + 1 } -> wpAny (model X.prog X.w) X.A (f (.int i t) (.int j u)) Q E s) :
  fk X f (rI C fun i j=>.int (g i j)):=by
 intro aa s σ H x y v u Q I rx ry h;obtain ⟨i,j,rfl,rfl,hc,q⟩:=h;obtain ⟨t,rfl⟩:=rx;obtain ⟨t',rfl⟩:=ry;exact rule i j t t' s _ _ hc ⟨.int (g i j),H,I.tok _,⟨_,rfl⟩,q⟩
theorem qh {f : Value -> Value -> Sem Value} {g : Int -> Int -> Int}
  (rule : ∀ (i j : Int) (t u : Tok) (s : Shared) (Q : Value -> Shared -> Prop) (E : Value -> Shared -> Prop),Q (.int (g i j) s.toks) { s with toks:=s.toks + 1 } -> wpAny (model X.prog X.w) X.A (f (.int i t) (.int j u)) Q E s) :
  fk X f (kv fun i j=>.int (g i j)):=by
 intro aa s σ H x y v u Q I rx ry h;obtain ⟨i,j,rfl,rfl,q⟩:=h;obtain ⟨t,rfl⟩:=rx;obtain ⟨t',rfl⟩:=ry;exact rule i j t t' s _ _ ⟨.int (g i j),H,I.tok _,⟨_,rfl⟩,q⟩
theorem y9 {f : Value -> Value -> Sem Value} {g : Int -> Int -> Bool}
  (rule : ∀ (i j : Int) (t u : Tok) (s : Shared) (Q : Value -> Shared -> Prop) (E : Value -> Shared -> Prop),Q (.bool (g i j)) s -> wpAny (model X.prog X.w) X.A (f (.int i t) (.int j u)) Q E s) :
  fk X f (kv fun i j=>.bl (g i j)):=by
 intro aa s σ H x y v u Q I rx ry h;obtain ⟨i,j,rfl,rfl,q⟩:=h;obtain ⟨t,rfl⟩:=rx;obtain ⟨t',rfl⟩:=ry;exact rule i j t t' s _ _ ⟨.bl (g i j),H,I,rfl,q⟩
noncomputable def wJ (i j : Int) : Prop:=0 <= j /\ j <= 1000000 /\ i.natAbs < 2 ^ 64
noncomputable def CMul (i j : Int) : Prop:=(-(2 ^ 64) < i /\ i < 2 ^ 64) \/ (-(2 ^ 64) < j /\ j < 2 ^ 64)
theorem CMul.ok {i j : Int} (h : CMul i j) : IntMulOk i j:=by
 rcases h with ⟨h1,h2⟩ | ⟨h1,h2⟩
 ·exact .of_left (intBits_le_64 h1 h2)
 ·exact .of_right (intBits_le_64 h1 h2)
theorem CT : fk X (binaryOp .Add) (kv fun i j=>.int (i + j)):=qh fun _ _ _ _ _ _ _ q=>add_int q
theorem CM : fk X (binaryOp .Sub) (kv fun i j=>.int (i - j)):=qh fun _ _ _ _ _ _ _ q=>sub_int q
theorem CP : fk X (binaryOp .Mult) (rI CMul fun i j=>.int (i * j)):=xD fun _ _ _ _ _ _ _ hc q=>mul_int q hc.ok
theorem CQ : fk X (binaryOp .Mod) (rI (fun _ j=>0 < j) fun i j=>.int (i % j)):=xD fun i j _ _ _ _ _ hc q=>by
 have h1 : (0 : Int) < j:=hc;exact mod_int' oM (by rw [Int.fmod_eq_emod_of_nonneg i oM]; exact q)
theorem CO : fk X (binaryOp .Pow) (rI wJ fun i j=>.int (i ^ j.toNat)):=xD fun _ _ _ _ _ _ _ hc q=>pow_int_small hc.1 hc.2.1 hc.2.2 q
theorem CN : fk X (binaryOp .LShift) (rI wJ fun i j=>.int (i * 2 ^ j.toNat)):=xD fun _ _ _ _ _ _ _ hc q=>lshift_int_small hc.1 hc.2.1 hc.2.2 q
theorem CS : fk X (binaryOp .BitAnd) (kv fun i j=>.int (Builtin.bitAnd i j)):=qh fun _ _ _ _ _ _ _ q=>and_int q
theorem Eo : fk X (binaryOp .BitOr) (kv fun i j=>.int (Builtin.bitOr i j)):=qh fun _ _ _ _ _ _ _ q=>or_int q
theorem CL : fk X (binaryOp .BitXor) (kv fun i j=>.int (Builtin.bitXor i j)):=qh fun _ _ _ _ _ _ _ q=>xor_int q
theorem BI : fk X (inplaceOp .Add) (kv fun i j=>.int (i + j)):=qh fun _ _ _ _ _ _ _ q=>iadd_int q
theorem EW {f : Value -> Sem Value} {g : Int -> Int}
  (rule : ∀ (i : Int) (t : Tok) (s : Shared) (Q : Value -> Shared -> Prop) (E : Value -> Shared -> Prop),Q (.int (g i) s.toks) { s with toks:=s.toks + 1 } -> wpAny (model X.prog X.w) X.A (f (.int i t)) Q E s) :
  An X f (rU fun i=>.int (g i)):=by
 intro aa s σ H x v Q I rx h;obtain ⟨i,rfl,q⟩:=h;obtain ⟨t,rfl⟩:=rx;exact rule i t s _ _ ⟨.int (g i),H,I.tok _,⟨_,rfl⟩,q⟩
theorem B3 : An X (unaryOp .USub) (rU fun i=>.int (-i)):=EW fun _ _ _ _ _ q=>neg_int q
theorem B4 : An X (unaryOp .Invert) (rU fun i=>.int (Builtin.bitNot i)):=EW fun _ _ _ _ _ q=>invert_int q
end
noncomputable def scal : V -> V -> Bool
 | .non,.non=>true | .non,.int _=>true | .int _,.non=>true | .non,.bl _=>true | .bl _,.non=>true | .non,.str _=>true | .str _,.non=>true
 | .int _,.int _=>true | .bl _,.bl _=>true | .str _,.str _=>true | .byt _,.byt _=>true
 | .int _,.str _=>true | .str _,.int _=>true | .bl _,.str _=>true | .str _,.bl _=>true
 | _,_=>false
section
variable {X : Cx} {a b c : Expr} {ta tb tc : TE} {pos : Pos}
theorem Ep : fk X (compareOp .Lt) (kv fun i j=>.bl (decide (i < j))):=y9 fun _ _ _ _ _ _ _ q=>lt_int q
theorem Er : fk X (compareOp .Gt) (kv fun i j=>.bl (decide (j < i))):=y9 fun _ _ _ _ _ _ _ q=>gt_int q
theorem Es : fk X (compareOp .GtE) (kv fun i j=>.bl (decide (j <= i))):=y9 fun _ _ _ _ _ _ _ q=>ge_int q
theorem bN (b : Expr) {op : CmpOp} (h : autoParam (op ≠ .In) cR._auto_1) (h2 : autoParam (op ≠ .NotIn) cR._auto_1) : behindInMarks op b = false:=by
 have e1 : (op == CmpOp.In) = false:=by cases op <;> first | rfl | exact absurd rfl h
 have e2 : (op == CmpOp.NotIn) = false:=by cases op <;> first | rfl | exact absurd rfl h2
 cases b <;> simp [behindInMarks,e1,e2]
theorem A9 {op : CmpOp} {r : R2} (ho : fk X (compareOp op) r) (ha : PE X a ta) (hb : PE X b tb) (hm : behindInMarks op b = false) : PE X (.Compare a [op] [b] pos) (qJ r ta tb):=by
 intro aa s σ H Q I h;exact wpAny_Compare1 (zQ ha hb I h fun v u s2 x y H2 I2 rx ry q=>ho aa s2 σ H2 x y v u Q I2 rx ry q) hm
noncomputable def DN (t : TE) : TT:=fun σ H Q=>t σ H fun x H'=>∃ k,x = .bl k /\ Q k H'
theorem uQ {op : CmpOp} {r : R2} (ho : fk X (compareOp op) r) (ha : PE X a ta) (hb : PE X b tb) (hm : behindInMarks op b = false) : PT X (.Compare a [op] [b] pos) (DN (qJ r ta tb)):=by
 intro aa s σ H Q I h;refine wpAny_isTrue_Compare1 (bL (ha aa s σ H _ I h) fun v s1 ⟨x,H1,I1,r1,q1⟩=>bL (hb aa s1 σ H1 _ I1 q1) fun u s2 ⟨y,H2,I2,r2,q2⟩ =>
  bL (ho aa s2 σ H2 x y v u _ I2 r1 r2 q2) fun c s3 ⟨z,H3,I3,r3,k,e,q3⟩=>?_) hm
 subst e;cases r3;exact wpAny_truthy_bool ⟨H3,I3,q3⟩
theorem kB : (sizeLine : Nat) < 2 ^ 63:=by rw [sizeLine_eq]; decide
theorem mP {x : V} {us : List Value} (r : Vals [x] us) : ∃ u,us = [u] /\ RelV x u:=by
 cases r with
 | cons r1 r2=>cases r2; exact ⟨_,rfl,r1⟩
theorem vS {x y : V} {us : List Value} (r : Vals [x,y] us) : ∃ u w',us = [u,w'] /\ RelV x u /\ RelV y w':=by
 cases r with
 | cons r1 r2 =>
  cases r2 with
  | cons r3 r4=>cases r4; exact ⟨_,_,rfl,r1,r3⟩
theorem zO : CallR X (.builtin "abs") (fun xs H Q=>∃ i,xs = [.int i] /\ Q (.int (if i < 0 then -i else i)) H):=by
 intro aa s σ H xs us Q I r h;obtain ⟨i,rfl,q⟩:=h;obtain ⟨u,rfl,t,rfl⟩:=mP r;exact call_abs_int fun u tk=>⟨.int (if i < 0 then -i else i),H,I.tok _,⟨_,rfl⟩,q⟩
theorem yr (hc : X.calm = true) : CallR X (.builtin "max") (fun xs H Q=>∃ i j,xs = [.int i,.int j] /\ Q (.int (if j > i then j else i)) H):=by
 intro aa s σ H xs us Q I r h;obtain ⟨i,j,rfl,q⟩:=h;obtain ⟨u,w',rfl,⟨t,rfl⟩,⟨t',rfl⟩⟩:=vS r;refine max_two_ints (I.ok.hd hc) fun h' tk k=>⟨_,H,I.kept k,?_,q⟩
 by_cases hj : j > i
 ·rw [if_pos hj,if_pos hj]; exact ⟨_,rfl⟩
 ·rw [if_neg hj,if_neg hj]; exact ⟨_,rfl⟩
theorem yq (hc : X.calm = true) : CallR X (.builtin "min") (fun xs H Q=>∃ i j,xs = [.int i,.int j] /\ Q (.int (if j < i then j else i)) H):=by
 intro aa s σ H xs us Q I r h;obtain ⟨i,j,rfl,q⟩:=h;obtain ⟨u,w',rfl,⟨t,rfl⟩,⟨t',rfl⟩⟩:=vS r;refine min_two_ints (I.ok.hd hc) fun h' tk k=>⟨_,H,I.kept k,?_,q⟩
 by_cases hj : j < i
 ·rw [if_pos hj,if_pos hj]; exact ⟨_,rfl⟩
 ·rw [if_neg hj,if_neg hj]; exact ⟨_,rfl⟩
end
structure ObjM (h : Heap) (x dx C : Addr) (mA : Str -> Option Value) : Prop where
 obj : h.get? x = some (instObj C dx)
 ns : h.Ns1 dx mA
 ne : dx ≠ x
theorem xM {h : Heap} {dx : Addr} {mA : Str -> Option Value} (n : h.Ns1 dx mA) : ∃ od,h.get? dx = some od /\ ∀ name,lookIn name od = some (mA name):=by
 obtain ⟨o,es,ep,ho,hd,hk,_,hm⟩:=n;refine ⟨o,ho,fun name=>?_⟩;have e:=hm name;unfold nsFind findBy at e;rw [<- Array.find?_toList] at e;unfold lookIn;rw [hd];dsimp only;split
 ·rename_i y q
  rw [q] at e;exact congrArg some e
 ·rename_i q
  rw [q] at e;have a : es.toList.any (·.refKey) = false:=by
   rw [List.any_eq_false];intro y hy;obtain ⟨z,t,hkey⟩:=hk y (Array.mem_toList_iff.mp hy);simp [DictEntry.refKey,hkey]
  have a' : ¬ es.toList.any (·.refKey) = true:=by rw [a]; exact Bool.false_ne_true
  rw [if_neg a'];exact congrArg some e
theorem ObjM.look {h : Heap} {x dx C : Addr} {mA : Str -> Option Value} (I : ObjM h x dx C mA) : ∃ od,InstAt h x (instObj C dx) C (some od) /\ ∀ name,lookIn name od = some (mA name) :=
 let ⟨od,ho,hl⟩:=xM I.ns
 ⟨od,⟨I.obj,rfl,rfl,ho⟩,hl⟩
section
variable {prog : Program} {w : World} {A : Around} {E : Value -> Shared -> Prop} {s : Shared} {K : PySem.W.Frag} {x dx C f : Addr} {mA : Str -> Option Value} {name : Str} {v : Value}
end
section
variable {P : Program} {w : World} {H H' : Hp} {h h' : Heap} {a C dx : Addr} {fs fs' : List (Str × V)}
theorem BJ (hok : HOk P w H h) (e : H a = some (.ins C dx fs)) : ∃ mA,ObjM h a dx C mA /\ (∀ f,zU (fs.lookup f) (mA f)) /\ PySem.Within mA (fs.map (·.1)) /\ fs.length <= 1000 /\ H dx = some (.own a):=by
 obtain ⟨d,z,ne,ob,mA,n,r,q⟩:=(show ObjOk P w H h a (.ins C dx fs) from hok a _ e);exact ⟨mA,⟨ob,n,ne⟩,r,q,z,d⟩
end
structure Cls (K : PySem.W.Frag) (C : Addr) : Prop where
 pg : plainGet K C Str.empty = true
 hd : hasDictIn K C = true
 po : plainOver K C = true
 sa : findIn K (.ref C) "__setattr__" = some (some (.builtin "object.__setattr__"))
theorem Cls.get {K : PySem.W.Frag} {C : Addr} (c : Cls K C) (f : Str) : plainGet K C f = true:=c.pg
section
variable {X : Cx} {aa : List (Addr × Obj)} {σ : St} {H : Hp} {s : Shared} {a C dx : Addr} {fs : List (Str × V)} {f : Str} {v : V} {A : Around} {E : Value -> Shared -> Prop}
end
section
variable {X : Cx} {o e value : Expr} {f : Str} {pos pos' tpos : Pos} {ta tv : TE}
end
section
variable {X : Cx} {aa : List (Addr × Obj)} {σ : St} {H : Hp} {s : Shared} {A : Around} {E : Value -> Shared -> Prop} {Q : Value -> Shared -> Prop} {c : Value} {b : Bool}
inductive TyOf (K : PySem.W.Frag) (H : Hp) : V -> Value -> Prop where
 | non : TyOf K H .non (.type "NoneType")
 | bl (x : Bool) : TyOf K H (.bl x) (.type "bool")
 | int (i : Int) : TyOf K H (.int i) (.type "int")
 | str (x : Str) : TyOf K H (.str x) (.type "str")
 | flt (x : UInt64) : TyOf K H (.flt x) (.type "float")
 | lst {a : Addr} {xs : List V} (e : H a = some (.lst xs)) : TyOf K H (.ref a) (.type "list")
 | frz {a : Addr} {o : Obj} {xs : List V} (e : H a = some (.frz o (.lst xs))) : TyOf K H (.ref a) (.type "list")
 | tup {a : Addr} {xs : List V} (e : H a = some (.tup xs)) : TyOf K H (.ref a) (.type "tuple")
 | dK {a : Addr} {kvs : List (fO × V)} (e : H a = some (.dK kvs)) : TyOf K H (.ref a) (.type "dict")
 | dT {a : Addr} {kvs : List (List fO × V)} (e : H a = some (.dT kvs)) : TyOf K H (.ref a) (.type "dict")
 | ins {a C dx : Addr} {fs : List (Str × V)} (e : H a = some (.ins C dx fs)) (cl : Cls K C) (ha : findIn K (.ref C) "__class__" = some (some (.builtin "object.__class__")))
   (hn : specialIn K (.builtin "object.__class__") "__get__" = some (some (.builtin "getset_descriptor.__get__"))) (htk : takesIn K (.builtin "object.__class__") = some true)
   (hm : mroIn K C (.type "object") = some true) : TyOf K H (.ref a) (.ref C)
theorem jW {x : V} {u t : Value} (I : Inv X aa σ H s) (rx : RelV x u) (ty : TyOf X.K H x t) (e : kitOne X.K t c = some b) (h : ∀ tk,Q (.bool b) { s with toks:=tk }) :
  wpAny (model X.prog X.w) A (call (.builtin "isinstance") [u,c]) Q E s:=by
 cases ty with
 | non=>cases (show u = Value.none from rx); exact kia_one kitx_none I.kIn True.intro e (fun z=>nomatch z) h
 | bl y=>cases (show u = Value.bool y from rx); exact kia_one kitx_bool I.kIn True.intro e (fun z=>nomatch z) h
 | int i=>obtain ⟨t,q⟩:=(show ∃ t,u = Value.int i t from rx); cases q; exact kia_one kitx_int I.kIn True.intro e (fun z=>nomatch z) h
 | str y=>obtain ⟨t,q⟩:=(show ∃ t,u = Value.str y t from rx); cases q; exact kia_one kitx_str I.kIn True.intro e (fun z=>nomatch z) h
 | flt y=>obtain ⟨t,q⟩:=(show ∃ t,u = Value.float y t from rx); cases q; exact kia_one kitx_float I.kIn True.intro e (fun z=>nomatch z) h
 | @lst a xs ea =>
  cases (show u = Value.ref a from rx);obtain ⟨_,_,n,_,h1⟩:=(show ObjOk X.prog X.w H s.heap a (.lst xs) from I.hok a _ ea);exact kia_one kitx_list I.kIn ⟨_,h1,rfl⟩ e (fun z=>nomatch z) h
 | @frz a ob xs ea =>
  cases (show u = Value.ref a from rx);obtain ⟨_,_,_,n,_,h1⟩:=(show ObjOk X.prog X.w H s.heap a (.frz ob (.lst xs)) from I.hok a _ ea);exact kia_one kitx_list I.kIn ⟨_,h1,rfl⟩ e (fun z=>nomatch z) h
 | @tup a xs ea =>
  cases (show u = Value.ref a from rx);obtain ⟨_,_,_,p⟩:=(show ObjOk X.prog X.w H s.heap a (.tup xs) from I.hok a _ ea);obtain ⟨o,h1,h2,_⟩:=p;exact kia_one kitx_tuple I.kIn ⟨o,h1,h2⟩ e (fun z=>nomatch z) h
 | @dK a kvs ea =>
  cases (show u = Value.ref a from rx);obtain ⟨_,_,vs,_,p⟩:=(show ObjOk X.prog X.w H s.heap a (.dK kvs) from I.hok a _ ea);obtain ⟨o,es,ep,h1,h2,_⟩:=p;exact kia_one kitx_dict I.kIn ⟨o,h1,h2.1⟩ e (fun z=>nomatch z) h
 | @dT a kvs ea =>
  cases (show u = Value.ref a from rx);obtain ⟨_,_,xs,_,o,es,ep,h1,h2,_⟩:=(show ObjOk X.prog X.w H s.heap a (.dT kvs) from I.hok a _ ea);exact kia_one kitx_dict I.kIn ⟨o,h1,h2.1⟩ e (fun z=>nomatch z) h
 | @ins a C dx fs ea cl ha hn htk hm =>
  cases (show u = Value.ref a from rx);obtain ⟨mA,O,_⟩:=BJ I.hok ea;obtain ⟨od,J,_⟩:=O.look;exact kia_one (kitx_own (cl.get _) cl.hd ha hn htk hm) I.kIn J e (fun z=>nomatch z) h
end
structure Room (k : Nat) (A : Around) : Prop where
 hd : A.handled = none
 dp : A.depth + 3 * k + 5 < recursionLimit
 un : A.units + 16 * k + 200 < cLine
 gd : A.guards = some []
theorem Room.mono {j k : Nat} {A : Around} (r : Room k A) (h : j <= k) : Room j A:=⟨r.hd,by have:=r.dp; omega,by have:=r.un; omega,r.gd⟩
theorem Room.deeper {k : Nat} {A : Around} (r : Room (k + 1) A) (env : Env) : Room k (A.deeper env) :=
 ⟨r.hd,by have:=r.dp; show A.depth + 1 + 3 * k + 5 < _; omega,by have:=r.un; show A.units + 3 + 16 * k + 200 < _; omega,r.gd⟩
theorem Room.depth {k : Nat} {A : Around} (r : Room k A) : A.depth < recursionLimit:=by have:=r.dp; omega
theorem Room.units {k : Nat} {A : Around} (r : Room k A) : A.units + 64 < cLine:=by have:=r.un; omega
noncomputable def Fi : TA:=fun _ H Q=>Q [] H
noncomputable def DU (ta : TE) (tr : TA) : TA:=fun σ H Q=>ta σ H fun x H1=>tr σ H1 fun xs H2=>Q (x :: xs) H2
section
variable {X : Cx} {e : Expr} {es : List Expr} {te : TE} {t : TA} {pos : Pos}
theorem eY : PA X [] Fi:=fun _ _ _ _ H Q I h=>Calls.spliced_nil ⟨[],H,I,.nil,h⟩
theorem dF (ha : PE X e te) (hr : PA X es t) (hs : autoParam (starEach (e :: es) X.env = (false,eval e X.env) :: starEach es X.env) aI._auto_1) : PA X (e :: es) (DU te t):=by
 intro pos aa s σ H Q I h;rw [hs];show wpAny _ _ (spliced ((false,eval e X.env) :: backTo pos (starEach es X.env))) _ _ s;refine Calls.spliced_cons (bL (ha aa s σ H _ I h) fun u s1 ⟨x,H1,I1,r1,q1⟩=>?_);exact bL (hr pos aa s1 σ H1 _ I1 q1) fun us s2 ⟨xs,H2,I2,r2,q2⟩=>⟨x :: xs,H2,I2,.cons r1 r2,q2⟩
noncomputable def Fe (t : TA) : TE:=fun σ H Q=>t σ H fun xs H1=>xs.length <= sizeLine /\ ∀ p,H1 p = none -> Q (.ref p) (upd H1 p (.tup xs))
noncomputable def Fj (t : TA) : TE:=fun σ H Q=>t σ H fun xs H1=>xs.length <= sizeLine /\ ∀ p,H1 p = none -> Q (.ref p) (upd H1 p (.lst xs))
theorem CH {x1} (h : PA X es t) : PE X (.Tuple es x1 pos) (Fe t):=by
 intro aa s σ H Q I hq;refine wpAny_Tuple_spliced (bL (h pos aa s σ H _ I hq) fun us s1 ⟨xs,H1,I1,r,z,q⟩=>⟨by rw [<- r.length]; exact z,?_⟩);have hf : H1 s1.heap.objs.size = none:=I1.hok.fresh (Nat.le_refl _);refine ⟨.ref s1.heap.objs.size,upd H1 s1.heap.objs.size (.tup xs),I1.laid (t':=s1.toks) (fun b u e=>Heap.get?_push_of_some _ e) (Nat.le_refl _) ?_,rfl,q _ hf⟩;exact ⟨z,us,r,⟨_,Heap.get?_push_size _ rfl,rfl,_,rfl⟩⟩
theorem sO (h : PA X es t) : PE X (.List es pos) (Fj t):=by
 intro aa s σ H Q I hq;refine wpAny_List_spliced (bL (h pos aa s σ H _ I hq) fun us s1 ⟨xs,H1,I1,r,z,q⟩=>⟨by rw [<- r.length]; exact z,?_⟩);have hf : H1 s1.heap.objs.size = none:=I1.hok.fresh (Nat.le_refl _);refine ⟨.ref s1.heap.objs.size,upd H1 s1.heap.objs.size (.lst xs),I1.laid (t':=s1.toks) (fun b u e=>Heap.get?_push_of_some _ e) (Nat.le_refl _) ?_,rfl,q _ hf⟩;exact ⟨z,us,0,r,Heap.get?_push_size _ rfl⟩
end
noncomputable abbrev Sp:=List V -> Hp -> VK -> XK -> Prop
noncomputable abbrev mO:=List Env -> Hp -> Shared -> XK -> Value -> Shared -> Prop
structure wI (P : Program) (w : World) (K : PySem.W.Frag) (mg : Str -> Option Value) (base : Heap) (A : Around) (outer : List Env) (s : Shared) (H : Hp) : Prop where
 frames : A.frames = some outer
 mod : Mod K mg base
 bs : ∀ b o,base.get? b = some o -> s.heap.get? b = some o /\ H b = none
 bsz : base.objs.size <= s.heap.objs.size
 funs : s.heap.FunFrames base outer
 frf : ∀ b ∈ kH outer,H b = none
 hok : HOk P w H s.heap
 bare : AllBare s.gens
noncomputable def CE (outer : List Env) (P : Program) (w : World) (H : Hp) (s : Shared) (Q : VK) (u : Value) (s' : Shared) : Prop :=
 ∃ v H',s'.os = s.os /\ AllBare s'.gens /\ Un (kH outer) [] H H' s.heap s'.heap /\ HOk P w H' s'.heap /\ RelV v u /\ Q v H'
noncomputable def CR (CX : mO) (outer : List Env) (P : Program) (w : World) (H : Hp) (s : Shared) (Q : VK) (E : XK) (r : Result) (s' : Shared) : Prop :=
 match r with
 | .ok (.ret u)=>CE outer P w H s Q u s'
 | .ok _=>False
 | .error e=>CX outer H s E e s'
structure bR (P : Program) (w : World) (K : PySem.W.Frag) (mg : Str -> Option Value) (base : Heap) (CX : mO) (k : Nat) (f : Addr) (fd : FuncData) (ps : List Str) (sp : Sp) : Prop where
 len : ∀ vs H Q E,sp vs H Q E -> vs.length = ps.length
 run : ∀ (A : Around) (outer : List Env) (s : Shared) (H : Hp) (args : Args) (us : List Value) (vs : List V) (Q : VK) (E : XK),Room k A -> wI P w K mg base A outer s H -> BindsTo s fd args (ps.zip us) -> Vals vs us -> sp vs H Q E ->
  codeAny (model P w) A (.call (.ref f) args) (CR CX outer P w H s Q E) s
section
variable {X : Cx} {aa : List (Addr × Obj)} {σ : St} {H : Hp} {s s' : Shared}
theorem Inv.env0 (I : Inv X aa σ H s) : wI X.prog X.w X.K X.mg X.base X.A X.stack s H :=
 ⟨I.ok.frames,I.ok.mod,I.bs,Nat.le_trans I.ok.bsz I.sz,I.stack,I.stkFree,I.hok,I.bare⟩
theorem Inv.after {Q : VK} {u : Value} (I : Inv X aa σ H s) (h : CE X.stack X.prog X.w H s Q u s') : EP X aa σ Q u s':=by
 obtain ⟨v,H',os,bare,un,hok,r,q⟩:=h;obtain ⟨hh,g,d,t,os'⟩:=s';obtain rfl : os' = s.os:=os;exact ⟨v,H',I.call (h':=hh) (g':=g) (d':=d) (t':=t) (ch:=[]) un hok bare (fun b z=>absurd z (by simp)),r,q⟩
end
noncomputable def zX (sp : Sp) (dvs : List V) (E : XK) (t : TA) : TE:=fun σ H Q=>t σ H fun vs H1=>sp (vs ++ dvs) H1 Q E
noncomputable def Binds (K : PySem.W.Frag) (fd : FuncData) (ps : List Str) (ds : List Value) : Prop :=
 ∀ (s : Shared) (us : List Value),K.In s.heap -> (us ++ ds).length = ps.length -> BindsTo s fd ⟨us,[]⟩ (ps.zip (us ++ ds))
theorem Binds.all {K : PySem.W.Frag} {fd : FuncData} {ps : List Str} (h : ∀ us : List Value,us.length = ps.length -> bindArgs fd ⟨us,[]⟩ = pure (ps.zip us)) : Binds K fd ps []:=fun s us _ hl=>by
 rw [List.append_nil] at hl ⊢;exact .of_eq (h us hl)
noncomputable def uh (CX : mO) (X : Cx) (E : XK) : Prop:=∀ (aa : List (Addr × Obj)) (σ : St) (H : Hp) (s : Shared) (e : Value) (s' : Shared),Inv X aa σ H s -> CX X.stack H s E e s' -> X.xe e s'
section
variable {X : Cx} {CX : mO} {k : Nat} {f C : Addr} {fd : FuncData} {ps : List Str} {sp : Sp} {dvs : List V} {ds : List Value} {E : XK} {x m : Str} {p pos apos : Pos} {e o : Expr} {es : List Expr} {ta : TE} {t : TA}
theorem Cd {aa : List (Addr × Obj)} {σ : St} {H : Hp} {s : Shared} {Q : VK} {us : List Value} {vs : List V} (F : bR X.prog X.w X.K X.mg X.base CX k f fd ps sp) (hr : Room k X.A) (hb : Binds X.K fd ps ds) (hd : Vals dvs ds) (hx : uh CX X E)
  (I : Inv X aa σ H s) (r : Vals vs us) (h : sp (vs ++ dvs) H Q E) : wpAny (model X.prog X.w) X.A (call (.ref f) us) (EP X aa σ Q) X.xe s:=by
 have r2 : Vals (vs ++ dvs) (us ++ ds):=r.append hd;have hl : (us ++ ds).length = ps.length:=by rw [<- r2.length]; exact F.len _ _ _ _ h
 refine wpAny_call (codeAny_mono (F.run X.A X.stack s H ⟨us,[]⟩ (us ++ ds) (vs ++ dvs) Q E hr I.env0 (hb s us I.kIn hl) r2 h) fun r s' hq=>?_);cases r with
 | error e=>exact hx aa σ H s e s' I hq
 | ok fl =>
  cases fl with
  | ret u=>exact I.after hq
  | next=>exact False.elim hq
  | brk=>exact False.elim hq
  | cont=>exact False.elim hq
theorem Ba (F : bR X.prog X.w X.K X.mg X.base CX k f fd ps sp) (hr : Room k X.A) (hg : Gl X x) (hm : X.mg x = some (.ref f)) (hk : keepIn X.K (.ref f) = true) (hb : Binds X.K fd ps ds) (hd : Vals dvs ds) (hx : uh CX X E)
  (ha : PA X (e :: es) t) (hdb : autoParam ((x == ("__debug__" : Str)) = false) cR._auto_1) (he : autoParam (starEach (e :: es) X.env = (false,eval e X.env) :: starEach es X.env) aI._auto_1) (hpl : autoParam ((backTo pos (starEach es X.env)).any (·.1) = false) aI._auto_1) :
  PE X (.Call (.Name x p) (e :: es) [] pos) (zX sp dvs E t):=by
 intro aa s σ H Q I h;refine wpAny_Call_Name_kw (u4 I hg hm ?_ hdb);refine callWith_K (h₀:=X.base) I.ok.mod.kin hk (bL (ha pos aa s σ H _ I h) fun us s1 ⟨vs,H1,I1,r,q⟩=>⟨I1.kIn,?_⟩) he hpl;exact Cd F hr hb hd hx I1 r q
end
section
variable {X : Cx} {CX : mO} {k : Nat} {f C : Addr} {fd : FuncData} {ps ks : List Str} {sp : Sp} {E : XK} {x m : Str} {p pos apos kpos : Pos} {e o : Expr} {es : List Expr} {kws : List Keyword} {te ta : TE} {t tk : TA} {nm : Option Str}
variable {g : List Value -> List Value -> List Value} {gV : List V -> List V -> List V}
end
structure aZ (N P : List Str) (sc : Scope) : Prop where
 kind : sc.kind = .function
 co : sc.isCoroutine = false
 gen : sc.isGenerator = false
 nd : N.Nodup
 pre : N.take P.length = P
 par : ∀ x ∈ P,sc.names.lookup x = some .local \/ sc.names.lookup x = some .cell
 nofree : ∀ y ∈ sc.names,y.2 ≠ .free
theorem q9 {kindOf : Str -> Option NameKind} {x : Str} : ∀ {binds : List (Str × Value)} {m : Str -> Option Value},(∀ v,(x,v) ∉ binds) -> bindL kindOf binds m x = m x
 | [],_,_=>rfl
 | (n,v) :: r,m,h=>by
  unfold bindL;rw [q9 fun w hw=>h w (List.mem_cons_of_mem _ hw)];split
  ·have : x ≠ n:=by rintro rfl; exact h v List.mem_cons_self
   simp [this]
  ·rfl
theorem rj {kindOf : Str -> Option NameKind} {x : Str} : ∀ {binds : List (Str × Value)} {m : Str -> Option Value},(∀ v,(x,v) ∉ binds) -> bindC kindOf binds m x = m x
 | [],_,_=>rfl
 | (n,v) :: r,m,h=>by
  unfold bindC;rw [rj fun w hw=>h w (List.mem_cons_of_mem _ hw)];split
  ·rfl
  ·have : x ≠ n:=by rintro rfl; exact h v List.mem_cons_self
   simp [this]
theorem rh {kindOf : Str -> Option NameKind} {x : Str} {v : Value} : ∀ {P : List Str} {vs : List Value} {i : Nat} {m : Str -> Option Value},P.Nodup -> P[i]? = some x -> vs[i]? = some v -> kindOf x = some .local ->
  bindL kindOf (P.zip vs) m x = some v
 | [],_,_,_,_,h,_,_=>by simp at h
 | _ :: _,[],_,_,_,_,h,_=>by simp at h
 | p :: P,w :: vs,0,m,nd,h1,h2,hk=>by
  simp at h1 h2; subst h1; subst h2;show bindL kindOf ((p,w) :: P.zip vs) m p = _;unfold bindL;rw [q9 fun v hv=>(List.nodup_cons.mp nd).1 (List.of_mem_zip hv).1,if_pos hk];simp
 | p :: P,w :: vs,i + 1,m,nd,h1,h2,hk=>by
  show bindL kindOf ((p,w) :: P.zip vs) m x = _;unfold bindL;exact rh (i:=i) (List.nodup_cons.mp nd).2 (by simpa using h1) (by simpa using h2) hk
theorem rn {kindOf : Str -> Option NameKind} {x : Str} {v : Value} : ∀ {P : List Str} {vs : List Value} {i : Nat} {m : Str -> Option Value},P.Nodup -> P[i]? = some x -> vs[i]? = some v -> kindOf x ≠ some .local ->
  bindC kindOf (P.zip vs) m x = some v
 | [],_,_,_,_,h,_,_=>by simp at h
 | _ :: _,[],_,_,_,_,h,_=>by simp at h
 | p :: P,w :: vs,0,m,nd,h1,h2,hk=>by
  simp at h1 h2; subst h1; subst h2;show bindC kindOf ((p,w) :: P.zip vs) m p = _;unfold bindC;rw [rj fun v hv=>(List.nodup_cons.mp nd).1 (List.of_mem_zip hv).1,if_neg hk];simp
 | p :: P,w :: vs,i + 1,m,nd,h1,h2,hk=>by
  show bindC kindOf ((p,w) :: P.zip vs) m x = _;unfold bindC;exact rn (i:=i) (List.nodup_cons.mp nd).2 (by simpa using h1) (by simpa using h2) hk
noncomputable def start (N : List Str) (vs : List V) : St:=vs.map some ++ List.replicate (N.length - vs.length) none
noncomputable def n9 (CX : mO) (P : Program) (w : World) (K : PySem.W.Frag) (mg : Str -> Option Value) (base : Heap) (N : List Str) (qual : Str) (scope : Scope) (f : Addr) (cd : Value) (A : Around) (outer : List Env) (s : Shared) (H : Hp) (E : XK) : Cx where
 prog:=P
 w:=w
 K:=K
 mg:=mg
 base:=base
 A:=A.deeper (envOfC qual scope s.heap.objs.size f cd)
 N:=N
 s₀:=s
 H₀:=H
 env:=envOfC qual scope s.heap.objs.size f cd
 outer:=outer
 stack:=envOfC qual scope s.heap.objs.size f cd :: outer
 ex:=[]
 calm:=true
 fn:=fun _=>true
 pn:=[]
 xe:=fun e s'=>wpAny (model P w) (A.deeper (envOfC qual scope s.heap.objs.size f cd)) (leaving (envOfC qual scope s.heap.objs.size f cd) e) (fun _ s''=>CX outer H s E e s'') (fun e' s''=>CX outer H s E e' s'') s'
theorem tV {sc : Scope} {n : Nat} {x : Str} (h : sc.names.lookup x = some .cell) : ∃ c,(cellsFrom n sc.names []).lookup x = some c:=by
 have q:=cellsFrom_some sc.names n [] (.inl h);exact Option.isSome_iff_exists.mp q
theorem yc {CX : mO} {P : Program} {w : World} {K : PySem.W.Frag} {mg : Str -> Option Value} {base : Heap} {N ps : List Str} {qual : Str} {scope : Scope} {f : Addr} {cd : Value} {A : Around} {outer : List Env} {s s1 : Shared} {H : Hp} {E : XK} {us : List Value} {vs : List V}
  (S : aZ N ps scope) (hd : A.handled = none) (e0 : wI P w K mg base A outer s H) (hl : vs.length = ps.length) (r : Vals vs us)
  (x : InCallC s s.heap.objs.size (bindL (envOfC qual scope s.heap.objs.size f cd).kindOf (ps.zip us) fun _=>none) (cellsFrom (s.heap.objs.size + 1) scope.names []) (bindC (envOfC qual scope s.heap.objs.size f cd).kindOf (ps.zip us) fun _=>none) s1) :
  Inv (n9 CX P w K mg base N qual scope f cd A outer s H E) [] (start N vs) H s1:=by
 have hpl : ps.length <= N.length:=by have:=congrArg List.length S.pre; rw [List.length_take] at this; omega
 obtain ⟨h1,tk,rfl,hk⟩:=x.done;have noA : ∀ b : Addr,b ∉ (n9 CX P w K mg base N qual scope f cd A outer s H E).ex:=fun b z=>absurd (show b ∈ ([] : List Addr) from z) (by simp)
 refine ⟨⟨e0.mod,S.kind,rfl,rfl,Nat.le_refl _,fun y z c h1 h2=>?_,fun y hy=>?_,fun y c _ h=>?_,fun _=>hd,Around.frames_deeper e0.frames,.inr ⟨rfl,rfl⟩,fun b z=>absurd z (noA b),e0.bs,e0.bsz,fun b _ _=>noA b,fun b z=>absurd z (noA b),e0.funs,e0.frf⟩,
  rfl,e0.bare,Un.kept hk,⟨_,x.toInCall.ns,fun i y v h1 h2 h3=>?_⟩,fun y c h=>⟨_,x.cell y c h⟩,e0.hok.fresh (Nat.le_refl _),fun y c h=>?_,fun p hp=>absurd (show p ∈ ([] : List (Addr × Obj)) from hp) (by simp),e0.hok.kept hk,?_⟩
 ·exact name_of_addr x.apart (PySem.mem_of_lookup h1) (PySem.mem_of_lookup h2)
 ·have hy : scope.names.lookup y = some .cell \/ scope.names.lookup y = some .free:=hy
  rcases hy with hy | hy
  ·exact tV hy
  ·exact absurd rfl (S.nofree _ (PySem.mem_of_lookup hy))
 ·exact Nat.le_of_lt (x.above y c (PySem.mem_of_lookup h))
 ·have hi : i < vs.length:=by
   unfold start at h2;by_cases hi : i < vs.length
   ·exact hi
   ·rw [List.getElem?_append_right (by simpa using hi)] at h2
    rw [List.getElem?_replicate] at h2;split at h2 <;> cases h2
  have ha : vs[i]? = some v:=by
   unfold start at h2;rw [List.getElem?_append_left (by simpa using hi),List.getElem?_map] at h2;cases e : vs[i]? with
   | none=>rw [e] at h2; cases h2
   | some a=>rw [e] at h2; cases h2; rfl
  obtain ⟨u,hu,rv⟩:=r.get ha;have hp : ps[i]? = some y:=by
   rw [<- S.pre,List.getElem?_take_of_lt oM]; exact h1
  have ndP : ps.Nodup:=by rw [<- S.pre]; exact S.nd.sublist (List.take_sublist _ _)
  refine ⟨u,rv,?_⟩;rcases S.par y (List.mem_of_getElem? hp) with k | k
  ·exact .inl ⟨k,rh ndP hp hu k⟩
  ·obtain ⟨c,e⟩:=tV (n:=s.heap.objs.size + 1) k
   refine .inr ⟨.inl k,c,e,?_⟩;have q:=x.cell y c e;rw [rn ndP hp hu (by show scope.names.lookup y ≠ _; rw [k]; decide)] at q;exact q
 ·exact e0.hok.fresh (Nat.le_of_lt (x.above y c (PySem.mem_of_lookup h)))
 ·unfold start
  show _ = N.length;rw [List.length_append,List.length_map,List.length_replicate];omega
theorem EO {CX : mO} {P : Program} {w : World} {K : PySem.W.Frag} {mg : Str -> Option Value} {base : Heap} {k : Nat} {f : Addr} {name qual : Str} {params : Arguments} {body : List Stmt} {scope : Scope} {dV kV doc pm cdv ct oc : Value} {an od : Option Addr}
  {osl : Array (Option Value)} {N ps : List Str} {sp : Sp} (lk : K.lookup f = some ⟨oc,od,.func (fnOf name qual params body scope dV kV doc pm an cdv ct),osl⟩) (hcd : codeIn K cdv qual = true) (S : aZ N ps scope)
  (len : ∀ vs H Q E,sp vs H Q E -> vs.length = ps.length)
  (hbody : ∀ (A : Around) (outer : List Env) (s : Shared) (H : Hp) (vs : List V) (Q : VK) (E : XK),Room k (A.deeper (envOfC qual scope s.heap.objs.size f cdv)) -> sp vs H Q E ->
   ∃ t,PSs (n9 CX P w K mg base N qual scope f cdv A outer s H E) body t /\ t { nx:=fun _ H'=>Q .non H',rt:=Q } (start N vs) H) :
  bR P w K mg base CX (k + 1) f (fnOf name qual params body scope dV kV doc pm an cdv ct) ps sp:=by
 refine ⟨len,fun A outer s H args us vs Q E hr e0 hb r hsp=>?_⟩;have hl:=len _ _ _ _ hsp;have KX : K.In s.heap:=e0.mod.kin.keeps fun b o e=>(e0.bs b o e).1
 have lim : s.heap.NoLimit:=e0.mod.nolimit.keeps fun b o e=>(e0.bs b o e).1
 have hkind : ∀ y ∈ ps.zip us,scope.names.lookup y.1 = some .local \/ (scope.names.lookup y.1 = some .cell /\ ((cellsFrom (s.heap.objs.size + 1) scope.names []).lookup y.1).isSome = true):=fun hq0 hy=>by
  obtain ⟨n,v⟩:=hq0;rcases S.par n (List.of_mem_zip hy).1 with q | q
  ·exact .inl q
  ·exact .inr ⟨q,cellsFrom_some _ _ _ (.inl q)⟩
 refine codeAny_call_function hr.depth (KX _ _ lk) rfl S.co S.gen rfl (codeRec_of KX hcd) (hb _ _ _ _ ?_);refine wpAny_newFunctionEnv_cells S.kind hkind fun env he s1 x=>?_
 subst he;refine ⟨lim.keeps x.toInCall.keep,codeAny_func ?_⟩;obtain ⟨t,ht,hq⟩:=hbody A outer s H vs Q E (hr.deeper _) hsp;have I : Inv (n9 CX P w K mg base N qual scope f cdv A outer s H E) [] (start N vs) H s1:=yc S hr.hd e0 hl r x;refine wpAny_mono (ht [] s1 (start N vs) H _ I hq) (fun fl s' hs=>?_) fun e s' hs=>hs
 have fin : ∀ {σ' : St} {H' : Hp} {v : V} {u : Value},Inv (n9 CX P w K mg base N qual scope f cdv A outer s H E) [] σ' H' s' -> RelV v u -> Q v H' -> CE outer P w H s Q u s' :=
  fun {σ' H' v u} J rv q=>⟨v,H',J.os,J.bare,J.base,J.hok,rv,q⟩
 cases fl with
 | ret u =>
  obtain ⟨v,σ',H',J,rv,q⟩:=hs;exact fin J rv q
 | next =>
  obtain ⟨σ',H',J,q⟩:=hs;exact fin (v:=V.non) (u:=Value.none) J rfl q
 | brk =>
  obtain ⟨_,_,_,q⟩:=hs;exact False.elim q
 | cont =>
  obtain ⟨_,_,_,q⟩:=hs;exact False.elim q
section
variable {X : Cx} {x : Str} {p pos : Pos} {e : Expr} {es : List Expr} {t : TA} {id T : String} {r : List V -> Hp -> VK -> Prop}
noncomputable def zY (r : List V -> Hp -> VK -> Prop) (t : TA) : TE:=fun σ H Q=>t σ H fun vs H1=>r vs H1 Q
theorem sP (hc : CallR X (.builtin id) r) (hg : Gl X x) (hm : X.mg x = none) (hv : bootBuiltins x = some (.builtin id)) (ha : PA X (e :: es) t) (hn : autoParam (x ≠ "__name__") cR._auto_1) (hdb : autoParam ((x == ("__debug__" : Str)) = false) cR._auto_1)
  (he : autoParam (starEach (e :: es) X.env = (false,eval e X.env) :: starEach es X.env) aI._auto_1) (hpl : autoParam ((backTo pos (starEach es X.env)).any (·.1) = false) aI._auto_1) : PE X (.Call (.Name x p) (e :: es) [] pos) (zY r t):=by
 intro aa s σ H Q I h;refine wpAny_Call_Name_kw (e8 I hg hm hv ?_ hn hdb);exact PyProof.Rows.callWith_builtin1 (bL (ha pos aa s σ H _ I h) fun us s1 ⟨vs,H1,I1,r1,q1⟩=>hc aa s1 σ H1 vs us Q I1 r1 q1) he hpl
theorem xz (hc : CallR X (.type T) r) (hg : Gl X x) (hm : X.mg x = none) (hv : bootBuiltins x = some (.type T)) (ha : PA X (e :: es) t) (hn : autoParam (x ≠ "__name__") cR._auto_1) (hdb : autoParam ((x == ("__debug__" : Str)) = false) cR._auto_1)
  (he : autoParam (starEach (e :: es) X.env = (false,eval e X.env) :: starEach es X.env) aI._auto_1) (hpl : autoParam ((backTo pos (starEach es X.env)).any (·.1) = false) aI._auto_1) : PE X (.Call (.Name x p) (e :: es) [] pos) (zY r t):=by
 intro aa s σ H Q I h;refine wpAny_Call_Name_kw (e8 I hg hm hv ?_ hn hdb);exact PyProof.Rows.callWith_type1 (bL (ha pos aa s σ H _ I h) fun us s1 ⟨vs,H1,I1,r1,q1⟩=>hc aa s1 σ H1 vs us Q I1 r1 q1) he hpl
end
end L2
namespace HT
open PySem PyProof.Rows
section
open PySem.SeqAt
open PySem.AutoSeq1 (wpAny_loadPart')
open PySem.MeetsSeq PySem.MeetsSeq2 PySem.MeetsSeq3
end
section
variable {prog : Program} {w : World} {A : Around} {E : Value -> Shared -> Prop} {s : Shared}
noncomputable def sIx (n d : Nat) : Option Int -> Nat
 | none=>d
 | some v=>if v < 0 then (v + (n : Int)).toNat else min v.toNat n
theorem sIx_none (n d : Nat) : sIx n d none = d:=rfl
theorem sIx_nat (n d k : Nat) : sIx n d (some (k : Int)) = min k n:=by
 show (if (k : Int) < 0 then ((k : Int) + (n : Int)).toNat else min (k : Int).toNat n) = min k n;rw [if_neg oM,Int.toNat_natCast]
end
end HT
namespace L2
open PySem PySem.Spec PyProof.Rows
noncomputable abbrev TO:=St -> Hp -> (Option Int -> Hp -> Prop) -> Prop
noncomputable def PO (X : Cx) (e : Option Expr) (t : TO) : Prop :=
 ∀ (aa : List (Addr × Obj)) (s : Shared) (σ : St) (H : Hp) (Q : Option Int -> Hp -> Prop),Inv X aa σ H s -> t σ H Q ->
  wpAny (model X.prog X.w) X.A (evalPart e X.env) (fun u s'=>∃ o H',Inv X aa σ H' s' /\ IsPart u o /\ Q o H') X.xe s
noncomputable def AG : TO:=fun _ H Q=>Q none H
noncomputable def DO (t : TE) : TO:=fun σ H Q=>t σ H fun x H1=>∃ i,x = .int i /\ Q (some i) H1
theorem wz {ns : List Int} : ∀ {us : List Value},Vals (ns.map V.int) us -> IntsAre us ns:=by
 induction ns with
 | nil=>intro us r; rw [List.map_nil] at r; cases r; exact .nil
 | cons n ns ih =>
  intro us r;rw [List.map_cons] at r;cases r with
  | cons r1 r2 =>
   obtain ⟨t,e⟩:=r1;subst e;exact .cons n t (ih r2)
section
variable {X : Cx} {e : Expr} {te : TE} {lo hi : Option Expr} {tl th : TO} {pos p2 : Pos}
theorem A3 : PO X none AG:=by
 intro aa s σ H Q I h;rw [evalPart_none];exact wpAny_pure ⟨none,H,I,.none,h⟩
theorem A2 (h : PE X e te) : PO X (some e) (DO te):=by
 intro aa s σ H Q I hw;rw [evalPart_some];refine bL (h aa s σ H _ I hw) fun u s1 ⟨x,H1,I1,r1,q1⟩=>?_
 obtain ⟨i,rfl,q⟩:=q1;obtain ⟨t,rfl⟩:=r1;exact ⟨some i,H1,I1,.int i t,q⟩
noncomputable def Fb (X : Cx) (r : V -> Option Int -> Option Int -> Hp -> VK -> Prop) : Prop :=
 ∀ (aa : List (Addr × Obj)) (s : Shared) (σ : St) (H : Hp) (x : V) (v vl vu : Value) (lo hi : Option Int) (sl : Addr) (Q : VK),Inv X aa σ H s -> RelV x v -> s.heap.IsSliceOf sl vl vu .none -> IsPart vl lo -> IsPart vu hi -> r x lo hi H Q ->
  ∃ T id,typeLookup (.type T) "__getitem__" = pure (some (.builtin id)) /\ s.TypeIs v T /\ wpAny (model X.prog X.w) X.A (getItem v (.ref sl)) (EP X aa σ Q) X.xe s
noncomputable def Gf (r : V -> Option Int -> Option Int -> Hp -> VK -> Prop) (te : TE) (tl th : TO) : TE:=fun σ H Q=>te σ H fun x H1=>tl σ H1 fun l H2=>th σ H2 fun u H3=>r x l u H3 Q
theorem nW {r : V -> Option Int -> Option Int -> Hp -> VK -> Prop} (hr : Fb X r) (he : PE X e te) (hl : PO X lo tl) (hu : PO X hi th) : PE X (.Subscript e (.Slice lo hi none p2) pos) (Gf r te tl th):=by
 intro aa s σ H Q I h;refine Subscript_ (bL (he aa s σ H _ I h) fun v s1 ⟨x,H1,I1,r1,q1⟩=>?_);refine wpAny_Slice (bL (hl aa s1 σ H1 _ I1 q1) fun vl s2 ⟨l,H2,I2,pl,q2⟩=>bL (hu aa s2 σ H2 _ I2 q2) fun vu s3 ⟨u,H3,I3,pu,q3⟩=>?_);rw [evalPart_none];refine wpAny_pure ?_;have I4 : Inv X aa σ H3 { s3 with heap:=s3.heap.push { cls:=.type "slice",data:=.fields #[vl,vu,.none] } }:=I3.kept (t':=s3.toks) fun b ob q=>Heap.get?_push_of_some _ q
 obtain ⟨T,id,hT,ht,hg⟩:=hr aa { s3 with heap:=s3.heap.push { cls:=.type "slice",data:=.fields #[vl,vu,.none] } } σ H3 x v vl vu l u s3.heap.objs.size Q I4 r1 (Heap.IsSliceOf.new ..) pl pu q3;show wpAny (model X.prog X.w) X.A (subscriptTail e (.Slice lo hi none p2) v (.ref s3.heap.objs.size)) (EP X aa σ Q) X.xe { s3 with heap:=s3.heap.push { cls:=.type "slice",data:=.fields #[vl,vu,.none] } };exact tail_any (ops:=[.ref s3.heap.objs.size,v]) ht hT hg (by with_unfolding_all rfl)
noncomputable def iU (xs : List V) (lo hi : Option Int) : List V:=(xs.drop (HT.sIx xs.length 0 lo)).take (HT.sIx xs.length xs.length hi - HT.sIx xs.length 0 lo)
theorem uB (xs : List V) (lo hi : Option Int) : (iU xs lo hi).length <= xs.length:=by
 unfold iU;rw [List.length_take,List.length_drop];omega
end
noncomputable def ixN (n : Nat) (i : Int) : Option Nat:=if 0 <= i then (if i < n then some i.toNat else none) else if -(n : Int) <= i then some (i + n).toNat else none
noncomputable def atI {α : Type} (xs : List α) (i : Int) : Option α:=(ixN xs.length i).bind fun j=>xs[j]?
theorem qt {n : Nat} {i : Int} {j : Nat} (h : ixN n i = some j) : seqIndex? i n = some j /\ j < n /\ -(n : Int) <= i /\ i < n:=by
 unfold ixN at h;by_cases h0 : 0 <= i
 ·rw [if_pos h0] at h
  by_cases h1 : i < n
  ·rw [if_pos h1] at h
   have e : i.toNat = j:=Option.some.inj h;exact ⟨by rw [seqIndex_of h0 h1,e],by omega,by omega,h1⟩
  ·rw [if_neg h1] at h; cases h
 ·rw [if_neg h0] at h
  by_cases h1 : -(n : Int) <= i
  ·rw [if_pos h1] at h
   have e : (i + n).toNat = j:=Option.some.inj h;exact ⟨by rw [seqIndex_neg oM h1,e],by omega,h1,by omega⟩
  ·rw [if_neg h1] at h; cases h
theorem qz {α : Type} {xs : List α} {i : Int} {v : α} (h : atI xs i = some v) : ∃ j,seqIndex? i xs.length = some j /\ xs[j]? = some v /\ j < xs.length /\ -(xs.length : Int) <= i /\ i < xs.length:=by
 unfold atI at h;cases e : ixN xs.length i with
 | none=>rw [e] at h; cases h
 | some j =>
  rw [e] at h;obtain ⟨h1,h2,h3,h4⟩:=qt e;exact ⟨j,h1,h,h2,h3,h4⟩
theorem atI_nat {α : Type} {xs : List α} {j : Nat} {v : α} (h : xs[j]? = some v) : atI xs (j : Int) = some v:=by
 have hj : j < xs.length:=(List.getElem?_eq_some_iff.mp h).1;have e : ixN xs.length (j : Int) = some j:=by
  unfold ixN;rw [if_pos oM,if_pos oM]; simp
 unfold atI; rw [e]; exact h
noncomputable def kR (b : Expr) : Prop:=∀ o i,subscripted b false o i = operate [o,i] (getItem o i)
noncomputable def IxR (X : Cx) (r : R2) : Prop :=
 ∀ (value slice : Expr) (aa : List (Addr × Obj)) (s : Shared) (σ : St) (H : Hp) (x y : V) (v u : Value) (Q : VK),Inv X aa σ H s -> RelV x v -> RelV y u -> r x y H Q ->
  subscripted slice false v u = operate [v,u] (getItem v u) -> wpAny (model X.prog X.w) X.A (subscriptTail value slice v u) (EP X aa σ Q) X.xe s
noncomputable def DJ (X : Cx) (id : String) (r : V -> List V -> Hp -> VK -> Prop) : Prop :=
 ∀ (aa : List (Addr × Obj)) (s : Shared) (σ : St) (H : Hp) (x : V) (xs : List V) (v : Value) (us : List Value) (Q : VK),Inv X aa σ H s -> RelV x v -> Vals xs us -> r x xs H Q ->
  wpAny (model X.prog X.w) X.A (call (.builtin id) (v :: us)) (EP X aa σ Q) X.xe s
section
variable {X : Cx} {a b : Expr} {ta tb : TE} {pos : Pos}
theorem IxR.or {r r' : R2} (h : IxR X r) (h' : IxR X r') : IxR X (fun x y H Q=>r x y H Q \/ r' x y H Q):=by
 intro value slice aa s σ H x y v u Q I rx ry q hs;rcases q with q | q
 ·exact h value slice aa s σ H x y v u Q I rx ry q hs
 ·exact h' value slice aa s σ H x y v u Q I rx ry q hs
theorem v6 {r : R2} (hr : IxR X r) (ha : PE X a ta) (hb : PE X b tb) (hs : kR b) : PE X (.Subscript a b pos) (qJ r ta tb):=by
 intro aa s σ H Q I h;exact Subscript_ (zQ ha hb I h fun v u s2 x y H2 I2 rx ry q=>hr a b aa s2 σ H2 x y v u Q I2 rx ry q (hs _ _))
noncomputable def Cm (K : PySem.W.Frag) : R2:=fun x y H Q=>∃ p xs i v,x = .ref p /\ y = .int i /\ dJ K H p xs /\ atI xs i = some v /\ Q v H
noncomputable def Ck (K : PySem.W.Frag) : R2:=fun x y H Q=>∃ p xs i v,x = .ref p /\ y = .int i /\ ug K H p xs /\ atI xs i = some v /\ Q v H
noncomputable def Cl : R2:=fun x y H Q=>∃ z i c,x = .str z /\ y = .int i /\ z.length <= sizeLine /\ atI z.cps.toList i = some c /\ Q (.str ⟨#[c]⟩) H
theorem ix_list : IxR X (Cm X.K):=by
 intro value slice aa s σ H x y v u Q I rx ry h hs;obtain ⟨p,xs,i,z,rfl,rfl,hq,he,q⟩:=h;cases rx;obtain ⟨t,rfl⟩:=ry;obtain ⟨its,r,pl,hz⟩:=I.list hq;obtain ⟨j,h1,h2,h3,h4,h5⟩:=qz he;obtain ⟨w,ew,rw'⟩:=r.get h2;have hl:=r.length;have hn:=kB;have fin : EP X aa σ Q w s:=⟨z,H,I,rw',q⟩;by_cases h0 : 0 <= i
 ·have hj : i.toNat = j:=by
   rw [seqIndex_of h0 h5] at h1;exact Option.some.inj h1
  exact item_listR pl.isList h0 oM (by rw [hj]; simpa using ew) fin hs
 ·have hj : (i + (its.toArray.size : Int)).toNat = j:=by
   rw [seqIndex_neg oM h4] at h1;rw [List.size_toArray,<- hl];exact Option.some.inj h1
  exact subscriptTail_builtinR (x:=w) pl.isList.typeIs slot_list_getitem.lookup
   (wpAny_getItem_list_neg (Q:=fun r s'=>r = w /\ EP X aa σ Q r s') pl.isList oM (by rw [List.size_toArray] <;> omega) oM (by rw [hj]; simpa using ew) ⟨rfl,fin⟩) hs
theorem ix_tup : IxR X (Ck X.K):=by
 intro value slice aa s σ H x y v u Q I rx ry h hs;obtain ⟨p,xs,i,z,rfl,rfl,hq,he,q⟩:=h;cases rx;obtain ⟨t,rfl⟩:=ry;obtain ⟨its,r,pl,hz⟩:=I.tuple hq;obtain ⟨j,h1,h2,h3,h4,h5⟩:=qz he;obtain ⟨w,ew,rw'⟩:=r.get h2;have hl:=r.length;have hn:=kB;have fin : EP X aa σ Q w s:=⟨z,H,I,rw',q⟩;exact subscriptTail_builtinR (x:=w) pl.typeIs slot_tuple_getitem.lookup
  (getItem_tuple (j:=j) (Q:=fun r s'=>r = w /\ EP X aa σ Q r s') pl oM oM (by rw [List.size_toArray,<- hl]; exact h1) (by simpa using ew) ⟨rfl,fin⟩) hs
theorem Dj : IxR X Cl:=by
 intro value slice aa s σ H x y v u Q I rx ry h hs;obtain ⟨z,i,c,rfl,rfl,hz,he,q⟩:=h;obtain ⟨t,rfl⟩:=rx;obtain ⟨t',rfl⟩:=ry;obtain ⟨j,h1,h2,h3,h4,h5⟩:=qz he;have hl : z.cps.toList.length = z.length:=by simp [Str.length]
 rw [hl] at h1 h4 h5;have hn:=kB;exact tail_any (typeIs_str s z t) slot_str_getitem.lookup (getItem_str (c:=c) (by
  have e1 : decide (i < -(2 ^ 63 : Int)) = false:=decide_eq_false oM;have e2 : decide (i ≥ 2 ^ 63) = false:=decide_eq_false oM;rw [e1,e2,Bool.or_false]) (by rw [h1]; simpa using h2) ⟨.str ⟨#[c]⟩,H,I.tok _,⟨_,rfl⟩,q⟩) hs
noncomputable def E4 (K : PySem.W.Frag) : R2:=fun x y H Q=>Cm K x y H Q \/ Ck K x y H Q \/ Cl x y H Q
theorem tJ : IxR X (E4 X.K):=ix_list.or (ix_tup.or Dj)
theorem wf (its : List Value) (n j : Nat) (u : Value) : Obj.mapSeq (·.setIfInBounds j u) { cls:=.type "list",data:=.seq its.toArray n } = { cls:=.type "list",data:=.seq (its.set j u).toArray n }:=by
 simp [Obj.mapSeq]
theorem Inv.lst {aa : List (Addr × Obj)} {σ : St} {H : Hp} {s : Shared} {p : Addr} {xs : List V} (I : Inv X aa σ H s) (h : H p = some (.lst xs)) :
  ∃ (its : List Value) (n : Nat),Vals xs its /\ s.heap.get? p = some { cls:=.type "list",data:=.seq its.toArray n } /\ xs.length <= sizeLine:=by
 obtain ⟨z,its,n,r,e⟩:=I.hok p _ h;exact ⟨its,n,r,e,z⟩
theorem Inv.lstUpd {aa : List (Addr × Obj)} {σ : St} {H : Hp} {s : Shared} {p : Addr} {xs ys : List V} {its its' : List Value} {n n' : Nat} {f : Obj -> Obj} (I : Inv X aa σ H s) (h : H p = some (.lst xs))
  (ho : s.heap.get? p = some { cls:=.type "list",data:=.seq its.toArray n }) (hf : f { cls:=.type "list",data:=.seq its.toArray n } = { cls:=.type "list",data:=.seq its'.toArray n' }) (r : Vals ys its') (hz : ys.length <= sizeLine) (t : Nat) :
  Inv X aa σ (upd H p (.lst ys)) { s with heap:=s.heap.update p f,toks:=t }:=by
 have e : (s.heap.update p f).get? p = some { cls:=.type "list",data:=.seq its'.toArray n' }:=by
  rw [Heap.get?_update_self f ho (by rw [hf] <;> rfl),hf]
 refine I.write (x:=p) (e:=p) (by rw [h]; trivial) (.inl rfl) (fun b u hb q=>(Heap.get?_update_other _ _ (Ne.symm hb)).trans q) ⟨_,e⟩ ?_;exact ⟨hz,its',n',r,e⟩
noncomputable def DZ : V -> V -> V -> Hp -> (Hp -> Prop) -> Prop:=fun o i v H Q=>∃ p xs k j,o = .ref p /\ i = .int k /\ H p = some (.lst xs) /\ ixN xs.length k = some j /\ Q (upd H p (.lst (xs.set j v)))
theorem yO : DF X DZ:=by
 intro aa s σ H o i v ov iv u Q I ro ri rv h;obtain ⟨p,xs,k,j,rfl,rfl,hp,hj,q⟩:=h;cases ro;obtain ⟨t,rfl⟩:=ri;obtain ⟨its,n,r,ho,hz⟩:=I.lst hp;obtain ⟨h1,h2,h3,h4⟩:=qt hj;have hl:=r.length;have hn:=kB;have I' : Inv X aa σ (upd H p (.lst (xs.set j v))) { s with heap:=s.heap.update p (Obj.mapSeq (·.setIfInBounds j u)) } :=
  I.lstUpd hp ho (wf its n j u) (r.set rv j) (by rw [List.length_set]; exact hz) s.toks
 by_cases h0 : 0 <= k
 ·have hk : k.toNat = j:=by
   rw [seqIndex_of h0 h4] at h1;exact Option.some.inj h1
  exact ki_setAt ho h0 oM (by rw [List.size_toArray,<- hl]; exact h4) (by rw [hk]; exact ⟨_,I',q⟩)
 ·have hk : (k + (its.toArray.size : Int)).toNat = j:=by
   rw [seqIndex_neg oM h3] at h1;rw [List.size_toArray,<- hl];exact Option.some.inj h1
  exact ki_setBack ho oM (by rw [List.size_toArray,<- hl]; exact h3) oM (by rw [hk]; exact ⟨_,I',q⟩)
theorem sx (lo hi : Option Int) (n : Nat) : (sliceBounds lo hi none n).1 = ((HT.sIx n 0 lo : Nat) : Int) /\ (sliceBounds lo hi none n).2.1 = ((HT.sIx n n hi : Nat) : Int) /\ (sliceBounds lo hi none n).2.2 = 1:=by
 refine ⟨?_,?_,rfl⟩
 ·cases lo with
  | none=>simp [sliceBounds,HT.sIx]
  | some i =>
   simp only [sliceBounds,HT.sIx,Option.getD_none,show (1 : Int) > 0 by decide,if_true];by_cases h : i < 0
   ·simp only [h,if_true] <;> omega
   ·simp only [h,if_false] <;> omega
 ·cases hi with
  | none=>simp [sliceBounds,HT.sIx]
  | some i =>
   simp only [sliceBounds,HT.sIx,Option.getD_none,show (1 : Int) > 0 by decide,if_true];by_cases h : i < 0
   ·simp only [h,if_true] <;> omega
   ·simp only [h,if_false] <;> omega
theorem rJ (its : List Value) (lo hi : Option Int) : slicePick its.toArray lo hi none = ((its.drop (HT.sIx its.length 0 lo)).take (HT.sIx its.length its.length hi - HT.sIx its.length 0 lo)).toArray:=by
 obtain ⟨h1,h2,h3⟩:=sx lo hi its.toArray.size;unfold slicePick;rw [h1,h2,h3];simp only [sliceRange_one,pick_run,List.size_toArray] <;> rfl
noncomputable def Fq (K : PySem.W.Frag) : V -> Option Int -> Option Int -> Hp -> VK -> Prop:=fun x lo hi H Q=>∃ a xs,x = .ref a /\ dJ K H a xs /\ ∀ p,H p = none -> Q (.ref p) (upd H p (.lst (iU xs lo hi)))
theorem p7 : Fb X (Fq X.K):=by
 intro aa s σ H x v vl vu lo hi sl Q I rx hs pl pu h;obtain ⟨a,xs,rfl,hx,q⟩:=h;cases rx;obtain ⟨its,r,ht,hz⟩:=I.list hx;have hlen:=r.length;refine ⟨"list",_,slot_list_getitem.lookup,ht.isList.typeIs,?_⟩;refine wpAny_getItem_list_slice ht.isList hs pl pu .none (by simp) ?_ (by rw [List.size_toArray] <;> omega);rw [rJ,<- hlen];refine ⟨.ref s.heap.objs.size,_,I.laid (t':=s.toks) (o:=.lst (iU xs lo hi)) (fun b ob q=>Heap.get?_push_of_some _ q) (Nat.le_refl _) ?_,rfl,q _ (I.hok.fresh (Nat.le_refl _))⟩;exact ⟨Nat.le_trans (uB xs lo hi) hz,_,0,(r.drop (HT.sIx xs.length 0 lo)).take (HT.sIx xs.length xs.length hi - HT.sIx xs.length 0 lo),Heap.get?_push_size _ rfl⟩
theorem call_len_seq : CallR X (.builtin "len") (fun xs H Q=>∃ p ys,xs = [.ref p] /\ (dJ X.K H p ys \/ ug X.K H p ys) /\ Q (.int ys.length) H):=by
 intro aa s σ H xs us Q I r h;obtain ⟨p,ys,rfl,hq,q⟩:=h;obtain ⟨u,rfl,rx⟩:=mP r;cases rx;have hn:=kB;rcases hq with hq | hq
 ·obtain ⟨its,r',pl,hz⟩:=I.list hq
  have hlen:=r'.length;exact Calls.call_len_list pl.isList (by simp only [List.size_toArray] <;> omega) ⟨.int ys.length,H,I.tok _,⟨s.toks + 1,by rw [List.size_toArray,hlen]⟩,q⟩
 ·obtain ⟨its,r',pl,hz⟩:=I.tuple hq
  have hlen:=r'.length;exact len_tuple pl (by simp only [List.size_toArray] <;> omega) ⟨.int ys.length,H,I.tok _,⟨s.toks + 1,by rw [List.size_toArray,hlen]⟩,q⟩
theorem tX : CallR X (.builtin "len") (fun xs H Q=>∃ z,xs = [.str z] /\ z.length <= sizeLine /\ Q (.int z.length) H):=by
 intro aa s σ H xs us Q I r h;obtain ⟨z,rfl,hz,q⟩:=h;obtain ⟨u,rfl,t,rfl⟩:=mP r;have hn:=kB;exact len_str oM ⟨.int z.length,H,I.tok _,⟨_,rfl⟩,q⟩
theorem CallR.or {f : Value} {r r' : List V -> Hp -> VK -> Prop} (h : CallR X f r) (h' : CallR X f r') : CallR X f (fun xs H Q=>r xs H Q \/ r' xs H Q):=by
 intro aa s σ H xs us Q I rs q;rcases q with q | q
 ·exact h aa s σ H xs us Q I rs q
 ·exact h' aa s σ H xs us Q I rs q
noncomputable def B5 (K : PySem.W.Frag) (T : String) (x : V) (H : Hp) : Prop:=match x with
 | .str _=>T = "str"
 | .int _=>T = "int"
 | .ref p=>(T = "list" /\ ∃ xs,dJ K H p xs) \/ (T = "tuple" /\ ∃ o,K.lookup p = some o /\ o.cls = .type "tuple" /\ o.dict = none) \/
   (T = "dict" /\ ((∃ kvs,H p = some (.dK kvs)) \/ ∃ kvs,H p = some (.dT kvs))) \/ (T = "set" /\ ∃ S n,H p = some (.set S n))
 | _=>False
theorem wP {aa : List (Addr × Obj)} {σ : St} {H : Hp} {s : Shared} {T : String} {x : V} {v : Value} (I : Inv X aa σ H s) (r : RelV x v) (ty : B5 X.K T x H) :
  s.TypeIs v T /\ ∀ a,v = .ref a -> ∃ ob,s.heap.get? a = some ob /\ ob.dict = none:=by
 cases x with
 | str z =>
  obtain ⟨t,rfl⟩:=r;cases (show T = "str" from ty);exact ⟨typeIs_str s z t,fun _ e=>nomatch e⟩
 | int i =>
  obtain ⟨t,rfl⟩:=r;cases (show T = "int" from ty);exact ⟨typeIs_int s i t,fun _ e=>nomatch e⟩
 | ref p =>
  cases r;rcases ty with ⟨rfl,xs,hq⟩ | ⟨rfl,o,hk,hc,hd⟩ | ⟨rfl,hk⟩ | ⟨rfl,S,n,hk⟩
  ·obtain ⟨its,_,pl,_⟩:=I.list hq
   refine ⟨pl.isList.typeIs,fun a e=>?_⟩;cases e;obtain ⟨o,n,e,c,hd,_⟩:=pl;exact ⟨o,e,hd⟩
  ·refine ⟨⟨o,I.kIn p o hk,hc⟩,fun a e=>?_⟩
   cases e;exact ⟨o,I.kIn _ o hk,hd⟩
  ·have z : ∃ o,s.heap.get? p = some o /\ o.ExactDict:=by
    rcases hk with ⟨kvs,hk⟩ | ⟨kvs,hk⟩
    ·obtain ⟨_,_,_,_,o,_,_,e,ex,_⟩:=I.hok p _ hk
     exact ⟨o,e,ex⟩
    ·obtain ⟨_,_,_,_,o,_,_,e,ex,_⟩:=I.hok p _ hk
     exact ⟨o,e,ex⟩
   obtain ⟨o,e,ex⟩:=z;refine ⟨⟨o,e,ex.1⟩,fun a e2=>?_⟩;cases e2;exact ⟨o,e,ex.2.1⟩
  ·obtain ⟨o,_,_,_,e,ex,_⟩:=I.hok p _ hk
   refine ⟨⟨o,e,ex.1⟩,fun a e2=>?_⟩;cases e2;exact ⟨o,e,ex.2.1⟩
 | _=>exact False.elim ty
noncomputable def Fm (K : PySem.W.Frag) (T : String) (r : V -> List V -> Hp -> VK -> Prop) (to : TE) : TE:=fun σ H Q=>to σ H fun x H1=>B5 K T x H1 /\ r x [] H1 Q
noncomputable def Gi (K : PySem.W.Frag) (T : String) (r : V -> List V -> Hp -> VK -> Prop) (to : TE) (t : TA) : TE:=fun σ H Q=>to σ H fun x H1=>B5 K T x H1 /\ t σ H1 fun xs H2=>r x xs H2 Q
variable {o e : Expr} {es : List Expr} {to : TE} {t : TA} {name : Str} {apos cpos : Pos} {T id : String} {r : V -> List V -> Hp -> VK -> Prop}
theorem xA (pa : PlainAttrs T) (slot : Slot T name id) (hty : typeOf (.builtin id) = pure (.type "method_descriptor")) (hm : DJ X id r) (ho : PE X o to)
  (hbase : autoParam (attributeBase o name X.env (eval o X.env) = eval o X.env) aI._auto_1) (hline : autoParam ((apos.endLine == cpos.line) = true) aI._auto_1) : PE X (.Call (.Attribute o name apos) [] [] cpos) (Fm X.K T r to):=by
 intro aa s σ H Q I h;refine wpAny_Call_method0_late hbase hline (bL (ho aa s σ H _ I h) fun v s1 ⟨x,H1,I1,r1,ty,q1⟩=>?_);obtain ⟨h1,h2⟩:=wP I1 r1 ty;exact ⟨T,id,pa,slot,hty,h1,h2,Calls.callWith_builtin rfl (PySem.evalArgs_none (hm aa s1 σ H1 x [] v [] Q I1 r1 .nil q1))⟩
theorem mW (pa : PlainAttrs T) (slot : Slot T name id) (hty : typeOf (.builtin id) = pure (.type "method_descriptor")) (hm : DJ X id r) (ho : PE X o to) (ha : PA X (e :: es) t)
  (hbase : autoParam (attributeBase o name X.env (eval o X.env) = eval o X.env) aI._auto_1)
  (hfew : autoParam (((backTo cpos (starEach (e :: es) X.env)).all (fun x=>!x.1) && (backToKw cpos (keywordEach [] X.env)).all (fun x=>x.1.isSome)
   && decide ((e :: es).length + ([] : List Keyword).length + (if ([] : List Keyword).isEmpty then 0 else 1) < 30)) = true) aI._auto_1)
  (hline : autoParam ((apos.endLine == cpos.line) = true) aI._auto_1) (hs : autoParam (starEach (e :: es) X.env = (false,eval e X.env) :: starEach es X.env) aI._auto_1) (hplain : autoParam ((backTo cpos (starEach es X.env)).any (·.1) = false) aI._auto_1) :
  PE X (.Call (.Attribute o name apos) (e :: es) [] cpos) (Gi X.K T r to t):=by
 intro aa s σ H Q I h;refine wpAny_Call_method_late hbase hfew hline rfl (bL (ho aa s σ H _ I h) fun v s1 ⟨x,H1,I1,r1,ty,q1⟩=>?_);obtain ⟨h1,h2⟩:=wP I1 r1 ty;refine ⟨T,id,pa,slot,hty,h1,h2,?_⟩;have hA:=ha cpos aa s1 σ H1 _ I1 q1;rw [hs] at hA ⊢;refine Calls.callWith_builtin (by show (false || (backTo cpos (starEach es X.env)).any (·.1)) = false; rw [hplain] <;> rfl) (Calls.evalArgs_plain ?_);exact bL hA fun us s2 ⟨vs,H2,I2,r2,q2⟩=>hm aa s2 σ H2 x vs v us Q I2 r1 r2 q2
end
noncomputable def yC (X : Cx) (id : String) (r : V -> List V -> Hp -> VK -> Prop) : Prop :=
 ∀ (aa : List (Addr × Obj)) (s : Shared) (σ : St) (H : Hp) (x : V) (xs : List V) (v : Value) (us : List Value) (Q : VK),Inv X aa σ H s -> RelV x v -> Vals xs us -> r x xs H Q ->
  wpAny (model X.prog X.w) X.A (call (.builtin id) (v :: us)) (EP X aa σ Q) X.xe s
theorem Vals.one {x : V} {us : List Value} (h : Vals [x] us) : ∃ u,us = [u] /\ RelV x u:=by
 cases h with
 | cons r h=>cases h; exact ⟨_,rfl,r⟩
theorem Vals.zero : ∀ {us : List Value},Vals [] us -> us = []
 | _,.nil=>rfl
theorem Vals.dropLast {xs : List V} {us : List Value} (h : Vals xs us) : Vals xs.dropLast us.dropLast:=by
 induction h with
 | nil=>exact .nil
 | cons r t ih =>
  cases t with
  | nil=>exact .nil
  | cons q t'=>exact .cons r ih
theorem wD {α : Type} (l : List α) : l.eraseIdx (l.length - 1) = l.dropLast:=by
 induction l with
 | nil=>rfl
 | cons a r ih =>
  cases r with
  | nil=>rfl
  | cons b r =>
   have e : (a :: b :: r).length - 1 = ((b :: r).length - 1) + 1:=by
    have h1 : (a :: b :: r).length = r.length + 2:=rfl;have h2 : (b :: r).length = r.length + 1:=rfl;omega
   rw [e,List.eraseIdx_cons_succ,ih]
   all_goals rfl
section
variable {X : Cx} {aa : List (Addr × Obj)} {σ : St} {H : Hp} {s : Shared} {l b : Addr} {xs ys zs : List V}
theorem Inv.lset {its its' : List Value} {n : Nat} {f : Array Value -> Array Value} {t' : Nat} (I : Inv X aa σ H s) (hH : H l = some (.lst xs))
  (e : s.heap.get? l = some { cls:=.type "list",data:=.seq its.toArray n }) (hf : f its.toArray = its'.toArray) (hv : Vals ys its') (hz : ys.length <= sizeLine) :
  Inv X aa σ (upd H l (.lst ys)) { s with heap:=s.heap.update l (Obj.mapSeq f),toks:=t' }:=by
 have q:=PySem.IsL.update e f;rw [hf] at q;refine I.write (x:=l) (e:=l) (by rw [hH]; exact trivial) (.inl rfl) (fun b' u hb hu=>(Heap.get?_update_other s.heap (Obj.mapSeq f) (Ne.symm hb)).trans hu) ⟨_,q⟩ ?_;exact ⟨hz,its',_,hv,q⟩
theorem Inv.lnew {its : List Value} {t' : Nat} (I : Inv X aa σ H s) (hv : Vals ys its) (hz : ys.length <= sizeLine) :
  Inv X aa σ (upd H s.heap.objs.size (.lst ys)) { s with heap:=s.heap.push { cls:=.type "list",data:=.seq its.toArray },toks:=t' } :=
 I.laid (fun _ _ q=>Heap.get?_push_of_some _ q) (Nat.le_refl _) ⟨hz,its,0,hv,Heap.get?_push_size _ rfl⟩
theorem Inv.fresh (I : Inv X aa σ H s) : H s.heap.objs.size = none:=I.hok.fresh (Nat.le_refl _)
theorem Inv.lstM (I : Inv X aa σ H s) (hH : H l = some (.lst xs)) : xs.length <= sizeLine /\ ∃ (its : List Value) (n : Nat),Vals xs its /\ xs.length = its.length /\ s.heap.get? l = some { cls:=.type "list",data:=.seq its.toArray n }:=by
 obtain ⟨z,its,n,r,e⟩:=I.hok l _ hH;exact ⟨z,its,n,r,r.length,e⟩
theorem notLongL {n : Nat} (h : n <= sizeLine) : Builtin.List.listTooLong n = false:=by
 unfold Builtin.List.listTooLong;exact decide_eq_false oM
end
section
variable {X : Cx}
noncomputable def AM : V -> List V -> Hp -> VK -> Prop:=fun x vs H Q=>∃ l xs y,x = .ref l /\ vs = [y] /\ H l = some (.lst xs) /\ xs.length < sizeLine /\ Q .non (upd H l (.lst (xs ++ [y])))
theorem gY : yC X "list.append" AM:=by
 intro aa s σ H x vs v us Q I rx rv h;obtain ⟨l,xs,y,rfl,rfl,hH,hz,q⟩:=h;cases rx;obtain ⟨u,rfl,ru⟩:=rv.one;obtain ⟨z,its,n,r,hl,e⟩:=I.lstM hH;refine call_meets F.slot_list_append ⟨_,e,rfl⟩ F.entry_list_append (F.args_list_append_2 _ _) (PySem.list_append l its.toArray n u (by rw [List.size_toArray]; omega)) ⟨e,?_⟩;refine ⟨.non,_,I.lset (its':=its ++ [u]) hH e (by simp) (r.append (.cons ru .nil)) ?_,rfl,q⟩;rw [List.length_append,List.length_singleton];omega
noncomputable def AL : V -> List V -> Hp -> VK -> Prop:=fun x vs H Q=>∃ l b xs zs,x = .ref l /\ vs = [.ref b] /\ H l = some (.lst xs) /\ H b = some (.lst zs) /\ xs.length + zs.length <= sizeLine /\ Q .non (upd H l (.lst (xs ++ zs)))
theorem E7 : yC X "list.extend" AL:=by
 intro aa s σ H x vs v us Q I rx rv h;obtain ⟨l,b,xs,zs,rfl,rfl,hH,hB,hz,q⟩:=h;cases rx;obtain ⟨u,rfl,ru⟩:=rv.one;cases ru;obtain ⟨z,its,n,r,hl,e⟩:=I.lstM hH;obtain ⟨z2,its2,n2,r2,hl2,e2⟩:=I.lstM hB;have hsz : its.toArray.size + its2.toArray.size <= sizeLine:=by rw [List.size_toArray,List.size_toArray]; omega
 have hlong : ¬ (!its.toArray.isEmpty && Builtin.List.listTooLong (its.toArray.size + its2.toArray.size)) = true:=by
  rw [notLongL hsz,Bool.and_false];exact Bool.false_ne_true
 refine call_meets F.slot_list_extend ⟨_,e,rfl⟩ F.entry_list_extend (F.args_list_extend_2 _ _)
  (AutoSeq1.list_extend_list_list_0 l its.toArray n b its2.toArray n2 hlong (by rw [List.size_toArray]; omega) oM) ⟨e,e2,?_⟩
 refine ⟨.non,_,I.lset (its':=its ++ its2) hH e (by simp) (r.append r2) ?_,rfl,q⟩;rw [List.length_append];omega
noncomputable def Fs : V -> List V -> Hp -> VK -> Prop:=fun x vs H Q=>∃ l xs y,x = .ref l /\ vs = [] /\ H l = some (.lst xs) /\ xs[xs.length - 1]? = some y /\ Q y (upd H l (.lst xs.dropLast))
theorem GA : yC X "list.pop" Fs:=by
 intro aa s σ H x vs v us Q I rx rv h;obtain ⟨l,xs,y,rfl,rfl,hH,hy,q⟩:=h;cases rx;have hus:=rv.zero;subst hus;obtain ⟨z,its,n,r,hl,e⟩:=I.lstM hH;obtain ⟨u,hu,ru⟩:=r.get hy;have hy' : its.toArray[its.toArray.size - 1]? = some u:=by
  show its.toArray[its.length - 1]? = some u;rw [<- Array.getElem?_toList,<- hl];exact hu
 refine call_meets F.slot_list_pop ⟨_,e,rfl⟩ F.entry_list_pop (F.args_list_pop_1 _) (MeetsSeq.list_pop_last l its.toArray n u hy' (by rw [List.size_toArray]; omega)) ⟨e,?_⟩;refine ⟨y,_,I.lset (its':=its.dropLast) hH e ?_ r.dropLast ?_,ru,q⟩
 ·show its.toArray.eraseIdxIfInBounds (its.toArray.size - 1) = its.dropLast.toArray
  rw [List.size_toArray,List.eraseIdxIfInBounds_toArray,wD]
 ·rw [List.length_dropLast]
  omega
noncomputable def Cn : V -> List V -> Hp -> VK -> Prop:=fun x vs H Q=>∃ l xs,x = .ref l /\ vs = [] /\ H l = some (.lst xs) /\ Q .non (upd H l (.lst []))
theorem zi : yC X "list.clear" Cn:=by
 intro aa s σ H x vs v us Q I rx rv h;obtain ⟨l,xs,rfl,rfl,hH,q⟩:=h;cases rx;have hus:=rv.zero;subst hus;obtain ⟨z,its,n,r,hl,e⟩:=I.lstM hH;refine call_meets F.slot_list_clear ⟨_,e,rfl⟩ F.entry_list_clear (F.args_list_clear_1 _) (AutoSeq1.list_clear_list_0 l its.toArray n (by rw [List.size_toArray]; omega)) ⟨e,?_⟩;exact ⟨.non,_,I.lset (its':=[]) (ys:=[]) hH e rfl .nil (Nat.zero_le _),rfl,q⟩
noncomputable def Ft : R2:=fun x y H Q=>∃ l b xs zs,x = .ref l /\ y = .ref b /\ H l = some (.lst xs) /\ H b = some (.lst zs) /\ xs.length + zs.length <= sizeLine /\ ∀ p,H p = none -> Q (.ref p) (upd H p (.lst (xs ++ zs)))
theorem xC : fk X (binaryOp .Add) Ft:=by
 intro aa s σ H x y v u Q I rx ry h;obtain ⟨l,b,xs,zs,rfl,rfl,hH,hB,hz,q⟩:=h;cases rx;cases ry;obtain ⟨z,its,n,r,hl,e⟩:=I.lstM hH;obtain ⟨z2,its2,n2,r2,hl2,e2⟩:=I.lstM hB;refine PySem.P.add_list e e2 ?_ (by rw [List.size_toArray,List.size_toArray]; omega);have ea : its.toArray ++ its2.toArray = (its ++ its2).toArray:=by simp
 rw [ea];exact ⟨.ref _,_,I.lnew (t':=s.toks) (r.append r2) (by rw [List.length_append]; omega),rfl,q _ I.fresh⟩
end
section
variable {prog : Program} {w : World} {A : Around} {E : Value -> Shared -> Prop} {s : Shared}
end
section
variable {X : Cx}
end
end L2
namespace Att
open PySem PySem.W PySem.Calls PyProof.Rows
theorem o7 {P : Params} {h : Heap} : ∀ (ns : List Int) (vs : List Value),WellAll P h vs (ns.map WData.int) -> IntsAre vs ns:=by
 intro ns
 induction ns with
 | nil =>
  intro vs w;rw [List.map_nil] at w;cases w;exact .nil
 | cons n ns ih =>
  intro vs w;rw [List.map_cons] at w;cases w with
  | cons a b =>
   cases a;exact .cons _ _ (ih _ b)
theorem wX {l : OpenLaw} {n : Nat} (hn : l.most = some n) {P : Params} {h : Heap} {args : List WData} {vals : List Value}
  (hpre : l.row.toRowW.claim.pre args = true) (hwl : WellAll P h vals args) :
  ∃ a vs ns,vals = [Value.ref a] /\ args = [WData.list (ns.map WData.int)] /\ h.get? a = some { cls:=.type "list",data:=.seq vs.toArray } /\ IntsAre vs ns /\ ns.length <= n:=by
 have hsh : WShape.hasAll [] args [.list .int] = true:=(pre_splitW hpre).1;have hc : l.pre.holds [] { args:=args } = true:=(pre_splitW hpre).2;obtain ⟨d,r,rfl,h1,h2⟩:=hasAllW_cons hsh;obtain rfl:=hasAllW_nil h2;obtain ⟨xs,rfl,h3⟩:=hasW_list h1;obtain ⟨ns,rfl⟩:=items_int h3;have hlen : ns.length <= n:=by
  unfold OpenLaw.pre at hc;have h4 : (WTm.not (.lt (.lit (.int (n : Int))) (.len (.arg 0)))).holds [] { args:=[.list (ns.map .int)] } = true:=by
   have h4:=(holds_andW hc).1;rw [hn] at h4;exact h4
  have h5:=condW_of h4 (w_not (w_lt w_lit (w_len_list (w_arg rfl))));rw [List.length_map] at h5;refine Nat.le_of_not_lt fun q=>?_
  have q' : (n : Int) < ((ns.length : Nat) : Int):=by omega
  first
   | (rw [decide_eq_true q'] at h5; exact absurd h5 dC)
   | (simp at h5; omega)
 cases hwl with
 | cons w1 w2 =>
  cases w2;cases w1 with
  | list ho hall=>exact ⟨_,_,ns,rfl,rfl,ho,o7 ns _ hall,hlen⟩
theorem xt (l : OpenLaw) (args : List WData) : l.row.toRowW.claim.post args (.bool true) args = true :=
 postW_of (r:=l.row.toRowW) (X:=(true == true))
  (show WShape.has [] (.bool true) .bool = true by first | rfl | decide | simp [WShape.has,WShape.arms,WShape.armsAll])
  (show (WTm.eq .res (.lit (.bool true))).value [] { args:=args,res:=some (.bool true),after:=args } = some (.bool (true == true)) from w_eq_bool (w_res rfl) w_lit) rfl
theorem attach_call {l : OpenLaw} {n : Nat} {q : Program} {loose : List Str} {XP : (Str -> Option Value) -> Heap -> Prop} {YP : World -> Heap -> Prop} {d : DefRec}
  (hn : l.most = some n) (hdf : d.params.defaults = [])
  (call : ∀ (w : World) (s₀ s₁ : Shared) (mg mb : Str -> Option Value) (fa : Addr) (o : Obj) (pm cd doc : Value) (a : Addr) (vs : List Value) (ns : List Int),
   Ground q loose [] XP w s₀ mg mb s₁.heap -> YP w s₁.heap ->
   s₁.heap.get? fa = some o -> o.data = .func (docDef d.name d.params d.body d.scope pm cd doc) -> s₁.heap.CodeRec cd d.name -> mg d.name = some (.ref fa) ->
   s₁.heap.get? a = some { cls:=.type "list",data:=.seq vs.toArray } -> IntsAre vs ns -> ns.length <= n -> s₁.gens = #[] ->
   codeAny (model l.prog w) callerA (.call (.ref fa) ⟨[.ref a],[]⟩) (fun r s'=>r = .ok (.ret (.bool true)) /\ OldK s₁.heap s'.heap /\ s'.os = s₁.os /\ AllBare s'.gens) s₁) :
  WalkO q loose XP YP l.row.toRowW d [] (fun f vs=>PySem.call f vs):=by
 intro w s₀ s₁ mg mb G Y fa o pm cd doc dV kV ho hd hcd hD hmg hg args vals as hpre hlay hrd hwl hlo;obtain rfl : dV = .none:=Dflts.none hD hdf;obtain rfl : kV = .none:=Dflts.noKw hD;obtain ⟨a,vs,ns,rfl,rfl,hobj,hints,hlen⟩:=wX hn hpre hwl;refine enter_call (codeAny_mono (call w s₀ s₁ mg mb fa o pm cd doc a vs ns G Y ho (fd_plain hd) hcd hmg hobj hints hlen hg) fun r s' hq=>?_);obtain ⟨rfl,h2,h3,h4⟩:=hq;exact ⟨.inl ⟨.bool true,.bool true,[],rfl,fun _=>rfl,.bool true,xt l _,fun _=>⟨List.Pairwise.nil,fun _ hm=>(nomatch hm)⟩⟩,h2,h3,h4⟩
section
variable {prog : Program} {w : World} {A : Around} {E : Value -> Shared -> Prop} {s : Shared} {K : Frag}
end
end Att
namespace L2
open PySem PySem.Spec PyProof.Rows
theorem wM : ∀ {vs : List Value} {ns : List Int},IntsAre vs ns -> Vals (ns.map V.int) vs:=by
 intro vs ns h
 induction h with
 | nil=>exact .nil
 | cons n t h ih=>exact .cons ⟨t,rfl⟩ ih
noncomputable def zV (H : Hp) : Prop:=∀ b,H b = none \/ ∃ o xs,H b = some (.frz o (.lst xs))
theorem zn {P : Program} {w : World} {K : PySem.W.Frag} {mg mb : Str -> Option Value} {CX : mO} {k : Nat} {fa a : Addr} {fd : FuncData} {x : Str} {sp : Sp} {s₁ : Shared} {vs : List Value} {ns : List Int}
  (KX : K.In s₁.heap) (hns : s₁.heap.Ns mainGlobals mg) (hb : s₁.heap.Ns builtinsNs mb) (hbb : ∀ x : Str,x ≠ "__name__" -> mb x = bootBuiltins x) (hlim : s₁.heap.NoLimit) (hg : s₁.gens = #[])
  (ha : s₁.heap.get? a = some { cls:=.type "list",data:=.seq vs.toArray }) (hi : IntsAre vs ns) (hl : ns.length <= sizeLine) (hr : Room k callerA)
  (F : ∀ base : Heap,K.In base -> base.Ns mainGlobals mg -> bR P w K mg base CX k fa fd [x] sp) (hbind : ∀ (s : Shared) (u : Value),BindsTo s fd ⟨[u],[]⟩ [(x,u)])
  (hsp : ∀ H : Hp,zV H -> dJ K H a (ns.map V.int) -> sp [.ref a] H (fun v _=>v = .bl true) fun _ _ _=>False)
  (hCX : ∀ H e s',CX [] H s₁ (fun _ _ _=>False) e s' -> False) :
  codeAny (model P w) callerA (.call (.ref fa) ⟨[.ref a],[]⟩) (fun r s'=>r = .ok (.ret (.bool true)) /\ OldK s₁.heap s'.heap /\ s'.os = s₁.os /\ AllBare s'.gens) s₁:=by
 have rv:=wM hi;have lenV:=hi.length
 -- from an abstract heap in which nothing but the script may be tracked
 have core : ∀ H : Hp,zV H -> dJ K H a (ns.map V.int) -> HOk P w H s₁.heap -> (∀ b,H b ≠ none -> b = a) -> (H a ≠ none -> K.lookup a = none) ->
   codeAny (model P w) callerA (.call (.ref fa) ⟨[.ref a],[]⟩) (fun r s'=>r = .ok (.ret (.bool true)) /\ OldK s₁.heap s'.heap /\ s'.os = s₁.os /\ AllBare s'.gens) s₁:=by
  intro H hO hS hok hA hK;have base_of : ∀ {b : Addr} {o : Obj},s₁.heap.get? b = some o -> H b = none -> (ly s₁.heap H).get? b = some o:=fun e n=>zE e n
  have noA : ∀ {b : Addr} {o : Obj} {es : Array DictEntry} {ep : Nat},s₁.heap.get? b = some o -> o.data = .dict es ep -> H b = none:=fun {b o es ep} e d=>by
   cases q : H b with
   | none=>rfl
   | some u =>
    have e' : b = a:=hA b (by rw [q]; simp);subst e';rw [ha] at e; cases e;have d' : Data.seq vs.toArray _ = Data.dict es ep:=d;cases d'
  have nsK : ∀ {b : Addr} {m : Str -> Option Value},s₁.heap.Ns b m -> (ly s₁.heap H).Ns b m:=fun {b m} ⟨o,es,ep,e,d,r⟩=>⟨o,es,ep,base_of e (noA e d),d,r⟩
  have hKb : K.In (ly s₁.heap H):=fun b o e=>base_of (KX b o e) (by
   cases q : H b with
   | none=>rfl
   | some u =>
    have e' : b = a:=hA b (by rw [q]; simp);subst e';rw [hK (by rw [q]; simp)] at e; cases e)
  have hM : Mod K mg (ly s₁.heap H):=⟨hKb,nsK hns,⟨mb,nsK hb,hbb⟩,let ⟨mc,h1,h2⟩:=hlim; ⟨mc,nsK h1,h2⟩⟩;have e0 : wI P w K mg (ly s₁.heap H) callerA [] s₁ H:=⟨rfl,hM,fun b o e=>Bf e,Nat.le_of_eq (ye _ _),trivial,fun b hb=>absurd (show b ∈ ([] : List Addr) from hb) (by simp),hok,.of_eq hg⟩;refine codeAny_mono ((F _ hKb (nsK hns)).run callerA [] s₁ H ⟨[.ref a],[]⟩ [.ref a] [.ref a] _ _ hr e0 (hbind s₁ (.ref a)) (.cons rfl .nil) (hsp H hO hS)) fun r s' h=>?_
  cases r with
  | error e=>exact (hCX H e s' h).elim
  | ok fl =>
   cases fl with
   | next=>exact False.elim h
   | brk=>exact False.elim h
   | cont=>exact False.elim h
   | ret u =>
    obtain ⟨v,H',os,bare,un,hok',r',q⟩:=h;have q' : v = .bl true:=q;subst q';obtain rfl : u = Value.bool true:=r';refine ⟨rfl,OldK.of_keep fun b o e=>?_,os,bare⟩;cases q : H b with
    | none=>exact un.keep b o e q (by intro z; exact absurd (show b ∈ ([] : List Addr) from z) (by simp)) (by simp)
    | some u =>
     rcases hO b with z | ⟨ob,xs,z⟩
     ·rw [q] at z; cases z
     ·have z2:=un.frzs b ob _ z
      obtain ⟨e1,_⟩:=hok b _ z;obtain ⟨e2,_⟩:=hok' b _ z2;rw [e] at e1; cases e1;exact e2
 cases hk : K.lookup a with
 | some o =>
  -- the script is one of the module's own objects
  have e:=KX a o hk;rw [ha] at e;cases e;refine core (fun _=>none) (fun _=>.inl rfl) (.inr ⟨_,vs.toArray,_,hk,rfl,rfl,rfl,by rw [List.size_toArray,lenV]; exact hl,by simpa using rv⟩) (fun b u z=>by have z' : (none : Option HO) = some u:=z; cases z') (fun b z=>absurd rfl z) fun z=>absurd rfl z
 | none =>
  refine core (fun b=>if b = a then some (.frz { cls:=.type "list",data:=.seq vs.toArray } (.lst (ns.map V.int))) else none) (fun b=>?_) (.inl (.inr ⟨{ cls:=.type "list",data:=.seq vs.toArray },if_pos rfl⟩)) (fun b u z=>?_) (fun b z=>?_) fun _=>hk
  ·by_cases hb : b = a
   ·exact .inr ⟨_,_,if_pos hb⟩
   ·exact .inl (if_neg hb)
  ·by_cases hb : b = a
   ·have z':=(if_pos hb).symm.trans z
    cases z';subst hb;exact ⟨ha,by rw [List.length_map]; exact hl,vs,_,rv,ha⟩
   ·have z':=(if_neg hb).symm.trans z
    cases z'
  ·by_cases hb : b = a
   ·exact hb
   ·exact absurd (if_neg hb) z
noncomputable abbrev GS {K : PySem.W.Frag} {h : Heap} (_ : K.In h) : PySem.W.Frag:=K
theorem walk_of {l : PySem.W.OpenLaw} {n k : Nat} {q : Program} {loose : List Str} {XP : (Str -> Option Value) -> Heap -> Prop} {YP : World -> Heap -> Prop} {d : DefRec} {K : Params -> PySem.W.Frag} {CX : World -> mO} {sp : World -> Sp} {x : Str}
  (hn : l.most = some n) (hn2 : n <= sizeLine) (hdf : d.params.defaults = []) (hr : Room k callerA)
  (hY : ∀ (w : World) (h : Heap),YP w h -> (K w.params).In h)
  (F : ∀ (w : World) (mg : Str -> Option Value) (fa : Addr) (h : Heap),(K w.params).In h -> h.Ns mainGlobals mg -> mg d.name = some (.ref fa) ->
   ∃ fd : FuncData,(∀ (s : Shared) (u : Value),BindsTo s fd ⟨[u],[]⟩ [(x,u)]) /\
    ∀ base : Heap,(K w.params).In base -> base.Ns mainGlobals mg -> bR l.prog w (K w.params) mg base (CX w) k fa fd [x] (sp w))
  (hsp : ∀ (w : World) (H : Hp) (a : Addr) (ns : List Int),ns.length <= n -> zV H -> dJ (K w.params) H a (ns.map V.int) -> sp w [.ref a] H (fun v _=>v = .bl true) fun _ _ _=>False)
  (hCX : ∀ (w : World) (H : Hp) (s : Shared) (e : Value) (s' : Shared),CX w [] H s (fun _ _ _=>False) e s' -> False) :
  PySem.W.WalkO q loose XP YP l.row.toRowW d [] (fun f vs=>PySem.call f vs):=by
 refine Att.attach_call hn hdf fun w s₀ s₁ mg mb fa o pm cd doc a vs ns G Y ho hd hcd hmg hobj hints hlen hg=>?_
 have KX:=hY w _ Y;obtain ⟨fd,hb,hF⟩:=F w mg fa _ KX G.T.g hmg;exact zn KX G.T.g G.T.b G.T.builtins G.T.nolimit hg hobj hints (Nat.le_trans hlen hn2) hr hF hb (fun H hO hS=>hsp w H a ns hlen hO hS) fun H e s'=>hCX w H s₁ e s'
noncomputable def kI (s : Stmt) : Arguments:=match s with
 | .FunctionDef _ a _ _ _ _ _ _ _ _=>a
 | _=>{ posonlyargs:=[],args:=[],vararg:=none,kwonlyargs:=[],kw_defaults:=[],kwarg:=none,defaults:=[] }
noncomputable def iC (s : Stmt) : List Stmt:=match s with
 | .FunctionDef _ _ b _ _ _ _ _ _ _=>b
 | _=>[]
noncomputable def aK (s : Stmt) : Scope:=match s with
 | .FunctionDef _ _ _ _ _ _ sc _ _ _=>sc
 | _=>{ kind:=.function,names:=[],isGenerator:=false,isCoroutine:=false }
noncomputable abbrev cP : mO:=fun _ _ _ _ _ _=>False
noncomputable abbrev E0 : XK:=fun _ _ _=>False
theorem Em {X : Cx} : uh cP X E0:=fun _ _ _ _ _ _ _ h=>h.elim
structure Fun (K : PySem.W.Frag) (x qual : Str) (st : Stmt) (f : Addr) (fd : FuncData) : Prop where
 ex : ∃ (oc : Value) (od : Option Addr) (kV doc pm : Value) (an : Option Addr) (cdv ct : Value) (osl : Array (Option Value)),
  fd = fnOf x qual (kI st) (iC st) (aK st) .none kV doc pm an cdv ct /\ K.lookup f = some ⟨oc,od,.func fd,osl⟩ /\ codeIn K cdv qual = true
 kp : keepIn K (.ref f) = true
section
variable {P : Program} {w : World} {K : PySem.W.Frag} {mg : Str -> Option Value} {base : Heap}
theorem Fun.ok {x qual : Str} {st : Stmt} {f : Addr} {fd : FuncData} {N ps : List Str} {k : Nat} {sp : Sp} (F : Fun K x qual st f fd) (S : aZ N ps (aK st)) (len : ∀ vs H Q E,sp vs H Q E -> vs.length = ps.length)
  (hbody : ∀ (cdv : Value) (A : Around) (outer : List Env) (s : Shared) (H : Hp) (vs : List V) (Q : VK) (E : XK),Room k (A.deeper (envOfC qual (aK st) s.heap.objs.size f cdv)) -> sp vs H Q E ->
   ∃ t,PSs (n9 cP P w K mg base N qual (aK st) f cdv A outer s H E).nox (iC st) t /\ t { nx:=fun _ H'=>Q .non H',rt:=Q } (start N vs) H) : bR P w K mg base cP (k + 1) f fd ps sp:=by
 obtain ⟨oc,od,kV,doc,pm,an,cdv,ct,osl,rfl,lk,hcd⟩:=F.ex;refine EO lk hcd S len fun A outer s H vs Q E hr hsp=>?_
 obtain ⟨t,h,q⟩:=hbody cdv A outer s H vs Q E hr hsp;exact ⟨t,h.nox,q⟩
theorem Fun.binds {x qual : Str} {st : Stmt} {f : Addr} {fd : FuncData} {ps : List Str} (F : Fun K x qual st f fd)
  (h : ∀ (kV doc pm : Value) (an : Option Addr) (cdv ct : Value) (us : List Value),us.length = ps.length -> bindArgs (fnOf x qual (kI st) (iC st) (aK st) .none kV doc pm an cdv ct) ⟨us,[]⟩ = pure (ps.zip us)) : Binds K fd ps []:=by
 obtain ⟨oc,od,kV,doc,pm,an,cdv,ct,osl,rfl,lk,hcd⟩:=F.ex;exact .all (h kV doc pm an cdv ct)
theorem bG {x qual : Str} {st : Stmt} {f : Addr} {oc : Value} {od an : Option Addr} {osl : Array (Option Value)} {kV doc pm cdv ct : Value} (l : K.lookup f = some ⟨oc,od,.func (fnOf x qual (kI st) (iC st) (aK st) .none kV doc pm an cdv ct),osl⟩)
  (c : codeIn K cdv qual = true) (k : keepIn K (.ref f) = true) : Fun K x qual st f (fnOf x qual (kI st) (iC st) (aK st) .none kV doc pm an cdv ct):=⟨⟨oc,od,kV,doc,pm,an,cdv,ct,osl,rfl,l,c⟩,k⟩
end
theorem small1000 {n : Nat} (h : n <= 1000) : n < sizeLine:=Nat.lt_of_le_of_lt h dC
section
variable {X : Cx}
end
end L2
set_option maxHeartbeats 4000000
namespace DD
theorem bK {α β : Type} {o : Option α} {f : α -> Option β} {y : β} {G : Prop} (k : ∀ x,o = some x -> f x = some y -> G) (e : o.bind f = some y) : G:=by
 cases o with
 | none=>cases e
 | some x=>exact k x rfl e
theorem bJ {α γ β : Type} {o : Option (α × γ)} {f : α × γ -> Option β} {y : β} {G : Prop} (k : ∀ a b,o = some (a,b) -> f (a,b) = some y -> G) (e : o.bind f = some y) : G:=bK (fun x=>k x.1 x.2) e
theorem lR {α β : Type} {o : Option α} {f : α -> β} {y : β} {G : Prop} (k : ∀ x,o = some x -> f x = y -> G) (e : o.map f = some y) : G:=by
 cases o with
 | none=>cases e
 | some x=>exact k x rfl (Option.some.inj e)
theorem C0 {α γ β : Type} {o : Option (α × γ)} {f : α × γ -> β} {y : β} {G : Prop} (k : ∀ a b,o = some (a,b) -> f (a,b) = y -> G) (e : o.map f = some y) : G:=lR (fun x=>k x.1 x.2) e
end DD
namespace DD
open PySem L2
noncomputable def NT : HO -> Prop
 | .tup _=>False
 | _=>True
inductive D where
 | hole | cell | node (a : Addr) (vs : List V) | pin (a : Addr) (o : {o : HO // NT o})
 | non | bl (b : Bool) | int (i : Int) | str (x : Str) | ty (n : String) | cls (a : Addr)
 | lst (own : Bool) (xs : List D)
 | tup (xs : List D)
 | obj (own : Bool) (C : Addr) (ks : List Str) (xs : List D)
 | dct (own : Bool) (ks : List (List fO)) (xs : List D)
noncomputable def FL (K : PySem.W.Frag) (F : Addr -> Prop) (H : Hp) (a : Addr) (vs : List V) : Prop:=(F a /\ Rd H a (.lst vs)) \/ ∀ H',dJ K H' a vs
noncomputable def FT (K : PySem.W.Frag) (F : Addr -> Prop) (H : Hp) (a : Addr) (vs : List V) (L : List Addr) : Prop:=(F a /\ H a = some (.tup vs)) \/ ((∀ H' : Hp,False) /\ L = [])
mutual
noncomputable def Ow (K : PySem.W.Frag) (F : Addr -> Prop) (H : Hp) : D -> V -> List Addr -> Prop
 | .hole,_,L=>L = []
 | .cell,v,L=>∃ (a : Addr) (o : {o : HO // NT o}),v = .ref a /\ H a = some o.1 /\ L = [a]
 | .node a vs,v,L=>v = .ref a /\ H a = some (.lst vs) /\ L = [a]
 | .pin a o,v,L=>v = .ref a /\ H a = some o.1 /\ L = [a]
 | .non,v,L=>v = .non /\ L = []
 | .bl b,v,L=>v = .bl b /\ L = []
 | .int i,v,L=>v = .int i /\ L = []
 | .str x,v,L=>v = .str x /\ L = []
 | .ty x,v,L=>v = .ty x /\ L = []
 | .cls x,v,L=>v = .ref x /\ L = []
 | .lst true xs,v,L=>∃ a vs L',v = .ref a /\ H a = some (.lst vs) /\ OwL K F H xs vs L' /\ L = a :: L'
 | .lst false xs,v,L=>∃ a vs,v = .ref a /\ FL K F H a vs /\ OwL K F H xs vs [] /\ L = []
 | .tup xs,v,L=>∃ a vs,v = .ref a /\ FT K F H a vs L /\ OwL K F H xs vs L
 | .obj true C ks xs,v,L=>∃ a dx vs L',v = .ref a /\ H a = some (.ins C dx (ks.zip vs)) /\ ks.length = vs.length /\ OwL K F H xs vs L' /\ L = a :: L'
 | .obj false C ks xs,v,L=>∃ a dx vs,v = .ref a /\ H a = some (.ins C dx (ks.zip vs)) /\ F a /\ ks.length = vs.length /\ OwL K F H xs vs [] /\ L = []
 | .dct true ks xs,v,L=>∃ a vs L',v = .ref a /\ H a = some (.dT (ks.zip vs)) /\ ks.length = vs.length /\ OwL K F H xs vs L' /\ L = a :: L'
 | .dct false ks xs,v,L=>∃ a vs,v = .ref a /\ H a = some (.dT (ks.zip vs)) /\ F a /\ ks.length = vs.length /\ OwL K F H xs vs [] /\ L = []
noncomputable def OwL (K : PySem.W.Frag) (F : Addr -> Prop) (H : Hp) : List D -> List V -> List Addr -> Prop
 | [],vs,L=>vs = [] /\ L = []
 | x :: xs,vs,L=>∃ v ws L1 L2,vs = v :: ws /\ Ow K F H x v L1 /\ OwL K F H xs ws L2 /\ L = L1 ++ L2
end
mutual
noncomputable def D.fz : D -> D
 | .lst _ xs=>.lst false (D.fzL xs)
 | .tup xs=>.tup (D.fzL xs)
 | .obj _ C ks xs=>.obj false C ks (D.fzL xs)
 | .dct _ ks xs=>.dct false ks (D.fzL xs)
 | .cell=>.hole
 | .node _ _=>.hole
 | .pin _ _=>.hole
 | d=>d
noncomputable def D.fzL : List D -> List D
 | []=>[]
 | x :: xs=>D.fz x :: D.fzL xs
end
section
variable {K : PySem.W.Frag} {F F' : Addr -> Prop} {H H' : Hp}
mutual
theorem Ow.dom : ∀ {d : D} {v : V} {L : List Addr},Ow K F H d v L -> ∀ a ∈ L,∃ o,H a = some o
 | .hole,_,_,h,a,ha=>by simp only [Ow] at h; subst h; cases ha
 | .cell,_,_,h,a,ha=>by simp only [Ow] at h; obtain ⟨b,o,rfl,e,rfl⟩:=h; rw [List.mem_singleton.mp ha]; exact ⟨o,e⟩
 | .node _ _,_,_,h,a,ha=>by simp only [Ow] at h; obtain ⟨rfl,e,rfl⟩:=h; rw [List.mem_singleton.mp ha]; exact ⟨_,e⟩
 | .pin _ _,_,_,h,a,ha=>by simp only [Ow] at h; obtain ⟨rfl,e,rfl⟩:=h; rw [List.mem_singleton.mp ha]; exact ⟨_,e⟩
 | .non,_,_,h,a,ha=>by simp only [Ow] at h; rw [h.2] at ha; cases ha
 | .bl _,_,_,h,a,ha=>by simp only [Ow] at h; rw [h.2] at ha; cases ha
 | .int _,_,_,h,a,ha=>by simp only [Ow] at h; rw [h.2] at ha; cases ha
 | .str _,_,_,h,a,ha=>by simp only [Ow] at h; rw [h.2] at ha; cases ha
 | .ty _,_,_,h,a,ha=>by simp only [Ow] at h; rw [h.2] at ha; cases ha
 | .cls _,_,_,h,a,ha=>by simp only [Ow] at h; rw [h.2] at ha; cases ha
 | .lst true xs,_,_,h,a,ha=>by
  simp only [Ow] at h;obtain ⟨b,vs,L',rfl,e,r,rfl⟩:=h;rcases List.mem_cons.mp ha with rfl | ha
  ·exact ⟨_,e⟩
  ·exact OwL.dom r a ha
 | .lst false xs,_,_,h,a,ha=>by simp only [Ow] at h; obtain ⟨_,_,_,_,_,rfl⟩:=h; cases ha
 | .tup xs,_,_,h,a,ha=>by simp only [Ow] at h; obtain ⟨_,_,_,_,r⟩:=h; exact OwL.dom r a ha
 | .obj true C ks xs,_,_,h,a,ha=>by
  simp only [Ow] at h;obtain ⟨b,dx,vs,L',rfl,e,_,r,rfl⟩:=h;rcases List.mem_cons.mp ha with rfl | ha
  ·exact ⟨_,e⟩
  ·exact OwL.dom r a ha
 | .obj false C ks xs,_,_,h,a,ha=>by simp only [Ow] at h; obtain ⟨_,_,_,_,_,_,_,_,rfl⟩:=h; cases ha
 | .dct true ks xs,_,_,h,a,ha=>by
  simp only [Ow] at h;obtain ⟨b,vs,L',rfl,e,_,r,rfl⟩:=h;rcases List.mem_cons.mp ha with rfl | ha
  ·exact ⟨_,e⟩
  ·exact OwL.dom r a ha
 | .dct false ks xs,_,_,h,a,ha=>by simp only [Ow] at h; obtain ⟨_,_,_,_,_,_,_,rfl⟩:=h; cases ha
theorem OwL.dom : ∀ {xs : List D} {vs : List V} {L : List Addr},OwL K F H xs vs L -> ∀ a ∈ L,∃ o,H a = some o
 | [],_,_,h,a,ha=>by simp only [OwL] at h; rw [h.2] at ha; cases ha
 | x :: xs,_,_,h,a,ha=>by
  simp only [OwL] at h;obtain ⟨v,ws,L1,L2,rfl,h1,h2,rfl⟩:=h;rcases List.mem_append.mp ha with ha | ha
  ·exact Ow.dom h1 a ha
  ·exact OwL.dom h2 a ha
end
noncomputable def Ext (F : Addr -> Prop) (H : Hp) (F' : Addr -> Prop) (H' : Hp) : Prop:=∀ a,F a -> F' a /\ H' a = H a
theorem Ext.refl : Ext F H F H:=fun _ h=>⟨h,rfl⟩
theorem Ext.trans {F'' : Addr -> Prop} {H'' : Hp} (a : Ext F H F' H') (b : Ext F' H' F'' H'') : Ext F H F'' H'':=fun x h =>
 ⟨(b x (a x h).1).1,((b x (a x h).1).2).trans (a x h).2⟩
theorem Rd.eq {a : Addr} {u : HO} (h : Rd H a u) (e : H' a = H a) : Rd H' a u:=by
 rcases h with h | ⟨o,h⟩
 ·exact .inl (e.trans h)
 ·exact .inr ⟨o,e.trans h⟩
theorem FL.ext {a : Addr} {vs : List V} (h : FL K F H a vs) (x : Ext F H F' H') : FL K F' H' a vs:=by
 rcases h with ⟨f,r⟩ | h
 ·exact .inl ⟨(x a f).1,Rd.eq r (x a f).2⟩
 ·exact .inr h
theorem FT.ext {a : Addr} {vs : List V} {L : List Addr} (h : FT K F H a vs L) (x : Ext F H F' H') : FT K F' H' a vs L:=by
 rcases h with ⟨f,r⟩ | h
 ·exact .inl ⟨(x a f).1,(x a f).2.trans r⟩
 ·exact .inr h
theorem FT.nil {a : Addr} {vs : List V} {L : List Addr} (h : FT K F H a vs L) : FT K F H a vs []:=by
 rcases h with h | h
 ·exact .inl h
 ·exact .inr ⟨h.1,rfl⟩
theorem FL.sq {a : Addr} {vs : List V} (h : FL K F H a vs) : dJ K H a vs:=by
 rcases h with ⟨_,r⟩ | h
 ·exact .inl r
 ·exact h H
theorem FT.sq {a : Addr} {vs : List V} {L : List Addr} (h : FT K F H a vs L) : ug K H a vs:=by
 rcases h with ⟨_,r⟩ | h
 ·exact .inl (.inl r)
 ·exact (h.1 H).elim
mutual
theorem Ow.mono (x : Ext F H F' H') : ∀ {d : D} {v : V} {L : List Addr},Ow K F H d v L -> (∀ a ∈ L,H' a = H a) -> Ow K F' H' d v L
 | .hole,_,_,h,_=>by simp only [Ow] at h ⊢; exact h
 | .cell,_,_,h,k=>by simp only [Ow] at h ⊢; obtain ⟨b,o,rfl,e,rfl⟩:=h; exact ⟨b,o,rfl,(k b (by simp)).trans e,rfl⟩
 | .node _ _,_,_,h,k=>by simp only [Ow] at h ⊢; obtain ⟨rfl,e,rfl⟩:=h; exact ⟨rfl,(k _ (by simp)).trans e,rfl⟩
 | .pin _ _,_,_,h,k=>by simp only [Ow] at h ⊢; obtain ⟨rfl,e,rfl⟩:=h; exact ⟨rfl,(k _ (by simp)).trans e,rfl⟩
 | .non,_,_,h,_=>by simp only [Ow] at h ⊢; exact h
 | .bl _,_,_,h,_=>by simp only [Ow] at h ⊢; exact h
 | .int _,_,_,h,_=>by simp only [Ow] at h ⊢; exact h
 | .str _,_,_,h,_=>by simp only [Ow] at h ⊢; exact h
 | .ty _,_,_,h,_=>by simp only [Ow] at h ⊢; exact h
 | .cls _,_,_,h,_=>by simp only [Ow] at h ⊢; exact h
 | .lst true xs,_,_,h,k=>by
  simp only [Ow] at h ⊢;obtain ⟨b,vs,L',rfl,e,r,rfl⟩:=h;exact ⟨b,vs,L',rfl,(k b (by simp)).trans e,OwL.mono x r fun a ha=>k a (by simp [ha]),rfl⟩
 | .lst false xs,_,_,h,k=>by
  simp only [Ow] at h ⊢;obtain ⟨b,vs,rfl,e,r,rfl⟩:=h;exact ⟨b,vs,rfl,e.ext x,OwL.mono x r (fun a ha=>by cases ha),rfl⟩
 | .tup xs,_,_,h,k=>by
  simp only [Ow] at h ⊢;obtain ⟨b,vs,rfl,e,r⟩:=h;exact ⟨b,vs,rfl,e.ext x,OwL.mono x r k⟩
 | .obj true C ks xs,_,_,h,k=>by
  simp only [Ow] at h ⊢;obtain ⟨b,dx,vs,L',rfl,e,el,r,rfl⟩:=h;exact ⟨b,dx,vs,L',rfl,(k b (by simp)).trans e,el,OwL.mono x r fun a ha=>k a (by simp [ha]),rfl⟩
 | .obj false C ks xs,_,_,h,k=>by
  simp only [Ow] at h ⊢;obtain ⟨b,dx,vs,rfl,e,f,el,r,rfl⟩:=h;exact ⟨b,dx,vs,rfl,(x b f).2.trans e,(x b f).1,el,OwL.mono x r (fun a ha=>by cases ha),rfl⟩
 | .dct true ks xs,_,_,h,k=>by
  simp only [Ow] at h ⊢;obtain ⟨b,vs,L',rfl,e,el,r,rfl⟩:=h;exact ⟨b,vs,L',rfl,(k b (by simp)).trans e,el,OwL.mono x r fun a ha=>k a (by simp [ha]),rfl⟩
 | .dct false ks xs,_,_,h,k=>by
  simp only [Ow] at h ⊢;obtain ⟨b,vs,rfl,e,f,el,r,rfl⟩:=h;exact ⟨b,vs,rfl,(x b f).2.trans e,(x b f).1,el,OwL.mono x r (fun a ha=>by cases ha),rfl⟩
theorem OwL.mono (x : Ext F H F' H') : ∀ {xs : List D} {vs : List V} {L : List Addr},OwL K F H xs vs L -> (∀ a ∈ L,H' a = H a) -> OwL K F' H' xs vs L
 | [],_,_,h,_=>by simp only [OwL] at h ⊢; exact h
 | y :: xs,_,_,h,k=>by
  simp only [OwL] at h ⊢;obtain ⟨v,ws,L1,L2,rfl,h1,h2,rfl⟩:=h;exact ⟨v,ws,L1,L2,rfl,Ow.mono x h1 fun a ha=>k a (by simp [ha]),OwL.mono x h2 fun a ha=>k a (by simp [ha]),rfl⟩
end
mutual
theorem Ow.fz (fs : ∀ a,F a -> F' a) : ∀ {d : D} {v : V} {L : List Addr},Ow K F H d v L -> (∀ a ∈ L,F' a) -> Ow K F' H d.fz v []
 | .hole,_,_,h,_=>by simp only [Ow,D.fz] at h ⊢
 | .cell,_,_,h,k=>by simp only [Ow,D.fz] at h ⊢
 | .node _ _,_,_,h,k=>by simp only [Ow,D.fz] at h ⊢
 | .pin _ _,_,_,h,k=>by simp only [Ow,D.fz] at h ⊢
 | .non,_,_,h,_=>by simp only [Ow,D.fz] at h ⊢; exact ⟨h.1,trivial⟩
 | .bl _,_,_,h,_=>by simp only [Ow,D.fz] at h ⊢; exact ⟨h.1,trivial⟩
 | .int _,_,_,h,_=>by simp only [Ow,D.fz] at h ⊢; exact ⟨h.1,trivial⟩
 | .str _,_,_,h,_=>by simp only [Ow,D.fz] at h ⊢; exact ⟨h.1,trivial⟩
 | .ty _,_,_,h,_=>by simp only [Ow,D.fz] at h ⊢; exact ⟨h.1,trivial⟩
 | .cls _,_,_,h,_=>by simp only [Ow,D.fz] at h ⊢; exact ⟨h.1,trivial⟩
 | .lst true xs,_,_,h,k=>by
  simp only [Ow,D.fz] at h ⊢;obtain ⟨b,vs,L',rfl,e,r,rfl⟩:=h;exact ⟨b,vs,rfl,.inl ⟨k b (by simp),.inl e⟩,OwL.fz fs r fun a ha=>k a (by simp [ha]),trivial⟩
 | .lst false xs,_,_,h,k=>by
  simp only [Ow,D.fz] at h ⊢;obtain ⟨b,vs,rfl,e,r,rfl⟩:=h;exact ⟨b,vs,rfl,e.ext (fun a f=>⟨fs a f,rfl⟩),OwL.fz fs r (fun a ha=>by cases ha),trivial⟩
 | .tup xs,_,_,h,k=>by
  simp only [Ow,D.fz] at h ⊢;obtain ⟨b,vs,rfl,e,r⟩:=h;exact ⟨b,vs,rfl,(e.ext (fun a f=>⟨fs a f,rfl⟩)).nil,OwL.fz fs r k⟩
 | .obj true C ks xs,_,_,h,k=>by
  simp only [Ow,D.fz] at h ⊢;obtain ⟨b,dx,vs,L',rfl,e,el,r,rfl⟩:=h;exact ⟨b,dx,vs,rfl,e,k b (by simp),el,OwL.fz fs r fun a ha=>k a (by simp [ha]),trivial⟩
 | .obj false C ks xs,_,_,h,k=>by
  simp only [Ow,D.fz] at h ⊢;obtain ⟨b,dx,vs,rfl,e,f,el,r,rfl⟩:=h;exact ⟨b,dx,vs,rfl,e,fs b f,el,OwL.fz fs r (fun a ha=>by cases ha),trivial⟩
 | .dct true ks xs,_,_,h,k=>by
  simp only [Ow,D.fz] at h ⊢;obtain ⟨b,vs,L',rfl,e,el,r,rfl⟩:=h;exact ⟨b,vs,rfl,e,k b (by simp),el,OwL.fz fs r fun a ha=>k a (by simp [ha]),trivial⟩
 | .dct false ks xs,_,_,h,k=>by
  simp only [Ow,D.fz] at h ⊢;obtain ⟨b,vs,rfl,e,f,el,r,rfl⟩:=h;exact ⟨b,vs,rfl,e,fs b f,el,OwL.fz fs r (fun a ha=>by cases ha),trivial⟩
theorem OwL.fz (fs : ∀ a,F a -> F' a) : ∀ {xs : List D} {vs : List V} {L : List Addr},OwL K F H xs vs L -> (∀ a ∈ L,F' a) -> OwL K F' H (D.fzL xs) vs []
 | [],_,_,h,_=>by simp only [OwL,D.fzL] at h ⊢; exact ⟨h.1,trivial⟩
 | y :: xs,_,_,h,k=>by
  simp only [OwL,D.fzL] at h ⊢;obtain ⟨v,ws,L1,L2,rfl,h1,h2,rfl⟩:=h;exact ⟨v,ws,[],[],rfl,Ow.fz fs h1 fun a ha=>k a (by simp [ha]),OwL.fz fs h2 fun a ha=>k a (by simp [ha]),rfl⟩
end
noncomputable abbrev Ro:=List (D × V)
noncomputable def OwP (K : PySem.W.Frag) (F : Addr -> Prop) (H : Hp) : Ro -> List Addr -> Prop
 | [],L=>L = []
 | (d,v) :: R,L=>∃ L1 L2,Ow K F H d v L1 /\ OwP K F H R L2 /\ L = L1 ++ L2
theorem OwP.dom : ∀ {R : Ro} {L : List Addr},OwP K F H R L -> ∀ a ∈ L,∃ o,H a = some o
 | [],_,h,a,ha=>by cases h; cases ha
 | (d,v) :: R,_,⟨L1,L2,h1,h2,e⟩,a,ha=>by
  subst e;rcases List.mem_append.mp ha with ha | ha
  ·exact h1.dom a ha
  ·exact OwP.dom h2 a ha
theorem OwP.mono (x : Ext F H F' H') : ∀ {R : Ro} {L : List Addr},OwP K F H R L -> (∀ a ∈ L,H' a = H a) -> OwP K F' H' R L
 | [],_,h,_=>h
 | (d,v) :: R,_,⟨L1,L2,h1,h2,e⟩,k=>⟨L1,L2,h1.mono x fun a ha=>k a (by simp [e,ha]),OwP.mono x h2 fun a ha=>k a (by simp [e,ha]),e⟩
theorem OwP.append : ∀ {R S : Ro} {L M : List Addr},OwP K F H R L -> OwP K F H S M -> OwP K F H (R ++ S) (L ++ M)
 | [],_,_,_,h,k=>by cases h; exact k
 | (d,v) :: R,_,_,_,⟨L1,L2,h1,h2,e⟩,k=>⟨L1,L2 ++ _,h1,OwP.append h2 k,by rw [e,List.append_assoc]⟩
theorem OwP.split : ∀ {R S : Ro} {N : List Addr},OwP K F H (R ++ S) N -> ∃ L M,N = L ++ M /\ OwP K F H R L /\ OwP K F H S M
 | [],_,N,h=>⟨[],N,rfl,rfl,h⟩
 | (d,v) :: R,_,_,⟨L1,L2,h1,h2,e⟩=>by
  obtain ⟨L,M,e2,a,b⟩:=OwP.split h2;exact ⟨L1 ++ L,M,by rw [e,e2,List.append_assoc],⟨L1,L,h1,a,rfl⟩,b⟩
theorem OwP.perm {R S : Ro} (p : R.Perm S) : ∀ {L : List Addr},OwP K F H R L -> ∃ M,L.Perm M /\ OwP K F H S M:=by
 induction p with
 | nil=>intro L h; exact ⟨L,.refl _,h⟩
 | cons x _ ih =>
  rintro L ⟨L1,L2,h1,h2,e⟩;obtain ⟨M,pm,h3⟩:=ih h2;subst e;exact ⟨L1 ++ M,pm.append_left L1,L1,M,h1,h3,rfl⟩
 | swap x y l =>
  rintro L ⟨L1,L2,h1,⟨L3,L4,h3,h4,e2⟩,e⟩;subst e; subst e2;refine ⟨L3 ++ (L1 ++ L4),?_,L3,L1 ++ L4,h3,⟨L1,L4,h1,h4,rfl⟩,rfl⟩;rw [<- List.append_assoc,<- List.append_assoc];exact List.perm_append_comm.append_right L4
 | trans _ _ ih1 ih2 =>
  intro L h;obtain ⟨M,p1,h1⟩:=ih1 h;obtain ⟨N,p2,h2⟩:=ih2 h1;exact ⟨N,p1.trans p2,h2⟩
theorem OwL.toP : ∀ {xs : List D} {vs : List V} {L : List Addr},OwL K F H xs vs L -> xs.length = vs.length /\ OwP K F H (xs.zip vs) L
 | [],_,_,h=>by simp only [OwL] at h; obtain ⟨rfl,rfl⟩:=h; exact ⟨rfl,rfl⟩
 | x :: xs,_,_,h=>by
  simp only [OwL] at h;obtain ⟨v,ws,L1,L2,rfl,h1,h2,rfl⟩:=h;have r:=h2.toP;exact ⟨by simp [r.1],L1,L2,h1,r.2,rfl⟩
theorem OwL.ofP : ∀ {xs : List D} {vs : List V} {L : List Addr},xs.length = vs.length -> OwP K F H (xs.zip vs) L -> OwL K F H xs vs L
 | [],[],_,_,h=>by simp only [OwL]; exact ⟨trivial,h⟩
 | x :: xs,v :: vs,_,e,h=>by
  obtain ⟨L1,L2,h1,h2,e2⟩:=h;simp only [OwL];exact ⟨v,vs,L1,L2,rfl,h1,OwL.ofP (by simpa using e) h2,e2⟩
structure G (K : PySem.W.Frag) (F : Addr -> Prop) (H : Hp) (R : Ro) : Prop where
 own : ∃ L,OwP K F H R L /\ L.Nodup /\ ∀ a ∈ L,¬ F a
 dom : ∀ a,F a -> ∃ o,H a = some o
variable {R S : Ro} {d : D} {v : V}
theorem G.perm (g : G K F H R) (p : R.Perm S) : G K F H S:=by
 obtain ⟨L,h,n,f⟩:=g.own;obtain ⟨M,pm,h'⟩:=h.perm p;exact ⟨⟨M,h',pm.nodup_iff.mp n,fun a ha=>f a (pm.mem_iff.mpr ha)⟩,g.dom⟩
theorem G.pop (g : G K F H ((d,v) :: R)) : G K F H R:=by
 obtain ⟨L,⟨L1,L2,h1,h2,rfl⟩,n,f⟩:=g.own;exact ⟨⟨L2,h2,(List.nodup_append.mp n).2.1,fun a ha=>f a (by simp [ha])⟩,g.dom⟩
theorem G.popN (g : G K F H (S ++ R)) : G K F H R:=by
 induction S with
 | nil=>exact g
 | cons x S ih=>exact ih (G.pop (d:=x.1) (v:=x.2) g)
noncomputable def Bor (K : PySem.W.Frag) (F : Addr -> Prop) (H : Hp) (d : D) (v : V) : Prop:=∃ L,Ow K F H d v L
theorem G.bor (g : G K F H R) (h : (d,v) ∈ R) : Bor K F H d v:=by
 obtain ⟨A,B,rfl⟩:=List.append_of_mem h;obtain ⟨L,⟨L1,L2,h1,h2,rfl⟩,n,f⟩:=(g.popN).own;exact ⟨L1,h1⟩
theorem G.push (g : G K F H R) (h : Ow K F H d v []) : G K F H ((d,v) :: R):=by
 obtain ⟨L,h1,n,f⟩:=g.own;exact ⟨⟨L,⟨[],L,h,h1,rfl⟩,n,f⟩,g.dom⟩
theorem G.alloc {p : Addr} {o : HO} (g : G K F H R) (hp : H p = none) (hn : autoParam (NT o) Ax._auto_1) : G K F (upd H p o) ((.cell,.ref p) :: R) /\ Ext F H F (upd H p o):=by
 obtain ⟨L,h1,n,f⟩:=g.own;have nF : ∀ a,F a -> a ≠ p:=fun a fa e=>by obtain ⟨o,h⟩:=g.dom a fa; rw [e,hp] at h; cases h
 have nL : ∀ a ∈ L,a ≠ p:=fun a ha e=>by obtain ⟨o,h⟩:=h1.dom a ha; rw [e,hp] at h; cases h
 have x : Ext F H F (upd H p o):=fun a fa=>⟨fa,aV (nF a fa)⟩
 refine ⟨⟨⟨p :: L,⟨[p],L,?_,h1.mono x fun a ha=>aV (nL a ha),rfl⟩,List.nodup_cons.mpr ⟨fun h=>nL p h rfl,n⟩,fun a ha fa=>?_⟩,fun a fa=>?_⟩,x⟩
 ·simp only [Ow]; exact ⟨p,⟨o,hn⟩,rfl,cG,rfl⟩
 ·rcases List.mem_cons.mp ha with rfl | ha
  ·exact nF _ fa rfl
  ·exact f a ha fa
 ·rw [aV (nF a fa)]; exact g.dom a fa
theorem G.write {a : Addr} {o : HO} (g : G K F H ((.cell,.ref a) :: R)) (hn : autoParam (NT o) Ax._auto_1) : G K F (upd H a o) ((.cell,.ref a) :: R) /\ Ext F H F (upd H a o):=by
 obtain ⟨L,⟨L1,L2,h1,h2,rfl⟩,n,f⟩:=g.own;simp only [Ow] at h1;obtain ⟨b,ob,e,hb,rfl⟩:=h1;cases e;have nF : ∀ c,F c -> c ≠ a:=fun c fc e=>f a (by simp) (e ▸ fc)
 have nL : ∀ c ∈ L2,c ≠ a:=fun c hc e=>(List.nodup_cons.mp n).1 (e ▸ hc)
 have x : Ext F H F (upd H a o):=fun c fc=>⟨fc,aV (nF c fc)⟩
 refine ⟨⟨⟨[a] ++ L2,⟨[a],L2,?_,h2.mono x fun c hc=>aV (nL c hc),rfl⟩,n,f⟩,fun c fc=>?_⟩,x⟩
 ·simp only [Ow]; exact ⟨a,⟨o,hn⟩,rfl,cG,rfl⟩
 ·rw [aV (nF c fc)]; exact g.dom c fc
theorem G.openL {xs : List D} (g : G K F H ((.lst true xs,v) :: R)) : ∃ a vs,v = .ref a /\ H a = some (.lst vs) /\ xs.length = vs.length /\ G K F H ((.cell,.ref a) :: (xs.zip vs ++ R)):=by
 obtain ⟨L,⟨L1,L2,h1,h2,rfl⟩,n,f⟩:=g.own;simp only [Ow] at h1;obtain ⟨a,vs,L',rfl,e,r,rfl⟩:=h1;refine ⟨a,vs,rfl,e,r.toP.1,⟨a :: L' ++ L2,⟨[a],L' ++ L2,?_,r.toP.2.append h2,rfl⟩,n,f⟩,g.dom⟩;simp only [Ow]; exact ⟨a,⟨.lst vs,trivial⟩,rfl,e,rfl⟩
theorem G.formL {xs : List D} {vs : List V} {a : Addr} (g : G K F H ((.cell,.ref a) :: (xs.zip vs ++ R))) (hl : xs.length = vs.length) (e : H a = some (.lst vs)) : G K F H ((.lst true xs,.ref a) :: R):=by
 obtain ⟨L,⟨L1,L2,h1,h2,rfl⟩,n,f⟩:=g.own;simp only [Ow] at h1;obtain ⟨b,ob,e',hb,rfl⟩:=h1;cases e';obtain ⟨M,N,rfl,hm,hn⟩:=h2.split;refine ⟨⟨(a :: M) ++ N,⟨a :: M,N,?_,hn,rfl⟩,by simpa using n,fun c hc=>f c (by simpa using hc)⟩,g.dom⟩;simp only [Ow];exact ⟨a,vs,M,rfl,e,OwL.ofP hl hm,rfl⟩
theorem G.openN {xs : List D} (g : G K F H ((.lst true xs,v) :: R)) : ∃ a vs,v = .ref a /\ H a = some (.lst vs) /\ xs.length = vs.length /\ G K F H ((.node a vs,.ref a) :: (xs.zip vs ++ R)):=by
 obtain ⟨L,⟨L1,L2,h1,h2,rfl⟩,n,f⟩:=g.own;simp only [Ow] at h1;obtain ⟨a,vs,L',rfl,e,r,rfl⟩:=h1;refine ⟨a,vs,rfl,e,r.toP.1,⟨a :: L' ++ L2,⟨[a],L' ++ L2,?_,r.toP.2.append h2,rfl⟩,n,f⟩,g.dom⟩;simp only [Ow]; exact ⟨trivial,e,trivial⟩
theorem G.formN {xs : List D} {vs : List V} {a : Addr} (g : G K F H ((.node a vs,.ref a) :: (xs.zip vs ++ R))) (hl : xs.length = vs.length) : H a = some (.lst vs) /\ G K F H ((.lst true xs,.ref a) :: R):=by
 obtain ⟨L,⟨L1,L2,h1,h2,rfl⟩,n,f⟩:=g.own;simp only [Ow] at h1;obtain ⟨_,e,rfl⟩:=h1;obtain ⟨M,N,rfl,hm,hn⟩:=h2.split;refine ⟨e,⟨⟨(a :: M) ++ N,⟨a :: M,N,?_,hn,rfl⟩,by simpa using n,fun c hc=>f c (by simpa using hc)⟩,g.dom⟩⟩;simp only [Ow];exact ⟨a,vs,M,rfl,e,OwL.ofP hl hm,rfl⟩
theorem G.nodeAt {vs : List V} {a : Addr} (g : G K F H R) (h : (D.node a vs,V.ref a) ∈ R) : H a = some (.lst vs):=by
 obtain ⟨L,o⟩ : ∃ L,Ow K F H (.node a vs) (.ref a) L:=by
  obtain ⟨A,B,rfl⟩:=List.append_of_mem h;obtain ⟨L,⟨L1,L2,h1,h2,rfl⟩,n,f⟩:=(g.popN).own;exact ⟨L1,h1⟩
 simp only [Ow] at o;exact o.2.1
theorem G.openT {xs : List D} (g : G K F H ((.tup xs,v) :: R)) : ∃ a vs,v = .ref a /\ FT K F H a vs [] /\ xs.length = vs.length /\ G K F H (xs.zip vs ++ R):=by
 obtain ⟨L,⟨L1,L2,h1,h2,rfl⟩,n,f⟩:=g.own;simp only [Ow] at h1;obtain ⟨a,vs,rfl,e,r⟩:=h1;exact ⟨a,vs,rfl,e.nil,r.toP.1,⟨L1 ++ L2,r.toP.2.append h2,n,f⟩,g.dom⟩
theorem G.formT {xs : List D} {vs : List V} {a : Addr} (g : G K F H (xs.zip vs ++ R)) (hl : xs.length = vs.length) (e : F a /\ H a = some (.tup vs)) : G K F H ((.tup xs,.ref a) :: R):=by
 obtain ⟨L,h,n,f⟩:=g.own;obtain ⟨M,N,rfl,hm,hn⟩:=h.split;refine ⟨⟨M ++ N,⟨M,N,?_,hn,rfl⟩,n,f⟩,g.dom⟩;simp only [Ow];exact ⟨a,vs,rfl,.inl e,OwL.ofP hl hm⟩
theorem G.freeze (g : G K F H ((d,v) :: R)) : ∃ F',Ext F H F' H /\ G K F' H ((d.fz,v) :: R) /\ Ow K F' H d.fz v []:=by
 obtain ⟨L,⟨L1,L2,h1,h2,rfl⟩,n,f⟩:=g.own;have x : Ext F H (fun a=>F a \/ a ∈ L1) H:=fun a h=>⟨.inl h,rfl⟩
 have z : Ow K (fun a=>F a \/ a ∈ L1) H d.fz v []:=h1.fz (fun a h=>.inl h) fun a h=>.inr h
 refine ⟨fun a=>F a \/ a ∈ L1,x,⟨⟨L2,⟨[],L2,z,h2.mono x fun _ _=>rfl,rfl⟩,(List.nodup_append.mp n).2.1,fun a ha fa=>?_⟩,fun a fa=>?_⟩,z⟩
 ·rcases fa with fa | fa
  ·exact f a (by simp [ha]) fa
  ·exact (List.nodup_append.mp n).2.2 a fa a ha rfl
 ·rcases fa with fa | fa
  ·exact g.dom a fa
  ·exact h1.dom a fa
theorem G.layT {xs : List D} {vs : List V} {p : Addr} (g : G K F H (xs.zip vs ++ R)) (hl : xs.length = vs.length) (hp : H p = none) :
  ∃ F',Ext F H F' (upd H p (.tup vs)) /\ G K F' (upd H p (.tup vs)) ((.tup xs,.ref p) :: R):=by
 obtain ⟨L,h1,n,f⟩:=g.own;have nF : ∀ a,F a -> a ≠ p:=fun a fa e=>by obtain ⟨o,h⟩:=g.dom a fa; rw [e,hp] at h; cases h
 have nL : ∀ a ∈ L,a ≠ p:=fun a ha e=>by obtain ⟨o,h⟩:=h1.dom a ha; rw [e,hp] at h; cases h
 have x : Ext F H (fun a=>F a \/ a = p) (upd H p (.tup vs)):=fun a fa=>⟨.inl fa,aV (nF a fa)⟩
 refine ⟨_,x,G.formT (a:=p) ⟨⟨L,h1.mono x fun a ha=>aV (nL a ha),n,fun a ha fa=>?_⟩,fun a fa=>?_⟩ hl ⟨.inr rfl,cG⟩⟩
 ·rcases fa with fa | fa
  ·exact f a ha fa
  ·exact nL a ha fa
 ·rcases fa with fa | fa
  ·rw [aV (nF a fa)]; exact g.dom a fa
  ·subst fa; exact ⟨_,cG⟩
theorem G.ext (g : G K F H R) (x : Ext F H F' H') (k : ∀ a o,H a = some o -> H' a = some o) (fr : ∀ a,F' a -> F a \/ H a = none) (dm : ∀ a,F' a -> ∃ o,H' a = some o) : G K F' H' R:=by
 obtain ⟨L,h,n,f⟩:=g.own;refine ⟨⟨L,h.mono x fun a ha=>?_,n,fun a ha fa=>?_⟩,dm⟩
 ·obtain ⟨o,e⟩:=h.dom a ha
  rw [e,k a o e]
 ·obtain ⟨o,e⟩:=h.dom a ha
  rcases fr a fa with z | z
  ·exact f a ha z
  ·rw [e] at z; cases z
end
section
variable {K : PySem.W.Frag} {F F' : Addr -> Prop} {H H' : Hp}
noncomputable abbrev aP:=List (Option D)
noncomputable def sl : aP -> St -> Ro
 | some d :: σD,some v :: σ=>(d,v) :: sl σD σ
 | some _ :: σD,none :: σ=>sl σD σ
 | none :: σD,_ :: σ=>sl σD σ
 | _,_=>[]
noncomputable def Mt : aP -> St -> Prop
 | [],[]=>True
 | none :: σD,_ :: σ=>Mt σD σ
 | some _ :: σD,some _ :: σ=>Mt σD σ
 | _,_=>False
theorem Mt.length : ∀ {σD : aP} {σ : St},Mt σD σ -> σD.length = σ.length
 | [],[],_=>rfl
 | none :: σD,_ :: σ,h=>by simp [Mt.length (σD:=σD) (σ:=σ) h]
 | some _ :: σD,some _ :: σ,h=>by simp [Mt.length (σD:=σD) (σ:=σ) h]
theorem Mt.get : ∀ {σD : aP} {σ : St} {i : Nat} {d : D},Mt σD σ -> σD[i]? = some (some d) -> ∃ v,σ[i]? = some (some v):=by
 intro σD
 induction σD with
 | nil=>intro σ i d h e; simp at e
 | cons x σD ih =>
  intro σ i d h e;cases σ with
  | nil=>cases x <;> exact h.elim
  | cons o σ =>
   cases i with
   | zero =>
    simp at e; subst e;cases o with
    | none=>exact h.elim
    | some z=>exact ⟨z,rfl⟩
   | succ i =>
    have e' : σD[i]? = some (some d):=by simpa using e
    cases x with
    | none=>simpa using ih (σ:=σ) h e'
    | some y=>cases o with
     | none=>exact h.elim
     | some z=>simpa using ih (σ:=σ) h e'
theorem Mt.clear : ∀ {σD : aP} {σ : St} (i : Nat),Mt σD σ -> Mt (σD.set i none) σ:=by
 intro σD
 induction σD with
 | nil =>
  intro σ i h;exact h
 | cons x σD ih =>
  intro σ i h;cases σ with
  | nil=>cases x <;> exact h.elim
  | cons o σ =>
   have h' : Mt σD σ:=by
    cases x with
    | none=>exact h
    | some y=>cases o with
     | none=>exact h.elim
     | some z=>exact h
   cases i with
   | zero=>exact h'
   | succ i =>
    have:=ih i h'
    cases x with
    | none=>exact this
    | some y=>cases o with
     | none=>exact h.elim
     | some z=>exact this
theorem Mt.put : ∀ {σD : aP} {σ : St} {i : Nat} {v : V} (d : D),Mt σD σ -> σ[i]? = some (some v) -> Mt (σD.set i (some d)) σ:=by
 intro σD
 induction σD with
 | nil =>
  intro σ i v d h e;cases σ with
  | nil=>simp at e
  | cons o σ=>exact h.elim
 | cons x σD ih =>
  intro σ i v d h e;cases σ with
  | nil=>cases x <;> exact h.elim
  | cons o σ =>
   cases i with
   | zero =>
    simp at e; subst e;cases x <;> exact h
   | succ i =>
    have e' : σ[i]? = some (some v):=by simpa using e
    cases x with
    | none=>exact ih (σ:=σ) d h e'
    | some y=>cases o with
     | none=>exact h.elim
     | some z=>exact ih (σ:=σ) d h e'
theorem Mt.store : ∀ {σD : aP} {σ : St} (i : Nat) (v : V) (d : D),Mt σD σ -> Mt (σD.set i (some d)) (σ.set i (some v)):=by
 intro σD
 induction σD with
 | nil =>
  intro σ i v d h;cases σ with
  | nil=>exact h
  | cons o σ=>exact h.elim
 | cons x σD ih =>
  intro σ i v d h;cases σ with
  | nil=>cases x <;> exact h.elim
  | cons o σ =>
   have h' : Mt σD σ:=by
    cases x with
    | none=>exact h
    | some y=>cases o with
     | none=>exact h.elim
     | some z=>exact h
   cases i with
   | zero=>exact h'
   | succ i =>
    have:=ih i v d h'
    cases x with
    | none=>exact this
    | some y=>cases o with
     | none=>exact h.elim
     | some z=>exact this
theorem mT : ∀ {σD : aP} {σ : St} {i : Nat} {d : D} {v : V},σD[i]? = some (some d) -> σ[i]? = some (some v) -> (sl σD σ).Perm ((d,v) :: sl (σD.set i none) σ):=by
 intro σD
 induction σD with
 | nil=>intro σ i d v e; simp at e
 | cons x σD ih =>
  intro σ i d v e e';cases σ with
  | nil=>simp at e'
  | cons o σ =>
   cases i with
   | zero =>
    simp at e e'; subst e; subst e';exact .refl _
   | succ i =>
    have q:=ih (σ:=σ) (i:=i) (d:=d) (v:=v) (by simpa using e) (by simpa using e');cases x with
    | none=>exact q
    | some y=>cases o with
     | none=>exact q
     | some z=>exact (q.cons _).trans (.swap _ _ _)
theorem mU : ∀ {σD : aP} {σ : St} {i : Nat},σD[i]? = some none -> sl (σD.set i none) σ = sl σD σ
 | [],_,_,e=>by simp at e
 | none :: σD,[],0,_=>rfl
 | none :: σD,o :: σ,0,_=>rfl
 | some _ :: σD,_,0,e=>by simp at e
 | x :: σD,[],i + 1,e=>by cases x <;> rfl
 | none :: σD,_ :: σ,i + 1,e=>mU (σD:=σD) (σ:=σ) (i:=i) (by simpa using e)
 | some x :: σD,none :: σ,i + 1,e=>mU (σD:=σD) (σ:=σ) (i:=i) (by simpa using e)
 | some x :: σD,some y :: σ,i + 1,e=>by
  show (x,y) :: sl (σD.set i none) σ = (x,y) :: sl σD σ;rw [mU (σD:=σD) (σ:=σ) (i:=i) (by simpa using e)]
theorem wW : ∀ {σD : aP} {σ : St} {i : Nat} {v : V} (d : D),i < σD.length -> σ[i]? = some (some v) -> (sl (σD.set i (some d)) σ).Perm ((d,v) :: sl (σD.set i none) σ):=fun {σD σ i v} d h e=>by
 have h1:=mT (σD:=σD.set i (some d)) (σ:=σ) (i:=i) (d:=d) (v:=v) (by simp [h]) e;rw [List.set_set] at h1;exact h1
theorem lj : ∀ {σD : aP} {σ : St} {i : Nat} {v : V},sl (σD.set i none) (σ.set i (some v)) = sl (σD.set i none) σ
 | [],_,_,_=>by simp [sl]
 | x :: σD,[],i,_=>by simp
 | x :: σD,o :: σ,0,_=>by cases o <;> rfl
 | none :: σD,o :: σ,i + 1,_=>lj (σD:=σD) (σ:=σ) (i:=i)
 | some x :: σD,none :: σ,i + 1,_=>lj (σD:=σD) (σ:=σ) (i:=i)
 | some x :: σD,some y :: σ,i + 1,_=>by
  show (x,y) :: sl (σD.set i none) (σ.set i _) = (x,y) :: sl (σD.set i none) σ;rw [lj (σD:=σD) (σ:=σ) (i:=i)]
theorem G.clear {σD : aP} {σ : St} {R : Ro} (i : Nat) (m : Mt σD σ) (g : G K F H (sl σD σ ++ R)) : G K F H (sl (σD.set i none) σ ++ R):=by
 rcases h : σD[i]? with _ | _ | d
 ·rw [List.set_eq_of_length_le (List.getElem?_eq_none_iff.mp h)]; exact g
 ·rw [mU h]; exact g
 ·obtain ⟨v,hv⟩:=m.get h
  exact G.pop (d:=d) (v:=v) (g.perm ((mT h hv).append_right R))
structure Rel (K : PySem.W.Frag) (F : Addr -> Prop) (H : Hp) (σD : aP) (σ : St) (R : Ro) : Prop where
 mt : Mt σD σ
 g : G K F H (sl σD σ ++ R)
variable {σD : aP} {σ : St} {R S : Ro} {d : D} {v : V} {i : Nat}
theorem Rel.perm (r : Rel K F H σD σ R) (p : R.Perm S) : Rel K F H σD σ S:=⟨r.mt,r.g.perm (p.append_left _)⟩
theorem Rel.front (r : Rel K F H σD σ R) : G K F H (R ++ sl σD σ):=r.g.perm List.perm_append_comm
theorem Rel.of (m : Mt σD σ) (g : G K F H (R ++ sl σD σ)) : Rel K F H σD σ R:=⟨m,g.perm List.perm_append_comm⟩
theorem Rel.get (r : Rel K F H σD σ R) (e : σD[i]? = some (some d)) : ∃ v,σ[i]? = some (some v) /\ Bor K F H d v:=by
 obtain ⟨v,hv⟩:=r.mt.get e;exact ⟨v,hv,r.g.bor (List.mem_append_left _ ((mT e hv).mem_iff.mpr (by simp)))⟩
theorem Rel.take (r : Rel K F H σD σ R) (e : σD[i]? = some (some d)) : ∃ v,σ[i]? = some (some v) /\ Rel K F H (σD.set i none) σ ((d,v) :: R):=by
 obtain ⟨v,hv⟩:=r.mt.get e;refine ⟨v,hv,r.mt.clear i,r.g.perm ?_⟩;exact ((mT e hv).append_right R).trans List.perm_middle.symm
theorem Rel.put (r : Rel K F H σD σ ((d,v) :: R)) (e : σ[i]? = some (some v)) : Rel K F H (σD.set i (some d)) σ R:=by
 have hi : i < σD.length:=by rw [r.mt.length]; exact (List.getElem?_eq_some_iff.mp e).1
 refine ⟨r.mt.put d e,(r.g.clear i r.mt).perm ?_⟩;exact List.perm_middle.trans ((wW d hi e).append_right R).symm
theorem Rel.store (r : Rel K F H σD σ ((d,v) :: R)) (hi : i < σ.length) : Rel K F H (σD.set i (some d)) (σ.set i (some v)) R:=by
 have hi' : i < σD.length:=by rw [r.mt.length]; exact hi
 refine ⟨r.mt.store i v d,(r.g.clear i r.mt).perm ?_⟩;have h:=wW (σD:=σD) (σ:=σ.set i (some v)) (i:=i) (v:=v) d hi' (by simp [hi]);rw [lj] at h;exact List.perm_middle.trans (h.append_right R).symm
theorem Rel.pop (r : Rel K F H σD σ ((d,v) :: R)) : Rel K F H σD σ R:=Rel.of r.mt (r.front).pop
theorem Rel.popN (r : Rel K F H σD σ (S ++ R)) : Rel K F H σD σ R:=Rel.of r.mt (by have h:=r.front; rw [List.append_assoc] at h; exact h.popN)
theorem Rel.push (r : Rel K F H σD σ R) (h : Ow K F H d v []) : Rel K F H σD σ ((d,v) :: R):=Rel.of r.mt (r.front.push h)
theorem Rel.bor (r : Rel K F H σD σ R) (h : (d,v) ∈ R) : Bor K F H d v:=r.g.bor (List.mem_append_right _ h)
theorem Rel.freeze (r : Rel K F H σD σ ((d,v) :: R)) : ∃ F',Ext F H F' H /\ Rel K F' H σD σ ((d.fz,v) :: R) /\ Ow K F' H d.fz v []:=by
 obtain ⟨F',x,g,o⟩:=r.front.freeze;exact ⟨F',x,Rel.of r.mt g,o⟩
theorem Rel.openL {xs : List D} (r : Rel K F H σD σ ((.lst true xs,v) :: R)) : ∃ a vs,v = .ref a /\ H a = some (.lst vs) /\ xs.length = vs.length /\ Rel K F H σD σ ((.cell,.ref a) :: (xs.zip vs ++ R)):=by
 obtain ⟨a,vs,e,h,l,g⟩:=r.front.openL;exact ⟨a,vs,e,h,l,Rel.of r.mt (by simpa using g)⟩
theorem Rel.formL {xs : List D} {vs : List V} {a : Addr} (r : Rel K F H σD σ ((.cell,.ref a) :: (xs.zip vs ++ R))) (hl : xs.length = vs.length) (e : H a = some (.lst vs)) : Rel K F H σD σ ((.lst true xs,.ref a) :: R) :=
 Rel.of r.mt (G.formL (vs:=vs) (by simpa using r.front) hl e)
theorem Rel.openN {xs : List D} (r : Rel K F H σD σ ((.lst true xs,v) :: R)) : ∃ a vs,v = .ref a /\ H a = some (.lst vs) /\ xs.length = vs.length /\ Rel K F H σD σ ((.node a vs,.ref a) :: (xs.zip vs ++ R)):=by
 obtain ⟨a,vs,e,h,l,g⟩:=r.front.openN;exact ⟨a,vs,e,h,l,Rel.of r.mt (by simpa using g)⟩
theorem Rel.formN {xs : List D} {vs : List V} {a : Addr} (r : Rel K F H σD σ ((.node a vs,.ref a) :: (xs.zip vs ++ R))) (hl : xs.length = vs.length) : Rel K F H σD σ ((.lst true xs,.ref a) :: R) :=
 Rel.of r.mt (G.formN (vs:=vs) (by simpa using r.front) hl).2
theorem Rel.nodeAt {vs : List V} {a : Addr} (r : Rel K F H σD σ R) (h : (D.node a vs,V.ref a) ∈ R) : H a = some (.lst vs):=r.g.nodeAt (List.mem_append_right _ h)
theorem Rel.openT {xs : List D} (r : Rel K F H σD σ ((.tup xs,v) :: R)) : ∃ a vs,v = .ref a /\ FT K F H a vs [] /\ xs.length = vs.length /\ Rel K F H σD σ (xs.zip vs ++ R):=by
 obtain ⟨a,vs,e,h,l,g⟩:=r.front.openT;exact ⟨a,vs,e,h,l,Rel.of r.mt (by simpa using g)⟩
theorem Rel.alloc {p : Addr} {o : HO} (r : Rel K F H σD σ R) (hp : H p = none) (hn : autoParam (NT o) Ax._auto_1) : Rel K F (upd H p o) σD σ ((.cell,.ref p) :: R) /\ Ext F H F (upd H p o):=by
 obtain ⟨g,x⟩:=r.front.alloc (o:=o) hp hn;exact ⟨Rel.of r.mt g,x⟩
theorem Rel.write {a : Addr} {o : HO} (r : Rel K F H σD σ ((.cell,.ref a) :: R)) (hn : autoParam (NT o) Ax._auto_1) : Rel K F (upd H a o) σD σ ((.cell,.ref a) :: R) /\ Ext F H F (upd H a o):=by
 obtain ⟨g,x⟩:=r.front.write (o:=o) hn;exact ⟨Rel.of r.mt g,x⟩
theorem Rel.layL {xs : List D} {vs : List V} {p : Addr} (r : Rel K F H σD σ (xs.zip vs ++ R)) (hl : xs.length = vs.length) (hp : H p = none) :
  Rel K F (upd H p (.lst vs)) σD σ ((.lst true xs,.ref p) :: R) /\ Ext F H F (upd H p (.lst vs)):=by
 obtain ⟨r1,x⟩:=r.alloc (o:=.lst vs) hp;exact ⟨r1.formL hl cG,x⟩
theorem Rel.layT {xs : List D} {vs : List V} {p : Addr} (r : Rel K F H σD σ (xs.zip vs ++ R)) (hl : xs.length = vs.length) (hp : H p = none) :
  ∃ F',Ext F H F' (upd H p (.tup vs)) /\ Rel K F' (upd H p (.tup vs)) σD σ ((.tup xs,.ref p) :: R):=by
 obtain ⟨F',x,g⟩:=G.layT (R:=R ++ sl σD σ) (by simpa using r.front) hl hp;exact ⟨F',x,Rel.of r.mt g⟩
structure Grow (F : Addr -> Prop) (H : Hp) (F' : Addr -> Prop) (H' : Hp) : Prop where
 x : Ext F H F' H'
 k : ∀ a o,H a = some o -> H' a = some o
 fr : ∀ a,F' a -> F a \/ H a = none
 dm : (∀ a,F a -> ∃ o,H a = some o) -> ∀ a,F' a -> ∃ o,H' a = some o
theorem Grow.refl : Grow F H F H:=⟨Ext.refl,fun _ _ e=>e,fun _ h=>.inl h,fun h=>h⟩
theorem Grow.trans {F'' : Addr -> Prop} {H'' : Hp} (a : Grow F H F' H') (b : Grow F' H' F'' H'') : Grow F H F'' H'' :=
 ⟨a.x.trans b.x,fun x o e=>b.k x o (a.k x o e),fun x h=>by
  rcases b.fr x h with h | h
  ·exact a.fr x h
  ·refine .inr ?_
   rcases e : H x with _ | o
   ·rfl
   ·rw [a.k x o e] at h
    exact (nomatch h),fun d=>b.dm (a.dm d)⟩
theorem Rel.grow (r : Rel K F H σD σ R) (g : Grow F H F' H') : Rel K F' H' σD σ R:=⟨r.mt,r.g.ext g.x g.k g.fr (g.dm r.g.dom)⟩
theorem Bor.grow (b : Bor K F H d v) (g : Grow F H F' H') : Bor K F' H' d v:=by
 obtain ⟨L,h⟩:=b;exact ⟨L,h.mono g.x fun a ha=>by obtain ⟨o,e⟩:=h.dom a ha; rw [e,g.k a o e]⟩
end
end DD
namespace DD
open PySem PySem.Spec PyProof.Rows L2
noncomputable abbrev St:=L2.St
noncomputable def D.sc : D -> Option V
 | .non=>some .non
 | .bl b=>some (.bl b)
 | .int i=>some (.int i)
 | .str x=>some (.str x)
 | .ty n=>some (.ty n)
 | .cls a=>some (.ref a)
 | _=>none
section
variable {K : PySem.W.Frag} {F F' : Addr -> Prop} {H H' : Hp} {d : D} {v w : V} {L : List Addr} {R : Ro} {σD : aP} {σ : St}
theorem Ow.of_sc (h : d.sc = some w) : Ow K F H d w []:=by
 cases d <;> simp only [D.sc] at h <;> cases h <;> simp only [Ow] <;> exact ⟨trivial,trivial⟩
theorem Ow.sc (o : Ow K F H d v L) (h : d.sc = some w) : v = w /\ L = []:=by
 cases d <;> simp only [D.sc] at h <;> cases h <;> simp only [Ow] at o <;> exact o
theorem Bor.sc (b : Bor K F H d v) (h : d.sc = some w) : v = w:=by obtain ⟨L,o⟩:=b; exact (o.sc h).1
theorem Rel.scal (r : Rel K F H σD σ R) (h : d.sc = some w) : Rel K F H σD σ ((d,w) :: R):=r.push (Ow.of_sc h)
theorem Bor.int {i : Int} (b : Bor K F H (.int i) v) : v = .int i:=b.sc rfl
theorem Bor.bl {i : Bool} (b : Bor K F H (.bl i) v) : v = .bl i:=b.sc rfl
theorem Bor.str {i : Str} (b : Bor K F H (.str i) v) : v = .str i:=b.sc rfl
end
section
variable {X : Cx} {e : Expr} {es : List Expr} {st : Stmt} {sts : List Stmt}
theorem bc {t t' : TE} (h : PE X e t) (i : ∀ σ H Q,t' σ H Q -> t σ H Q) : PE X e t':=fun aa s σ H Q I h'=>h aa s σ H Q I (i σ H Q h')
theorem pR {t t' : TT} (h : PT X e t) (i : ∀ σ H Q,t' σ H Q -> t σ H Q) : PT X e t':=fun aa s σ H Q I h'=>h aa s σ H Q I (i σ H Q h')
theorem yA {t t' : TT} (h : PW X e t) (i : ∀ σ H Q,t' σ H Q -> t σ H Q) : PW X e t':=fun wh aa s σ H Q I h'=>h wh aa s σ H Q I (i σ H Q h')
theorem jN {t t' : TA} (h : PA X es t) (i : ∀ σ H Q,t' σ H Q -> t σ H Q) : PA X es t':=fun p aa s σ H Q I h'=>h p aa s σ H Q I (i σ H Q h')
theorem iQ {t t' : TS} (h : PS X st t) (i : ∀ D σ H,t' D σ H -> t D σ H) : PS X st t':=fun aa s σ H D I h'=>h aa s σ H D I (i D σ H h')
theorem qH {t t' : TS} (h : PSs X sts t) (i : ∀ D σ H,t' D σ H -> t D σ H) : PSs X sts t':=fun aa s σ H D I h'=>h aa s σ H D I (i D σ H h')
theorem qI {f : Value -> Value -> Sem Value} {r r' : R2} (h : fk X f r) (i : ∀ x y H Q,r' x y H Q -> r x y H Q) : fk X f r':=fun aa s σ H x y v u Q I a b h'=>h aa s σ H x y v u Q I a b (i x y H Q h')
end
noncomputable abbrev DE:=aP -> Option (D × aP)
noncomputable abbrev DP:=aP -> Option D
noncomputable abbrev DA:=aP -> Option (List D × aP)
noncomputable abbrev DT:=aP -> Option (Bool × aP)
inductive Out where
 | nx (σ : aP) | rt (d : D) (σ : aP) | bk (σ : aP) | ct (σ : aP)
noncomputable abbrev DS:=aP -> Option Out
noncomputable def rE (K : PySem.W.Frag) (c : DE) : TE:=fun σ H Q=>∃ F R σD d σD',Rel K F H σD σ R /\ c σD = some (d,σD') /\ ∀ F' H' v,Ext F H F' H' -> Rel K F' H' σD' σ ((d,v) :: R) -> Q v H'
noncomputable def rB (K : PySem.W.Frag) (c : DP) : TE:=fun σ H Q=>∃ F R σD d,Rel K F H σD σ R /\ c σD = some d /\ ∀ F' H' v,Grow F H F' H' -> Bor K F' H' d v -> Q v H'
noncomputable def rA (K : PySem.W.Frag) (c : DA) : TA:=fun σ H Q=>∃ F R σD xs σD',Rel K F H σD σ R /\ c σD = some (xs,σD') /\ ∀ F' H' vs,Ext F H F' H' -> xs.length = vs.length -> Rel K F' H' σD' σ (xs.zip vs ++ R) -> Q vs H'
noncomputable def rT (K : PySem.W.Frag) (c : DT) : TT:=fun σ H Q=>∃ F R σD b σD',Rel K F H σD σ R /\ c σD = some (b,σD') /\ ∀ F' H',Ext F H F' H' -> Rel K F' H' σD' σ R -> Q b H'
noncomputable def Kp (W : List Nat) (σ σ' : St) : Prop:=∀ k,k ∉ W -> σ'[k]? = σ[k]?
noncomputable def Th (K : PySem.W.Frag) (En : lM) (R : Ro) (F : Addr -> Prop) (H : Hp) (σ : St) : Out -> Prop
 | .nx σD=>Rel K F H σD σ R -> En.nx σ H
 | .bk σD=>Rel K F H σD σ R -> En.bk σ H
 | .ct σD=>Rel K F H σD σ R -> En.ct σ H
 | .rt d σD=>∀ v,Rel K F H σD σ ((d,v) :: R) -> En.rt v H
noncomputable def rS (K : PySem.W.Frag) (c : DS) (W : List Nat) : TS:=fun En σ H=>∃ F R σD o,Rel K F H σD σ R /\ c σD = some o /\ ∀ F' H' σ',Ext F H F' H' -> Kp W σ σ' -> Th K En R F' H' σ' o
noncomputable def QE (X : Cx) (e : Expr) (c : DE) : Prop:=PE X e (rE X.K c)
noncomputable def QB (X : Cx) (e : Expr) (c : DP) : Prop:=PE X e (rB X.K c)
noncomputable def QA (X : Cx) (es : List Expr) (c : DA) : Prop:=PA X es (rA X.K c)
noncomputable def QT (X : Cx) (e : Expr) (c : DT) : Prop:=PT X e (rT X.K c)
noncomputable def QW (X : Cx) (e : Expr) (c : DT) : Prop:=PW X e (rT X.K c)
noncomputable def QS (X : Cx) (st : Stmt) (c : DS) (W : List Nat) : Prop:=PS X st (rS X.K c W)
noncomputable def nH (X : Cx) (sts : List Stmt) (c : DS) (W : List Nat) : Prop:=PSs X sts (rS X.K c W)
theorem Kp.refl {W : List Nat} {σ : St} : Kp W σ σ:=fun _ _=>rfl
theorem Kp.trans {W : List Nat} {σ σ1 σ2 : St} (a : Kp W σ σ1) (b : Kp W σ1 σ2) : Kp W σ σ2:=fun k h=>(b k h).trans (a k h)
theorem Kp.mono {W W' : List Nat} {σ σ' : St} (a : Kp W σ σ') (h : ∀ k ∈ W,k ∈ W') : Kp W' σ σ':=fun k hk=>a k fun z=>hk (h k z)
theorem Kp.set {σ : St} {i : Nat} {o : Option V} : Kp [i] σ (σ.set i o):=fun k hk=>by
 rw [List.getElem?_set_ne]; intro e; exact hk (by simp [e])
noncomputable def dS (p : DP) : DE:=fun σ=>(p σ).bind fun d=>match d.sc with | some _=>some (d,σ) | none=>none
noncomputable def cx (σ : aP) (i : Nat) : Option D:=match σ[i]? with | some (some d)=>some d | _=>none
theorem bh {σ : aP} {i : Nat} {d : D} (h : cx σ i = some d) : σ[i]? = some (some d):=by
 unfold cx at h;split at h
 ·cases h; assumption
 ·cases h
noncomputable def pV (i : Nat) : DP:=fun σ=>cx σ i
noncomputable def pC (d : D) : DP:=fun _=>some d
noncomputable def dG (i : Nat) : DE:=fun σ=>(cx σ i).map fun d=>(d.fz,σ.set i (some d.fz))
noncomputable def gE (i : Nat) : DE:=fun σ=>(cx σ i).map fun d=>(d,σ.set i none)
section
variable {X : Cx} {e a b : Expr} {es : List Expr} {p q : DP} {c c' : DE} {pos : Pos}
theorem ai (h : QB X e p) : QE X e (dS p):=bc h fun σ H Q hq0=>by
 obtain ⟨F,R,σD,d,σD',r,ec,k⟩:=hq0;unfold dS at ec;rcases hp : p σD with _ | x
 ·rw [hp] at ec; cases ec
 ·rw [hp] at ec
  simp only [bind_some] at ec;rcases hs : x.sc with _ | w
  ·rw [hs] at ec; cases ec
  ·rw [hs] at ec; cases ec
   refine ⟨F,R,σD,d,r,hp,fun F' H' v g b=>k F' H' v g.x ?_⟩;rw [b.sc hs]; exact (r.grow g).scal hs
theorem ag (i : Nat) {x : Str} {pos : Pos} (hN : autoParam (X.N[i]? = some x) aI._auto_1) (hv : autoParam (mI X.env.scope x) rH._auto_1) (hd : autoParam ((x == ("__debug__" : Str)) = false) cR._auto_1)
  (hcd : autoParam ((x == ("__classdict__" : Str)) = false) cR._auto_1) : QB X (.Name x pos) (pV i):=bc (iJ hN hv hd hcd) fun σ H Q hq0=>by
 obtain ⟨F,R,σD,d,r,ec,k⟩:=hq0;obtain ⟨v,hv,b⟩:=r.get (bh ec);exact ⟨v,hv,k F H v Grow.refl b⟩
theorem ab {i : Int} {j pos} : QB X (.Constant (.int i) j pos) (pC (.int i)):=bc CJ fun σ H Q hq0=>by
 obtain ⟨F,R,σD,d,r,ec,k⟩:=hq0;cases ec; exact k F H _ Grow.refl ⟨[],Ow.of_sc rfl⟩
theorem rY {i : Bool} {j pos} : QB X (.Constant (.bool i) j pos) (pC (.bl i)):=bc El fun σ H Q hq0=>by
 obtain ⟨F,R,σD,d,r,ec,k⟩:=hq0;cases ec; exact k F H _ Grow.refl ⟨[],Ow.of_sc rfl⟩
theorem cn {α β γ : Type} {o : Option α} {f : α -> β × γ} {d : β} {s : γ} (h : o.map f = some (d,s)) : ∃ x,o = some x /\ f x = (d,s):=by
 cases o with
 | none=>cases h
 | some x=>exact ⟨x,rfl,Option.some.inj h⟩
theorem bT (i : Nat) {x : Str} {pos : Pos} (hN : autoParam (X.N[i]? = some x) aI._auto_1) (hv : autoParam (mI X.env.scope x) rH._auto_1) (hd : autoParam ((x == ("__debug__" : Str)) = false) cR._auto_1)
  (hcd : autoParam ((x == ("__classdict__" : Str)) = false) cR._auto_1) : QE X (.Name x pos) (dG i):=bc (iJ hN hv hd hcd) fun σ H Q hq0=>by
 obtain ⟨F,R,σD,d,σD',r,ec,k⟩:=hq0;obtain ⟨d0,e0,e1⟩:=cn ec;cases e1;obtain ⟨v,hv,r1⟩:=r.take (bh e0);obtain ⟨F',x,r2,o⟩:=r1.freeze;have r3:=(r2.push o).put hv;rw [List.set_set] at r3;exact ⟨v,hv,k F' H v x r3⟩
theorem eD (i : Nat) {x : Str} {pos : Pos} (hN : autoParam (X.N[i]? = some x) aI._auto_1) (hv : autoParam (mI X.env.scope x) rH._auto_1) (hd : autoParam ((x == ("__debug__" : Str)) = false) cR._auto_1)
  (hcd : autoParam ((x == ("__classdict__" : Str)) = false) cR._auto_1) : QE X (.Name x pos) (gE i):=bc (iJ hN hv hd hcd) fun σ H Q hq0=>by
 obtain ⟨F,R,σD,d,σD',r,ec,k⟩:=hq0;obtain ⟨d0,e0,e1⟩:=cn ec;cases e1;obtain ⟨v,hv,r1⟩:=r.take (bh e0);exact ⟨v,hv,k F H v Ext.refl r1⟩
structure eU (X : Cx) (f : Value -> Value -> Sem Value) (g : D -> D -> Option D) : Prop where
 run : fk X f (fun x y H Q=>∃ F dx dy d w,Bor X.K F H dx x /\ Bor X.K F H dy y /\ g dx dy = some d /\ d.sc = some w /\ Q w H)
 sc : ∀ x y d,g x y = some d -> ∃ w,d.sc = some w
noncomputable def em (g : D -> D -> Option D) (c c' : DE) : DE:=fun σ=>(c σ).bind fun p=>(c' p.2).bind fun q=>(g p.1 q.1).map fun d=>(d,q.2)
noncomputable def aG (g : D -> D -> Option D) (p q : DP) : DP:=fun σ=>(p σ).bind fun x=>(q σ).bind fun y=>g x y
theorem zK {g : D -> D -> Option D} {σ σ' : aP} {d : D} (h : em g c c' σ = some (d,σ')) : ∃ x y σ1,c σ = some (x,σ1) /\ c' σ1 = some (y,σ') /\ g x y = some d:=by
 unfold em at h;rcases h1 : c σ with _ | ⟨x,σ1⟩
 ·rw [h1] at h; cases h
 ·rw [h1] at h; simp only [bind_some] at h
  rcases h2 : c' σ1 with _ | ⟨y,σ2⟩
  ·rw [h2] at h; cases h
  ·rw [h2] at h; simp only [bind_some] at h
   obtain ⟨z,e,e2⟩:=cn h;cases e2;exact ⟨x,y,σ1,rfl,h2,e⟩
theorem sQ {g : D -> D -> Option D} {σ : aP} {d : D} (h : aG g p q σ = some d) : ∃ x y,p σ = some x /\ q σ = some y /\ g x y = some d:=by
 unfold aG at h;rcases h1 : p σ with _ | x
 ·rw [h1] at h; cases h
 ·rw [h1] at h; simp only [bind_some] at h
  rcases h2 : q σ with _ | y
  ·rw [h2] at h; cases h
  ·rw [h2] at h; simp only [bind_some] at h
   exact ⟨x,y,rfl,rfl,h⟩
theorem E3 {f : Value -> Value -> Sem Value} {g : D -> D -> Option D} (o : eU X f g) {σ : St} {H : Hp} {Q : VK} (h : rE X.K (em g c c') σ H Q) :
  qJ (fun x y H Q=>∃ F dx dy d w,Bor X.K F H dx x /\ Bor X.K F H dy y /\ g dx dy = some d /\ d.sc = some w /\ Q w H) (rE X.K c) (rE X.K c') σ H Q:=by
 obtain ⟨F,R,σD,d,σD',r,ec,k⟩:=h;obtain ⟨x,y,σ1,e1,e2,eg⟩:=zK ec;obtain ⟨w,hw⟩:=o.sc _ _ _ eg;refine ⟨F,R,σD,x,σ1,r,e1,fun F1 H1 v x1 r1=>?_⟩;refine ⟨F1,_,σ1,y,σD',r1,e2,fun F2 H2 u x2 r2=>?_⟩;refine ⟨F2,x,y,d,w,r2.bor (by simp),r2.bor (by simp),eg,hw,k F2 H2 w (x1.trans x2) ?_⟩;exact (r2.pop.pop).scal hw
theorem yX {f : Value -> Value -> Sem Value} {g : D -> D -> Option D} (o : eU X f g) {σ : St} {H : Hp} {Q : VK} (h : rB X.K (aG g p q) σ H Q) :
  qJ (fun x y H Q=>∃ F dx dy d w,Bor X.K F H dx x /\ Bor X.K F H dy y /\ g dx dy = some d /\ d.sc = some w /\ Q w H) (rB X.K p) (rB X.K q) σ H Q:=by
 obtain ⟨F,R,σD,d,r,ec,k⟩:=h;obtain ⟨x,y,e1,e2,eg⟩:=sQ ec;obtain ⟨w,hw⟩:=o.sc _ _ _ eg;refine ⟨F,R,σD,x,r,e1,fun F1 H1 v g1 b1=>?_⟩;refine ⟨F1,R,σD,y,r.grow g1,e2,fun F2 H2 u g2 b2=>?_⟩;exact ⟨F2,x,y,d,w,b1.grow g2,b2,eg,hw,k F2 H2 w (g1.trans g2) ⟨[],Ow.of_sc hw⟩⟩
theorem z3 {op : Operator} {g : D -> D -> Option D} (o : eU X (binaryOp op) g) (ha : QE X a c) (hb : QE X b c') : QE X (.BinOp a op b pos) (em g c c') :=
 bc (oH o.run ha hb) fun _ _ _ h=>E3 o h
theorem aH {op : Operator} {g : D -> D -> Option D} (o : eU X (binaryOp op) g) (ha : QB X a p) (hb : QB X b q) : QB X (.BinOp a op b pos) (aG g p q) :=
 bc (oH o.run ha hb) fun _ _ _ h=>yX o h
theorem oG {op : CmpOp} {g : D -> D -> Option D} (o : eU X (compareOp op) g) (ha : QB X a p) (hb : QB X b q) (hm : behindInMarks op b = false) : QB X (.Compare a [op] [b] pos) (aG g p q) :=
 bc (A9 o.run ha hb hm) fun _ _ _ h=>yX o h
noncomputable def gI (C : Int -> Int -> Bool) (f : Int -> Int -> Int) : D -> D -> Option D
 | .int i,.int j=>if C i j = true then some (.int (f i j)) else none
 | _,_=>none
noncomputable def jF (f : Int -> Int -> Int) : D -> D -> Option D
 | .int i,.int j=>some (.int (f i j))
 | _,_=>none
noncomputable def nA (f : Int -> Int -> Bool) : D -> D -> Option D
 | .int i,.int j=>some (.bl (f i j))
 | _,_=>none
theorem oJ {f : Value -> Value -> Sem Value} {C : Int -> Int -> Prop} {Cb : Int -> Int -> Bool} {g : Int -> Int -> Int} (h : fk X f (rI C fun i j=>.int (g i j))) (hC : ∀ i j,Cb i j = true -> C i j) : eU X f (gI Cb g):=by
 refine ⟨qI h fun x y H Q pz=>?_,fun x y d h=>?_⟩
 ·obtain ⟨F,dx,dy,d,w,b1,b2,eg,hw,q⟩:=pz
  unfold gI at eg;split at eg
  ·split at eg
   ·cases eg; cases hw
    exact ⟨_,_,b1.int,b2.int,hC _ _ (by assumption),q⟩
   ·cases eg
  ·cases eg
 ·unfold gI at h
  split at h
  ·split at h
   ·cases h; exact ⟨_,rfl⟩
   ·cases h
  ·cases h
theorem ky {f : Value -> Value -> Sem Value} {g : Int -> Int -> Int} (h : fk X f (kv fun i j=>.int (g i j))) : eU X f (jF g):=by
 refine ⟨qI h fun x y H Q pz=>?_,fun x y d h=>?_⟩
 ·obtain ⟨F,dx,dy,d,w,b1,b2,eg,hw,q⟩:=pz
  unfold jF at eg;split at eg
  ·cases eg; cases hw
   exact ⟨_,_,b1.int,b2.int,q⟩
  ·cases eg
 ·unfold jF at h
  split at h
  ·cases h; exact ⟨_,rfl⟩
  ·cases h
theorem sT {f : Value -> Value -> Sem Value} {g : Int -> Int -> Bool} (h : fk X f (kv fun i j=>.bl (g i j))) : eU X f (nA g):=by
 refine ⟨qI h fun x y H Q pz=>?_,fun x y d h=>?_⟩
 ·obtain ⟨F,dx,dy,d,w,b1,b2,eg,hw,q⟩:=pz
  unfold nA at eg;split at eg
  ·cases eg; cases hw
   exact ⟨_,_,b1.int,b2.int,q⟩
  ·cases eg
 ·unfold nA at h
  split at h
  ·cases h; exact ⟨_,rfl⟩
  ·cases h
theorem eE : eU X (binaryOp .Add) (jF fun i j=>i + j):=ky CT
theorem jQ : eU X (binaryOp .Sub) (jF fun i j=>i - j):=ky CM
theorem lq : eU X (binaryOp .BitAnd) (jF Builtin.bitAnd):=ky CS
theorem Fy : eU X (binaryOp .BitOr) (jF Builtin.bitOr):=ky Eo
theorem mX : eU X (binaryOp .BitXor) (jF Builtin.bitXor):=ky CL
theorem fA : eU X (binaryOp .Mod) (gI (fun _ j=>decide (0 < j)) fun i j=>i % j):=oJ CQ fun i j h=>by simpa using h
theorem Et : eU X (binaryOp .Pow) (gI (fun i j=>decide (0 <= j /\ j <= 1000000 /\ i.natAbs < 2 ^ 64)) fun i j=>i ^ j.toNat):=oJ CO fun i j h=>by simpa [wJ] using h
theorem fy : eU X (binaryOp .LShift) (gI (fun i j=>decide (0 <= j /\ j <= 1000000 /\ i.natAbs < 2 ^ 64)) fun i j=>i * 2 ^ j.toNat):=oJ CN fun i j h=>by simpa [wJ] using h
theorem FA : eU X (compareOp .Lt) (nA fun i j=>decide (i < j)):=sT Ep
theorem wd : eU X (compareOp .Gt) (nA fun i j=>decide (j < i)):=sT Er
theorem FB : eU X (compareOp .GtE) (nA fun i j=>decide (j <= i)):=sT Es
noncomputable def aX : DA:=fun σ=>some ([],σ)
noncomputable def ar (c : DE) (ca : DA) : DA:=fun σ=>(c σ).bind fun p=>(ca p.2).map fun q=>(p.1 :: q.1,q.2)
theorem aQ : QA X [] aX:=jN eY fun σ H Q hq0=>by
 obtain ⟨F,R,σD,xs,σD',r,ec,k⟩:=hq0;cases ec; exact k F H [] Ext.refl rfl r
theorem aq {ca : DA} (ha : QE X e c) (hr : QA X es ca) (hs : autoParam (starEach (e :: es) X.env = (false,eval e X.env) :: starEach es X.env) aI._auto_1) : QA X (e :: es) (ar c ca):=jN (dF ha hr hs) fun σ H Q hq0=>by
 obtain ⟨F,R,σD,xs,σD',r,ec,k⟩:=hq0;unfold ar at ec
 revert ec
 refine bJ fun x σ1 h1 ec=>?_
 try dsimp only at ec
 obtain ⟨⟨ys,σ2⟩,e2,e3⟩:=cn ec;cases e3;refine ⟨F,R,σD,x,σ1,r,h1,fun F1 H1 v x1 r1=>?_⟩;refine ⟨F1,_,σ1,ys,σ2,r1,e2,fun F2 H2 vs x2 hl r2=>?_⟩;refine k F2 H2 (v :: vs) (x1.trans x2) (by simp [hl]) (r2.perm ?_);exact List.perm_middle
noncomputable def dE (ca : DA) : DE:=fun σ=>(ca σ).bind fun p=>if p.1.length <= sizeLine then some (.lst true p.1,p.2) else none
noncomputable def gi (ca : DA) : DE:=fun σ=>(ca σ).bind fun p=>if p.1.length <= sizeLine then some (.tup p.1,p.2) else none
theorem cq {ca : DA} (h : QA X es ca) : QE X (.List es pos) (dE ca):=bc (sO h) fun σ H Q hq0=>by
 obtain ⟨F,R,σD,d,σD',r,ec,k⟩:=hq0;unfold dE at ec
 revert ec
 refine bJ fun xs σ1 h1 ec=>?_
 try dsimp only at ec
 split at ec
 ·rename_i hz
  cases ec;refine ⟨F,R,σD,xs,_,r,h1,fun F1 H1 vs x1 hl r1=>⟨by rw [<- hl]; exact hz,fun p hp=>?_⟩⟩;obtain ⟨r2,x2⟩:=r1.layL hl hp;exact k F1 _ _ (x1.trans x2) r2
 ·cases ec
theorem fX {ca : DA} {x1} (h : QA X es ca) : QE X (.Tuple es x1 pos) (gi ca):=bc (CH h) fun σ H Q hq0=>by
 obtain ⟨F,R,σD,d,σD',r,ec,k⟩:=hq0;unfold gi at ec
 revert ec
 refine bJ fun xs σ1 h1 ec=>?_
 try dsimp only at ec
 split at ec
 ·rename_i hz
  cases ec;refine ⟨F,R,σD,xs,_,r,h1,fun F1 H1 vs x1 hl r1=>⟨by rw [<- hl]; exact hz,fun p hp=>?_⟩⟩;obtain ⟨F2,x2,r2⟩:=r1.layT hl hp;exact k F2 _ _ (x1.trans x2) r2
 ·cases ec
end
section
variable {K : PySem.W.Frag} {F F' : Addr -> Prop} {H H' : Hp} {d x : D} {v w : V} {L : List Addr} {R : Ro} {σD : aP} {σ : St} {xs : List D} {vs : List V}
theorem OwL.length : ∀ {xs : List D} {vs : List V} {L : List Addr},OwL K F H xs vs L -> vs.length = xs.length:=fun h=>h.toP.1.symm
theorem OwL.kid : ∀ {xs : List D} {vs : List V} {L : List Addr} {j : Nat},OwL K F H xs vs L -> xs[j]? = some x -> ∃ w La Lx Lb,vs[j]? = some w /\ L = La ++ Lx ++ Lb /\ Ow K F H x w Lx /\
  ∀ (F' : Addr -> Prop) (H' : Hp) (x' : D) (Lx' : List Addr),Ext F H F' H' -> (∀ a ∈ La ++ Lb,H' a = H a) -> Ow K F' H' x' w Lx' -> OwL K F' H' (xs.set j x') vs (La ++ Lx' ++ Lb):=by
 intro xs
 induction xs with
 | nil=>intro vs L j h e; simp at e
 | cons y ys ih =>
  intro vs L j h e;simp only [OwL] at h;obtain ⟨u,ws,L1,L2,rfl,h1,h2,rfl⟩:=h;cases j with
  | zero =>
   simp at e; subst e;refine ⟨u,[],L1,L2,rfl,rfl,h1,fun F' H' x' Lx' x k o=>?_⟩;simp only [List.set_cons_zero,OwL];exact ⟨u,ws,Lx',L2,rfl,o,h2.mono x fun a ha=>k a (by simp [ha]),rfl⟩
  | succ j =>
   obtain ⟨w,La,Lx,Lb,e1,rfl,o,k⟩:=ih (j:=j) h2 (by simpa using e);refine ⟨w,L1 ++ La,Lx,Lb,by simpa using e1,by simp,o,fun F' H' x' Lx' x kk o'=>?_⟩;simp only [List.set_cons_succ,OwL];exact ⟨u,ws,L1,La ++ Lx' ++ Lb,rfl,h1.mono x fun a ha=>kk a (by simp [ha]),k F' H' x' Lx' x (fun a ha=>kk a (by simp at ha ⊢; rcases ha with ha | ha <;> simp [ha])) o',by simp⟩
theorem OwL.get (h : OwL K F H xs vs L) {j : Nat} (e : xs[j]? = some x) : ∃ w,vs[j]? = some w /\ Bor K F H x w:=by
 obtain ⟨w,_,Lx,_,e1,_,o,_⟩:=h.kid e;exact ⟨w,e1,Lx,o⟩
theorem OwL.at (h : OwL K F H xs vs L) {i : Int} (e : atI xs i = some x) : ∃ w,atI vs i = some w /\ Bor K F H x w:=by
 unfold atI at e ⊢;rw [h.length];rcases hj : ixN xs.length i with _ | j
 ·rw [hj] at e; cases e
 ·rw [hj] at e; exact h.get e
theorem Bor.lst {o : Bool} (b : Bor K F H (.lst o xs) v) : ∃ a vs,v = .ref a /\ dJ K H a vs /\ ∃ L,OwL K F H xs vs L:=by
 obtain ⟨L,h⟩:=b;cases o
 ·simp only [Ow] at h
  obtain ⟨a,vs,rfl,f,r,_⟩:=h;exact ⟨a,vs,rfl,f.sq,_,r⟩
 ·simp only [Ow] at h
  obtain ⟨a,vs,L',rfl,e,r,_⟩:=h;exact ⟨a,vs,rfl,.inl (.inl e),_,r⟩
theorem Bor.tup (b : Bor K F H (.tup xs) v) : ∃ a vs,v = .ref a /\ ug K H a vs /\ ∃ L,OwL K F H xs vs L:=by
 obtain ⟨L,h⟩:=b;simp only [Ow] at h;obtain ⟨a,vs,rfl,f,r⟩:=h;exact ⟨a,vs,rfl,f.sq,_,r⟩
noncomputable def cO : D -> D -> Option D
 | .lst _ xs,.int i=>atI xs i
 | .tup xs,.int i=>atI xs i
 | .str z,.int i=>if z.length <= sizeLine then (atI z.cps.toList i).map fun c=>.str ⟨#[c]⟩ else none
 | _,_=>none
end
section
variable {X : Cx} {e a b : Expr} {es : List Expr} {p q : DP} {c c' : DE} {pos : Pos}
theorem Cj {F : Addr -> Prop} {H : Hp} {dx dy d : D} {x y : V} {Q : VK} (b1 : Bor X.K F H dx x) (b2 : Bor X.K F H dy y) (e : cO dx dy = some d) (k : ∀ v,Bor X.K F H d v -> Q v H) : E4 X.K x y H Q:=by
 unfold cO at e;split at e
 ·obtain ⟨a,vs,rfl,s,L,r⟩:=b1.lst
  obtain ⟨w,e1,bw⟩:=r.at e;exact .inl ⟨a,vs,_,w,rfl,b2.int,s,e1,k w bw⟩
 ·obtain ⟨a,vs,rfl,s,L,r⟩:=b1.tup
  obtain ⟨w,e1,bw⟩:=r.at e;exact .inr (.inl ⟨a,vs,_,w,rfl,b2.int,s,e1,k w bw⟩)
 ·split at e
  ·rename_i z i hz
   revert e
   refine lR fun ch h e=>?_
   cases e;exact .inr (.inr ⟨z,i,ch,b1.str,b2.int,hz,h,k _ ⟨[],Ow.of_sc rfl⟩⟩)
  ·cases e
 ·cases e
theorem bP (ha : QB X a p) (hb : QB X b q) (hs : autoParam (kR b) hZ._auto_1) : QB X (.Subscript a b pos) (aG cO p q):=bc (v6 tJ ha hb hs) fun σ H Q hq0=>by
 obtain ⟨F,R,σD,d,r,ec,k⟩:=hq0;obtain ⟨x,y,e1,e2,eg⟩:=sQ ec;refine ⟨F,R,σD,x,r,e1,fun F1 H1 v g1 b1=>?_⟩;refine ⟨F1,R,σD,y,r.grow g1,e2,fun F2 H2 u g2 b2=>?_⟩;exact Cj (b1.grow g2) b2 eg fun v bv=>k F2 H2 v (g1.trans g2) bv
noncomputable def hV (c c' : DE) : DE:=fun σ=>(c σ).bind fun p=>(c' p.2).bind fun q=>(cO p.1 q.1).map fun d=>(d,q.2)
end
noncomputable def bz (c : DE) : DT:=fun σ=>(c σ).bind fun p=>match p.1 with | .bl b=>some (b,p.2) | _=>none
noncomputable def i4 (t u : DT) : DT:=fun σ=>(t σ).bind fun p=>if p.1 = true then u p.2 else some (false,p.2)
noncomputable def lh (t u : DT) : DT:=fun σ=>(t σ).bind fun p=>if p.1 = true then some (true,p.2) else u p.2
noncomputable def jO (t : DT) : DT:=fun σ=>(t σ).map fun p=>(!p.1,p.2)
section
variable {X : Cx} {e a b : Expr} {es eH : List Expr} {p q : DP} {c c' : DE} {t u : DT} {pos : Pos}
theorem lC {σ σ' : aP} {k : Bool} (h : bz c σ = some (k,σ')) : c σ = some (.bl k,σ'):=by
 unfold bz at h;rcases h1 : c σ with _ | ⟨x,σ1⟩
 ·rw [h1] at h; cases h
 ·rw [h1] at h; simp only [bind_some] at h
  split at h
  ·cases h; rfl
  ·cases h
theorem mi (h : QE X e c) (he : autoParam (∀ whole,isTrue e X.env whole = (do let v <- whole; standAt e.pos; holding [v] (truthy v))) kS._auto_1) : QT X e (bz c):=pR (Cv h he) fun σ H Q hq0=>by
 obtain ⟨F,R,σD,k,σD',r,ec,kk⟩:=hq0;refine ⟨F,R,σD,_,σD',r,lC ec,fun F' H' v x r'=>⟨k,(r'.bor (by simp)).bl,kk F' H' x r'.pop⟩⟩
theorem cH {op : CmpOp} {g : D -> D -> Option D} (o : eU X (compareOp op) g) (ha : QE X a c) (hb : QE X b c') (hm : behindInMarks op b = false) : QT X (.Compare a [op] [b] pos) (bz (em g c c')) :=
 pR (uQ o.run ha hb hm) fun σ H Q hq0=>by
  obtain ⟨F,R,σD,k,σD',r,ec,kk⟩:=hq0;show qJ _ _ _ σ H _;exact E3 o ⟨F,R,σD,_,σD',r,lC ec,fun F' H' v x r'=>⟨k,(r'.bor (by simp)).bl,kk F' H' x r'.pop⟩⟩
theorem oE (h : QT X e t) : QT X (.UnaryOp .Not e pos) (jO t):=pR (Cw h) fun σ H Q hq0=>by
 obtain ⟨F,R,σD,k,σD',r,ec,kk⟩:=hq0;unfold jO at ec;obtain ⟨⟨b,σ1⟩,e1,e2⟩:=cn ec;cases e2;exact ⟨F,R,σD,b,σ1,r,e1,fun F' H' x r'=>kk F' H' x r'⟩
theorem qd (h : QW X e t) : QT X e t:=h.pt
theorem qe (h : QT X a t) : QW X (.BoolOp .And [a] pos) t:=AY h
theorem sJ (h : QT X a t) : QW X (.BoolOp .Or [a] pos) t:=Cs h
theorem oD (ha : QT X a t) (hb : QW X (.BoolOp .And (b :: eH) pos) u) : QW X (.BoolOp .And (a :: b :: eH) pos) (i4 t u):=yA (Ct ha hb) fun σ H Q hq0=>by
 obtain ⟨F,R,σD,k,σD',r,ec,kk⟩:=hq0;unfold i4 at ec
 revert ec
 refine bJ fun x σ1 h1 ec=>?_
 try dsimp only at ec
 refine ⟨F,R,σD,x,σ1,r,h1,fun F' H' x1 r'=>?_⟩;cases x
 ·simp only [Bool.false_eq_true,if_false] at ec ⊢
  cases ec;exact kk F' H' x1 r'
 ·simp only [if_true] at ec ⊢
  exact ⟨F',R,σ1,k,σD',r',ec,fun F2 H2 x2 r2=>kk F2 H2 (x1.trans x2) r2⟩
theorem rX (ha : QT X a t) (hb : QW X (.BoolOp .Or (b :: eH) pos) u) : QW X (.BoolOp .Or (a :: b :: eH) pos) (lh t u):=yA (Eh ha hb) fun σ H Q hq0=>by
 obtain ⟨F,R,σD,k,σD',r,ec,kk⟩:=hq0;unfold lh at ec
 revert ec
 refine bJ fun x σ1 h1 ec=>?_
 try dsimp only at ec
 refine ⟨F,R,σD,x,σ1,r,h1,fun F' H' x1 r'=>?_⟩;cases x
 ·simp only [Bool.false_eq_true,if_false] at ec ⊢
  exact ⟨F',R,σ1,k,σD',r',ec,fun F2 H2 x2 r2=>kk F2 H2 (x1.trans x2) r2⟩
 ·simp only [if_true] at ec ⊢
  cases ec;exact kk F' H' x1 r'
end
noncomputable def dv : DS:=fun σ=>some (.nx σ)
noncomputable def aL (c d : DS) : DS:=fun σ=>(c σ).bind fun o=>match o with | .nx σ'=>d σ' | o=>some o
noncomputable def bf (i : Nat) (c : DE) : DS:=fun σ=>(c σ).bind fun p=>if i < p.2.length then some (.nx (p.2.set i (some p.1))) else none
noncomputable def eT (t : DT) (c d : DS) : DS:=fun σ=>(t σ).bind fun p=>if p.1 = true then c p.2 else d p.2
noncomputable def bX (c : DE) : DS:=fun σ=>(c σ).map fun p=>.rt p.1 p.2
noncomputable def dX (c : DE) : DS:=fun σ=>(c σ).map fun p=>.nx p.2
noncomputable def i5 : DS:=fun _=>none
section
variable {X : Cx} {e a b : Expr} {st : Stmt} {sts : List Stmt} {c c' : DE} {s s' : DS} {t u : DT} {pos : Pos} {W W' : List Nat}
theorem cw : nH X [] dv []:=qH A0 fun En σ H hq0=>by
 obtain ⟨F,R,σD,o,r,ec,k⟩:=hq0;cases ec; exact k F H σ Ext.refl Kp.refl r
theorem ah (h1 : QS X st s W) (h2 : nH X sts s' W') : nH X (st :: sts) (aL s s') (W ++ W'):=qH (yZ h1 h2) fun En σ H hq0=>by
 obtain ⟨F,R,σD,o,r,ec,k⟩:=hq0;unfold aL at ec
 revert ec
 refine bK fun o1 h ec=>?_
 refine ⟨F,R,σD,o1,r,h,fun F1 H1 σ1 x1 kp1=>?_⟩;have kp1' : Kp (W ++ W') σ σ1:=kp1.mono fun k hk=>by simp [hk]
 cases o1 with
 | nx σ2 =>
  intro r1;refine ⟨F1,R,σ2,o,r1,ec,fun F2 H2 σ3 x2 kp2=>?_⟩;exact k F2 H2 σ3 (x1.trans x2) (kp1'.trans (kp2.mono fun k hk=>by simp [hk]))
 | bk σ2=>cases ec; exact k F1 H1 σ1 x1 kp1'
 | ct σ2=>cases ec; exact k F1 H1 σ1 x1 kp1'
 | rt d σ2=>cases ec; exact k F1 H1 σ1 x1 kp1'
theorem au (h1 : QS X st s W) : nH X [st] s W:=AZ h1
theorem fo : nH X sts i5 []:=qH xp fun En σ H hq0=>by obtain ⟨F,R,σD,o,r,ec,k⟩:=hq0; cases ec
theorem aT (i : Nat) {x : Str} {pos' : Pos} (hN : X.N.Nodup) (he : QE X e c) (hi : autoParam (X.N[i]? = some x) aI._auto_1) (hx : autoParam (lY X.env.scope x) vR._auto_1) (hs : autoParam (swapsWith e (some (.Name x pos')) pos.line X.env = pure false) aI._auto_1) (hf : autoParam (X.fn x = true \/ X.env.scope.names.lookup x = some .local) ma._auto_1) :
  QS X (.Assign [.Name x pos'] e pos) (bf i c) [i]:=iQ (Cy hN hi hx he hs hf) fun En σ H hq0=>by
 obtain ⟨F,R,σD,o,r,ec,k⟩:=hq0;unfold bf at ec
 revert ec
 refine bJ fun d σ1 h ec=>?_
 try dsimp only at ec
 split at ec
 ·rename_i hl
  cases ec;refine ⟨F,R,σD,d,σ1,r,h,fun F1 H1 v x1 r1=>?_⟩;exact k F1 H1 _ x1 Kp.set (r1.store (by rw [<- r1.mt.length]; exact hl))
 ·cases ec
theorem dz {as bs : List Stmt} (ht : QT X e t) (ha : nH X as s W) (hb : nH X bs s' W') : QS X (.If e as bs pos) (eT t s s') (W ++ W'):=iQ (Ei ht ha hb) fun En σ H hq0=>by
 obtain ⟨F,R,σD,o,r,ec,k⟩:=hq0;unfold eT at ec
 revert ec
 refine bJ fun x σ1 h ec=>?_
 try dsimp only at ec
 refine ⟨F,R,σD,x,σ1,r,h,fun F1 H1 x1 r1=>?_⟩;cases x
 ·simp only [Bool.false_eq_true,if_false] at ec ⊢
  exact ⟨F1,R,σ1,o,r1,ec,fun F2 H2 σ2 x2 kp=>k F2 H2 σ2 (x1.trans x2) (kp.mono fun k hk=>by simp [hk])⟩
 ·simp only [if_true] at ec ⊢
  exact ⟨F1,R,σ1,o,r1,ec,fun F2 H2 σ2 x2 kp=>k F2 H2 σ2 (x1.trans x2) (kp.mono fun k hk=>by simp [hk])⟩
theorem bn (he : QE X e c) : QS X (.Return (some e) pos) (bX c) []:=iQ (Cz he) fun En σ H hq0=>by
 obtain ⟨F,R,σD,o,r,ec,k⟩:=hq0;unfold bX at ec
 revert ec
 refine C0 fun d σ1 h ec=>?_
 cases ec;exact ⟨F,R,σD,d,σ1,r,h,fun F1 H1 v x1 r1=>k F1 H1 σ x1 Kp.refl v r1⟩
theorem cZ (he : QE X e c) (hs : autoParam (swapsWith e none pos.line X.env = pure false) aI._auto_1) : QS X (.Expr e pos) (dX c) []:=iQ (A1 he hs) fun En σ H hq0=>by
 obtain ⟨F,R,σD,o,r,ec,k⟩:=hq0;unfold dX at ec
 revert ec
 refine C0 fun d σ1 h ec=>?_
 cases ec;exact ⟨F,R,σD,d,σ1,r,h,fun F1 H1 v x1 r1=>k F1 H1 σ x1 Kp.refl r1.pop⟩
end
noncomputable abbrev DG:=D -> aP -> Option aP
noncomputable def rG (K : PySem.W.Frag) (g : DG) (W : List Nat) : TG:=fun v σ H Q=>∃ F R σD d σD',Rel K F H σD σ ((d,v) :: R) /\ g d σD = some σD' /\ ∀ F' H' σ',Ext F H F' H' -> Kp W σ σ' -> Rel K F' H' σD' σ' R -> Q σ' H'
noncomputable def QG (X : Cx) (tg : Expr) (g : DG) (W : List Nat) : Prop:=PG X tg (rG X.K g W)
theorem uj {X : Cx} {tg : Expr} {t t' : TG} (h : PG X tg t) (i : ∀ v σ H Q,t' v σ H Q -> t v σ H Q) : PG X tg t':=fun aa s σ H v u Q I rv h'=>h aa s σ H v u Q I rv (i v σ H Q h')
noncomputable abbrev rF:=List D -> aP -> Option aP
noncomputable def Gs (K : PySem.W.Frag) (g : rF) (W : List Nat) : pQ:=fun vs σ H Q=>∃ F R σD ds σD',ds.length = vs.length /\ Rel K F H σD σ (ds.zip vs ++ R) /\ g ds σD = some σD' /\ ∀ F' H' σ',Ext F H F' H' -> Kp W σ σ' -> Rel K F' H' σD' σ' R -> Q σ' H'
noncomputable def Ap (X : Cx) (ts : List Expr) (g : rF) (W : List Nat) : Prop:=ui X ts (Gs X.K g W)
theorem vK {X : Cx} {ts : List Expr} {t t' : pQ} (h : ui X ts t) (i : ∀ v σ H Q,t' v σ H Q -> t v σ H Q) : ui X ts t':=fun aa s σ H v u Q I rv h'=>h aa s σ H v u Q I rv (i v σ H Q h')
noncomputable def bV (i : Nat) : DG:=fun d σ=>if i < σ.length then some (σ.set i (some d)) else none
noncomputable def gK : rF:=fun ds σ=>match ds with | []=>some σ | _=>none
noncomputable def cA (g : DG) (gs : rF) : rF:=fun ds σ=>match ds with | d :: r=>(g d σ).bind fun σ'=>gs r σ' | []=>none
noncomputable def gu (n : Nat) (gs : rF) : DG:=fun d σ=>match d with | .tup xs=>if xs.length = n then gs xs σ else none | _=>none
section
variable {X : Cx} {e tg : Expr} {ts : List Expr} {g : DG} {gs : rF} {pos : Pos} {W W' : List Nat}
theorem aO (i : Nat) {x : Str} {pos : Pos} (hN : X.N.Nodup) (hi : autoParam (X.N[i]? = some x) aI._auto_1) (hx : autoParam (lY X.env.scope x) vR._auto_1) (hf : autoParam (X.fn x = true \/ X.env.scope.names.lookup x = some .local) ma._auto_1) :
  QG X (.Name x pos) (bV i) [i]:=uj (uV hN hi hx hf) fun v σ H Q hq0=>by
 obtain ⟨F,R,σD,d,σD',r,ec,k⟩:=hq0;unfold bV at ec;split at ec
 ·rename_i hl
  cases ec;exact k F H _ Ext.refl Kp.set (r.store (by rw [<- r.mt.length]; exact hl))
 ·cases ec
theorem kw : Ap X [] gK []:=vK A7 fun vs σ H Q hq0=>by
 obtain ⟨F,R,σD,ds,σD',hl,r,ec,k⟩:=hq0;cases ds with
 | nil=>cases ec; exact ⟨List.length_eq_zero_iff.mp hl.symm,k F H σ Ext.refl Kp.refl (by simpa using r)⟩
 | cons d ds=>cases ec
theorem d9 (h1 : QG X e g W) (h2 : Ap X ts gs W') (hs : autoParam ((assignEach (e :: ts) X.env).map (·.2) = assign e X.env :: (assignEach ts X.env).map (·.2)) aI._auto_1) : Ap X (e :: ts) (cA g gs) (W ++ W') :=
 vK (y0 h1 h2 hs) fun vs σ H Q hq0=>by
  obtain ⟨F,R,σD,ds,σD',hl,r,ec,k⟩:=hq0;cases ds with
  | nil=>cases ec
  | cons d ds =>
   cases vs with
   | nil=>simp at hl
   | cons v vs =>
    simp only [cA] at ec
    revert ec
    refine bK fun σ1 h ec=>?_
    refine ⟨v,vs,rfl,F,ds.zip vs ++ R,σD,d,σ1,by simpa using r,h,fun F1 H1 σ2 x1 kp1 r1=>?_⟩;exact ⟨F1,R,σ1,ds,σD',by simpa using hl,r1,ec,fun F2 H2 σ3 x2 kp2 r2=>k F2 H2 σ3 (x1.trans x2) ((kp1.mono fun k hk=>by simp [hk]).trans (kp2.mono fun k hk=>by simp [hk])) r2⟩
theorem ml {n : Nat} {k : Nat} (hc : X.calm = true) (h : Ap X ts gs W) (hn : autoParam ((assignEach ts X.env).length = n) aI._auto_1) (hst : autoParam ((assignEach ts X.env).findIdx? (·.1) = none) aI._auto_1) : QG X (.Tuple ts k pos) (gu n gs) W :=
 uj (CF hc h hn hst) fun v σ H Q hq0=>by
  obtain ⟨F,R,σD,d,σD',r,ec,k⟩:=hq0;unfold gu at ec;split at ec
  ·rename_i xs
   split at ec
   ·rename_i hxn
    obtain ⟨a,vs,rfl,ft,hl,r1⟩:=r.openT;exact ⟨a,vs,rfl,ft.sq,by rw [<- hl]; exact hxn,F,R,σD,xs,σD',hl,r1,ec,k⟩
   ·cases ec
  ·cases ec
noncomputable def mf (c : DE) (g : DG) : DS:=fun σ=>(c σ).bind fun p=>(g p.1 p.2).map .nx
theorem xb {c : DE} (he : QE X e c) (hg : QG X tg g W) (hs : autoParam (swapsWithSole [tg] e pos.line X.env = pure false) aI._auto_1) (hw : autoParam (swappedStores [tg] e X.env = pure none) aI._auto_1)
  (h1 : autoParam ((assignEach [tg] X.env).map (·.2) = [assign tg X.env]) aI._auto_1) : QS X (.Assign [tg] e pos) (mf c g) W:=iQ (CB he hg hs hw h1) fun En σ H hq0=>by
 obtain ⟨F,R,σD,o,r,ec,k⟩:=hq0;unfold mf at ec
 revert ec
 refine bJ fun d σ1 h ec=>?_
 try dsimp only at ec
 revert ec
 refine lR fun σ2 h2 ec=>?_
 cases ec;refine ⟨F,R,σD,d,σ1,r,h,fun F1 H1 v x1 r1=>?_⟩;exact ⟨F1,R,σ1,d,σ2,r1,h2,fun F2 H2 σ3 x2 kp r2=>k F2 H2 σ3 (x1.trans x2) kp r2⟩
end
noncomputable def fD (g : DG) (b : DS) : List D -> aP -> Option Out
 | [],σ=>some (.nx σ)
 | x :: xs,σ=>(g x σ).bind fun σ1=>(b σ1).bind fun o=>match o with
  | .nx σ2=>fD g b xs σ2
  | .ct σ2=>fD g b xs σ2
  | .bk σ2=>some (.nx σ2)
  | .rt d σ2=>some (.rt d σ2)
noncomputable def jq (lo hi : Int) : List D:=(List.range (hi - lo).toNat).map fun (k : Nat)=>D.int (lo + k)
noncomputable def sI (i : Int) : Bool:=decide (-(2 ^ 62) <= i /\ i < 2 ^ 62)
section
variable {X : Cx} {e tg : Expr} {ts : List Expr} {g : DG} {c : DE} {s : DS} {pos : Pos} {W W' : List Nat} {body : List Stmt}
theorem AF {F0 F : Addr -> Prop} {H0 H : Hp} {R R0 : Ro} {σD : aP} {σ0 σ : St} {x : D} {v : V} {xs : List D} {En : lM} {N : St -> Hp -> Prop} {o : Out} (hR : ∀ F' H',Ext F H F' H' -> ∀ σD' σ' S,Rel X.K F' H' σD' σ' (S ++ R) -> Rel X.K F' H' σD' σ' (S ++ R0))
  (r : Rel X.K F H σD σ ((x,v) :: R)) (x0 : Ext F0 H0 F H) (kp : Kp (W ++ W') σ0 σ) (h : fD g s (x :: xs) σD = some o)
  (k : ∀ F' H' σ',Ext F0 H0 F' H' -> Kp (W ++ W') σ0 σ' -> Th X.K En R0 F' H' σ' o)
  (hN : ∀ F' H' σD' σ',Ext F H F' H' -> Kp (W ++ W') σ0 σ' -> Rel X.K F' H' σD' σ' R -> fD g s xs σD' = some o -> N σ' H') :
  rG X.K g W v σ H fun σ2 H2=>rS X.K s W' { En with nx:=N,ct:=N,bk:=En.nx } σ2 H2:=by
 simp only [fD] at h
 revert h
 refine bK fun σ1 h1 h=>?_
 revert h
 refine bK fun o1 h2 h=>?_
 refine ⟨F,R,σD,x,σ1,r,h1,fun F1 H1 σ2 x1 kp1 r1=>?_⟩;refine ⟨F1,R,σ1,o1,r1,h2,fun F2 H2 σ3 x2 kp2=>?_⟩;have kp3 : Kp (W ++ W') σ0 σ3:=(kp.trans (kp1.mono fun k hk=>by simp [hk])).trans (kp2.mono fun k hk=>by simp [hk]);cases o1 with
 | nx σ4=>exact fun r2=>hN F2 H2 σ4 σ3 (x1.trans x2) kp3 r2 h
 | ct σ4=>exact fun r2=>hN F2 H2 σ4 σ3 (x1.trans x2) kp3 r2 h
 | bk σ4 =>
  cases h;exact fun r2=>k F2 H2 σ3 (x0.trans (x1.trans x2)) kp3 (hR F2 H2 (x1.trans x2) _ _ [] r2)
 | rt d σ4 =>
  cases h;exact fun v r2=>k F2 H2 σ3 (x0.trans (x1.trans x2)) kp3 v (hR F2 H2 (x1.trans x2) _ _ [(d,v)] r2)
end
noncomputable abbrev GF:=List D -> Option (D × List D)
noncomputable def cT (K : PySem.W.Frag) (n : Nat) (g : GF) : Sp:=fun vs H Q _=>vs.length = n /\ ∃ F R ds r ds',ds.length = vs.length /\ G K F H (ds.zip vs ++ R) /\ g ds = some (r,ds') /\
 ∀ F' H' v,Ext F H F' H' -> ds'.length = vs.length -> G K F' H' ((r,v) :: (ds'.zip vs ++ R)) -> Q v H'
noncomputable def lT (W : List Nat) : Nat -> List D -> List D
 | _,[]=>[]
 | k,d :: ds=>(if k ∈ W then d.fz else d) :: lT W (k + 1) ds
noncomputable def gP (W : List Nat) (σ : aP) : Nat -> List D -> List D
 | _,[]=>[]
 | k,d :: ds=>(if k ∈ W then d.fz else (cx σ k).getD .hole) :: gP W σ (k + 1) ds
noncomputable def dl (N : Nat) (W : List Nat) (c : DS) : GF:=fun ds=>(c ((lT W 0 ds).map some ++ List.replicate (N - ds.length) none)).bind fun o=>match o with
 | .rt d σ=>some (d,gP W σ 0 ds)
 | .nx σ=>some (.non,gP W σ 0 ds)
 | _=>none
section
variable {K : PySem.W.Frag} {F F' : Addr -> Prop} {H H' : Hp}
noncomputable def nB (W : List Nat) : Nat -> List D -> List V -> Ro
 | k,d :: ds,v :: vs=>if k ∈ W then (d.fz,v) :: nB W (k + 1) ds vs else nB W (k + 1) ds vs
 | _,_,_=>[]
theorem o8 (W : List Nat) : ∀ (k : Nat) (ds : List D),(lT W k ds).length = ds.length
 | _,[]=>rfl
 | k,d :: ds=>by simp [lT,o8 W (k + 1) ds]
theorem j8 (W : List Nat) (σ : aP) : ∀ (k : Nat) (ds : List D),(gP W σ k ds).length = ds.length
 | _,[]=>rfl
 | k,d :: ds=>by simp [gP,j8 W σ (k + 1) ds]
theorem pull {α : Type} {x : α} {A B C : List α} : (A ++ (B ++ x :: C)).Perm (x :: (A ++ (B ++ C))):=((List.perm_middle (a:=x) (l₁:=B) (l₂:=C)).append_left A).trans List.perm_middle
theorem wE (W : List Nat) : ∀ {ds : List D} {vs : List V} {k : Nat} {F : Addr -> Prop} {R : Ro},ds.length = vs.length -> G K F H (ds.zip vs ++ R) -> ∃ F',Ext F H F' H /\ G K F' H ((lT W k ds).zip vs ++ (nB W k ds vs ++ R))
 | [],[],_,F,R,_,g=>⟨F,Ext.refl,g⟩
 | d :: ds,v :: vs,k,F,R,hl,g=>by
  have hl' : ds.length = vs.length:=by simpa using hl
  have g0 : G K F H ((d,v) :: (ds.zip vs ++ R)):=by simpa using g
  by_cases hk : k ∈ W
  ·obtain ⟨F1,x1,g1,o1⟩:=g0.freeze
   have g2 : G K F1 H (ds.zip vs ++ ((d.fz,v) :: (d.fz,v) :: R)):=(g1.push o1).perm (((List.perm_middle).symm.cons _).trans (List.perm_middle).symm);obtain ⟨F2,x2,g3⟩:=wE W (k:=k + 1) hl' g2;refine ⟨F2,x1.trans x2,?_⟩;simp only [lT,nB,hk,if_true,List.zip_cons_cons];exact g3.perm (pull.trans ((List.perm_middle.append_left _).cons _))
  ·obtain ⟨F2,x2,g3⟩:=wE W (k:=k + 1) (R:=(d,v) :: R) hl' (g0.perm (List.perm_middle.symm))
   refine ⟨F2,x2,?_⟩;simp only [lT,nB,hk,if_false,List.zip_cons_cons];exact g3.perm pull
theorem uA {σ : aP} {i j : Nat} {o : Option D} (h : i ≠ j) : cx (σ.set i o) j = cx σ j:=by
 unfold cx; rw [List.getElem?_set_ne h]
theorem sR (W : List Nat) {σ : aP} {o : Option D} {i : Nat} : ∀ {k : Nat} {ds : List D},i < k -> gP W (σ.set i o) k ds = gP W σ k ds
 | _,[],_=>rfl
 | k,d :: ds,h=>by simp only [gP]; rw [uA oM,sR W (k:=k + 1) oM]
theorem Ae (W : List Nat) {σ : St} : ∀ {ds : List D} {vs : List V} {k : Nat} {σD : aP} {R : Ro},ds.length = vs.length -> (∀ (j : Nat) v,vs[j]? = some v -> k + j ∉ W -> σ[k + j]? = some (some v)) ->
  Rel K F H σD σ (nB W k ds vs ++ R) -> ∃ σD2,Rel K F H σD2 σ ((gP W σD k ds).zip vs ++ R):=by
 intro ds
 induction ds with
 | nil =>
  intro vs k σD R hl hv r;cases vs with
  | nil=>exact ⟨σD,r⟩
  | cons _ _=>cases hl
 | cons d ds ih =>
  intro vs k σD R hl hv r;cases vs with
  | nil=>cases hl
  | cons v vs =>
   have hl' : ds.length = vs.length:=by simpa using hl
   have hv' : ∀ (j : Nat) u,vs[j]? = some u -> k + 1 + j ∉ W -> σ[k + 1 + j]? = some (some u):=fun j u e h=>by
    have q:=hv (j + 1) u (by simpa using e) (by rw [show k + (j + 1) = k + 1 + j by omega]; exact h);rw [show k + (j + 1) = k + 1 + j by omega] at q; exact q
   by_cases hk : k ∈ W
   ·simp only [nB,hk,if_true] at r
    obtain ⟨σ2,r2⟩:=ih (k:=k + 1) (R:=(d.fz,v) :: R) hl' hv' (r.perm List.perm_middle.symm);refine ⟨σ2,?_⟩;simp only [gP,hk,if_true,List.zip_cons_cons];exact r2.perm List.perm_middle
   ·simp only [nB,hk,if_false] at r
    have e0 : σ[k]? = some (some v):=by simpa using hv 0 v rfl (by simpa using hk)
    rcases hd : cx σD k with _ | dk
    ·have r1 : Rel K F H σD σ ((.hole,v) :: (nB W (k + 1) ds vs ++ R)):=r.push (by simp only [Ow])
     obtain ⟨σ2,r2⟩:=ih (k:=k + 1) (R:=(.hole,v) :: R) hl' hv' (r1.perm List.perm_middle.symm);refine ⟨σ2,?_⟩;simp only [gP,hk,if_false,List.zip_cons_cons,hd,Option.getD_none];exact r2.perm List.perm_middle
    ·obtain ⟨v',hv1,r1⟩:=r.take (bh hd)
     rw [e0] at hv1; cases hv1;obtain ⟨σ2,r2⟩:=ih (k:=k + 1) (R:=(dk,v) :: R) hl' hv' (r1.perm List.perm_middle.symm);refine ⟨σ2,?_⟩;simp only [gP,hk,if_false,List.zip_cons_cons,hd,Option.getD_some];rw [sR W (Nat.lt_succ_self k)] at r2;exact r2.perm List.perm_middle
theorem nU : ∀ {n : Nat} {σ : St},sl (List.replicate n none) σ = []
 | 0,σ=>by cases σ <;> rfl
 | n + 1,[]=>rfl
 | n + 1,o :: σ=>by rw [List.replicate_succ]; exact nU (n:=n) (σ:=σ)
theorem sy : ∀ {ds : List D} {vs : List V} {n : Nat},ds.length = vs.length -> sl (ds.map some ++ List.replicate n none) (vs.map some ++ List.replicate n none) = ds.zip vs
 | [],[],n,_=>by simpa using nU
 | d :: ds,v :: vs,n,h=>by
  show (d,v) :: sl (ds.map some ++ List.replicate n none) (vs.map some ++ List.replicate n none) = _;rw [sy (by simpa using h)]; rfl
theorem ql : ∀ {n : Nat},Mt (List.replicate n none) (List.replicate n none)
 | 0=>trivial
 | n + 1=>by rw [List.replicate_succ,List.replicate_succ]; exact ql (n:=n)
theorem sZ : ∀ {ds : List D} {vs : List V} {n : Nat},ds.length = vs.length -> Mt (ds.map some ++ List.replicate n none) (vs.map some ++ List.replicate n none)
 | [],[],n,_=>by simpa using ql
 | d :: ds,v :: vs,n,h=>sZ (ds:=ds) (vs:=vs) (n:=n) (by simpa using h)
end
section
variable {P : Program} {w : World} {K : PySem.W.Frag} {mg : Str -> Option Value} {base : Heap}
theorem cD {x qual : Str} {st : Stmt} {f : Addr} {fd : FuncData} {N ps : List Str} {k : Nat} {W : List Nat} {c : DS} (F : Fun K x qual st f fd) (S : aZ N ps (aK st)) (hnp : ps.length <= N.length)
  (hbody : ∀ (cdv : Value) (A : Around) (outer : List Env) (s : Shared) (H : Hp) (E : XK),Room k (A.deeper (envOfC qual (aK st) s.heap.objs.size f cdv)) ->
   nH (n9 cP P w K mg base N qual (aK st) f cdv A outer s H E).nox (iC st) c W) :
  bR P w K mg base cP (k + 1) f fd ps (cT K ps.length (dl N.length W c)):=by
 refine F.ok S (fun vs H Q E h=>h.1) (fun cdv A outer s H vs Q E hr h=>?_);obtain ⟨hlen,F0,R,ds,r,ds',hl,g,eg,kk⟩:=h;refine ⟨_,hbody cdv A outer s H E hr,?_⟩;show rS K c W _ _ _;unfold dl at eg;obtain ⟨F1,x1,g1⟩:=wE W (k:=0) hl g;have hl2 : (lT W 0 ds).length = vs.length:=by rw [o8]; exact hl
 have est : L2.start N vs = vs.map some ++ List.replicate (N.length - ds.length) none:=by unfold L2.start; rw [hl]
 have r0 : Rel K F1 H ((lT W 0 ds).map some ++ List.replicate (N.length - ds.length) none) (L2.start N vs) (nB W 0 ds vs ++ R):=by
  rw [est];exact ⟨sZ hl2,by rw [sy hl2]; exact g1⟩
 revert eg
 refine bK fun o h eg=>?_
 refine ⟨F1,_,_,o,r0,h,fun F2 H2 σ2 x2 kp=>?_⟩;have hv : ∀ (j : Nat) v,vs[j]? = some v -> 0 + j ∉ W -> σ2[0 + j]? = some (some v):=fun j v e hj=>by
  rw [kp (0 + j) hj,Nat.zero_add,est];have hjl : j < vs.length:=(List.getElem?_eq_some_iff.mp e).1;rw [List.getElem?_append_left (by simpa using hjl)];simp [e]
 cases o with
 | nx σ3 =>
  cases eg;intro r3;obtain ⟨σ4,r4⟩:=Ae W (k:=0) hl hv r3;exact kk F2 H2 .non (x1.trans x2) (by rw [j8]; exact hl) ((r4.scal (d:=.non) (w:=.non) rfl).g.popN)
 | rt d σ3 =>
  cases eg;intro v r3;obtain ⟨σ4,r4⟩:=Ae W (k:=0) (R:=(_,v) :: R) hl hv (r3.perm List.perm_middle.symm);exact kk F2 H2 v (x1.trans x2) (by rw [j8]; exact hl) ((r4.perm List.perm_middle).g.popN)
 | bk σ3=>cases eg
 | ct σ3=>cases eg
end
inductive Arg where
 | bo (i : Nat) | ex (c : DE)
noncomputable def pb : List Arg -> aP -> Option (List (Option D) × aP)
 | [],σ=>some ([],σ)
 | .bo i :: as,σ=>(cx σ i).bind fun _=>(pb as σ).map fun p=>(none :: p.1,p.2)
 | .ex c :: as,σ=>(c σ).bind fun q=>(pb as q.2).map fun p=>(some q.1 :: p.1,p.2)
noncomputable def gL : List Arg -> List (Option D) -> aP -> Option (List D × aP)
 | .bo i :: as,none :: os,σ=>(cx σ i).bind fun d=>match d.sc with
  | some _=>(gL as os σ).map fun p=>(d :: p.1,p.2)
  | none=>(gL as os (σ.set i none)).map fun p=>(d :: p.1,p.2)
 | .ex _ :: as,some d :: os,σ=>(gL as os σ).map fun p=>(d :: p.1,p.2)
 | [],[],σ=>some ([],σ)
 | _,_,_=>none
noncomputable def gO : List Arg -> List D -> aP -> aP
 | .bo i :: as,d :: ds,σ=>match d.sc with
  | some _=>gO as ds σ
  | none=>gO as ds (σ.set i (some d))
 | .ex _ :: as,_ :: ds,σ=>gO as ds σ
 | _,_,σ=>σ
noncomputable def aR (g : GF) (as : List Arg) : DE:=fun σ=>(pb as σ).bind fun p=>(gL as p.1 p.2).bind fun q=>(g q.1).map fun r=>(r.1,gO as r.2 q.2)
noncomputable def OkM : List Arg -> List (Option D) -> List V -> St -> Prop
 | .bo i :: as,none :: os,v :: vs,σ=>σ[i]? = some (some v) /\ OkM as os vs σ
 | .ex _ :: as,some _ :: os,_ :: vs,σ=>OkM as os vs σ
 | [],[],[],_=>True
 | _,_,_,_=>False
noncomputable def tz : List (Option D) -> List V -> Ro
 | none :: os,_ :: vs=>tz os vs
 | some d :: os,v :: vs=>(d,v) :: tz os vs
 | _,_=>[]
noncomputable def rM (K : PySem.W.Frag) (as : List Arg) : TA:=fun σ H Q=>∃ F R σD os σD',Rel K F H σD σ R /\ pb as σD = some (os,σD') /\ ∀ F' H' vs,Ext F H F' H' -> OkM as os vs σ -> Rel K F' H' σD' σ (tz os vs ++ R) -> Q vs H'
noncomputable def QM (X : Cx) (es : List Expr) (as : List Arg) : Prop:=PA X es (rM X.K as)
section
variable {X : Cx} {e : Expr} {es : List Expr} {as : List Arg} {c : DE}
theorem aJ : QM X [] []:=jN eY fun σ H Q hq0=>by
 obtain ⟨F,R,σD,os,σD',r,ec,k⟩:=hq0;cases ec; exact k F H [] Ext.refl trivial r
theorem bO (ha : QE X e c) (hr : QM X es as) (hs : autoParam (starEach (e :: es) X.env = (false,eval e X.env) :: starEach es X.env) aI._auto_1) : QM X (e :: es) (.ex c :: as):=jN (dF ha hr hs) fun σ H Q hq0=>by
 obtain ⟨F,R,σD,os,σD',r,ec,k⟩:=hq0;simp only [pb] at ec
 revert ec
 refine bJ fun x σ1 h1 ec=>?_
 try dsimp only at ec
 obtain ⟨⟨os2,σ2⟩,e2,e3⟩:=cn ec;cases e3;refine ⟨F,R,σD,x,σ1,r,h1,fun F1 H1 v x1 r1=>?_⟩;refine ⟨F1,_,σ1,os2,σ2,r1,e2,fun F2 H2 vs x2 ok r2=>?_⟩;exact k F2 H2 (v :: vs) (x1.trans x2) ok (r2.perm List.perm_middle)
theorem aM (i : Nat) {x : Str} {pos : Pos} (hr : QM X es as) (hN : autoParam (X.N[i]? = some x) aI._auto_1) (hv : autoParam (mI X.env.scope x) rH._auto_1) (hd : autoParam ((x == ("__debug__" : Str)) = false) cR._auto_1)
  (hcd : autoParam ((x == ("__classdict__" : Str)) = false) cR._auto_1) (hs : autoParam (starEach (.Name x pos :: es) X.env = (false,eval (.Name x pos) X.env) :: starEach es X.env) aI._auto_1) : QM X (.Name x pos :: es) (.bo i :: as) :=
 jN (dF (iJ hN hv hd hcd) hr hs) fun σ H Q hq0=>by
  obtain ⟨F,R,σD,os,σD',r,ec,k⟩:=hq0;simp only [pb] at ec
  revert ec
  refine bK fun d h1 ec=>?_
  obtain ⟨⟨os2,σ2⟩,e2,e3⟩:=cn ec;cases e3;obtain ⟨v,hv,b⟩:=r.get (bh h1);refine ⟨v,hv,F,R,σD,os2,σ2,r,e2,fun F2 H2 vs x2 ok r2=>?_⟩;exact k F2 H2 (v :: vs) x2 ⟨hv,ok⟩ r2
variable {K : PySem.W.Frag} {F F' : Addr -> Prop} {H H' : Hp}
theorem BO : ∀ {as : List Arg} {os : List (Option D)} {vs : List V} {σ : St} {σD : aP} {R : Ro} {ds : List D} {σD' : aP},OkM as os vs σ -> gL as os σD = some (ds,σD') -> Rel K F H σD σ (tz os vs ++ R) ->
  ds.length = vs.length /\ Rel K F H σD' σ (ds.zip vs ++ R):=by
 intro as
 induction as with
 | nil =>
  intro os vs σ σD R ds σD' ok e r;cases os with
  | nil=>cases vs with
   | nil=>simp only [gL] at e; cases e; exact ⟨rfl,r⟩
   | cons _ _=>exact ok.elim
  | cons _ _=>exact ok.elim
 | cons a as ih =>
  intro os vs σ σD R ds σD' ok e r;cases os with
  | nil=>cases a <;> exact ok.elim
  | cons o os=>cases vs with
   | nil=>cases a <;> cases o <;> exact ok.elim
   | cons v vs=>cases a with
    | bo i=>cases o with
     | some _=>exact ok.elim
     | none =>
      obtain ⟨hv,ok⟩:=ok;simp only [gL] at e;rcases h1 : cx σD i with _ | d
      ·rw [h1] at e; cases e
      ·rw [h1] at e; simp only [bind_some] at e
       obtain ⟨v',hv1,r1⟩:=r.take (bh h1);rw [hv] at hv1; cases hv1;rcases hs : d.sc with _ | wv
       ·rw [hs] at e
        obtain ⟨⟨ds2,σ2⟩,e2,e3⟩:=cn e;cases e3;obtain ⟨l,r2⟩:=ih (R:=(d,v) :: R) ok e2 (r1.perm List.perm_middle.symm);exact ⟨by simp [l],r2.perm List.perm_middle⟩
       ·rw [hs] at e
        obtain ⟨⟨ds2,σ2⟩,e2,e3⟩:=cn e;cases e3;have ev : v = wv:=(r1.bor (by simp)).sc hs;subst ev;obtain ⟨l,r2⟩:=ih (R:=R) ok e2 r;exact ⟨by simp [l],r2.scal hs⟩
    | ex _=>cases o with
     | none=>exact ok.elim
     | some d =>
      simp only [gL] at e;obtain ⟨⟨ds2,σ2⟩,e2,e3⟩:=cn e;cases e3;obtain ⟨l,r2⟩:=ih (os:=os) (vs:=vs) (R:=(d,v) :: R) ok e2 (r.perm (List.perm_middle (l₁:=tz os vs)).symm);exact ⟨by simp [l],r2.perm List.perm_middle⟩
theorem BU : ∀ {as : List Arg} {os : List (Option D)} {vs : List V} {σ : St} {σD : aP} {R : Ro} {ds : List D},OkM as os vs σ -> ds.length = vs.length -> Rel K F H σD σ (ds.zip vs ++ R) -> Rel K F H (gO as ds σD) σ R:=by
 intro as
 induction as with
 | nil =>
  intro os vs σ σD R ds ok l r;cases os with
  | nil=>cases vs with
   | nil=>cases ds with
    | nil=>exact r
    | cons _ _=>cases l
   | cons _ _=>exact ok.elim
  | cons _ _=>exact ok.elim
 | cons a as ih =>
  intro os vs σ σD R ds ok l r;cases os with
  | nil=>cases a <;> exact ok.elim
  | cons o os=>cases vs with
   | nil=>cases a <;> cases o <;> exact ok.elim
   | cons v vs=>cases ds with
    | nil=>cases l
    | cons d ds =>
     have l' : ds.length = vs.length:=by simpa using l
     cases a with
     | bo i=>cases o with
      | some _=>exact ok.elim
      | none =>
       obtain ⟨hv,ok⟩:=ok;simp only [gO];rcases hs : d.sc with _ | wv
       ·exact ih ok l' (Rel.put (R:=ds.zip vs ++ R) r hv)
       ·exact ih ok l' (Rel.pop (R:=ds.zip vs ++ R) r)
     | ex _=>cases o with
      | none=>exact ok.elim
      | some d'=>exact ih (os:=os) ok l' (Rel.pop (R:=ds.zip vs ++ R) r)
theorem OkM.length : ∀ {as : List Arg} {os : List (Option D)} {vs : List V} {σ : St},OkM as os vs σ -> vs.length = as.length:=by
 intro as
 induction as with
 | nil =>
  intro os vs σ ok;cases os with
  | nil=>cases vs with
   | nil=>rfl
   | cons _ _=>exact ok.elim
  | cons _ _=>exact ok.elim
 | cons a as ih =>
  intro os vs σ ok;cases os with
  | nil=>cases a <;> exact ok.elim
  | cons o os=>cases vs with
   | nil=>cases a <;> cases o <;> exact ok.elim
   | cons v vs=>cases a with
    | bo i=>cases o with
     | some _=>exact ok.elim
     | none=>exact congrArg (· + 1) (ih (os:=os) (vs:=vs) ok.2)
    | ex _=>cases o with
     | none=>exact ok.elim
     | some _=>exact congrArg (· + 1) (ih (os:=os) (vs:=vs) (σ:=σ) ok)
theorem Eb {n : Nat} {g : GF} {E : XK} {σ : St} {H : Hp} {Q : VK} (hn : as.length = n) (h : rE K (aR g as) σ H Q) : zX (cT K n g) [] E (rM K as) σ H Q:=by
 obtain ⟨F,R,σD,d,σD',r,ec,k⟩:=h;unfold aR at ec
 revert ec
 refine bJ fun os σ1 h1 ec=>?_
 try dsimp only at ec
 revert ec
 refine bJ fun ds σ2 h2 ec=>?_
 try dsimp only at ec
 obtain ⟨⟨d',ds'⟩,e2,e3⟩:=cn ec;cases e3;refine ⟨F,R,σD,os,σ1,r,h1,fun F1 H1 vs x1 ok r1=>?_⟩;obtain ⟨l,r2⟩:=BO ok h2 r1;have lv : vs.length = n:=by rw [<- hn]; exact ok.length
 refine ⟨by simpa using lv,F1,sl σ2 σ ++ R,ds,_,ds',by simpa using l,?_,e2,fun F2 H2 v x2 l2 g2=>?_⟩
 ·rw [List.append_nil]
  exact r2.g.perm (by rw [<- List.append_assoc,<- List.append_assoc]; exact List.perm_append_comm.append_right R)
 ·refine k F2 H2 v (x1.trans x2) ?_
  rw [List.append_nil] at l2 g2;refine BU (R:=(_,v) :: R) ok l2 ⟨r2.mt,g2.perm ?_⟩;exact ((pull (x:=(_,v)) (A:=sl σ2 σ) (B:=ds'.zip vs) (C:=R)).trans ((List.perm_append_comm_assoc _ _ _).cons _)).symm
theorem ax {k : Nat} {f : Addr} {fd : FuncData} {ps : List Str} {g : GF} {x : Str} {p pos : Pos} (F : bR X.prog X.w X.K X.mg X.base cP k f fd ps (cT X.K ps.length g)) (hr : Room k X.A) (hg : Gl X x) (hm : X.mg x = some (.ref f)) (hk : keepIn X.K (.ref f) = true) (hb : Binds X.K fd ps [])
  (ha : QM X (e :: es) as) (hn : autoParam (as.length = ps.length) aI._auto_1) (hdb : autoParam ((x == ("__debug__" : Str)) = false) cR._auto_1) (he : autoParam (starEach (e :: es) X.env = (false,eval e X.env) :: starEach es X.env) aI._auto_1) (hpl : autoParam ((backTo pos (starEach es X.env)).any (·.1) = false) aI._auto_1) :
  QE X (.Call (.Name x p) (e :: es) [] pos) (aR g as):=bc (Ba (E:=E0) F hr hg hm hk hb .nil Em ha hdb he hpl) fun _ _ _ h=>Eb hn h
end
end DD
namespace L2
open PySem PySem.Spec PyProof.Rows
theorem pA : ∀ (names : List (Str × NameKind)) (n : Nat) (acc : List (Str × Addr)),∃ own,cellsFrom n names acc = own ++ acc /\ (∀ p ∈ own,n <= p.2 /\ (p.1,NameKind.cell) ∈ names) /\
  (∀ x,(x,NameKind.cell) ∈ names -> ∃ c,(x,c) ∈ own) /\ own.Pairwise fun x y=>x.2 ≠ y.2
 | [],n,acc=>⟨[],rfl,(fun _ h=>by cases h),(fun _ h=>by cases h),List.Pairwise.nil⟩
 | (name,kind) :: r,n,acc=>by
  unfold cellsFrom;by_cases hk : kind = .cell
  ·subst hk
   obtain ⟨own,e,h1,h2,h3⟩:=pA r (n + 1) ((name,n) :: acc);refine ⟨own ++ [(name,n)],?_,?_,?_,?_⟩
   ·rw [if_pos dC,e,List.append_assoc]; rfl
   ·intro p hp
    rcases List.mem_append.mp hp with hp | hp
    ·exact ⟨Nat.le_of_succ_le (h1 p hp).1,List.mem_cons_of_mem _ (h1 p hp).2⟩
    ·rw [List.mem_singleton.mp hp]; exact ⟨Nat.le_refl _,List.mem_cons_self⟩
   ·intro x hx
    rcases List.mem_cons.mp hx with hx | hx
    ·cases hx; exact ⟨n,List.mem_append_right _ List.mem_cons_self⟩
    ·obtain ⟨c,hc⟩:=h2 x hx; exact ⟨c,List.mem_append_left _ hc⟩
   ·refine List.pairwise_append.mpr ⟨h3,List.pairwise_singleton _ _,fun a ha b hb e=>?_⟩
    rw [List.mem_singleton.mp hb] at e;have h5:=(h1 a ha).1;rw [show a.2 = n from e] at h5;exact absurd h5 (Nat.not_succ_le_self n)
  ·obtain ⟨own,e,h1,h2,h3⟩:=pA r n acc
   have hk' : (kind == NameKind.cell) = false:=by cases kind <;> first | rfl | exact absurd rfl hk
   refine ⟨own,by rw [hk']; exact e,fun p hp=>⟨(h1 p hp).1,List.mem_cons_of_mem _ (h1 p hp).2⟩,fun x hx=>?_,h3⟩;rcases List.mem_cons.mp hx with hx | hx
   ·cases hx; exact absurd rfl hk
   ·exact h2 x hx
theorem px {scope : Scope} {env : Env} (h : ∀ x,(x,NameKind.free) ∈ scope.names -> ∃ c,env.cells.lookup x = some c) :
  ∃ cl,closureFor scope env = pure cl /\ (∀ p ∈ cl,env.cells.lookup p.1 = some p.2) /\ ∀ x,(x,NameKind.free) ∈ scope.names -> ∃ c,(x,c) ∈ cl:=by
 have all : ∀ (names : List (Str × NameKind)) (acc : List (Str × Addr)),(∀ x,(x,NameKind.free) ∈ names -> ∃ c,env.cells.lookup x = some c) -> (∀ p ∈ acc,env.cells.lookup p.1 = some p.2) ->
   ∃ cl,(forIn (m:=Sem) names acc fun (p : Str × NameKind) (cs : List (Str × Addr))=>if (p.2 == NameKind.free) = true then do let __do_lift <- cellOf env p.1; pure (ForInStep.yield ((p.1,__do_lift) :: cs)) else pure (ForInStep.yield cs)) = pure cl /\
    (∀ p ∈ cl,env.cells.lookup p.1 = some p.2) /\ (∀ p ∈ acc,p ∈ cl) /\ ∀ x,(x,NameKind.free) ∈ names -> ∃ c,(x,c) ∈ cl:=by
  intro names
  induction names with
  | nil=>intro acc _ ha; exact ⟨acc,by rw [List.forIn_nil],ha,fun _ h=>h,(fun _ h=>by cases h)⟩
  | cons p r ih =>
   obtain ⟨name,kind⟩:=p;intro acc hn ha;by_cases hk : kind = .free
   ·subst hk
    obtain ⟨c,hc⟩:=hn name List.mem_cons_self;obtain ⟨cl,e,h1,h2,h3⟩:=ih ((name,c) :: acc) (fun x hx=>hn x (List.mem_cons_of_mem _ hx)) (fun p hp=>by
     rcases List.mem_cons.mp hp with rfl | hp
     ·exact hc
     ·exact ha p hp)
    refine ⟨cl,?_,h1,fun p hp=>h2 p (List.mem_cons_of_mem _ hp),fun x hx=>?_⟩
    ·rw [List.forIn_cons]
     have ec : cellOf env name = pure c:=by unfold cellOf; rw [hc]
     simp only [ec];exact e
    ·rcases List.mem_cons.mp hx with hx | hx
     ·cases hx; exact ⟨c,h2 _ List.mem_cons_self⟩
     ·exact h3 x hx
   ·obtain ⟨cl,e,h1,h2,h3⟩:=ih acc (fun x hx=>hn x (List.mem_cons_of_mem _ hx)) ha
    have hk' : (kind == NameKind.free) = false:=by cases kind <;> first | rfl | exact absurd rfl hk
    refine ⟨cl,?_,h1,h2,fun x hx=>?_⟩
    ·rw [List.forIn_cons]; simp only [hk',Bool.false_eq_true,if_false]; exact e
    ·rcases List.mem_cons.mp hx with hx | hx
     ·cases hx; exact absurd rfl hk
     ·exact h3 x hx
 obtain ⟨cl,e,h1,_,h3⟩:=all scope.names [] h (fun _ h=>by cases h);refine ⟨cl,?_,h1,h3⟩;simp only [closureFor];rw [e];rfl
theorem zh {M : Model} {A : Around} {E : Value -> Shared -> Prop} {s : Shared} {scope : Scope} {env : Env} {cl : List (Str × Addr)} {Q : Env -> Shared -> Prop}
  (hQ : Q (newEnv scope s.heap.objs.size env.globals (cellsFrom (s.heap.objs.size + 1) scope.names cl) env.qual none .none (some env) builtinsNs) { s with heap:=pushCells (s.heap.push { cls:=.type "dict",data:=.dict #[] }) scope.names }) :
  wpAny M A (newFunctionEnv scope env.globals cl [] env.qual none .none (some env)) Q E s:=by
 simp only [newFunctionEnv,Option.isSome_some,if_true];refine wpAny_bind (wpAny_alloc ?_);refine wpAny_bind (wpAny_layCells _ (fun name kind cells=>by cases hkc : kind == NameKind.cell <;> simp [hkc]) _ _ _ _ ?_);rw [show ({ s with heap:=s.heap.push { cls:=.type "dict",data:=.dict #[] } } : Shared).heap.objs.size = s.heap.objs.size + 1 from Heap.size_push ..];refine wpAny_bind ?_;rw [List.forIn_nil];exact wpAny_pure (wpAny_pure hQ)
noncomputable def cV (X : Cx) (N' : List Str) (scope : Scope) (cl : List (Str × Addr)) (s : Shared) (H : Hp) (fp : List Addr) (aa : List (Addr × Obj)) : Cx :=
 { X with N:=N',s₀:=s,H₀:=H,env:=compEnvC scope (cellsFrom (s.heap.objs.size + 1) scope.names cl) s.heap.objs.size X.env,outer:=X.stack,stack:=X.stack,ex:=fp,
          fn:=fun x=>scope.names.lookup x == some .cell,pn:=X.pn ++ aa,xe:=fun _ _=>False }
structure mN (X : Cx) (N' : List Str) (scope : Scope) : Prop where
 kind : scope.kind = .function
 nd : (scope.names.map (·.1)).Nodup
 len : X.N.length <= N'.length
 free : ∀ x,(x,NameKind.free) ∈ scope.names -> X.env.kindOf x = some .cell \/ X.env.kindOf x = some .free
 same : ∀ i x,i < X.N.length -> N'[i]? = some x -> (x,NameKind.free) ∈ scope.names -> X.N[i]? = some x
 hid : ∀ i x,i < X.N.length -> N'[i]? = some x -> (∃ k,(x,k) ∈ scope.names) -> (x,NameKind.free) ∈ scope.names
theorem fB {α : Type} : ∀ {l : List (Str × α)} {x : Str} {k : α},(l.map (·.1)).Nodup -> (x,k) ∈ l -> l.lookup x = some k
 | (y,j) :: r,x,k,nd,h=>by
  rw [List.map_cons,List.nodup_cons] at nd;rcases List.mem_cons.mp h with h | h
  ·cases h; rw [List.lookup_cons]; simp
  ·have ne : x ≠ y:=fun e=>nd.1 (e ▸ List.mem_map_of_mem (f:=(·.1)) h)
   rw [List.lookup_cons];have : (x == y) = false:=by simpa using ne
   rw [this];exact fB nd.2 h
theorem iK {α : Type} : ∀ {l : List (Str × α)} {x : Str} {k : α},(x,k) ∈ l -> ∃ k',l.lookup x = some k'
 | (y,j) :: r,x,k,h=>by
  rw [List.lookup_cons];cases hb : x == y with
  | true=>exact ⟨j,rfl⟩
  | false =>
   rcases List.mem_cons.mp h with h | h
   ·cases h; simp at hb
   ·exact iK h
theorem iE {scope : Scope} {env : Env} {x : Str} {k : NameKind} (h : (relabel scope env).names.lookup x = some k) : (x,k) ∈ scope.names \/ ((x,NameKind.free) ∈ scope.names /\ k = .cell):=by
 have h1:=mem_of_lookup h;unfold relabel at h1;obtain ⟨⟨n,j⟩,hm,e⟩:=List.mem_map.mp h1;dsimp only at e;split at e
 ·rename_i hc
  cases e;refine .inr ⟨?_,rfl⟩;have : j = .free:=by
   cases j <;> simp at hc <;> rfl
  subst this; exact hm
 ·cases e; exact .inl hm
theorem rW {α : Type} {a b : List (Str × α)} {x : Str} (h : ∀ p ∈ a,p.1 ≠ x) : (a ++ b).lookup x = b.lookup x:=by
 induction a with
 | nil=>rfl
 | cons p r ih =>
  obtain ⟨y,j⟩:=p;rw [List.cons_append,List.lookup_cons];have : (x == y) = false:=by
   have:=h (y,j) List.mem_cons_self
   simpa using fun e : x = y=>this e.symm
  rw [this];exact ih fun p hp=>h p (List.mem_cons_of_mem _ hp)
section
variable {X : Cx} {N' : List Str} {scope : Scope} {cl : List (Str × Addr)} {s : Shared} {H : Hp} {fp : List Addr} {aa : List (Addr × Obj)} {σ : St}
theorem zM (T : mN X N' scope) (I : Inv X aa σ H s) (hcl : ∀ p ∈ cl,X.env.cells.lookup p.1 = some p.2) (hfr : ∀ x,(x,NameKind.free) ∈ scope.names -> ∃ c,(x,c) ∈ cl)
  (hf : ∀ b ∈ fp,gm X aa H b) (ho : ∀ b ∈ fp,∃ o,s.heap.get? b = some o) :
  Inv (cV X N' scope cl s H fp aa) [] (σ ++ List.replicate (N'.length - X.N.length) none) H { s with heap:=pushCells (s.heap.push { cls:=.type "dict",data:=.dict #[] }) scope.names }:=by
 obtain ⟨own,eo,o1,o2,o3⟩:=pA scope.names (s.heap.objs.size + 1) cl;have keep : ∀ b o,s.heap.get? b = some o -> (pushCells (s.heap.push { cls:=.type "dict",data:=.dict #[] }) scope.names).get? b = some o:=fun b o e=>pushCells_keeps _ _ b o (Heap.get?_push_of_some _ e)
 have clt : ∀ x c,(x,c) ∈ cl -> c < s.heap.objs.size:=fun x c h=>by
  obtain ⟨v,z⟩:=I.cell x c (hcl _ h);exact z.lt
 -- what a cell of the block is
 have cases_ : ∀ x c,(own ++ cl).lookup x = some c -> (s.heap.objs.size + 1 <= c /\ (x,c) ∈ own) \/ X.env.cells.lookup x = some c:=fun x c h=>by
  rcases List.mem_append.mp (mem_of_lookup h) with h | h
  ·exact .inl ⟨(o1 _ h).1,h⟩
  ·exact .inr (hcl _ h)
 have hst : ∀ b ∈ fp,b ∉ kH X.stack:=fun b hb z=>by
  rcases List.mem_cons.mp (I.stkSub b z) with e | e
  ·exact (hf b hb).2.1 e
  ·exact (hf b hb).2.2.1 e
 have okc : CellsOk (pushCells (s.heap.push { cls:=.type "dict",data:=.dict #[] }) scope.names) (s.heap.objs.size + 1) (cellsFrom (s.heap.objs.size + 1) scope.names []):=by
  have q:=cellsFrom_ok scope.names (s.heap.push { cls:=.type "dict",data:=.dict #[] }) (s.heap.objs.size + 1) [] ⟨(fun _ _ hm=>by cases hm),List.Pairwise.nil⟩ (by rw [Heap.size_push]; exact Nat.le_refl _);rw [Heap.size_push] at q;exact q
 have eown : cellsFrom (s.heap.objs.size + 1) scope.names [] = own:=by
  obtain ⟨own',e',_⟩:=pA scope.names (s.heap.objs.size + 1) [];have gen : ∀ (names : List (Str × NameKind)) (n : Nat) (acc : List (Str × Addr)),cellsFrom n names acc = cellsFrom n names [] ++ acc:=by
   intro names
   induction names with
   | nil=>intro n acc; rfl
   | cons p r ih =>
    obtain ⟨name,kind⟩:=p;intro n acc;unfold cellsFrom;split
    ·rw [ih (n + 1) ((name,n) :: acc),ih (n + 1) [(name,n)],List.append_assoc]; rfl
    ·exact ih n acc
  have:=gen scope.names (s.heap.objs.size + 1) cl
  rw [eo] at this;exact (List.append_cancel_right this).symm
 have ok : (cV X N' scope cl s H fp aa).Ok:=by
  refine ⟨I.ok.mod,T.kind,I.ok.glob,I.ok.blt,Nat.le_refl _,fun x y c h1 h2=>?_,fun x h=>?_,fun x c h1 h2=>?_,I.ok.hd,I.ok.frames,.inl rfl,fun b hb=>⟨?_,fun x c h=>?_⟩,I.bs,Nat.le_trans I.ok.bsz I.sz,fun b o e hb=>?_,hst,I.stack,I.stkFree⟩
  ·have h1 : (own ++ cl).lookup x = some c:=eo ▸ h1
   have h2 : (own ++ cl).lookup y = some c:=eo ▸ h2;rcases cases_ x c h1 with ⟨l1,m1⟩ | e1
   ·rcases cases_ y c h2 with ⟨l2,m2⟩ | e2
    ·exact name_of_addr o3 m1 m2
    ·obtain ⟨v,z⟩:=I.cell y c e2
     exact absurd (Nat.lt_of_lt_of_le z.lt (Nat.le_of_succ_le (by first | exact l2 | exact l1))) (Nat.lt_irrefl _)
   ·rcases cases_ y c h2 with ⟨l2,m2⟩ | e2
    ·obtain ⟨v,z⟩:=I.cell x c e1
     exact absurd (Nat.lt_of_lt_of_le z.lt (Nat.le_of_succ_le (by first | exact l2 | exact l1))) (Nat.lt_irrefl _)
    ·exact I.ok.inj x y c e1 e2
  ·show ∃ c,(cellsFrom (s.heap.objs.size + 1) scope.names cl).lookup x = some c
   rw [eo];have fromFree : (x,NameKind.free) ∈ scope.names -> ∃ c,(own ++ cl).lookup x = some c:=fun hm=>by
    obtain ⟨c,hc⟩:=hfr x hm;exact iK (List.mem_append_right own hc)
   have fromCell : (x,NameKind.cell) ∈ scope.names -> ∃ c,(own ++ cl).lookup x = some c:=fun hm=>by
    obtain ⟨c,hc⟩:=o2 x hm;exact iK (List.mem_append_left cl hc)
   rcases h with h | h
   ·rcases iE h with h | ⟨h,_⟩
    ·exact fromCell h
    ·exact fromFree h
   ·rcases iE h with h | ⟨h,e⟩
    ·exact fromFree h
    ·cases e
  ·have h2 : (own ++ cl).lookup x = some c:=eo ▸ h2
   have hc : scope.names.lookup x = some .cell:=by
    have : (scope.names.lookup x == some NameKind.cell) = true:=h1;simpa using this
   rcases cases_ x c h2 with ⟨l1,m1⟩ | e1
   ·exact Nat.le_of_succ_le l1
   ·-- x is one of the block's own: its cell stands ahead
    obtain ⟨c',hc'⟩:=o2 x (mem_of_lookup hc);obtain ⟨c2,hc2⟩:=iK hc';have : (own ++ cl).lookup x = some c2:=by
     have gen : ∀ l : List (Str × Addr),l.lookup x = some c2 -> (l ++ cl).lookup x = some c2:=by
      intro l
      induction l with
      | nil=>intro h; cases h
      | cons p r ih =>
       obtain ⟨y,j⟩:=p;intro h;rw [List.cons_append,List.lookup_cons];rw [List.lookup_cons] at h;cases hb : x == y with
       | true=>rw [hb] at h; exact h
       | false=>rw [hb] at h; exact ih h
     exact gen own hc2
    rw [this] at h2;cases h2;exact Nat.le_of_succ_le (o1 _ (mem_of_lookup hc2)).1
  ·obtain ⟨o,e⟩:=ho b hb
   exact Nat.ne_of_lt (Heap.lt_size e)
  ·have h : (own ++ cl).lookup x = some c:=eo ▸ h
   obtain ⟨o,e⟩:=ho b hb;have hlt:=Heap.lt_size e;rcases cases_ x c h with ⟨l1,m1⟩ | e1
   ·intro z
    rw [z] at l1;exact absurd (Nat.lt_of_lt_of_le hlt (Nat.le_of_succ_le l1)) (Nat.lt_irrefl _)
   ·exact (hf b hb).2.2.2.2.1 x c e1
  ·rcases (hf b hb).2.2.2.1 with z | z
   ·exact I.ok.noex b o e z
   ·exact absurd (Nat.lt_of_lt_of_le (Heap.lt_size e) (Nat.le_trans I.ok.bsz z)) (Nat.lt_irrefl _)
 refine ⟨ok,rfl,I.bare,Un.kept keep,⟨fun _=>none,(Heap.Ns.new s.heap (.type "dict")).keeps (pushCells_keeps _ _),fun i x v e1 e2 e3=>?_⟩,fun x c h=>?_,I.hok.fresh (Nat.le_refl _),fun x c h=>?_,fun p hp=>?_,I.hok.kept keep,?_⟩
 ·-- a name of the code around
  have hlen:=I.len;have hi : i < σ.length:=by
   rcases Nat.lt_or_ge i σ.length with h | h
   ·exact h
   ·rw [List.getElem?_append_right h] at e2
    rw [List.getElem?_replicate] at e2;split at e2 <;> cases e2
  rw [List.getElem?_append_left hi] at e2;have hmem : ∃ k,(x,k) ∈ scope.names:=by
   have : ∃ k,(relabel scope X.env).names.lookup x = some k:=by
    rcases e3 with h | h | h <;> exact ⟨_,h⟩
   obtain ⟨k,h⟩:=this;rcases iE h with h | ⟨h,_⟩ <;> exact ⟨_,h⟩
  have hfree:=T.hid i x oM e1 hmem;have eX:=T.same i x oM e1 hfree;have kX:=T.free x hfree;obtain ⟨m,hn,hl⟩:=I.loc;obtain ⟨u,ru,lk⟩:=hl i x v eX e2 (by rcases kX with h | h; exact .inr (.inl h); exact .inr (.inr h));refine ⟨u,ru,.inr ⟨?_,?_⟩⟩
  ·-- its kind in the block
   have : ∃ k,(relabel scope X.env).names.lookup x = some k:=by
    rcases e3 with h | h | h <;> exact ⟨_,h⟩
   obtain ⟨k,h⟩:=this;rcases iE h with h' | ⟨h',e⟩
   ·have e5:=fB T.nd h'
    have e6:=fB T.nd hfree;rw [e5] at e6;cases e6;exact .inr h
   ·subst e; exact .inl h
  ·rcases lk with ⟨k1,_⟩ | ⟨_,c,hc,z⟩
   ·rcases kX with h | h <;> rw [h] at k1 <;> cases k1
   ·refine ⟨c,?_,z.keeps keep⟩
    show (cellsFrom (s.heap.objs.size + 1) scope.names cl).lookup x = some c;rw [eo,rW fun p hp e=>?_]
    ·obtain ⟨c',hc'⟩:=hfr x hfree
     obtain ⟨c2,hc2⟩:=iK hc'
     have:=hcl _ (mem_of_lookup hc2)
     rw [hc] at this;cases this;exact hc2
    ·have e5:=fB T.nd (o1 p hp).2
     rw [e] at e5;have e6:=fB T.nd hfree;rw [e5] at e6;cases e6
 ·have h : (own ++ cl).lookup x = some c:=eo ▸ h
  rcases cases_ x c h with ⟨l1,m1⟩ | e1
  ·exact ⟨none,(okc.empty x c (eown ▸ m1)).1⟩
  ·obtain ⟨v,z⟩:=I.cell x c e1
   exact ⟨v,z.keeps keep⟩
 ·have h : (own ++ cl).lookup x = some c:=eo ▸ h
  rcases cases_ x c h with ⟨l1,m1⟩ | e1
  ·exact I.hok.fresh (Nat.le_of_succ_le l1)
  ·exact I.freeC x c e1
 ·rw [List.append_nil] at hp
  obtain ⟨e,n,ne,nf,d⟩:=I.pin p hp;refine ⟨keep _ _ e,n,Nat.ne_of_lt (Heap.lt_size e),fun z=>?_,d⟩;rcases List.mem_cons.mp (I.stkSub p.1 z) with z | z
  ·exact ne z
  ·exact nf z
 ·show (σ ++ List.replicate (N'.length - X.N.length) none).length = N'.length
  rw [List.length_append,List.length_replicate,I.len]
  have:=T.len
  omega
theorem Dr {σ1 : St} {H1 : Hp} {s1 : Shared} {h' : Heap} {pins1 : List (Addr × Obj)} (I : Inv X aa σ H s) (hf : ∀ b ∈ fp,gm X aa H b) (I1 : Inv (cV X N' scope cl s H fp aa) pins1 σ1 H1 s1) (hs : Heap.SameBut s.heap.objs.size s1.heap h') :
  Inv X aa σ H1 { s1 with heap:=h' }:=by
 have hC : ∀ b o,s.heap.get? b = some o -> b ≠ s.heap.objs.size:=fun b o e=>Nat.ne_of_lt (Heap.lt_size e)
 have u:=I1.base;have u2 : Un (kH X.stack) fp H H1 s.heap h':=by
  refine ⟨fun b o e n hb hx=>?_,fun b o e n hb hx=>?_,u.free,fun b o e hx=>?_,u.tups,u.frzs,u.tbls⟩
  ·rw [hs.2 b (hC b o e)]; exact u.keep b o e n hb hx
  ·obtain ⟨sl,q⟩:=u.slot b o e n hb hx
   exact ⟨sl,by rw [hs.2 b (hC b o e)]; exact q⟩
  ·obtain ⟨o',q⟩:=u.there b o e hx
   exact ⟨o',by rw [hs.2 b (hC b o e)]; exact q⟩
 have hCf : H1 s.heap.objs.size = none:=I1.free;refine I.call' (s':={ s1 with heap:=h' }) I1.os u2 (fun b o e=>?_) I1.bare fun b hb=>⟨(hf b hb).2.2.2.1,(hf b hb).2.1,(hf b hb).2.2.2.2.1,(hf b hb).2.2.2.2.2⟩
 refine (I1.hok b o e).stay (fun c v hc q=>(hs.2 c ?_).trans q) (fun _ q=>q) fun _ _ q=>q
 rintro rfl;rcases hc with z | z
 ·rw [<- z,hCf] at e; cases e
 ·rw [hCf] at z; cases z
noncomputable def vJ (X : Cx) (ifs : List Expr) (t : TT) : Prop :=
 ∀ (aa : List (Addr × Obj)) (s : Shared) (σ : St) (H : Hp) (Q : Bool -> Hp -> Prop),Inv X aa σ H s -> t σ H Q ->
  wpAny (model X.prog X.w) X.A (forIn ifs true fun c r=>if r = true then do let ok <- isTrue c X.env (eval c X.env); pure (ForInStep.yield ok) else pure (ForInStep.yield r)) (TP X aa σ Q) X.xe s
theorem A5 : vJ X [] (fun _ H Q=>Q true H):=fun aa s σ H Q I h=>wpAny_tests_nil ⟨H,I,h⟩
theorem A4 {c : Expr} {t : TT} (h : PT X c t) : vJ X [c] t:=fun aa s σ H Q I h'=>wpAny_tests_one (h aa s σ H Q I h')
noncomputable def tLc (k : Nat) (wi : TI) (g : TG) (tt : TT) (te : TE) : TE:=fun σ H Q=>wi σ H fun J H1=>∀ p,H1 p = none ->
 ∃ W : Nat -> Nat -> St -> Hp -> Prop,(∃ m,W 0 m (σ ++ List.replicate k none) (upd H1 p (.lst []))) /\ ∀ i m σ' H',W i m σ' H' ->
  (J.stop i H' /\ Q (.ref p) H') \/ (J.go i H' /\ ∀ x H2,J.yld i H' x H2 -> g x σ' H2 fun σ2 H3=>tt σ2 H3 fun ok H4=>if ok = true then
   te σ2 H4 fun y H5=>∃ ys,H5 p = some (.lst ys) /\ ys.length < sizeLine /\ ∃ m',m' < m /\ W (i + 1) m' σ2 (upd H5 p (.lst (ys ++ [y])))
   else ∃ m',m' < m /\ W (i + 1) m' σ2 H4)
theorem tU {prog : Program} {w : World} {A : Around} {R : Result -> Shared -> Prop} {s : Shared} {elt target iter : Expr} {ifs : List Expr} {scope : Scope} {pos : Pos} {it acc : Value} {env : Env} (I : Nat -> Shared -> Prop)
  (turn : ∀ n s,I n s -> wpAny (model prog w) A (pyNext it) (fun r s₁=>match r with
   | none=>R (.ok .next) s₁
   | some v=>wpAny (model prog w) A (letOwnedTupleGo target it v) (fun _ s₁'=>wpAny (model prog w) A (assign target env v) (fun _ s₂ =>
     wpAny (model prog w) A (forIn ifs true fun c r=>if r = true then do let ok <- isTrue c env (eval c env); pure (ForInStep.yield ok) else pure (ForInStep.yield r)) (fun ok s₃ =>
      if ok = true then wpAny (model prog w) A (eval elt env) (fun x s₄ =>
       wpAny (model prog w) A (call (.builtin "list.append") [acc,x]) (fun _ s₅=>∃ m,m < n /\ I m s₅) (fun _ _=>False) s₄) (fun _ _=>False) s₃
      else ∃ m,m < n /\ I m s₃) (fun _ _=>False) s₂) (fun _ _=>False) s₁') (fun _ _=>False) s₁) (fun _ _=>False) s)
  (n : Nat) (h : I n s) : codeAny (model prog w) A (.compLoop (.ListComp elt [⟨target,iter,ifs,0⟩] scope pos) 0 it acc env) R s:=by
 refine codeAny_loop rfl I (fun n s hI=>?_) n h;show wpAny _ A ((compTurn (.ListComp elt [⟨target,iter,ifs,0⟩] scope pos) 0 it acc env).onRaise (fun x=>do noteFrame x env; theTreesLotGoes x)) _ _ s;refine wpAny_noted ?_;rw [compTurn_list];refine wpAny_bind (wpAny_standAt (wpAny_bind (wpAny_mono (turn n s hI) (fun r s₁ h₁=>?_) fun _ _ h'=>h'.elim)));cases r with
 | none=>exact wpAny_pure h₁
 | some v =>
  refine wpAny_bind (wpAny_mono h₁ (fun _ s₁' h₁'=>?_) fun _ _ h'=>h'.elim);refine wpAny_bind (wpAny_mono h₁' (fun _ s₂ h₂=>wpAny_bind (wpAny_mono h₂ (fun ok s₃ h₃=>?_) fun _ _ h'=>h'.elim)) fun _ _ h'=>h'.elim);cases ok with
  | false=>exact wpAny_pure ⟨rfl,h₃⟩
  | true =>
   exact wpAny_bind (wpAny_bind (wpAny_mono h₃ (fun x s₄ h₄=>wpAny_bind (wpAny_mono h₄ (fun _ s₅ h₅=>wpAny_pure (wpAny_pure ⟨rfl,h₅⟩)) fun _ _ h'=>h'.elim)) fun _ _ h'=>h'.elim))
theorem tm {elt iter tg : Expr} {ifs : List Expr} {pos : Pos} {g : TG} {tt : TT} {te : TE} {J : It} {it : Addr} {tn : Nat -> Heap -> Prop} {Q : VK} {E : Value -> Shared -> Prop} {RR : Value -> Addr -> Result -> Shared -> Prop}
  (hc : X.calm = true) (T : mN X N' scope) (hcl : ∀ p ∈ cl,X.env.cells.lookup p.1 = some p.2) (hfr : ∀ x,(x,NameKind.free) ∈ scope.names -> ∃ c,(x,c) ∈ cl)
  (hg : ∀ cl s H fp aa,PG (cV X N' scope cl s H fp aa) tg g) (ht : ∀ cl s H fp aa,vJ (cV X N' scope cl s H fp aa) ifs tt) (he : ∀ cl s H fp aa,PE (cV X N' scope cl s H fp aa) elt te)
  (I : Inv X aa σ H s) (Tn : mJ X.prog X.w X.K tg J fp it tn) (st0 : tn 0 s.heap) (hf : ∀ b ∈ fp,gm X aa H b)
  (h : ∀ p,H p = none -> ∃ W : Nat -> Nat -> St -> Hp -> Prop,(∃ m,W 0 m (σ ++ List.replicate (N'.length - X.N.length) none) (upd H p (.lst []))) /\ ∀ i m σ' H',W i m σ' H' ->
   (J.stop i H' /\ Q (.ref p) H') \/ (J.go i H' /\ ∀ x H2,J.yld i H' x H2 -> g x σ' H2 fun σ2 H3=>tt σ2 H3 fun ok H4=>if ok = true then
    te σ2 H4 fun y H5=>∃ ys,H5 p = some (.lst ys) /\ ys.length < sizeLine /\ ∃ m',m' < m /\ W (i + 1) m' σ2 (upd H5 p (.lst (ys ++ [y])))
    else ∃ m',m' < m /\ W (i + 1) m' σ2 H4))
  (hRR : ∀ p C s1 H1,Inv X aa σ H1 s1 -> Q (.ref p) H1 -> (∃ m,s1.heap.Ns C m) -> H1 C = none -> s.heap.objs.size <= C -> RR (.ref p) C (.ok .next) s1) :
  wpAny (model X.prog X.w) X.A (newList []) (fun acc s₃=>wpAny (model X.prog X.w) X.A (newFunctionEnv scope X.env.globals cl [] X.env.qual none .none (some X.env)) (fun cenv s₄ =>
   codeAny (model X.prog X.w) X.A (.compStart (.ListComp elt [⟨tg,iter,ifs,0⟩] scope pos) 0 (.ref it) acc { cenv with scope:=relabel scope X.env }) (RR acc cenv.locals) s₄) E s₃) E s:=by
 refine wpAny_newObj_type (zh ?_);have hp : H s.heap.objs.size = none:=I.fresh;obtain ⟨W,⟨m0,w0⟩,turn⟩:=h _ hp;have I2 : Inv X aa σ (upd H s.heap.objs.size (.lst [])) { s with heap:=s.heap.push { cls:=.type "list",data:=.seq ([] : List Value).toArray } }:=Inv.lnew (t':=s.toks) (its:=[]) (ys:=[]) I .nil (Nat.zero_le _);have hf2 : ∀ b ∈ fp,gm X aa (upd H s.heap.objs.size (.lst [])) b:=fun b hb=>by
  obtain ⟨o,e,_⟩:=Tn.obj _ _ st0 b hb;exact ⟨by rw [aV (Nat.ne_of_lt (Heap.lt_size e))]; exact (hf b hb).1,(hf b hb).2⟩
 have ho2 : ∀ b ∈ fp,∃ o,(s.heap.push { cls:=.type "list",data:=.seq ([] : List Value).toArray } : Heap).get? b = some o:=fun b hb=>by
  obtain ⟨o,e,_⟩:=Tn.obj _ _ st0 b hb;exact ⟨o,Heap.get?_push_of_some _ e⟩
 have I3:=zM T I2 hcl hfr hf2 ho2;have st3 : tn 0 (pushCells ((s.heap.push { cls:=.type "list",data:=.seq ([] : List Value).toArray }).push { cls:=.type "dict",data:=.dict #[] }) scope.names) :=
  Tn.keep _ _ _ st0 fun b hb o e=>pushCells_keeps _ _ b o (Heap.get?_push_of_some _ (Heap.get?_push_of_some _ e))
 generalize hs2 : ({ s with heap:=s.heap.push { cls:=.type "list",data:=.seq ([] : List Value).toArray } } : Shared) = s2 at I2 I3;have hC : s.heap.objs.size <= s2.heap.objs.size:=by rw [<- hs2]; exact Nat.le_of_lt (by show _ < (s.heap.push _).objs.size; rw [Heap.size_push]; exact Nat.lt_succ_self _)
 have stat : ∀ {H' : Hp},(∀ b ∈ fp,H' b = none) -> ∀ b ∈ fp,gm (cV X N' scope cl s2 (upd H s.heap.objs.size (.lst [])) fp aa) [] H' b:=fun {H'} hn b hb=>by
  refine ⟨hn b hb,(I3.ok.exf b hb).1,I3.ok.exfs b hb,.inl hb,(I3.ok.exf b hb).2,fun p hp=>?_⟩;rw [List.append_nil] at hp;exact (hf b hb).2.2.2.2.2 p hp
 have loop : ∀ s4,s4 = ({ s2 with heap:=pushCells (s2.heap.push { cls:=.type "dict",data:=.dict #[] }) scope.names } : Shared) ->
   codeAny (model X.prog X.w) X.A (.compLoop (.ListComp elt [⟨tg,iter,ifs,0⟩] scope pos) 0 (.ref it) (.ref s.heap.objs.size) (cV X N' scope cl s2 (upd H s.heap.objs.size (.lst [])) fp aa).env) (RR (.ref s.heap.objs.size) s2.heap.objs.size) s4:=by
  rintro s4 rfl;refine tU (fun n s'=>∃ i σ' H',Inv (cV X N' scope cl s2 (upd H s.heap.objs.size (.lst [])) fp aa) [] σ' H' s' /\ tn i s'.heap /\ (∀ b ∈ fp,H' b = none) /\ W i n σ' H') ?_ m0
   ⟨0,_,_,I3,by subst hs2; exact st3,fun b hb=>(hf2 b hb).1,w0⟩
  rintro n s3 ⟨i,σ3,H3,I4,st4,fr4,w4⟩;rcases turn i n σ3 H3 w4 with ⟨stop,qn⟩ | ⟨go,step⟩
  ·refine bL (Tn.done (cV X N' scope cl s2 (upd H s.heap.objs.size (.lst [])) fp aa) rfl rfl rfl hc i [] s3 σ3 H3 (fun _ _=>False) I4 (stat fr4) st4 stop) fun r s5 ⟨hr,I5⟩=>?_
   subst hr;obtain ⟨m,hn,_⟩:=I5.loc;exact hRR _ _ s5 H3 (Dr I2 hf2 I5 (Heap.SameBut.refl _ _)) qn ⟨m,hn⟩ I5.free hC
  ·refine bL (Tn.item (cV X N' scope cl s2 (upd H s.heap.objs.size (.lst [])) fp aa) rfl rfl rfl hc i [] s3 σ3 H3 (fun _ _=>False) I4 (stat fr4) st4 go) fun r s5 ⟨u,hr,h5⟩=>?_
   subst hr;refine bL h5 fun _ s6 ⟨x,H6,I6,r6,y6,st6,fr6⟩=>?_
   have I6':=I6.pinned (stat fr6) (Tn.obj _ _ st6);have again : ∀ {σ7 : St} {H7 : Hp} {s7 : Shared} {m' : Nat},Inv (cV X N' scope cl s2 (upd H s.heap.objs.size (.lst [])) fp aa) ([] ++ mn fp s6.heap) σ7 H7 s7 -> m' < n -> W (i + 1) m' σ7 H7 ->
     ∃ m,m < n /\ ∃ i σ' H',Inv (cV X N' scope cl s2 (upd H s.heap.objs.size (.lst [])) fp aa) [] σ' H' s7 /\ tn i s7.heap /\ (∀ b ∈ fp,H' b = none) /\ W i m σ' H':=fun {σ7 H7 s7 m'} I7 hm w7=>by
    refine ⟨m',hm,i + 1,σ7,H7,I7.unpinned,Tn.keep _ _ _ st6 fun b hb o e=>(I7.pin (b,o) (List.mem_append_right _ (List.mem_append_right _ (i6 hb e)))).1,fun b hb=>?_,w7⟩;obtain ⟨o,e,d⟩:=Tn.obj _ _ st6 b hb;exact (I7.pin (b,o) (List.mem_append_right _ (List.mem_append_right _ (i6 hb e)))).2.1
   refine bL (hg _ _ _ _ _ _ s6 σ3 H6 x u _ I6' r6 (step x H6 y6)) fun _ s7 ⟨σ7,H7,I7,q7⟩=>?_
   refine bL (ht _ _ _ _ _ _ s7 σ7 H7 _ I7 q7) fun ok s8 ⟨H8,I8,q8⟩=>?_
   cases ok with
   | false =>
    simp only [Bool.false_eq_true,if_false] at q8 ⊢;obtain ⟨m',hm,w8⟩:=q8;exact again I8 hm w8
   | true =>
    simp only [if_true] at q8 ⊢;refine bL (he _ _ _ _ _ _ s8 σ7 H8 _ I8 q8) fun y s9 ⟨yv,H9,I9,r9,ys,e9,l9,m',hm,w9⟩=>?_
    refine bL (gY _ s9 σ7 H9 (.ref s.heap.objs.size) [yv] (.ref s.heap.objs.size) [y] (fun _ H'=>H' = upd H9 s.heap.objs.size (.lst (ys ++ [yv]))) I9 rfl (.cons r9 .nil) ⟨_,ys,yv,rfl,rfl,e9,l9,rfl⟩) fun _ s10 ⟨_,H10,I10,_,e10⟩=>?_
    subst e10;exact again I10 hm w9
 have st5 : tn 0 (pushCells (s2.heap.push { cls:=.type "dict",data:=.dict #[] }) scope.names):=by subst hs2; exact st3
 have fin:=codeAny_compStart_list (loop _ rfl) (Tn.self X.A 0 _ _ (notedBy (model X.prog X.w) X.A (cV X N' scope cl s2 (upd H s.heap.objs.size (.lst [])) fp aa).env fun x s'=>RR (.ref s.heap.objs.size) s2.heap.objs.size (.error x) s') st5 (loop _ rfl));subst hs2;exact fin
end
section
variable {X : Cx} {N' : List Str} {scope : Scope} {aa : List (Addr × Obj)} {σ : St} {elt iter tg : Expr} {ifs : List Expr} {pos : Pos} {wi : TI} {g : TG} {tt : TT} {te : TE}
theorem tj (T : mN X N' scope) : ∀ x ∈ scope.names,x.2 = .local -> scope.names.lookup x.1 = some .local:=fun x hx e=>by
 obtain ⟨n,k⟩:=x;cases e;exact fB T.nd hx
theorem Ek (hc : X.calm = true) (T : mN X N' scope) (hi : PI X tg iter wi) (hg : ∀ cl s H fp aa,PG (cV X N' scope cl s H fp aa) tg g) (ht : ∀ cl s H fp aa,vJ (cV X N' scope cl s H fp aa) ifs tt)
  (he : ∀ cl s H fp aa,PE (cV X N' scope cl s H fp aa) elt te) (hs : autoParam (∀ x,foldedSetIterable iter X.env x = pure x) kS._auto_1) :
  PE X (.ListComp elt [⟨tg,iter,ifs,0⟩] scope pos) (tLc (N'.length - X.N.length) wi g tt te):=by
 intro aa s σ H Q I h;obtain ⟨cl,hclos,hcl,hfr⟩:=px (scope:=scope) (env:=X.env) fun x hx=>I.ok.has x (T.free x hx)
 rw [eval_ListComp];refine wpAny_comprehension_free (use:=none) rfl hs hclos T.kind (tj T) (wpAny_mono (hi aa s σ H _ I h) (fun xv s1 h1=>wpAny_mono h1 (fun itv s2 h2=>?_) fun _ _ e=>e) fun _ _ e=>e);obtain ⟨it,fp,tn,J,H2,rfl,I2,Tn,st2,f2,R⟩:=h2;refine tm (Q:=Q) (RR:=fun acc C=>compPost (model X.prog X.w) X.A X.xe none (EP X aa σ Q) acc C) hc T hcl hfr hg ht he I2 Tn st2 f2 R ?_;rintro p C s3 H3 I3 q ⟨m,hn⟩ hC hle;refine ⟨m,hn,fun h' hs'=>⟨.ref p,H3,?_,rfl,q⟩⟩;refine I3.turned (t':=s3.toks) (it:=C) (fun b o hb e=>(hs'.2 b hb).trans e) hC ?_ (.inr (Nat.le_trans I2.sz hle)) (fun x c e=>?_) fun p hp=>?_
 ·exact Ne.symm (Nat.ne_of_lt (Nat.lt_of_lt_of_le I2.lt hle))
 ·obtain ⟨v,z⟩:=I2.cell x c e
  exact Nat.ne_of_lt (Nat.lt_of_lt_of_le z.lt hle)
 ·exact Nat.ne_of_lt (Nat.lt_of_lt_of_le (Heap.lt_size (I2.pin p hp).1) hle)
theorem xq {i : Nat} {y : Str} {py spos : Pos} (hN : X.N.Nodup) (hiN : X.N[i]? = some y) (hx : lY X.env.scope y) (hsw : swapsWith (.ListComp elt [⟨tg,iter,ifs,0⟩] scope pos) (some (.Name y py)) spos.line X.env = pure true)
  (hc : X.calm = true) (T : mN X N' scope) (hi : PI X tg iter wi) (hg : ∀ cl s H fp aa,PG (cV X N' scope cl s H fp aa) tg g) (ht : ∀ cl s H fp aa,vJ (cV X N' scope cl s H fp aa) ifs tt)
  (he : ∀ cl s H fp aa,PE (cV X N' scope cl s H fp aa) elt te) (hs : autoParam (∀ x,foldedSetIterable iter X.env x = pure x) kS._auto_1) (hf : autoParam (X.fn y = true \/ X.env.scope.names.lookup y = some .local) ma._auto_1) :
  PS X (.Assign [.Name y py] (.ListComp elt [⟨tg,iter,ifs,0⟩] scope pos) spos) (yK (tLc (N'.length - X.N.length) wi g tt te) (ni i)):=by
 intro aa s σ H D I h;obtain ⟨cl,hclos,hcl,hfr⟩:=px (scope:=scope) (env:=X.env) fun x hx=>I.ok.has x (T.free x hx)
 rw [exec_Assign_Name_used _ _ _ _ hsw];refine wpAny_bind (wpAny_standAt (wpAny_bind ?_));show wpAny _ X.A (do let _ <- comprehension (.ListComp elt [⟨tg,iter,ifs,0⟩] scope pos) scope X.env _ (newList []) false (eval iter X.env) (some (assign (.Name y py) X.env))) _ _ s;refine wpAny_bind (wpAny_mono (wpAny_comprehension_free (use:=some (assign (.Name y py) X.env)) (Q:=fun _ s'=>SP X aa D .next s') rfl hs hclos T.kind (tj T)
  (wpAny_mono (hi aa s σ H _ I h) (fun xv s1 h1=>wpAny_mono h1 (fun itv s2 h2=>?_) fun _ _ e=>e) fun _ _ e=>e)) (fun _ s' hq=>wpAny_pure (wpAny_pure hq)) fun _ _ e=>e)
 obtain ⟨it,fp,tn,J,H2,rfl,I2,Tn,st2,f2,R⟩:=h2;refine tm (Q:=fun x H1=>ni i x σ H1 D.nx) (RR:=fun acc C=>compPost (model X.prog X.w) X.A X.xe (some (assign (.Name y py) X.env)) (fun _ s'=>SP X aa D .next s') acc C) hc T hcl hfr hg ht he I2 Tn st2 f2 R ?_;rintro p C s3 H3 I3 q ⟨m,hn⟩ hC hle;have hCL : C ≠ X.env.locals:=Ne.symm (Nat.ne_of_lt (Nat.lt_of_lt_of_le I2.lt hle));have hCc : ∀ x c,X.env.cells.lookup x = some c -> c ≠ C:=fun x c e=>by
  obtain ⟨v,z⟩:=I2.cell x c e;exact Nat.ne_of_lt (Nat.lt_of_lt_of_le z.lt hle)
 show wpAny _ X.A (assign (.Name y py) X.env (.ref p)) _ _ _;refine wpAny_assign_Name (qK (v:=.ref p) I3 hN hiN hx rfl (fun s4 I4 ⟨a,sb,ha⟩=>?_) hf);have hne : C ≠ a:=by
  rcases ha with e | e
  ·rw [e]; exact hCL
  ·exact (hCc _ _ e).symm
 refine ⟨m,hn.sameBut sb hne,fun h' hs'=>⟨_,H3,?_,q⟩⟩;refine I4.turned (t':=s4.toks) (it:=C) (fun b o hb e=>(hs'.2 b hb).trans e) hC hCL (.inr (Nat.le_trans I2.sz hle)) hCc fun p hp=>?_
 exact Nat.ne_of_lt (Nat.lt_of_lt_of_le (Heap.lt_size (I2.pin p hp).1) hle)
theorem jM {t t' : TI} (h : PI X tg iter t) (i : ∀ σ H R,t' σ H R -> t σ H R) : PI X tg iter t':=fun aa s σ H R I h'=>h aa s σ H R I (i σ H R h')
end
end L2
namespace DD
open PySem PySem.Spec PyProof.Rows L2
structure nJ (K : PySem.W.Frag) (J : It) (xs : List D) (F : Addr -> Prop) (H : Hp) : Prop where
 item : ∀ i d F1 H1,Ext F H F1 H1 -> (∀ a,F1 a -> ∃ o,H1 a = some o) -> xs[i]? = some d -> J.go i H1 /\ ∀ x H2,J.yld i H1 x H2 -> ∃ F2,Grow F1 H1 F2 H2 /\ Ow K F2 H2 d x []
 done : ∀ F1 H1,Ext F H F1 H1 -> J.stop xs.length H1
noncomputable abbrev DI:=aP -> Option (List D × aP)
noncomputable def Gr (K : PySem.W.Frag) (c : DI) : TI:=fun σ H R=>∃ F Ro σD xs σD',Rel K F H σD σ Ro /\ c σD = some (xs,σD') /\ ∀ F' H' J,Ext F H F' H' -> Rel K F' H' σD' σ Ro -> nJ K J xs F' H' -> R J H'
noncomputable def QI (X : Cx) (tg iter : Expr) (c : DI) : Prop:=PI X tg iter (Gr X.K c)
noncomputable def dH (c : DE) : DI:=fun σ=>(c σ).bind fun p=>match p.1 with | .lst _ xs=>some (D.fzL xs,p.2) | _=>none
noncomputable def lU (c : DA) : DI:=fun σ=>(c σ).bind fun p=>match p.1 with | [.int j]=>if sI j = true then some (jq 0 j,p.2) else none | _=>none
noncomputable def vh (c : DA) : DI:=fun σ=>(c σ).bind fun p=>match p.1 with | [.int i,.int j]=>if (sI i && sI j) = true then some (jq i j,p.2) else none | _=>none
section
variable {X : Cx} {tg e a b : Expr} {c : DE} {ca : DA} {p1 pos1 : Pos}
theorem qV {K : PySem.W.Frag} {F : Addr -> Prop} {H : Hp} {lo hi : Int} : nJ K (vP lo (hi - lo).toNat) (jq lo hi) F H where
 item:=fun i d F1 H1 _ _ e=>by
  have hl : (jq lo hi).length = (hi - lo).toNat:=by simp [jq]
  have hi' : i < (hi - lo).toNat:=by rw [<- hl]; exact (List.getElem?_eq_some_iff.mp e).1
  have ed : d = .int (lo + i):=by
   unfold jq at e;rw [List.getElem?_map,List.getElem?_range hi'] at e;exact (Option.some.inj e).symm
  subst ed;exact ⟨hi',fun x H2 hq0=>by obtain ⟨e1,e2⟩:=hq0; subst e1; subst e2; exact ⟨F1,Grow.refl,Ow.of_sc rfl⟩⟩
 done:=fun F1 H1 _=>by show (hi - lo).toNat <= (jq lo hi).length; simp [jq]
theorem E8 {α β : Type} {a : α} {vs : List β} (h : [a].length = vs.length) : ∃ v,vs = [v]:=by
 cases vs with
 | nil=>cases h
 | cons v vs=>cases vs with
  | nil=>exact ⟨v,rfl⟩
  | cons _ _=>simp at h
theorem GB {α β : Type} {a b : α} {vs : List β} (h : [a,b].length = vs.length) : ∃ v u,vs = [v,u]:=by
 cases vs with
 | nil=>cases h
 | cons v vs =>
  obtain ⟨u,rfl⟩:=E8 (a:=a) (vs:=vs) (Nat.succ.inj h);exact ⟨v,u,rfl⟩
theorem jP (hgl : Gl X "range") (hm : X.mg "range" = none) (ha : QA X [a] ca) (hs : autoParam (starEach [a] X.env = [(false,eval a X.env)]) aI._auto_1) : QI X tg (.Call (.Name "range" p1) [a] [] pos1) (lU ca) :=
 jM (xw hgl hm ha hs) fun σ H R hq0=>by
  obtain ⟨F,Ro,σD,xs,σD',r,ec,k⟩:=hq0;unfold lU at ec
  revert ec
  refine bJ fun ys σ1 h ec=>?_
  try dsimp only at ec
  refine ⟨F,Ro,σD,ys,σ1,r,h,fun F1 H1 vs x1 hl r1=>?_⟩;split at ec
  ·rename_i j
   split at ec
   ·rename_i hj
    cases ec;obtain ⟨v,rfl⟩:=E8 hl;have hv : v = .int j:=(r1.bor (d:=.int j) (v:=v) (by simp)).int;subst hv;unfold sI at hj;simp only [decide_eq_true_eq] at hj;have q : nJ X.K (vP 0 (j - 0).toNat) (jq 0 j) F1 H1:=qV;rw [Int.sub_zero] at q;exact ⟨j,rfl,hj.1,hj.2,k F1 H1 _ x1 (r1.popN (S:=[(D.int j,V.int j)])) q⟩
   ·cases ec
  ·cases ec
theorem zZ (hgl : Gl X "range") (hm : X.mg "range" = none) (ha : QA X [a,b] ca) (hs : autoParam (starEach [a,b] X.env = [(false,eval a X.env),(false,eval b X.env)]) aI._auto_1) (hs2 : autoParam (starEach [b] X.env = [(false,eval b X.env)]) aI._auto_1) : QI X tg (.Call (.Name "range" p1) [a,b] [] pos1) (vh ca) :=
 jM (xu hgl hm ha hs hs2) fun σ H R hq0=>by
  obtain ⟨F,Ro,σD,xs,σD',r,ec,k⟩:=hq0;unfold vh at ec
  revert ec
  refine bJ fun ys σ1 h ec=>?_
  try dsimp only at ec
  refine ⟨F,Ro,σD,ys,σ1,r,h,fun F1 H1 vs x1 hl r1=>?_⟩;split at ec
  ·rename_i i j
   split at ec
   ·rename_i hj
    cases ec;obtain ⟨v,u,rfl⟩:=GB hl;have hv : v = .int i:=(r1.bor (d:=.int i) (v:=v) (by simp)).int;have hu : u = .int j:=(r1.bor (d:=.int j) (v:=u) (by simp)).int;subst hv; subst hu;unfold sI at hj;simp only [Bool.and_eq_true,decide_eq_true_eq] at hj;exact ⟨i,j,rfl,⟨hj.1.1,hj.1.2,hj.2.1,hj.2.2⟩,k F1 H1 _ x1 (r1.popN (S:=[(D.int i,V.int i),(D.int j,V.int j)])) qV⟩
   ·cases ec
  ·cases ec
theorem zz {K : PySem.W.Frag} {F : Addr -> Prop} {H : Hp} {xs : List D} {a : Addr} {vs : List V} (fl : FL K F H a vs) (ol : OwL K F H xs vs []) : nJ K (vQ K a) xs F H where
 item:=fun i d F1 H1 x1 _ e=>by
  obtain ⟨w,La,Lx,Lb,e1,eL,o,_⟩:=ol.kid e;have eLx : Lx = []:=(List.append_eq_nil_iff.mp (List.append_eq_nil_iff.mp eL.symm).1).2;subst eLx;refine ⟨⟨vs,w,(fl.ext x1).sq,e1⟩,fun x H2 ⟨e2,hx⟩=>?_⟩;subst e2
  have:=hx vs (fl.ext x1).sq
  rw [e1] at this;cases this;exact ⟨F1,Grow.refl,o.mono x1 (fun a ha=>by cases ha)⟩
 done:=fun F1 H1 x1=>⟨vs,(fl.ext x1).sq,by rw [ol.length]; exact Nat.le_refl _⟩
theorem cy (he : QE X e c) : QI X tg e (dH c):=jM (uU he) fun σ H R hq0=>by
 obtain ⟨F,Ro,σD,xs,σD',r,ec,k⟩:=hq0;unfold dH at ec
 revert ec
 refine bJ fun d σ1 h ec=>?_
 try dsimp only at ec
 refine ⟨F,Ro,σD,d,σ1,r,h,fun F1 H1 v x1 r1=>?_⟩;split at ec
 ·cases ec
  obtain ⟨F2,x2,r2,o2⟩:=r1.freeze;simp only [D.fz,Ow] at o2;obtain ⟨a,vs,rfl,fl,ol,_⟩:=o2;exact ⟨a,rfl,⟨vs,fl.sq⟩,k F2 H1 _ (x1.trans x2) r2.pop (zz fl ol)⟩
 ·cases ec
end
noncomputable def dg (c : DI) (g : DG) (b : DS) : DS:=fun σ=>(c σ).bind fun p=>fD g b p.1 p.2
section
variable {X : Cx} {e tg : Expr} {g : DG} {s : DS} {pos : Pos} {W W' : List Nat} {body : List Stmt}
theorem BG {F : Addr -> Prop} {H : Hp} {R : Ro} {σD : aP} {σ : St} {xs : List D} {J : It} {En : lM} {o : Out} (r : Rel X.K F H σD σ R) (j : nJ X.K J xs F H) (h : fD g s xs σD = some o)
  (k : ∀ F' H' σ',Ext F H F' H' -> Kp (W ++ W') σ σ' -> Th X.K En R F' H' σ' o) :
  ∃ W1 : Nat -> Nat -> St -> Hp -> Prop,(∃ m,W1 0 m σ H) /\ ∀ i m σ H,W1 i m σ H ->
   (J.stop i H /\ En.nx σ H) \/ (J.go i H /\ ∃ N : St -> Hp -> Prop,(∀ σ' H',N σ' H' -> ∃ m',m' < m /\ W1 (i + 1) m' σ' H') /\ ∀ x H',J.yld i H x H' -> rG X.K g W x σ H' fun σ2 H2=>rS X.K s W' { En with nx:=N,ct:=N,bk:=En.nx } σ2 H2):=by
 refine ⟨fun i m σ1 H1=>m = xs.length - i /\ i <= xs.length /\ ∃ F1 σD1,Ext F H F1 H1 /\ Kp (W ++ W') σ σ1 /\ Rel X.K F1 H1 σD1 σ1 R /\ fD g s (xs.drop i) σD1 = some o,⟨_,rfl,Nat.zero_le _,F,σD,Ext.refl,Kp.refl,r,by simpa using h⟩,?_⟩;rintro i m σ1 H1 ⟨rfl,hle,F1,σD1,x1,kp1,r1,h1⟩;rcases Nat.lt_or_ge i xs.length with hi | hi
 ·right
  obtain ⟨go,yl⟩:=j.item i _ F1 H1 x1 r1.g.dom (List.getElem?_eq_getElem hi);refine ⟨go,fun σ' H'=>∃ F1 σD1,Ext F H F1 H' /\ Kp (W ++ W') σ σ' /\ Rel X.K F1 H' σD1 σ' R /\ fD g s (xs.drop (i + 1)) σD1 = some o,fun σ' H' q=>⟨xs.length - (i + 1),by omega,rfl,hi,q⟩,fun x H2 hy=>?_⟩;obtain ⟨F2,gr,ox⟩:=yl x H2 hy;rw [List.drop_eq_getElem_cons hi] at h1;exact AF (R:=R) (R0:=R) (W:=W) (W':=W') (fun _ _ _ _ _ _ h=>h) ((r1.grow gr).push ox) (x1.trans gr.x) kp1 h1 k fun F3 H3 σD3 σ3 x3 kp3 r3 h3=>⟨F3,σD3,(x1.trans gr.x).trans x3,kp3,r3,h3⟩
 ·left
  have ei : i = xs.length:=Nat.le_antisymm hle hi;subst ei;rw [List.drop_length] at h1;simp only [fD] at h1;cases h1;exact ⟨j.done F1 H1 x1,k F1 H1 σ1 x1 kp1 r1⟩
theorem cE {c : DI} (hc : X.calm = true) (hi : QI X tg e c) (hg : QG X tg g W) (hb : nH X body s W') (hp : PassesOwn (model X.prog X.w) X.A X.env X.xe) (hf : autoParam (∀ x,foldedSetIterable e X.env x = pure x) kS._auto_1) : QS X (.For tg e body [] pos) (dg c g s) (W ++ W') :=
 iQ (xr hp hc hi hg hb hf) fun En σ H hq0=>by
  obtain ⟨F,R,σD,o,r,ec,k⟩:=hq0;unfold dg at ec
  revert ec
  refine bJ fun xs σ1 h ec=>?_
  try dsimp only at ec
  refine ⟨F,R,σD,xs,σ1,r,h,fun F1 H1 J x1 r1 j=>?_⟩;exact BG (X:=X) (W:=W) (W':=W') (g:=g) (s:=s) (En:=En) r1 j ec fun F2 H2 σ2 x2 kp=>k F2 H2 σ2 (x1.trans x2) kp
end
noncomputable def j9 (g : DG) (t : DT) (c : DE) : List D -> aP -> Option (List D × aP)
 | [],σ=>some ([],σ)
 | x :: xs,σ=>(g x σ).bind fun σ1=>(t σ1).bind fun p=>if p.1 = true then (c p.2).bind fun q=>(j9 g t c xs q.2).map fun r=>(q.1 :: r.1,r.2) else j9 g t c xs p.2
noncomputable def eC (k : Nat) (i : DI) (g : DG) (t : DT) (c : DE) : DE:=fun σ=>(i σ).bind fun p=>if p.1.length <= sizeLine then (j9 g t c p.1 (p.2 ++ List.replicate k none)).map fun r=>(.lst true r.1,r.2.take p.2.length) else none
noncomputable def eM : DT:=fun σ=>some (true,σ)
noncomputable def vH (X : Cx) (ifs : List Expr) (t : DT) : Prop:=vJ X ifs (rT X.K t)
section
variable {X : Cx} {e tg elt iter : Expr} {ifs : List Expr} {g : DG} {t : DT} {c : DE} {i : DI} {pos : Pos} {W : List Nat} {N' : List Str} {scope : Scope}
theorem dP : vH X [] eM:=by
 intro aa s σ H Q I hh;obtain ⟨F,R,σD,b,σD',r,ec,k⟩:=hh;exact A5 aa s σ H Q I (by cases ec; exact k F H Ext.refl r)
theorem gW (h : QT X e t) : vH X [e] t:=A4 h
theorem Rel.ext0 {K : PySem.W.Frag} {F : Addr -> Prop} {H : Hp} {σD : aP} {σ : St} {R : Ro} {k : Nat} (r : Rel K F H σD σ R) : Rel K F H (σD ++ List.replicate k none) (σ ++ List.replicate k none) R:=by
 have hm : ∀ {σD : aP} {σ : St},Mt σD σ -> Mt (σD ++ List.replicate k none) (σ ++ List.replicate k none) /\ sl (σD ++ List.replicate k none) (σ ++ List.replicate k none) = sl σD σ:=by
  intro σD
  induction σD with
  | nil=>intro σ h; cases σ with | nil=>exact ⟨ql,nU⟩ | cons _ _=>cases h
  | cons o σD ih =>
   intro σ h;cases σ with
   | nil=>cases o <;> cases h
   | cons v σ =>
    cases o with
    | none=>exact ih (σ:=σ) h
    | some d =>
     cases v with
     | none=>cases h
     | some v =>
      have q:=ih (σ:=σ) h;exact ⟨q.1,congrArg ((d,v) :: ·) q.2⟩
 obtain ⟨h1,h2⟩:=hm r.mt;exact ⟨h1,by rw [h2]; exact r.g⟩
theorem Rel.cut {K : PySem.W.Frag} {F : Addr -> Prop} {H : Hp} {R : Ro} : ∀ {σD : aP} {σ σ0 : St} {n : Nat},σ0.length = n -> σ.take n = σ0 -> Rel K F H σD σ R -> Rel K F H (σD.take n) σ0 R:=by
 intro σD σ σ0 n hn he r;subst he;have hm : ∀ {σD : aP} {σ : St} (n : Nat),Mt σD σ -> Mt (σD.take n) (σ.take n) /\ ∃ S,(sl σD σ) = sl (σD.take n) (σ.take n) ++ S:=by
  intro σD
  induction σD with
  | nil=>intro σ n h; cases σ with | nil=>simp [Mt,sl] | cons _ _=>cases h
  | cons o σD ih =>
   intro σ n h;cases σ with
   | nil=>cases o <;> cases h
   | cons v σ =>
    cases n with
    | zero=>exact ⟨trivial,_,rfl⟩
    | succ n =>
     cases o with
     | none=>exact ih (σ:=σ) n h
     | some d =>
      cases v with
      | none=>cases h
      | some v =>
       obtain ⟨h1,S,h2⟩:=ih (σ:=σ) n h;refine ⟨h1,S,?_⟩;show (d,v) :: sl σD σ = (d,v) :: sl (σD.take n) (σ.take n) ++ S;rw [h2]; rfl
 obtain ⟨h1,S,h2⟩:=hm n r.mt;refine ⟨h1,?_⟩;have g:=r.g;rw [h2] at g;have g2 : G K F H (S ++ (sl (σD.take n) (σ.take n) ++ R)):=g.perm (by rw [List.append_assoc]; exact List.perm_append_comm_assoc _ _ _);exact g2.popN
theorem z5 {F : Addr -> Prop} {H : Hp} {R : Ro} {σD σD' : aP} {σ : St} {xs ys : List D} {J : It} {k : Nat} {Q : VK} (r : Rel X.K F H σD σ R) (j : nJ X.K J xs F H) (hz : xs.length <= sizeLine) (hw : ∀ i ∈ W,σ.length <= i)
  (h : j9 g t c xs (σD ++ List.replicate k none) = some (ys,σD')) (kk : ∀ F' H' v,Ext F H F' H' -> Rel X.K F' H' (σD'.take σD.length) σ ((.lst true ys,v) :: R) -> Q v H') (p : Addr) (hp : H p = none) :
  ∃ W1 : Nat -> Nat -> St -> Hp -> Prop,(∃ m,W1 0 m (σ ++ List.replicate k none) (upd H p (.lst []))) /\ ∀ i m σ' H',W1 i m σ' H' ->
   (J.stop i H' /\ Q (.ref p) H') \/ (J.go i H' /\ ∀ x H2,J.yld i H' x H2 -> rG X.K g W x σ' H2 fun σ2 H3=>rT X.K t σ2 H3 fun ok H4=>if ok = true then
    rE X.K c σ2 H4 fun y H5=>∃ ys,H5 p = some (.lst ys) /\ ys.length < sizeLine /\ ∃ m',m' < m /\ W1 (i + 1) m' σ2 (upd H5 p (.lst (ys ++ [y])))
    else ∃ m',m' < m /\ W1 (i + 1) m' σ2 H4):=by
 have hlen:=r.mt.length;obtain ⟨r0,x0⟩:=(r.ext0 (k:=k)).alloc (o:=.lst []) hp;have r1 : Rel X.K F (upd H p (.lst [])) (σD ++ List.replicate k none) (σ ++ List.replicate k none) ((.lst true [],.ref p) :: R):=r0.formL (xs:=[]) (vs:=[]) rfl cG;refine ⟨fun i m σ1 H1=>m = xs.length - i /\ i <= xs.length /\ ∃ F1 σD1 ds zs,Ext F H F1 H1 /\ Kp W (σ ++ List.replicate k none) σ1 /\ Rel X.K F1 H1 σD1 σ1 ((.lst true ds,.ref p) :: R) /\ ds.length <= i /\ j9 g t c (xs.drop i) σD1 = some (zs,σD') /\ ds ++ zs = ys,
  ⟨_,rfl,Nat.zero_le _,F,_,[],ys,x0,Kp.refl,r1,Nat.zero_le _,by simpa using h,rfl⟩,?_⟩
 rintro i m σ1 H1 ⟨rfl,hle,F1,σD1,ds,zs,x1,kp1,r2,hds,h1,hys⟩;rcases Nat.lt_or_ge i xs.length with hi | hi
 ·right
  obtain ⟨go,yl⟩:=j.item i _ F1 H1 x1 r2.g.dom (List.getElem?_eq_getElem hi);refine ⟨go,fun x H2 hy=>?_⟩;obtain ⟨F2,gr,ox⟩:=yl x H2 hy;rw [List.drop_eq_getElem_cons hi] at h1;simp only [j9] at h1
  revert h1
  refine bK fun σ3 e1 h1=>?_
  refine ⟨F2,_,σD1,xs[i],σ3,(r2.grow gr).push ox,e1,fun F3 H3 σ4 x3 kp3 r3=>?_⟩
  revert h1
  refine bJ fun ok σ5 e2 h1=>?_
  try dsimp only at h1
  refine ⟨F3,_,σ3,ok,σ5,r3,e2,fun F4 H4 x4 r4=>?_⟩;have xx:=((x1.trans gr.x).trans x3).trans x4;have kp5:=kp1.trans kp3;cases ok with
  | false =>
   simp only [Bool.false_eq_true,if_false] at h1 ⊢;exact ⟨xs.length - (i + 1),by omega,rfl,hi,F4,σ5,ds,zs,xx,kp5,r4,by omega,h1,hys⟩
  | true =>
   simp only [if_true] at h1 ⊢
   revert h1
   refine bJ fun d σ6 e3 h1=>?_
   try dsimp only at h1
   obtain ⟨⟨ws,σ7⟩,e4,e5⟩:=cn h1;cases e5;refine ⟨F4,_,σ5,d,σ6,r4,e3,fun F5 H5 v x5 r5=>?_⟩;obtain ⟨a,vs,ea,he,hl,r6⟩:=(r5.perm (.swap _ _ _)).openL;cases ea;refine ⟨vs,he,by omega,xs.length - (i + 1),by omega,rfl,hi,?_⟩;have r7 : Rel X.K F5 H5 σ6 σ4 ((.cell,.ref p) :: ((ds ++ [d]).zip (vs ++ [v]) ++ R)):=by
    refine r6.perm (.cons _ ?_);rw [List.zip_append hl];simp
   obtain ⟨r8,x8⟩:=r7.write (o:=.lst (vs ++ [v]));exact ⟨F5,σ6,ds ++ [d],ws,(xx.trans x5).trans x8,kp5,r8.formL (by simp [hl]) cG,by simp; omega,e4,by rw [<- hys]; simp⟩
 ·left
  have ei : i = xs.length:=Nat.le_antisymm hle hi;subst ei;rw [List.drop_length] at h1;simp only [j9] at h1;cases h1;rw [List.append_nil] at hys;subst hys;refine ⟨j.done F1 H1 x1,kk F1 H1 _ x1 ?_⟩;rw [hlen];refine r2.cut rfl ?_;apply List.ext_getElem?;intro n;rcases Nat.lt_or_ge n σ.length with hn | hn
  ·rw [List.getElem?_take_of_lt hn,kp1 n (fun z=>absurd (hw n z) oM),List.getElem?_append_left hn]
  ·rw [List.getElem?_eq_none (by simp; omega),List.getElem?_eq_none hn]
theorem Ef (hc : X.calm = true) (T : mN X N' scope) (hi : QI X tg iter i) (hg : ∀ cl s H fp aa,QG (cV X N' scope cl s H fp aa) tg g W) (ht : ∀ cl s H fp aa,vH (cV X N' scope cl s H fp aa) ifs t)
  (he : ∀ cl s H fp aa,QE (cV X N' scope cl s H fp aa) elt c) (hw : ∀ i ∈ W,X.N.length <= i) (hs : autoParam (∀ x,foldedSetIterable iter X.env x = pure x) kS._auto_1) :
  QE X (.ListComp elt [⟨tg,iter,ifs,0⟩] scope pos) (eC (N'.length - X.N.length) i g t c):=by
 rintro aa s σ H Q I ⟨F,R,σD,d,σD',r,ec,k⟩;have hlen : σ.length = X.N.length:=I.len;refine Ek (X:=X) (N':=N') (g:=rG X.K g W) (tt:=rT X.K t) (te:=rE X.K c) hc T hi hg ht he hs aa s σ H Q I ?_;unfold eC at ec
 revert ec
 refine bJ fun xs σ1 h ec=>?_
 try dsimp only at ec
 split at ec
 ·rename_i hz
  obtain ⟨⟨ys,σ2⟩,e1,e2⟩:=cn ec;cases e2;refine ⟨F,R,σD,xs,σ1,r,h,fun F1 H1 J x1 r1 j p hp=>?_⟩;exact z5 (X:=X) (W:=W) r1 j hz (fun i hi=>by rw [hlen]; exact hw i hi) e1 (fun F2 H2 v x2 r2=>k F2 H2 v (x1.trans x2) r2) p hp
 ·cases ec
theorem xa (ix : Nat) {y : Str} {py spos : Pos} (hN : X.N.Nodup) (hc : X.calm = true) (T : mN X N' scope) (hi : QI X tg iter i) (hg : ∀ cl s H fp aa,QG (cV X N' scope cl s H fp aa) tg g W) (ht : ∀ cl s H fp aa,vH (cV X N' scope cl s H fp aa) ifs t)
  (he : ∀ cl s H fp aa,QE (cV X N' scope cl s H fp aa) elt c) (hw : ∀ i ∈ W,X.N.length <= i) (hsw : swapsWith (.ListComp elt [⟨tg,iter,ifs,0⟩] scope pos) (some (.Name y py)) spos.line X.env = pure true)
  (hiN : autoParam (X.N[ix]? = some y) aI._auto_1) (hx : autoParam (lY X.env.scope y) vR._auto_1) (hs : autoParam (∀ x,foldedSetIterable iter X.env x = pure x) kS._auto_1) (hf : autoParam (X.fn y = true \/ X.env.scope.names.lookup y = some .local) ma._auto_1) :
  QS X (.Assign [.Name y py] (.ListComp elt [⟨tg,iter,ifs,0⟩] scope pos) spos) (bf ix (eC (N'.length - X.N.length) i g t c)) [ix]:=by
 rintro aa s σ H En I ⟨F,R,σD,o,r,ec,k⟩;have hlen : σ.length = X.N.length:=I.len;refine xq (X:=X) (N':=N') (g:=rG X.K g W) (tt:=rT X.K t) (te:=rE X.K c) hN hiN hx hsw hc T hi hg ht he hs hf aa s σ H En I ?_;unfold bf at ec
 revert ec
 refine bJ fun d0 σ0 h0 ec=>?_
 try dsimp only at ec
 split at ec
 ·rename_i hl
  cases ec;unfold eC at h0
  revert h0
  refine bJ fun xs σ1 h h0=>?_
  try dsimp only at h0
  split at h0
  ·rename_i hz
   obtain ⟨⟨ys,σ2⟩,e1,e2⟩:=cn h0;cases e2;refine ⟨F,R,σD,xs,σ1,r,h,fun F1 H1 J x1 r1 j p hp=>?_⟩;exact z5 (X:=X) (W:=W) (Q:=fun x H1=>ni ix x σ H1 En.nx) r1 j hz (fun i hi=>by rw [hlen]; exact hw i hi) e1 (fun F2 H2 v x2 r2=>k F2 H2 _ (x1.trans x2) Kp.set (r2.store (by rw [<- r2.mt.length]; exact hl))) p hp
  ·cases h0
 ·cases ec
end
mutual
noncomputable def D.py : D -> Option PyData
 | .non=>some .none
 | .bl b=>some (.bool b)
 | .int i=>some (.int i)
 | .str x=>some (.str x)
 | .lst _ xs=>(D.pyL xs).map .list
 | .tup xs=>(D.pyL xs).map .tuple
 | _=>none
noncomputable def D.pyL : List D -> Option (List PyData)
 | []=>some []
 | x :: xs=>(D.py x).bind fun p=>(D.pyL xs).map fun ps=>p :: ps
end
section
variable {X : Cx} {aa : List (Addr × Obj)} {σ : St} {H : Hp} {s : Shared} {F : Addr -> Prop}
theorem sX (I : L2.Inv X aa σ H s) {a : Addr} {vs : List V} (h : dJ X.K H a vs) : ∃ its o n,Vals vs its /\ s.heap.get? a = some o /\ o.cls = .type "list" /\ o.data = .seq its.toArray n:=by
 obtain ⟨its,r,⟨o,n,e,c,_,d⟩,_⟩:=I.list h;exact ⟨its,o,n,r,e,c,d⟩
theorem uX (I : L2.Inv X aa σ H s) {a : Addr} {vs : List V} (h : ug X.K H a vs) : ∃ its o n,Vals vs its /\ s.heap.get? a = some o /\ o.cls = .type "tuple" /\ o.data = .seq its.toArray n:=by
 obtain ⟨its,r,⟨o,e,c,n,d⟩,_⟩:=I.tuple h;exact ⟨its,o,n,r,e,c,d⟩
mutual
theorem sG (I : L2.Inv X aa σ H s) : ∀ {d : D} {v : V} {L : List Addr} {p : PyData} {u : Value},Ow X.K F H d v L -> d.py = some p -> RelV v u -> ∃ as,Reads s.heap u p as
 | .non,v,L,p,u,o,e,r=>by simp only [D.py,Ow] at e o; cases e; obtain ⟨rfl,_⟩:=o; cases r; exact ⟨_,.none⟩
 | .bl b,v,L,p,u,o,e,r=>by simp only [D.py,Ow] at e o; cases e; obtain ⟨rfl,_⟩:=o; cases r; exact ⟨_,.bool b⟩
 | .int i,v,L,p,u,o,e,r=>by simp only [D.py,Ow] at e o; cases e; obtain ⟨rfl,_⟩:=o; obtain ⟨t,rfl⟩:=r; exact ⟨_,.int i t⟩
 | .str x,v,L,p,u,o,e,r=>by simp only [D.py,Ow] at e o; cases e; obtain ⟨rfl,_⟩:=o; obtain ⟨t,rfl⟩:=r; exact ⟨_,.str x t⟩
 | .lst own xs,v,L,p,u,o,e,r=>by
  simp only [D.py] at e
  revert e
  refine lR fun ps h e=>?_
  cases e;obtain ⟨a,vs,rfl,sq,L',ol⟩:=Bor.lst ⟨L,o⟩;cases r;obtain ⟨its,ob,n,rv,e1,e2,e3⟩:=sX I sq;obtain ⟨as,ra⟩:=mh I ol h rv;exact ⟨_,.list e1 e2 e3 ra⟩
 | .tup xs,v,L,p,u,o,e,r=>by
  simp only [D.py] at e
  revert e
  refine lR fun ps h e=>?_
  cases e;obtain ⟨a,vs,rfl,sq,L',ol⟩:=Bor.tup ⟨L,o⟩;cases r;obtain ⟨its,ob,n,rv,e1,e2,e3⟩:=uX I sq;obtain ⟨as,ra⟩:=mh I ol h rv;exact ⟨_,.tuple e1 e2 e3 ra⟩
 | .hole,_,_,_,_,_,e,_=>by simp only [D.py] at e; cases e
 | .cell,_,_,_,_,_,e,_=>by simp only [D.py] at e; cases e
 | .node _ _,_,_,_,_,_,e,_=>by simp only [D.py] at e; cases e
 | .pin _ _,_,_,_,_,_,e,_=>by simp only [D.py] at e; cases e
 | .ty _,_,_,_,_,_,e,_=>by simp only [D.py] at e; cases e
 | .cls _,_,_,_,_,_,e,_=>by simp only [D.py] at e; cases e
 | .obj _ _ _ _,_,_,_,_,_,e,_=>by simp only [D.py] at e; cases e
 | .dct _ _ _,_,_,_,_,_,e,_=>by simp only [D.py] at e; cases e
theorem mh (I : L2.Inv X aa σ H s) : ∀ {xs : List D} {vs : List V} {L : List Addr} {ps : List PyData} {us : List Value},OwL X.K F H xs vs L -> D.pyL xs = some ps -> Vals vs us -> ∃ as,ReadsAll s.heap us ps as
 | [],vs,L,ps,us,o,e,r=>by
  simp only [D.pyL,OwL] at e o;cases e;obtain ⟨rfl,_⟩:=o;cases r;exact ⟨_,.nil⟩
 | x :: xs,vs,L,ps,us,o,e,r=>by
  simp only [D.pyL,OwL] at e o;obtain ⟨v,ws,L1,L2,rfl,o1,o2,_⟩:=o
  revert e
  refine bK fun p h1 e=>?_
  revert e
  refine lR fun qs h2 e=>?_
  cases e;cases r with
  | cons r1 r2 =>
   obtain ⟨as,ra⟩:=sG I o1 h1 r1;obtain ⟨bs,rb⟩:=mh I o2 h2 r2;exact ⟨_,.cons ra rb⟩
end
theorem Bor.reads (I : L2.Inv X aa σ H s) {d : D} {v : V} {p : PyData} {u : Value} (b : Bor X.K F H d v) (e : d.py = some p) (r : RelV v u) : ∃ as,Reads s.heap u p as:=by
 obtain ⟨L,o⟩:=b;exact sG I o e r
end
noncomputable def ll (p q : PyData) : Bool:=p.canLay0 && q.canLay0 && decide (min p.depth q.depth <= 50)
noncomputable def iL : D -> D -> Option D:=fun x y=>x.py.bind fun p=>y.py.bind fun q=>if ll p q = true then some (.bl (PyData.eqv p q)) else none
noncomputable def hU : D -> D -> Option D:=fun x y=>x.py.bind fun p=>y.py.bind fun q=>if ll p q = true then some (.bl (!PyData.eqv p q)) else none
section
variable {X : Cx}
theorem tN {x y d : D} (h : iL x y = some d) : ∃ p q,x.py = some p /\ y.py = some q /\ p.canLay0 = true /\ q.canLay0 = true /\ min p.depth q.depth <= 50 /\ d = .bl (PyData.eqv p q):=by
 unfold iL at h;rcases h1 : x.py with _ | p
 ·rw [h1] at h; cases h
 ·rw [h1] at h; simp only [bind_some] at h
  rcases h2 : y.py with _ | q
  ·rw [h2] at h; cases h
  ·rw [h2] at h; simp only [bind_some] at h
   split at h
   ·rename_i hk
    cases h;simp only [ll,Bool.and_eq_true,decide_eq_true_eq] at hk;exact ⟨p,q,rfl,rfl,hk.1.1,hk.1.2,hk.2,rfl⟩
   ·cases h
theorem tM {x y d : D} (h : hU x y = some d) : ∃ p q,x.py = some p /\ y.py = some q /\ p.canLay0 = true /\ q.canLay0 = true /\ min p.depth q.depth <= 50 /\ d = .bl (!PyData.eqv p q):=by
 unfold hU at h;rcases h1 : x.py with _ | p
 ·rw [h1] at h; cases h
 ·rw [h1] at h; simp only [bind_some] at h
  rcases h2 : y.py with _ | q
  ·rw [h2] at h; cases h
  ·rw [h2] at h; simp only [bind_some] at h
   split at h
   ·rename_i hk
    cases h;simp only [ll,Bool.and_eq_true,decide_eq_true_eq] at hk;exact ⟨p,q,rfl,rfl,hk.1.1,hk.1.2,hk.2,rfl⟩
   ·cases h
theorem iS (hu : X.A.units + 64 < cLine) : eU X (compareOp .Eq) iL:=by
 refine ⟨fun aa s σ H x y v u Q I rx ry pz=>?_,fun x y d h=>?_⟩
 ·obtain ⟨F,dx,dy,d,w,b1,b2,eg,hw,q⟩:=pz
  obtain ⟨p,r,e1,e2,c1,c2,hd,rfl⟩:=tN eg;cases hw;obtain ⟨as,ra⟩:=b1.reads I e1 rx;obtain ⟨bs,rb⟩:=b2.reads I e2 ry;exact SeqAt.eqOverData _ _ _ _ _ _ _ _ _ _ _ _ ra rb c1 c2 oM ⟨.bl _,H,I,rfl,q⟩
 ·obtain ⟨p,r,_,_,_,_,_,rfl⟩:=tN h
  exact ⟨_,rfl⟩
theorem gQ (hu : X.A.units + 64 < cLine) : eU X (compareOp .NotEq) hU:=by
 refine ⟨fun aa s σ H x y v u Q I rx ry pz=>?_,fun x y d h=>?_⟩
 ·obtain ⟨F,dx,dy,d,w,b1,b2,eg,hw,q⟩:=pz
  obtain ⟨p,r,e1,e2,c1,c2,hd,rfl⟩:=tM eg;cases hw;obtain ⟨as,ra⟩:=b1.reads I e1 rx;obtain ⟨bs,rb⟩:=b2.reads I e2 ry;exact SeqAt.neOverData _ _ _ _ _ _ _ _ _ _ _ _ ra rb c1 c2 oM ⟨.bl _,H,I,rfl,q⟩
 ·obtain ⟨p,r,_,_,_,_,_,rfl⟩:=tM h
  exact ⟨_,rfl⟩
end
noncomputable def BorL (K : PySem.W.Frag) (F : Addr -> Prop) (H : Hp) : List D -> List V -> Prop
 | [],[]=>True
 | d :: ds,v :: vs=>Bor K F H d v /\ BorL K F H ds vs
 | _,_=>False
theorem BorL.of {K : PySem.W.Frag} {F : Addr -> Prop} {H : Hp} {σD : aP} {σ : St} : ∀ {ds : List D} {vs : List V} {R : Ro},ds.length = vs.length -> Rel K F H σD σ (ds.zip vs ++ R) -> BorL K F H ds vs:=by
 intro ds
 induction ds with
 | nil =>
  intro vs R h r;cases vs with
  | nil=>trivial
  | cons _ _=>cases h
 | cons d ds ih =>
  intro vs R h r;cases vs with
  | nil=>cases h
  | cons v vs=>exact ⟨r.bor List.mem_cons_self,ih (R:=R) (Nat.succ.inj h) (Rel.pop (R:=ds.zip vs ++ R) r)⟩
structure iy (X : Cx) (f : Value) (g : List D -> Option D) : Prop where
 run : CallR X f (fun vs H Q=>∃ F ds d w,BorL X.K F H ds vs /\ g ds = some d /\ d.sc = some w /\ Q w H)
 sc : ∀ ds d,g ds = some d -> ∃ w,d.sc = some w
noncomputable def lW : List DP -> aP -> Option (List D)
 | [],_=>some []
 | p :: ps,σ=>(p σ).bind fun d=>(lW ps σ).map fun ds=>d :: ds
noncomputable def dh (g : List D -> Option D) (ps : List DP) : DP:=fun σ=>(lW ps σ).bind g
noncomputable def gF (g : List D -> Option D) (ca : DA) : DE:=fun σ=>(ca σ).bind fun p=>(g p.1).map fun d=>(d,p.2)
noncomputable def E5 (K : PySem.W.Frag) (ps : List DP) : TA:=fun σ H Q=>∃ F R σD ds,Rel K F H σD σ R /\ lW ps σD = some ds /\ ∀ F' H' vs,Grow F H F' H' -> BorL K F' H' ds vs -> Q vs H'
noncomputable def vI (X : Cx) (es : List Expr) (ps : List DP) : Prop:=PA X es (E5 X.K ps)
section
variable {X : Cx} {e : Expr} {es : List Expr} {p : DP} {ps : List DP} {x : Str} {p1 pos : Pos} {id T : String} {g : List D -> Option D} {ca : DA}
theorem cf : vI X [] []:=jN eY fun σ H Q hq0=>by
 obtain ⟨F,R,σD,ds,r,ec,k⟩:=hq0;cases ec; exact k F H [] Grow.refl trivial
theorem bB (ha : QB X e p) (hr : vI X es ps) (hs : autoParam (starEach (e :: es) X.env = (false,eval e X.env) :: starEach es X.env) aI._auto_1) : vI X (e :: es) (p :: ps):=jN (dF ha hr hs) fun σ H Q hq0=>by
 obtain ⟨F,R,σD,ds,r,ec,k⟩:=hq0;simp only [lW] at ec
 revert ec
 refine bK fun d h1 ec=>?_
 revert ec
 refine lR fun ds2 h2 ec=>?_
 cases ec;refine ⟨F,R,σD,d,r,h1,fun F1 H1 v g1 b1=>?_⟩;exact ⟨F1,R,σD,ds2,r.grow g1,h2,fun F2 H2 vs g2 b2=>k F2 H2 (v :: vs) (g1.trans g2) ⟨b1.grow g2,b2⟩⟩
theorem y4 {f : Value} (hc : iy X f g) {σ : St} {H : Hp} {Q : VK} (h : rB X.K (dh g ps) σ H Q) : zY (fun vs H Q=>∃ F ds d w,BorL X.K F H ds vs /\ g ds = some d /\ d.sc = some w /\ Q w H) (E5 X.K ps) σ H Q:=by
 obtain ⟨F,R,σD,d,r,ec,k⟩:=h;unfold dh at ec
 revert ec
 refine bK fun ds h1 ec=>?_
 obtain ⟨w,hw⟩:=hc.sc _ _ ec;exact ⟨F,R,σD,ds,r,h1,fun F1 H1 vs g1 b1=>⟨F1,ds,d,w,b1,ec,hw,k F1 H1 w g1 ⟨[],Ow.of_sc hw⟩⟩⟩
theorem zL {f : Value} (hc : iy X f g) {σ : St} {H : Hp} {Q : VK} (h : rE X.K (gF g ca) σ H Q) : zY (fun vs H Q=>∃ F ds d w,BorL X.K F H ds vs /\ g ds = some d /\ d.sc = some w /\ Q w H) (rA X.K ca) σ H Q:=by
 obtain ⟨F,R,σD,d,σD',r,ec,k⟩:=h;unfold gF at ec
 revert ec
 refine bJ fun ds σ1 h1 ec=>?_
 try dsimp only at ec
 obtain ⟨z,e1,e2⟩:=cn ec;cases e2;obtain ⟨w,hw⟩:=hc.sc _ _ e1;exact ⟨F,R,σD,ds,_,r,h1,fun F1 H1 vs x1 hl r1=>⟨F1,ds,_,w,BorL.of hl r1,e1,hw,k F1 H1 w x1 ((r1.popN).scal hw)⟩⟩
theorem eP (hc : iy X (.builtin id) g) (hg : Gl X x) (hm : X.mg x = none) (hv : bootBuiltins x = some (.builtin id)) (ha : vI X (e :: es) ps) (hn : autoParam (x ≠ "__name__") cR._auto_1) (hdb : autoParam ((x == ("__debug__" : Str)) = false) cR._auto_1)
  (he : autoParam (starEach (e :: es) X.env = (false,eval e X.env) :: starEach es X.env) aI._auto_1) (hpl : autoParam ((backTo pos (starEach es X.env)).any (·.1) = false) aI._auto_1) : QB X (.Call (.Name x p1) (e :: es) [] pos) (dh g ps) :=
 bc (sP hc.run hg hm hv ha hn hdb he hpl) fun _ _ _ h=>y4 hc h
theorem oF (hc : iy X (.builtin id) g) (hg : Gl X x) (hm : X.mg x = none) (hv : bootBuiltins x = some (.builtin id)) (ha : QA X (e :: es) ca) (hn : autoParam (x ≠ "__name__") cR._auto_1) (hdb : autoParam ((x == ("__debug__" : Str)) = false) cR._auto_1)
  (he : autoParam (starEach (e :: es) X.env = (false,eval e X.env) :: starEach es X.env) aI._auto_1) (hpl : autoParam ((backTo pos (starEach es X.env)).any (·.1) = false) aI._auto_1) : QE X (.Call (.Name x p1) (e :: es) [] pos) (gF g ca) :=
 bc (sP hc.run hg hm hv ha hn hdb he hpl) fun _ _ _ h=>zL hc h
theorem xj {T : String} (hg : Gl X x) (hm : X.mg x = none) (hv : bootBuiltins x = some (.type T)) (hn : autoParam (x ≠ "__name__") cR._auto_1) (hd : autoParam ((x == ("__debug__" : Str)) = false) cR._auto_1) : QB X (.Name x pos) (pC (.ty T)) :=
 bc (Bb (v:=.ty T) hg hm hv rfl hn hd) fun σ H Q hq0=>by obtain ⟨F,R,σD,d,r,ec,k⟩:=hq0; cases ec; exact k F H _ Grow.refl ⟨[],Ow.of_sc rfl⟩
end
section
variable {X : Cx}
theorem j3 {f : Value} {r r' : List V -> Hp -> VK -> Prop} (h : CallR X f r) (i : ∀ xs H Q,r' xs H Q -> r xs H Q) : CallR X f r':=fun aa s σ H xs us Q I rv h'=>h aa s σ H xs us Q I rv (i xs H Q h')
theorem BorL.one {K : PySem.W.Frag} {F : Addr -> Prop} {H : Hp} {d : D} : ∀ {vs : List V},BorL K F H [d] vs -> ∃ v,vs = [v] /\ Bor K F H d v
 | [v],h=>⟨v,rfl,h.1⟩
theorem BorL.two {K : PySem.W.Frag} {F : Addr -> Prop} {H : Hp} {d e : D} : ∀ {vs : List V},BorL K F H [d,e] vs -> ∃ v w,vs = [v,w] /\ Bor K F H d v /\ Bor K F H e w:=by
 intro vs h;cases vs with
 | nil=>exact h.elim
 | cons v vs=>cases vs with
  | nil=>exact h.2.elim
  | cons w vs=>cases vs with
   | nil=>exact ⟨v,w,rfl,h.1,h.2.1⟩
   | cons _ _=>exact h.2.2.elim
noncomputable def fZ : List D -> Option D
 | [.lst _ xs]=>some (.int xs.length)
 | [.tup xs]=>some (.int xs.length)
 | [.str z]=>if z.length <= sizeLine then some (.int z.length) else none
 | _=>none
theorem gN : iy X (.builtin "len") fZ:=by
 refine ⟨j3 (call_len_seq.or tX) fun vs H Q pz=>?_,fun ds d h=>?_⟩
 ·obtain ⟨F,ds,d,w,b,eg,hw,q⟩:=pz
  unfold fZ at eg;split at eg
  ·cases eg; cases hw
   obtain ⟨v,rfl,bv⟩:=b.one;obtain ⟨a,us,rfl,sq,L,ol⟩:=bv.lst;exact .inl ⟨a,us,rfl,.inl sq,by rw [ol.length]; exact q⟩
  ·cases eg; cases hw
   obtain ⟨v,rfl,bv⟩:=b.one;obtain ⟨a,us,rfl,sq,L,ol⟩:=bv.tup;exact .inl ⟨a,us,rfl,.inr sq,by rw [ol.length]; exact q⟩
  ·split at eg
   ·rename_i hz
    cases eg; cases hw;obtain ⟨v,rfl,bv⟩:=b.one;exact .inr ⟨_,by rw [bv.str],hz,q⟩
   ·cases eg
  ·cases eg
 ·unfold fZ at h
  split at h
  ·cases h; exact ⟨_,rfl⟩
  ·cases h; exact ⟨_,rfl⟩
  ·split at h
   ·cases h; exact ⟨_,rfl⟩
   ·cases h
  ·cases h
noncomputable def ue : List D -> Option D
 | [.int i]=>some (.int (if i < 0 then -i else i))
 | _=>none
theorem ES : iy X (.builtin "abs") ue:=by
 refine ⟨j3 zO fun vs H Q pz=>?_,fun ds d h=>?_⟩
 ·obtain ⟨F,ds,d,w,b,eg,hw,q⟩:=pz
  unfold ue at eg;split at eg
  ·cases eg; cases hw
   obtain ⟨v,rfl,bv⟩:=b.one;exact ⟨_,by rw [bv.int],q⟩
  ·cases eg
 ·unfold ue at h
  split at h <;> first | (cases h; exact ⟨_,rfl⟩) | cases h
noncomputable def oN : List D -> Option D
 | [.int i,.int j]=>some (.int (if j > i then j else i))
 | _=>none
noncomputable def lr : List D -> Option D
 | [.int i,.int j]=>some (.int (if j < i then j else i))
 | _=>none
theorem Dt (hc : X.calm = true) : iy X (.builtin "max") oN:=by
 refine ⟨j3 (yr hc) fun vs H Q pz=>?_,fun ds d h=>?_⟩
 ·obtain ⟨F,ds,d,w,b,eg,hw,q⟩:=pz
  unfold oN at eg;split at eg
  ·cases eg; cases hw
   obtain ⟨v,u,rfl,bv,bu⟩:=b.two;exact ⟨_,_,by rw [bv.int,bu.int],q⟩
  ·cases eg
 ·unfold oN at h
  split at h <;> first | (cases h; exact ⟨_,rfl⟩) | cases h
theorem tY (hc : X.calm = true) : iy X (.builtin "min") lr:=by
 refine ⟨j3 (yq hc) fun vs H Q pz=>?_,fun ds d h=>?_⟩
 ·obtain ⟨F,ds,d,w,b,eg,hw,q⟩:=pz
  unfold lr at eg;split at eg
  ·cases eg; cases hw
   obtain ⟨v,u,rfl,bv,bu⟩:=b.two;exact ⟨_,_,by rw [bv.int,bu.int],q⟩
  ·cases eg
 ·unfold lr at h
  split at h <;> first | (cases h; exact ⟨_,rfl⟩) | cases h
noncomputable def sd : D -> Option Value
 | .non=>some (.type "NoneType")
 | .bl _=>some (.type "bool")
 | .int _=>some (.type "int")
 | .str _=>some (.type "str")
 | .lst _ _=>some (.type "list")
 | .tup _=>some (.type "tuple")
 | _=>none
noncomputable def isiA : List String:=["NoneType","bool","int","str","list","tuple"]
noncomputable def isiB : List String:=["int","bool","str","list","tuple"]
noncomputable def n5 (a b : String) : Option Bool:=if (isiA.contains a && isiB.contains b) = true then some (a == b || (a == "bool" && b == "int")) else none
noncomputable def rZ : D -> Option String
 | .non=>some "NoneType"
 | .bl _=>some "bool"
 | .int _=>some "int"
 | .str _=>some "str"
 | .lst _ _=>some "list"
 | .tup _=>some "tuple"
 | _=>none
theorem Bv {x : D} {a : String} (h : rZ x = some a) : sd x = some (.type a):=by
 cases x <;> first | (cases h; rfl) | cases h
noncomputable def qu (ds : List D) : Option D:=match ds with
 | [x,.ty t]=>(rZ x).bind fun a=>(n5 a t).map .bl
 | _=>none
theorem zB {K : PySem.W.Frag} {a b : String} {k : Bool} (h : n5 a b = some k) : kitOne K (.type a) (.type b) = some k:=by
 unfold n5 at h;split at h
 ·rename_i hc
  rw [Bool.and_eq_true,List.contains_iff_mem,List.contains_iff_mem] at hc;obtain ⟨ha,hb⟩:=hc;simp only [isiA,isiB,List.mem_cons,List.not_mem_nil,or_false] at ha hb;rcases ha with rfl | rfl | rfl | rfl | rfl | rfl <;> rcases hb with rfl | rfl | rfl | rfl | rfl <;> (cases h; rfl)
 ·cases h
theorem xK {o : Option Bool} {d : D} (h : o.map D.bl = some d) : ∃ k,o = some k /\ d = .bl k:=by
 cases o with
 | none=>cases h
 | some k=>cases h; exact ⟨k,rfl,rfl⟩
theorem BH {aa : List (Addr × Obj)} {σ : St} {H : Hp} {s : Shared} {F : Addr -> Prop} {x : D} {v : V} {u : Value} {t c : Value} {b : Bool} {Q : Value -> Shared -> Prop} {E : Value -> Shared -> Prop} (I : L2.Inv X aa σ H s) (bo : Bor X.K F H x v) (rv : RelV v u) (hk : sd x = some t)
  (e : kitOne X.K t c = some b) (h : ∀ tk,Q (.bool b) { s with toks:=tk }) : wpAny (model X.prog X.w) X.A (call (.builtin "isinstance") [u,c]) Q E s:=by
 unfold sd at hk;split at hk
 ·cases hk; rw [bo.sc (w:=.non) rfl] at rv; exact jW I rv (.non) e h
 ·cases hk; rw [bo.bl] at rv; exact jW I rv (.bl _) e h
 ·cases hk; rw [bo.int] at rv; exact jW I rv (.int _) e h
 ·cases hk; rw [bo.str] at rv; exact jW I rv (.str _) e h
 ·cases hk
  obtain ⟨a,vs,rfl,sq,L,ol⟩:=bo.lst;cases rv;obtain ⟨its,o,n,_,e1,e2,e3⟩:=sX I sq;exact kia_one kitx_list I.kIn ⟨_,e1,e2⟩ e (fun z=>nomatch z) h
 ·cases hk
  obtain ⟨a,vs,rfl,sq,L,ol⟩:=bo.tup;cases rv;obtain ⟨its,o,n,_,e1,e2,e3⟩:=uX I sq;exact kia_one kitx_tuple I.kIn ⟨_,e1,e2⟩ e (fun z=>nomatch z) h
 ·cases hk
theorem ER : iy X (.builtin "isinstance") qu:=by
 refine ⟨fun aa s σ H vs us Q I rv pz=>?_,fun ds d h=>?_⟩
 ·obtain ⟨F,ds,d,w,b,eg,hw,q⟩:=pz
  have key : ∀ {x : D} {a t : String},ds = [x,.ty t] -> sd x = some (.type a) -> (n5 a t).map D.bl = some d -> wpAny (model X.prog X.w) X.A (call (.builtin "isinstance") us) (EP X aa σ Q) X.xe s:=fun {x a t} e1 e2 e3=>by
   subst e1;obtain ⟨k,e4,rfl⟩:=xK e3;cases hw;obtain ⟨v,u,rfl,bv,bu⟩:=b.two;obtain ⟨u1,u2,rfl,r1,r2⟩:=vS rv;have hu : u = .ty t:=bu.sc rfl;subst hu;cases r2;exact BH I bv r1 e2 (zB e4) fun tk=>⟨.bl k,H,I.tok tk,rfl,q⟩
  unfold qu at eg;split at eg
  ·rename_i x t
   rcases hk : rZ x with _ | a
   ·rw [hk] at eg; cases eg
   ·rw [hk] at eg
    exact key rfl (Bv hk) eg
  ·cases eg
 ·unfold qu at h
  split at h
  ·rename_i x t
   rcases hk : rZ x with _ | a
   ·rw [hk] at h; cases h
   ·rw [hk] at h
    obtain ⟨k,_,rfl⟩:=xK h;exact ⟨_,rfl⟩
  ·cases h
noncomputable def gB : List D -> Option (List Int)
 | []=>some []
 | .int i :: xs=>(gB xs).map fun r=>i :: r
 | _=>none
noncomputable def nS : List D -> Option D
 | [.lst _ xs]=>(gB xs).map fun ns=>.int ns.sum
 | _=>none
theorem wy {xs : List D} {ns : List Int} (h : gB xs = some ns) : xs = ns.map D.int:=by
 induction xs generalizing ns with
 | nil=>cases h; rfl
 | cons x xs ih =>
  cases x <;> first | (simp only [gB] at h; cases hh : gB xs with | none=>rw [hh] at h; cases h | some r=>rw [hh] at h; cases h; rw [ih hh]; rfl) | (simp only [gB] at h; cases h)
theorem OwL.ints {K : PySem.W.Frag} {F : Addr -> Prop} {H : Hp} : ∀ {ns : List Int} {vs : List V} {L : List Addr},OwL K F H (ns.map D.int) vs L -> vs = ns.map V.int
 | [],vs,L,h=>by simp only [List.map_nil,OwL] at h; exact h.1
 | n :: ns,vs,L,h=>by
  simp only [List.map_cons,OwL] at h;obtain ⟨v,ws,L1,L2,rfl,o,ol,_⟩:=h;rw [(o.sc (w:=.int n) rfl).1,OwL.ints ol]; rfl
theorem Ak (hc : X.calm = true) : iy X (.builtin "sum") nS:=by
 refine ⟨fun aa s σ H vs us Q I rv pz=>?_,fun ds d h=>?_⟩
 ·obtain ⟨F,ds,d,w,b,eg,hw,q⟩:=pz
  unfold nS at eg;split at eg
  ·rename_i own xs
   rcases hns : gB xs with _ | ns
   ·rw [hns] at eg; cases eg
   ·rw [hns] at eg; cases eg; cases hw
    have ex:=wy hns;subst ex;obtain ⟨v,rfl,bv⟩:=b.one;obtain ⟨a,ws,rfl,sq,L,ol⟩:=bv.lst;obtain ⟨u,rfl,ru⟩:=mP rv;cases ru;obtain ⟨its,r,pl,_⟩:=I.list sq;rw [ol.ints] at r;have hi : IntsAre its ns:=wz r;obtain ⟨ys,hy⟩:=hi.allInts.items;refine sum_intListG (xs:=ys) (I.ok.hd hc) (by rw [<- hy]; exact pl.isList) fun h' tk t' hk=>⟨.int ns.sum,H,I.kept hk,?_,q⟩
    have : (preSum (numAt ys) ys.size) = ns.sum:=by
     rw [preSum_eq,List.take_of_length_le (by simp),<- nums_intItems,<- hy];rw [show its.toArray.toList = its from rfl,hi.numsOf]
    rw [this];exact ⟨t',rfl⟩
  ·cases eg
 ·unfold nS at h
  split at h
  ·rcases hh : gB _ with _ | r
   ·rw [hh] at h; cases h
   ·rw [hh] at h; cases h; exact ⟨_,rfl⟩
  ·cases h
end
noncomputable def cN : D -> List Int -> Option D
 | t,[]=>some t
 | .lst _ xs,j :: js=>(atI xs j).bind fun x=>cN x js
 | .tup xs,j :: js=>(atI xs j).bind fun x=>cN x js
 | _,_ :: _=>none
noncomputable def cU : D -> List Int -> D -> D
 | _,[],d=>d
 | .lst o xs,j :: js,d=>match ixN xs.length j with | some k=>(match xs[k]? with | some x=>.lst o (xs.set k (cU x js d)) | none=>.lst o xs) | none=>.lst o xs
 | .tup xs,j :: js,d=>match ixN xs.length j with | some k=>(match xs[k]? with | some x=>.tup (xs.set k (cU x js d)) | none=>.tup xs) | none=>.tup xs
 | t,_ :: _,_=>t
noncomputable def Lc (H : Hp) : V -> List Int -> V -> Prop
 | v,[],w=>w = v
 | v,j :: js,w=>∃ a vs u,v = .ref a /\ (H a = some (.lst vs) \/ H a = some (.tup vs)) /\ atI vs j = some u /\ Lc H u js w
theorem kL {α : Type} {xs : List α} {j : Int} {x : α} (h : atI xs j = some x) : ∃ k,ixN xs.length j = some k /\ xs[k]? = some x:=by
 unfold atI at h;rcases hk : ixN xs.length j with _ | k
 ·rw [hk] at h; cases h
 ·rw [hk] at h; exact ⟨k,rfl,h⟩
section
variable {K : PySem.W.Frag} {F F' : Addr -> Prop} {H H' : Hp} {σD : aP} {σ : St} {R S S' : Ro}
theorem Lc.grow {H H' : Hp} (k : ∀ a o,H a = some o -> H' a = some o) : ∀ {js : List Int} {v w : V},Lc H v js w -> Lc H' v js w
 | [],_,_,h=>h
 | j :: js,_,_,⟨a,vs,u,e,h,hu,r⟩=>⟨a,vs,u,e,by rcases h with h | h; exact .inl (k _ _ h); exact .inr (k _ _ h),hu,Lc.grow k r⟩
theorem Lc.snoc : ∀ {js : List Int} {j : Int} {v w : V},Lc H v (js ++ [j]) w -> ∃ u,Lc H v js u /\ Lc H u [j] w:=by
 intro js
 induction js with
 | nil=>intro j v w h; exact ⟨v,rfl,h⟩
 | cons i js ih =>
  intro j v w h;obtain ⟨a,vs,u,e,h,hu,r⟩:=h;obtain ⟨z,h1,h2⟩:=ih r;exact ⟨z,⟨a,vs,u,e,h,hu,h1⟩,h2⟩
theorem Ow.focus : ∀ {js : List Int} {t : D} {v : V} {L : List Addr} {xs : List D},Ow K F H t v L -> cN t js = some (.lst true xs) ->
  ∃ l La Lx Lb,Lc H v js (.ref l) /\ L = La ++ (l :: Lx) ++ Lb /\ (∃ vs,H l = some (.lst vs) /\ OwL K F H xs vs Lx) /\
   ∀ (F' : Addr -> Prop) (H' : Hp) (d' : D) (Lx' : List Addr),Ext F H F' H' -> (∀ a ∈ La ++ Lb,H' a = H a) -> Ow K F' H' d' (.ref l) Lx' -> Ow K F' H' (cU t js d') v (La ++ Lx' ++ Lb):=by
 intro js
 induction js with
 | nil =>
  intro t v L xs o e;simp only [cN] at e;cases e;simp only [Ow] at o;obtain ⟨l,vs,L',rfl,h,ol,rfl⟩:=o;refine ⟨l,[],L',[],rfl,(List.append_nil _).symm,⟨vs,h,ol⟩,fun F' H' d' Lx' x k o'=>?_⟩;simp only [cU,List.nil_append,List.append_nil];exact o'
 | cons j js ih =>
  intro t v L xs o e;cases t with
  | lst b ys =>
   simp only [cN] at e;rcases h1 : atI ys j with _ | y
   ·rw [h1] at e; cases e
   rw [h1] at e; simp only [bind_some] at e;obtain ⟨k,hk,hy⟩:=kL h1;cases b with
   | true =>
    simp only [Ow] at o;obtain ⟨a,vs,L',rfl,ha,ol,rfl⟩:=o;obtain ⟨w,La,Ly,Lb,ew,rfl,oy,back⟩:=ol.kid hy;obtain ⟨l,Ma,Mx,Mb,lc,rfl,hl,back2⟩:=ih oy e;refine ⟨l,a :: (La ++ Ma),Mx,Mb ++ Lb,⟨a,vs,w,rfl,.inl ha,?_,lc⟩,by simp,hl,fun F' H' d' Lx' x kk o'=>?_⟩
    ·unfold atI; rw [ol.length,hk]; exact ew
    ·have o2:=back2 F' H' d' Lx' x (fun b hb=>kk b (by simp at hb ⊢; rcases hb with hb | hb <;> simp [hb])) o'
     have o3:=back F' H' _ _ x (fun b hb=>kk b (by simp at hb ⊢; rcases hb with hb | hb <;> simp [hb])) o2;simp only [cU,hk,hy,Ow];exact ⟨a,vs,_,rfl,(kk a (by simp)).trans ha,o3,by simp⟩
   | false =>
    exfalso;simp only [Ow] at o;obtain ⟨a,vs,rfl,_,ol,rfl⟩:=o;obtain ⟨w,La,Ly,Lb,ew,eL,oy,back⟩:=ol.kid hy;obtain ⟨l,Ma,Mx,Mb,lc,rfl,hl,back2⟩:=ih oy e;simp at eL
  | tup ys =>
   simp only [cN] at e;rcases h1 : atI ys j with _ | y
   ·rw [h1] at e; cases e
   rw [h1] at e; simp only [bind_some] at e;obtain ⟨k,hk,hy⟩:=kL h1;simp only [Ow] at o;obtain ⟨a,vs,rfl,ft,ol⟩:=o;obtain ⟨w,La,Ly,Lb,ew,rfl,oy,back⟩:=ol.kid hy;obtain ⟨l,Ma,Mx,Mb,lc,rfl,hl,back2⟩:=ih oy e;have ft' : F a /\ H a = some (.tup vs):=by
    rcases ft with h | ⟨_,h⟩
    ·exact h
    ·simp at h
   refine ⟨l,La ++ Ma,Mx,Mb ++ Lb,⟨a,vs,w,rfl,.inr ft'.2,?_,lc⟩,by simp,hl,fun F' H' d' Lx' x kk o'=>?_⟩
   ·unfold atI; rw [ol.length,hk]; exact ew
   ·have o2:=back2 F' H' d' Lx' x (fun b hb=>kk b (by simp at hb ⊢; rcases hb with hb | hb <;> simp [hb])) o'
    have o3:=back F' H' _ _ x (fun b hb=>kk b (by simp at hb ⊢; rcases hb with hb | hb <;> simp [hb])) o2;simp only [cU,hk,hy,Ow];exact ⟨a,vs,rfl,.inl ⟨(x a ft'.1).1,(x a ft'.1).2.trans ft'.2⟩,by simpa using o3⟩
  | _=>simp only [cN] at e; cases e
theorem Rel.listAt {t : D} {v : V} {js : List Int} {xs : List D} (r : Rel K F H σD σ ((t,v) :: (S ++ R))) (e : cN t js = some (.lst true xs)) :
  ∃ l vs,Lc H v js (.ref l) /\ H l = some (.lst vs) /\ xs.length = vs.length /\ ∀ (ys : List D) (ws : List V) (S' : Ro),(xs.zip vs ++ S).Perm (ys.zip ws ++ S') -> ys.length = ws.length ->
   Rel K F (upd H l (.lst ws)) σD σ ((cU t js (.lst true ys),v) :: (S' ++ R)) /\ Ext F H F (upd H l (.lst ws)):=by
 obtain ⟨L,⟨L1,L23,o1,h23,rfl⟩,nd,nf⟩:=r.front.own;obtain ⟨l,La,Lx,Lb,lc,rfl,⟨vs,hl,ol⟩,back⟩:=o1.focus e;refine ⟨l,vs,lc,hl,ol.toP.1,fun ys ws S' p hlen=>?_⟩;have h23' : OwP K F H (S ++ (R ++ sl σD σ)) L23:=by rw [<- List.append_assoc]; exact h23
 obtain ⟨L2,L3,rfl,h2,h3⟩:=h23'.split;obtain ⟨M,pm,hM⟩:=(ol.toP.2.append h2).perm p;obtain ⟨M1,M2,rfl,hM1,hM2⟩:=hM.split;have all : ((La ++ (l :: Lx) ++ Lb) ++ (L2 ++ L3)).Perm (l :: (La ++ Lb ++ (Lx ++ L2) ++ L3)):=by
  have h1 : ((La ++ (l :: Lx) ++ Lb) ++ (L2 ++ L3)) = La ++ l :: (Lx ++ (Lb ++ (L2 ++ L3))):=by simp
  rw [h1];refine List.perm_middle.trans (.cons _ ?_);have h2 : La ++ Lb ++ (Lx ++ L2) ++ L3 = La ++ (Lb ++ (Lx ++ (L2 ++ L3))):=by simp
  rw [h2];exact (List.perm_append_comm_assoc _ _ _).append_left La
 have nd1:=all.nodup_iff.mp nd;have nl : ∀ a ∈ La ++ Lb ++ (Lx ++ L2) ++ L3,a ≠ l:=fun a ha z=>(List.nodup_cons.mp nd1).1 (z ▸ ha)
 have nF : ∀ a,F a -> a ≠ l:=fun a fa z=>nf l (all.mem_iff.mpr (by simp)) (z ▸ fa)
 have x : Ext F H F (upd H l (.lst ws)):=fun a fa=>⟨fa,aV (nF a fa)⟩
 have kM : ∀ a ∈ M1 ++ M2,upd H l (.lst ws) a = H a:=fun a ha=>aV (nl a (by
  have:=pm.mem_iff.mpr ha
  simp at this ⊢;rcases this with h | h <;> simp [h]))
 have o2 : Ow K F (upd H l (.lst ws)) (.lst true ys) (.ref l) (l :: M1):=by
  simp only [Ow];exact ⟨l,ws,M1,rfl,cG,OwL.ofP hlen (hM1.mono x fun a ha=>kM a (by simp [ha])),rfl⟩
 have o3:=back F (upd H l (.lst ws)) (.lst true ys) (l :: M1) x (fun a ha=>aV (nl a (by simp at ha ⊢; rcases ha with h | h <;> simp [h]))) o2;refine ⟨Rel.of r.mt ⟨⟨(La ++ (l :: M1) ++ Lb) ++ (M2 ++ L3),⟨_,M2 ++ L3,o3,?_,rfl⟩,?_,?_⟩,fun a fa=>?_⟩,x⟩
 ·show OwP K F (upd H l (.lst ws)) ((S' ++ R) ++ sl σD σ) (M2 ++ L3)
  rw [List.append_assoc];exact (hM2.mono x fun a ha=>kM a (by simp [ha])).append (h3.mono x fun a ha=>aV (nl a (by simp [ha])))
 ·have p2 : ((La ++ (l :: M1) ++ Lb) ++ (M2 ++ L3)).Perm ((La ++ (l :: Lx) ++ Lb) ++ (L2 ++ L3)):=by
   refine List.Perm.trans ?_ all.symm;have h1 : ((La ++ (l :: M1) ++ Lb) ++ (M2 ++ L3)) = La ++ l :: (M1 ++ (Lb ++ (M2 ++ L3))):=by simp
   rw [h1];refine List.perm_middle.trans (.cons _ ?_);have h2 : La ++ Lb ++ (Lx ++ L2) ++ L3 = La ++ (Lb ++ ((Lx ++ L2) ++ L3)):=by simp
   rw [h2];refine List.Perm.append_left La ?_;refine (List.perm_append_comm_assoc _ _ _).trans (List.Perm.append_left Lb ?_);rw [<- List.append_assoc];exact pm.symm.append_right L3
  exact p2.nodup_iff.mpr nd
 ·intro a ha fa
  refine nf a ?_ fa;simp only [List.mem_append,List.mem_cons] at ha ⊢;rcases ha with ((h | h | h) | h) | h | h
  ·simp [h]
  ·simp [h]
  ·have:=pm.mem_iff.mpr (List.mem_append_left M2 h)
   rcases List.mem_append.mp this with z | z <;> simp [z]
  ·simp [h]
  ·have:=pm.mem_iff.mpr (List.mem_append_right M1 h)
   rcases List.mem_append.mp this with z | z <;> simp [z]
  ·simp [h]
 ·rw [aV (nF a fa)]; exact r.g.dom a fa
end
noncomputable def gw : List DP -> aP -> Option (List Int)
 | [],_=>some []
 | p :: ps,σ=>(p σ).bind fun d=>match d with | .int i=>(gw ps σ).map fun r=>i :: r | _=>none
theorem tS : ∀ {js : List DP} {p : DP} {σ : aP} {path : List Int},gw (js ++ [p]) σ = some path -> ∃ pre i,path = pre ++ [i] /\ gw js σ = some pre /\ p σ = some (.int i)
 | [],p,σ,path,h=>by
  simp only [List.nil_append,gw] at h;rcases hp : p σ with _ | d
  ·rw [hp] at h; cases h
  ·rw [hp] at h
   cases d <;> first | (cases h; exact ⟨[],_,rfl,rfl,rfl⟩) | cases h
 | q :: js,p,σ,path,h=>by
  simp only [List.cons_append,gw] at h;rcases hq : q σ with _ | d
  ·rw [hq] at h; cases h
  ·rw [hq] at h
   simp only [bind_some] at h;cases d with
   | int i =>
    simp only at h
    revert h
    refine lR fun r hr h=>?_
    cases h;obtain ⟨pre,k,rfl,h2,h3⟩:=tS hr;refine ⟨i :: pre,k,rfl,?_,h3⟩;simp only [gw,hq,bind_some,h2,map_some]
   | _=>cases h
theorem Lc.uniq {H : Hp} : ∀ {js : List Int} {v w w' : V},Lc H v js w -> Lc H v js w' -> w = w':=by
 intro js
 induction js with
 | nil=>intro v w w' h h'; exact h.trans h'.symm
 | cons j js ih =>
  intro v w w' q q';obtain ⟨a,vs,u,e,h,hu,r⟩:=q;obtain ⟨a',vs',u',e',h',hu',r'⟩:=q';subst e;cases e';have ev : vs = vs':=by
   rcases h with h | h <;> rcases h' with h' | h' <;> rw [h] at h' <;> cases h' <;> rfl
  subst ev;rw [hu] at hu';cases hu';exact ih r r'
noncomputable def rP (K : PySem.W.Frag) (i : Nat) (js : List DP) : TE:=fun σ H Q=>∃ F R σD v0 path w,Rel K F H σD σ R /\ σ[i]? = some (some v0) /\ gw js σD = some path /\ Lc H v0 path w /\ ∀ F' H',Grow F H F' H' -> Q w H'
noncomputable def QP (X : Cx) (e : Expr) (i : Nat) (js : List DP) : Prop:=PE X e (rP X.K i js)
section
variable {X : Cx} {e o a b : Expr} {es : List Expr} {p q : DP} {c c' : DE} {pos apos cpos : Pos} {i : Nat} {js : List DP}
theorem gx (i : Nat) {x : Str} {pos : Pos} (hN : autoParam (X.N[i]? = some x) aI._auto_1) (hv : autoParam (mI X.env.scope x) rH._auto_1) (hd : autoParam ((x == ("__debug__" : Str)) = false) cR._auto_1)
  (hcd : autoParam ((x == ("__classdict__" : Str)) = false) cR._auto_1) : QP X (.Name x pos) i []:=bc (iJ hN hv hd hcd) fun σ H Q hq0=>by
 obtain ⟨F,R,σD,v0,path,w,r,hv0,ep,lc,k⟩:=hq0;cases ep;cases lc;exact ⟨_,hv0,k F H Grow.refl⟩
theorem fL (ho : QP X a i js) (hb : QB X b q) (hs : autoParam (kR b) hZ._auto_1) : QP X (.Subscript a b pos) i (js ++ [q]):=bc (v6 tJ ho hb hs) fun σ H Q hq0=>by
 obtain ⟨F,R,σD,v0,path,w,r,hv0,ep,lc,k⟩:=hq0;obtain ⟨pre,j,rfl,e1,e2⟩:=tS ep;obtain ⟨u,l1,l2⟩:=lc.snoc;refine ⟨F,R,σD,v0,pre,u,r,hv0,e1,l1,fun F1 H1 g1=>?_⟩;refine ⟨F1,R,σD,_,r.grow g1,e2,fun F2 H2 y g2 b2=>?_⟩;obtain ⟨ad,vs,z,rfl,hh,hz,rfl⟩:=l2.grow (g1.trans g2).k;rcases hh with hh | hh
 ·exact .inl ⟨ad,vs,j,_,rfl,b2.int,.inl (.inl hh),hz,k F2 H2 (g1.trans g2)⟩
 ·exact .inr (.inl ⟨ad,vs,j,_,rfl,b2.int,.inl (.inl hh),hz,k F2 H2 (g1.trans g2)⟩)
noncomputable def iD (i : Nat) (js : List DP) (p : DP) : DE:=fun σ=>(cx σ i).bind fun t=>(gw js σ).bind fun path=>(cN t path).bind fun n=>match n with
 | .lst true xs=>(p σ).bind fun y=>match y.sc with
  | some _=>if xs.length < sizeLine then some (.non,σ.set i (some (cU t path (.lst true (xs ++ [y]))))) else none
  | none=>none
 | _=>none
theorem iz (ho : QP X o i js) (he : QB X e p) (hbase : autoParam (attributeBase o "append" X.env (eval o X.env) = eval o X.env) aI._auto_1) (hfew : autoParam (((backTo cpos (starEach [e] X.env)).all (fun x=>!x.1) && (backToKw cpos (keywordEach [] X.env)).all (fun x=>x.1.isSome)
   && decide (([e] : List Expr).length + ([] : List Keyword).length + (if ([] : List Keyword).isEmpty then 0 else 1) < 30)) = true) aI._auto_1) (hline : autoParam ((apos.endLine == cpos.line) = true) aI._auto_1)
  (hst : autoParam (starEach [e] X.env = (false,eval e X.env) :: starEach [] X.env) aI._auto_1) : QE X (.Call (.Attribute o "append" apos) [e] [] cpos) (iD i js p) :=
 bc (mW PySem.F.plainAttrs_list PySem.F.slot_list_append PySem.F.type_list_append gY ho (dF he eY hst) hbase hfew hline hst rfl) fun σ H Q hq0=>by
  obtain ⟨F,R,σD,d,σD',r,ec,k⟩:=hq0;unfold iD at ec
  revert ec
  refine bK fun t h1 ec=>?_
  revert ec
  refine bK fun path h2 ec=>?_
  revert ec
  refine bK fun n h3 ec=>?_
  split at ec
  ·rename_i xs
   revert ec
   refine bK fun y h4 ec=>?_
   rcases h5 : y.sc with _ | yw
   ·rw [h5] at ec; cases ec
   ·rw [h5] at ec
    simp only at ec;split at ec
    ·rename_i hz
     cases ec;obtain ⟨v0,hv0,r0⟩:=r.take (bh h1);obtain ⟨l0,vs0,lc0,hl0,_⟩:=Rel.listAt (S:=[]) r0 h3;refine ⟨F,R,σD,v0,path,.ref l0,r,hv0,h2,lc0,fun F1 H1 g1=>⟨.inl ⟨rfl,vs0,.inl (.inl (g1.k _ _ hl0))⟩,?_⟩⟩;refine ⟨F1,R,σD,y,r.grow g1,h4,fun F2 H2 u g2 b2=>?_⟩;have hu : u = yw:=b2.sc h5;subst hu;have g3:=g1.trans g2;obtain ⟨v1,hv1,r1⟩:=(r.grow g3).take (bh h1);rw [hv0] at hv1; cases hv1;have r2 : Rel X.K F2 H2 (σD.set i none) σ ((t,v0) :: ([(y,u)] ++ R)):=(r1.scal (d:=y) h5).perm (.swap _ _ _);obtain ⟨l,vs,lc,hl,hlen,upd'⟩:=r2.listAt h3;have el : l0 = l:=by
      have:=(lc0.grow g3.k).uniq lc
      injection this
     subst el;obtain ⟨r3,x3⟩:=upd' (xs ++ [y]) (vs ++ [u]) [] (by rw [List.zip_append hlen]; simp) (by simp [hlen]);refine ⟨l0,vs,u,rfl,rfl,hl,by omega,?_⟩;have r4:=(Rel.put (R:=R) r3 hv0);rw [List.set_set] at r4;exact k F2 _ .non (g3.x.trans x3) (r4.scal rfl)
    ·cases ec
  ·cases ec
end
section
variable {X : Cx} {e o a b : Expr} {es : List Expr} {p q : DP} {c c' : DE} {pos apos cpos : Pos} {i : Nat} {js : List DP}
noncomputable def jb (i : Nat) (c : DE) : DE:=fun σ=>match cx σ i with
 | some (.lst _ _)=>(c σ).bind fun p=>match cx p.2 i with
  | some (.lst true xs)=>if xs.length < sizeLine then some (.non,p.2.set i (some (.lst true (xs ++ [p.1])))) else none
  | _=>none
 | _=>none
theorem kx (i : Nat) {x : Str} {npos : Pos} (he : QE X e c) (hN : autoParam (X.N[i]? = some x) aI._auto_1) (hv : autoParam (mI X.env.scope x) rH._auto_1) (hd : autoParam ((x == ("__debug__" : Str)) = false) cR._auto_1)
  (hcd : autoParam ((x == ("__classdict__" : Str)) = false) cR._auto_1) (hbase : autoParam (attributeBase (.Name x npos) "append" X.env (eval (.Name x npos) X.env) = eval (.Name x npos) X.env) aI._auto_1) (hfew : autoParam (((backTo cpos (starEach [e] X.env)).all (fun x=>!x.1) && (backToKw cpos (keywordEach [] X.env)).all (fun x=>x.1.isSome)
   && decide (([e] : List Expr).length + ([] : List Keyword).length + (if ([] : List Keyword).isEmpty then 0 else 1) < 30)) = true) aI._auto_1) (hline : autoParam ((apos.endLine == cpos.line) = true) aI._auto_1)
  (hst : autoParam (starEach [e] X.env = (false,eval e X.env) :: starEach [] X.env) aI._auto_1) : QE X (.Call (.Attribute (.Name x npos) "append" apos) [e] [] cpos) (jb i c) :=
 bc (mW PySem.F.plainAttrs_list PySem.F.slot_list_append PySem.F.type_list_append gY (iJ hN hv hd hcd) (dF he eY hst) hbase hfew hline hst rfl) fun σ H Q hq0=>by
  obtain ⟨F,R,σD,d,σD',r,ec,k⟩:=hq0;unfold jb at ec;split at ec
  ·rename_i own ys h0
   obtain ⟨v0,hv0,b0⟩:=r.get (bh h0);obtain ⟨a0,vs0,rfl,sq0,_⟩:=b0.lst
   revert ec
   refine bJ fun y σ1 h1 ec=>?_
   try dsimp only at ec
   split at ec
   ·rename_i xs h2
    split at ec
    ·rename_i hz
     cases ec;refine ⟨_,hv0,.inl ⟨rfl,vs0,sq0⟩,F,R,σD,y,σ1,r,h1,fun F1 H1 v x1 r1=>?_⟩;obtain ⟨v1,hv1,r2⟩:=r1.take (bh h2);rw [hv0] at hv1; cases hv1;obtain ⟨l,vs,lc,hl,hlen,upd'⟩:=Rel.listAt (S:=[(y,v)]) (js:=[]) (xs:=xs) r2 rfl;cases lc;obtain ⟨r3,x3⟩:=upd' (xs ++ [y]) (vs ++ [v]) [] (by rw [List.zip_append hlen]; simp) (by simp [hlen]);refine ⟨_,vs,v,rfl,rfl,hl,by omega,?_⟩;have r4:=(Rel.put (R:=R) r3 hv0);rw [List.set_set] at r4;exact k F1 _ .non (x1.trans x3) (r4.scal rfl)
    ·cases ec
   ·cases ec
  ·cases ec
noncomputable def my (i : Nat) (js : List DP) (q : DP) : DG:=fun d σ=>(cx σ i).bind fun t=>(gw js σ).bind fun path=>(cN t path).bind fun n=>match n with
 | .lst true xs=>(q σ).bind fun y=>match y with
  | .int k=>(ixN xs.length k).map fun j=>σ.set i (some (cU t path (.lst true (xs.set j d))))
  | _=>none
 | _=>none
theorem Az : ∀ {xs : List D} {vs : List V} {j : Nat} {d : D} {v : V},xs.length = vs.length -> j < xs.length -> ∃ x w,((xs.zip vs) ++ [(d,v)]).Perm ((xs.set j d).zip (vs.set j v) ++ [(x,w)]):=by
 intro xs
 induction xs with
 | nil=>intro vs j d v hl hj; exact absurd hj (Nat.not_lt_zero _)
 | cons x xs ih =>
  intro vs j d v hl hj;cases vs with
  | nil=>cases hl
  | cons w vs=>cases j with
   | zero =>
    refine ⟨x,w,?_⟩;show ((x,w) :: (xs.zip vs ++ [(d,v)])).Perm ((d,v) :: (xs.zip vs ++ [(x,w)]));have h1 : ((x,w) :: (xs.zip vs ++ [(d,v)])).Perm ((x,w) :: (d,v) :: xs.zip vs):=(List.perm_append_comm).cons _;have h2 : ((d,v) :: (xs.zip vs ++ [(x,w)])).Perm ((d,v) :: (x,w) :: xs.zip vs):=(List.perm_append_comm).cons _;exact (h1.trans (.swap _ _ _)).trans h2.symm
   | succ j =>
    obtain ⟨y,u,h⟩:=ih (vs:=vs) (j:=j) (d:=d) (v:=v) (Nat.succ.inj hl) (Nat.lt_of_succ_lt_succ hj);exact ⟨y,u,h.cons _⟩
theorem xf (ho : QP X o i js) (hq : QB X a q) (ha : autoParam (∀ v,assign (.Subscript o a pos) X.env v = (do
   let ov <- holding [v] (eval o X.env)
   let iv <- holding [v,ov] (eval a X.env)
   standAt pos
   holding [v,ov,iv] (setItem ov iv v)
   release [v,ov,iv] [])) kS._auto_1) : QG X (.Subscript o a pos) (my i js q) []:=uj (CG ho hq yO ha) fun v σ H Q hq0=>by
 obtain ⟨F,R,σD,d,σD',r,ec,k⟩:=hq0;unfold my at ec
 revert ec
 refine bK fun t h1 ec=>?_
 revert ec
 refine bK fun path h2 ec=>?_
 revert ec
 refine bK fun n h3 ec=>?_
 split at ec
 ·rename_i xs
  revert ec
  refine bK fun y h4 ec=>?_
  split at ec
  ·rename_i kk
   revert ec
   refine lR fun j h5 ec=>?_
   cases ec;obtain ⟨v0,hv0,r0⟩:=r.take (bh h1);obtain ⟨l0,vs0,lc0,hl0,_⟩:=Rel.listAt (S:=[(d,v)]) r0 h3;refine ⟨F,_,σD,v0,path,.ref l0,r,hv0,h2,lc0,fun F1 H1 g1=>?_⟩;refine ⟨F1,_,σD,_,r.grow g1,h4,fun F2 H2 u g2 b2=>?_⟩;have g3:=g1.trans g2;obtain ⟨v1,hv1,r1⟩:=(r.grow g3).take (bh h1);rw [hv0] at hv1; cases hv1;obtain ⟨l,vs,lc,hl,hlen,upd'⟩:=Rel.listAt (S:=[(d,v)]) r1 h3;have el : l0 = l:=by
    have:=(lc0.grow g3.k).uniq lc
    injection this
   subst el;have hj : j < xs.length:=(qt h5).2.1;obtain ⟨xo,wo,pm⟩:=Az (d:=d) (v:=v) hlen hj;obtain ⟨r3,x3⟩:=upd' (xs.set j d) (vs.set j v) [(xo,wo)] pm (by simp [hlen]);refine ⟨l0,vs,kk,j,rfl,b2.int,hl,by rw [<- hlen]; exact h5,?_⟩;have r4:=(Rel.put (R:=(xo,wo) :: R) r3 hv0);rw [List.set_set] at r4;exact k F2 _ σ (g3.x.trans x3) Kp.refl r4.pop
  ·cases ec
 ·cases ec
end
section
variable {K : PySem.W.Frag} {F F' : Addr -> Prop} {H H' : Hp} {σD : aP} {σ : St} {R S : Ro}
theorem OwL.drop : ∀ {n : Nat} {xs : List D} {vs : List V},OwL K F H xs vs [] -> OwL K F H (xs.drop n) (vs.drop n) []
 | 0,_,_,h=>h
 | n + 1,[],vs,h=>by simp only [OwL] at h; rw [h.1]; simp [OwL]
 | n + 1,x :: xs,vs,h=>by
  simp only [OwL] at h;obtain ⟨v,ws,L1,L2,rfl,h1,h2,e⟩:=h;obtain ⟨rfl,rfl⟩:=List.append_eq_nil_iff.mp e.symm;exact OwL.drop (n:=n) h2
theorem OwL.take : ∀ {n : Nat} {xs : List D} {vs : List V},OwL K F H xs vs [] -> OwL K F H (xs.take n) (vs.take n) []
 | 0,_,_,_=>by simp [OwL]
 | n + 1,[],vs,h=>by simp only [OwL] at h; rw [h.1]; simp [OwL]
 | n + 1,x :: xs,vs,h=>by
  simp only [OwL] at h;obtain ⟨v,ws,L1,L2,rfl,h1,h2,e⟩:=h;obtain ⟨rfl,rfl⟩:=List.append_eq_nil_iff.mp e.symm;simp only [List.take_succ_cons,OwL];exact ⟨v,ws.take n,[],[],rfl,h1,OwL.take (n:=n) h2,rfl⟩
theorem Rel.pushL : ∀ {xs : List D} {vs : List V},OwL K F H xs vs [] -> Rel K F H σD σ R -> Rel K F H σD σ (xs.zip vs ++ R)
 | [],vs,h,r=>by simp only [OwL] at h; rw [h.1]; exact r
 | x :: xs,vs,h,r=>by
  simp only [OwL] at h;obtain ⟨v,ws,L1,L2,rfl,h1,h2,e⟩:=h;obtain ⟨rfl,rfl⟩:=List.append_eq_nil_iff.mp e.symm;exact (Rel.pushL h2 r).push h1
end
noncomputable def bY {α : Type} (xs : List α) (lo hi : Option Int) : List α:=(xs.drop (HT.sIx xs.length 0 lo)).take (HT.sIx xs.length xs.length hi - HT.sIx xs.length 0 lo)
noncomputable def lV : Option DP -> aP -> Option (Option Int)
 | none,_=>some none
 | some p,σ=>(p σ).bind fun d=>match d with | .int i=>some (some i) | _=>none
noncomputable def rO (K : PySem.W.Frag) (p : Option DP) : TO:=fun σ H Q=>∃ F R σD o,Rel K F H σD σ R /\ lV p σD = some o /\ ∀ F' H',Grow F H F' H' -> Q o H'
noncomputable def QO (X : Cx) (e : Option Expr) (p : Option DP) : Prop:=PO X e (rO X.K p)
theorem yB {X : Cx} {e : Option Expr} {t t' : TO} (h : PO X e t) (i : ∀ σ H Q,t' σ H Q -> t σ H Q) : PO X e t':=fun aa s σ H Q I h'=>h aa s σ H Q I (i σ H Q h')
section
variable {X : Cx} {e a b : Expr} {lo hi : Option Expr} {pl ph : Option DP} {p q : DP} {c c' : DE} {pos p2 : Pos} {i : Nat}
theorem mV : QO X none none:=yB A3 fun σ H Q hq0=>by obtain ⟨F,R,σD,o,r,ec,k⟩:=hq0; cases ec; exact k F H Grow.refl
theorem jc (h : QB X e p) : QO X (some e) (some p):=yB (A2 h) fun σ H Q hq0=>by
 obtain ⟨F,R,σD,o,r,ec,k⟩:=hq0;simp only [lV] at ec
 revert ec
 refine bK fun d h1 ec=>?_
 split at ec
 ·cases ec
  exact ⟨F,R,σD,_,r,h1,fun F' H' v g b=>⟨_,b.int,k F' H' g⟩⟩
 ·cases ec
noncomputable def vv (c : DE) (pl ph : Option DP) : DE:=fun σ=>(c σ).bind fun p=>match p.1 with
 | .lst _ xs=>(lV pl p.2).bind fun l=>(lV ph p.2).map fun h=>(.lst true (bY (D.fzL xs) l h),p.2)
 | _=>none
theorem sK (he : QE X e c) (hl : QO X lo pl) (hh : QO X hi ph) : QE X (.Subscript e (.Slice lo hi none p2) pos) (vv c pl ph):=bc (nW p7 he hl hh) fun σ H Q hq0=>by
 obtain ⟨F,R,σD,d,σD',r,ec,k⟩:=hq0;unfold vv at ec
 revert ec
 refine bJ fun t σ1 h1 ec=>?_
 try dsimp only at ec
 refine ⟨F,R,σD,t,σ1,r,h1,fun F1 H1 v x1 r1=>?_⟩;split at ec
 ·rename_i own xs
  revert ec
  refine bK fun l h2 ec=>?_
  obtain ⟨h,h3,e3⟩:=cn ec;cases e3;refine ⟨F1,_,_,l,r1,h2,fun F2 H2 g2=>?_⟩;refine ⟨F2,_,_,h,r1.grow g2,h3,fun F3 H3 g3=>?_⟩;have r3:=(r1.grow g2).grow g3;obtain ⟨F4,x4,r4,o4⟩:=r3.freeze;simp only [D.fz,Ow] at o4;obtain ⟨a,vs,rfl,fl,ol,_⟩:=o4;refine ⟨a,vs,rfl,fl.sq,fun pp hp=>?_⟩;have oc : OwL X.K F4 H3 (bY (D.fzL xs) l h) (iU vs l h) []:=by
   unfold bY iU;rw [<- ol.length];exact (ol.drop).take
  obtain ⟨r5,x5⟩:=(Rel.pushL oc r4.pop).layL oc.length.symm hp;exact k F4 _ _ ((x1.trans (g2.x.trans g3.x)).trans (x4.trans x5)) r5
 ·cases ec
noncomputable def jG (c c' : DE) : DE:=fun σ=>(c σ).bind fun p=>(c' p.2).bind fun q=>match p.1,q.1 with
 | .lst true xs,.lst true ys=>if xs.length + ys.length <= sizeLine then some (.lst true (xs ++ ys),q.2) else none
 | _,_=>none
theorem jr (ha : QE X a c) (hb : QE X b c') : QE X (.BinOp a .Add b pos) (jG c c'):=bc (oH xC ha hb) fun σ H Q hq0=>by
 obtain ⟨F,R,σD,d,σD',r,ec,k⟩:=hq0;unfold jG at ec
 revert ec
 refine bJ fun x σ1 h1 ec=>?_
 try dsimp only at ec
 revert ec
 refine bJ fun y σ2 h2 ec=>?_
 try dsimp only at ec
 split at ec
 ·rename_i xs ys
  split at ec
  ·rename_i hz
   cases ec;refine ⟨F,R,σD,_,σ1,r,h1,fun F1 H1 v x1 r1=>?_⟩;refine ⟨F1,_,σ1,_,_,r1,h2,fun F2 H2 u x2 r2=>?_⟩;obtain ⟨l2,ws,rfl,hw,hlw,r3⟩:=r2.openL;have r3':=(r3.pop).perm (List.perm_middle (a:=((.lst true xs : D),v)) (l₁:=ys.zip ws) (l₂:=R));obtain ⟨l1,us,rfl,hu,hlu,r4⟩:=r3'.openL;refine ⟨l1,l2,us,ws,rfl,rfl,hu,hw,by rw [<- hlu,<- hlw]; exact hz,fun p hp=>?_⟩;have r5 : Rel X.K F2 H2 σD' σ ((xs ++ ys).zip (us ++ ws) ++ R):=by
    rw [List.zip_append hlu,List.append_assoc]; exact r4.pop
   obtain ⟨r6,x6⟩:=r5.layL (by simp [hlu,hlw]) hp;exact k F2 _ _ ((x1.trans x2).trans x6) r6
  ·cases ec
 ·cases ec
noncomputable def fN (xs : List D) : Bool:=xs.all fun d=>d.sc.isSome
theorem OwL.sc {K : PySem.W.Frag} {F : Addr -> Prop} {H : Hp} : ∀ {xs : List D} {vs : List V} {L : List Addr},OwL K F H xs vs L -> fN xs = true -> L = [] /\ ∀ F' H',OwL K F' H' xs vs []
 | [],vs,L,h,_=>by simp only [OwL] at h ⊢; exact ⟨h.2,fun _ _=>⟨h.1,trivial⟩⟩
 | x :: xs,vs,L,h,s=>by
  simp only [OwL] at h;obtain ⟨v,ws,L1,L2,rfl,h1,h2,rfl⟩:=h;simp only [fN,List.all_cons,Bool.and_eq_true] at s;obtain ⟨w,hw⟩:=Option.isSome_iff_exists.mp s.1;obtain ⟨rfl,rfl⟩:=h1.sc hw;obtain ⟨rfl,h3⟩:=OwL.sc h2 s.2;exact ⟨rfl,fun F' H'=>by simp only [OwL]; exact ⟨v,ws,[],[],rfl,Ow.of_sc hw,h3 F' H',rfl⟩⟩
theorem OwL.app {K : PySem.W.Frag} {F : Addr -> Prop} {H : Hp} : ∀ {xs ys : List D} {vs ws : List V},OwL K F H xs vs [] -> OwL K F H ys ws [] -> OwL K F H (xs ++ ys) (vs ++ ws) []
 | [],ys,vs,ws,h,h'=>by simp only [OwL] at h; rw [h.1]; exact h'
 | x :: xs,ys,vs,ws,h,h'=>by
  simp only [OwL] at h;obtain ⟨v,us,L1,L2,rfl,h1,h2,e⟩:=h;obtain ⟨rfl,rfl⟩:=List.append_eq_nil_iff.mp e.symm;simp only [List.cons_append,OwL];exact ⟨v,us ++ ws,[],[],rfl,h1,OwL.app h2 h',rfl⟩
noncomputable def zG : D -> Option D
 | .int i=>some (.int (-i))
 | _=>none
noncomputable def qf (p : DP) : DP:=fun σ=>(p σ).bind zG
theorem yf {x d : D} (h : zG x = some d) : ∃ i,x = .int i /\ d = .int (-i):=by
 cases x <;> first | (cases h; exact ⟨_,rfl,rfl⟩) | cases h
theorem xk (ha : QB X a p) : QB X (.UnaryOp .USub a pos) (qf p):=bc (z4 B3 ha) fun σ H Q hq0=>by
 obtain ⟨F,R,σD,d,r,ec,k⟩:=hq0;unfold qf at ec
 revert ec
 refine bK fun x h1 ec=>?_
 obtain ⟨i,rfl,rfl⟩:=yf ec;exact ⟨F,R,σD,_,r,h1,fun F1 H1 v g1 b1=>⟨i,b1.int,k F1 H1 _ g1 ⟨[],Ow.of_sc rfl⟩⟩⟩
noncomputable def qx (t : DT) (c c' : DE) : DE:=fun σ=>(t σ).bind fun p=>if p.1 = true then c p.2 else c' p.2
theorem Eg {t : DT} {cnd : Expr} (ht : QT X cnd t) (ha : QE X a c) (hb : QE X b c') : QE X (.IfExp cnd a b pos) (qx t c c'):=bc (y3 ht ha hb) fun σ H Q hq0=>by
 obtain ⟨F,R,σD,d,σD',r,ec,k⟩:=hq0;unfold qx at ec
 revert ec
 refine bJ fun x σ1 h ec=>?_
 try dsimp only at ec
 refine ⟨F,R,σD,x,σ1,r,h,fun F1 H1 x1 r1=>?_⟩;cases x
 ·simp only [Bool.false_eq_true,if_false] at ec ⊢
  exact ⟨F1,R,σ1,d,σD',r1,ec,fun F2 H2 v x2 r2=>k F2 H2 v (x1.trans x2) r2⟩
 ·simp only [if_true] at ec ⊢
  exact ⟨F1,R,σ1,d,σD',r1,ec,fun F2 H2 v x2 r2=>k F2 H2 v (x1.trans x2) r2⟩
noncomputable def np (c c' : DE) : DE:=fun σ=>(c σ).bind fun p=>match p.1 with | .bl true=>c' p.2 | .bl false=>some (.bl false,p.2) | _=>none
variable {eH : List Expr}
theorem Cq {op} (h : QE X a c) : QE X (.BoolOp op [a] pos) c:=CI h
theorem Cr (ha : QE X a c) (hb : QE X (.BoolOp .And (b :: eH) pos) c') : QE X (.BoolOp .And (a :: b :: eH) pos) (np c c'):=bc (CK ha hb) fun σ H Q hq0=>by
 obtain ⟨F,R,σD,d,σD',r,ec,k⟩:=hq0;unfold np at ec
 revert ec
 refine bJ fun x σ1 h ec=>?_
 try dsimp only at ec
 refine ⟨F,R,σD,x,σ1,r,h,fun F1 H1 v x1 r1=>?_⟩;split at ec
 ·refine ⟨true,(r1.bor (by simp)).bl,?_⟩
  simp only [if_true];exact ⟨F1,R,σ1,d,σD',r1.pop,ec,fun F2 H2 v x2 r2=>k F2 H2 v (x1.trans x2) r2⟩
 ·cases ec
  refine ⟨false,(r1.bor (by simp)).bl,?_⟩;simp only [Bool.false_eq_true,if_false];exact k F1 H1 _ x1 (r1.pop.scal rfl)
 ·cases ec
end
end DD
namespace L2
open PySem PySem.Spec PyProof.Rows
noncomputable def DK (K : PySem.W.Frag) (a b : Addr) : It :=
 ⟨fun i H=>∃ xs ys x y,dJ K H a xs /\ dJ K H b ys /\ xs[i]? = some x /\ ys[i]? = some y,
  fun i H x H'=>∃ p u w,(∀ xs,dJ K H a xs -> xs[i]? = some u) /\ (∀ ys,dJ K H b ys -> ys[i]? = some w) /\ H p = none /\ H' = upd H p (.tup [u,w]) /\ x = .ref p,
  fun i H=>∃ xs ys,dJ K H a xs /\ dJ K H b ys /\ (xs.length <= i \/ ys.length <= i)⟩
theorem Inv.turnT {X : Cx} {aa : List (Addr × Obj)} {σ : St} {H : Hp} {s : Shared} {h' : Heap} {ch : List Addr} {u w : V} {x y : Value} (I : Inv X aa σ H s) (hf : ∀ b ∈ ch,gm X aa H b) (ru : RelV u x) (rw' : RelV w y)
  (hk : ∀ c o,c ∉ ch -> s.heap.get? c = some o -> h'.get? c = some o) (hT : IsPair h' s.heap.objs.size x y) (hth : ∀ b ∈ ch,∃ o,h'.get? b = some o) : Inv X aa σ (upd H s.heap.objs.size (.tup [u,w])) { s with heap:=h' }:=by
 have hfr : H s.heap.objs.size = none:=I.fresh;have nch : ∀ b o,H b = some o -> b ∉ ch:=fun b o e hb=>by rw [(hf b hb).1] at e; cases e
 have ne : ∀ b o,s.heap.get? b = some o -> b ≠ s.heap.objs.size:=fun b o e=>Nat.ne_of_lt (Heap.lt_size e)
 refine I.step (g':=s.gens) (d':=s.drawn) (t':=s.toks) (ch:=ch) (fun b hb=>⟨(hf b hb).2.2.2.1,(hf b hb).2.1,(hf b hb).2.2.2.2.1,(hf b hb).2.2.2.2.2⟩) (fun b o _ _ hc e _=>hk b o hc e)
  (fun b o _ _ hc e _=>⟨o.slots,hk b o hc e⟩) (fun b o _ e n=>by rw [aV (ne b o e)]; exact n) (fun b o hc e=>⟨o,hk b o hc e⟩) (fun b xs e=>by rw [aV (cm e hfr)]; exact e)
  (fun b o v e=>by rw [aV (cm e hfr)]; exact e) (fun b ps e=>⟨#[],by rw [aV (cm e hfr),e]; simp⟩) (fun m hm=>?_) (fun b o e=>?_) I.bare
 ·obtain ⟨o,es,ep,ho,r⟩:=hm
  exact ⟨o,es,ep,hk _ o (fun z=>(hf _ z).2.1 rfl) ho,r⟩
 ·by_cases hb : b = s.heap.objs.size
  ·subst hb
   rw [cG] at e;cases e;refine ⟨by show 2 <= sizeLine; decide,[x,y],.cons ru (.cons rw' .nil),⟨_,hT,rfl,_,rfl⟩⟩
  ·rw [aV hb] at e
   refine (I.hok b o e).stay (fun c v hc q=>hk c v ?_ q) (fun c q=>by rw [aV (cm q hfr)]; exact q) fun c xs q=>by rw [aV (cm q hfr)]; exact q
   rcases hc with rfl | hc
   ·exact nch _ _ e
   ·exact nch _ _ hc
theorem Inv.turnN {X : Cx} {aa : List (Addr × Obj)} {σ : St} {H : Hp} {s : Shared} {h' : Heap} {ch : List Addr} (I : Inv X aa σ H s) (hf : ∀ b ∈ ch,gm X aa H b)
  (hk : ∀ c o,c ∉ ch -> s.heap.get? c = some o -> h'.get? c = some o) : Inv X aa σ H { s with heap:=h' }:=by
 have nch : ∀ b o,H b = some o -> b ∉ ch:=fun b o e hb=>by rw [(hf b hb).1] at e; cases e
 refine I.step (g':=s.gens) (d':=s.drawn) (t':=s.toks) (ch:=ch) (fun b hb=>⟨(hf b hb).2.2.2.1,(hf b hb).2.1,(hf b hb).2.2.2.2.1,(hf b hb).2.2.2.2.2⟩) (fun b o _ _ hc e _=>hk b o hc e)
  (fun b o _ _ hc e _=>⟨o.slots,hk b o hc e⟩) (fun b o _ e n=>n) (fun b o hc e=>⟨o,hk b o hc e⟩) (fun b xs e=>e)
  (fun b o v e=>e) (fun b ps e=>⟨#[],by rw [e]; simp⟩) (fun m hm=>?_) (fun b o e=>?_) I.bare
 ·obtain ⟨o,es,ep,ho,r⟩:=hm
  exact ⟨o,es,ep,hk _ o (fun z=>(hf _ z).2.1 rfl) ho,r⟩
 ·refine (I.hok b o e).stay (fun c v hc q=>hk c v ?_ q) (fun c q=>q) fun c xs q=>q
  rcases hc with rfl | hc
  ·exact nch _ _ e
  ·exact nch _ _ hc
theorem eA {X : Cx} {aa : List (Addr × Obj)} {σ : St} {H : Hp} {s : Shared} {a b : Addr} {xs : List V} (I : Inv X aa σ H s) (h : dJ X.K H a xs) (hb : gm X aa H b) (hob : ∃ o,s.heap.get? b = some o /\ o.cls ≠ .type "list") : a ≠ b:=by
 rintro rfl;obtain ⟨its,r,⟨o,n,e,c,_⟩,_⟩:=I.list h;obtain ⟨o',e',c'⟩:=hob;rw [e] at e'; cases e';exact c' c
theorem yG {P : Program} {w : World} {K : PySem.W.Frag} {elts : List Expr} {x1 : Nat} {tpos : Pos} (a b z TI TO i1 i2 : Addr) (D1 : TI ≠ z) (D2 : TO ≠ z) (D3 : i1 ≠ z) (D4 : i2 ≠ z) (D5 : TI ≠ TO) (D6 : TI ≠ i1) (D7 : TI ≠ i2) (D8 : TO ≠ i1) (D9 : TO ≠ i2) (D10 : i1 ≠ i2) :
  mJ P w K (.Tuple elts x1 tpos) (DK K a b) [z,TI,TO,i1,i2] z (fun i h=>IsZip h z TI TO .none /\ IsPair h TI (.ref i1) (.ref i2) /\ (∃ u v,IsPair h TO u v) /\ h.IsListIter i1 a i /\ h.IsListIter i2 b i) where
 mem:=by simp
 obj:=fun i h hq0 c hc=>by
  obtain ⟨hz,hTI,⟨u,v,hTO⟩,⟨o1,e1,c1,d1⟩,⟨o2,e2,c2,d2⟩⟩:=hq0;simp only [List.mem_cons,List.not_mem_nil,or_false] at hc;rcases hc with rfl | rfl | rfl | rfl | rfl
  ·exact ⟨_,hz,fun v z=>nomatch z⟩
  ·exact ⟨_,hTI,fun v z=>nomatch z⟩
  ·exact ⟨_,hTO,fun v z=>nomatch z⟩
  ·exact ⟨_,e1,fun v z=>by rw [d1] at z; cases z⟩
  ·exact ⟨_,e2,fun v z=>by rw [d2] at z; cases z⟩
 keep:=fun i h h' ⟨hz,hTI,⟨u,v,hTO⟩,h1,h2⟩ k=>⟨k z (by simp) _ hz,k TI (by simp) _ hTI,⟨u,v,k TO (by simp) _ hTO⟩,h1.at fun o e=>k i1 (by simp) o e,h2.at fun o e=>k i2 (by simp) o e⟩
 item:=by
  rintro X hP hw hK hc i aa s σ H E I hf ⟨hz,hTI,⟨ua,ub,hTO⟩,h1,h2⟩ ⟨xs,ys,x,y,hq1,hq2,hx,hy⟩;subst hP hw hK;obtain ⟨its1,rv1,p1,_⟩:=I.list hq1;obtain ⟨its2,rv2,p2,_⟩:=I.list hq2;obtain ⟨u1,hu1,ru1⟩:=rv1.get hx;obtain ⟨u2,hu2,ru2⟩:=rv2.get hy;have ob : ∀ c ∈ [z,TO,i1,i2],∃ o,s.heap.get? c = some o /\ o.cls ≠ .type "list":=fun c hc=>by
   obtain ⟨o1,e1,c1,d1⟩:=id h1;obtain ⟨o2,e2,c2,d2⟩:=id h2;simp only [List.mem_cons,List.not_mem_nil,or_false] at hc;rcases hc with rfl | rfl | rfl | rfl
   ·exact ⟨_,hz,by simp⟩
   ·exact ⟨_,hTO,by simp⟩
   ·exact ⟨_,e1,by rw [c1]; simp⟩
   ·exact ⟨_,e2,by rw [c2]; simp⟩
  have na : ∀ c ∈ [z,TO,i1,i2],a ≠ c:=fun c hc=>eA I hq1 (hf c (by simp at hc ⊢; rcases hc with h | h | h | h <;> simp [h])) (ob c hc)
  have nb : ∀ c ∈ [z,TO,i1,i2],b ≠ c:=fun c hc=>eA I hq2 (hf c (by simp at hc ⊢; rcases hc with h | h | h | h <;> simp [h])) (ob c hc)
  have D : ZipApart z TI TO i1 i2 a b:=⟨D1,D2,D3,D4,D5,D6,D7,D8,D9,D10,na z (by simp),na TO (by simp),na i1 (by simp),na i2 (by simp),nb z (by simp),nb TO (by simp),nb i1 (by simp),nb i2 (by simp)⟩;refine wpAny_pyNext_zip_item D hz hTI hTO h1 h2 p1.isList p2.isList (x:=u1) (y:=u2) (by simpa using hu1) (by simpa using hu2) fun h' a1 a2 a3 a4 a5 a6 hk=>?_
  have hf4 : ∀ c ∈ [z,TO,i1,i2],gm X aa H c:=fun c hc=>hf c (by simp at hc ⊢; rcases hc with h | h | h | h <;> simp [h])
  have hk' : ∀ c o,c ∉ [z,TO,i1,i2] -> s.heap.get? c = some o -> h'.get? c = some o:=fun c o hc e=>hk c o (fun q=>hc (by simp [q])) (fun q=>hc (by simp [q])) (fun q=>hc (by simp [q])) (fun q=>hc (by simp [q])) e
  have I1 : Inv X aa σ (upd H s.heap.objs.size (.tup [x,y])) { s with heap:=h' }:=I.turnT hf4 ru1 ru2 hk' a5 (fun c hc=>by
   obtain ⟨o1,e1,_⟩:=id a3;obtain ⟨o2,e2,_⟩:=id a4;simp only [List.mem_cons,List.not_mem_nil,or_false] at hc;rcases hc with rfl | rfl | rfl | rfl
   ·exact ⟨_,a1⟩
   ·exact ⟨_,a2⟩
   ·exact ⟨_,e1⟩
   ·exact ⟨_,e2⟩)
  have hfr : H s.heap.objs.size = none:=I.fresh;refine ⟨_,rfl,wpAny_letOwnedTupleGo_zip (s:={ s with heap:=h' }) a1 fun h'' z1 sb=>?_⟩;have hf5 : ∀ c ∈ [z,TI,TO,i1,i2],(upd H s.heap.objs.size (.tup [x,y])) c = none:=fun c hc=>by
   have lt : c < s.heap.objs.size:=by
    obtain ⟨o1,e1,_⟩:=id h1;obtain ⟨o2,e2,_⟩:=id h2;simp only [List.mem_cons,List.not_mem_nil,or_false] at hc;rcases hc with rfl | rfl | rfl | rfl | rfl
    ·exact Heap.lt_size hz
    ·exact Heap.lt_size hTI
    ·exact Heap.lt_size hTO
    ·exact Heap.lt_size e1
    ·exact Heap.lt_size e2
   rw [aV (Nat.ne_of_lt lt)]; exact (hf c hc).1
  have I2 : Inv X aa σ (upd H s.heap.objs.size (.tup [x,y])) { s with heap:=h'' }:=Inv.turnN (s:={ s with heap:=h' }) (ch:=[z]) I1 (fun c hc=>by
   have : c = z:=by simpa using hc
   subst this;exact ⟨hf5 c (by simp),(hf c (by simp)).2⟩) (fun c o hc e=>(sb.2 c (fun q=>hc (by simp [q]))).trans e)
  refine ⟨.ref s.heap.objs.size,_,I2,rfl,⟨_,x,y,fun zs hzs=>by rw [I.list_inj hzs hq1]; exact hx,fun zs hzs=>by rw [I.list_inj hzs hq2]; exact hy,hfr,rfl,rfl⟩,⟨z1,?_,⟨u1,u2,?_⟩,?_,?_⟩,hf5⟩
  ·exact (sb.2 TI D1).trans (hk' TI _ (by simp [D1,D5,D6,D7]) hTI)
  ·exact (sb.2 TO D2).trans a2
  ·exact a3.at fun o e=>(sb.2 i1 D3).trans e
  ·exact a4.at fun o e=>(sb.2 i2 D4).trans e
 done:=by
  rintro X hP hw hK hc i aa s σ H E I hf ⟨hz,hTI,⟨ua,ub,hTO⟩,h1,h2⟩ ⟨xs,ys,hq1,hq2,hend⟩;subst hP hw hK;obtain ⟨its1,rv1,p1,_⟩:=I.list hq1;obtain ⟨its2,rv2,p2,_⟩:=I.list hq2;have ob : ∀ c ∈ [z,TO,i1,i2],∃ o,s.heap.get? c = some o /\ o.cls ≠ .type "list":=fun c hc=>by
   obtain ⟨o1,e1,c1,d1⟩:=id h1;obtain ⟨o2,e2,c2,d2⟩:=id h2;simp only [List.mem_cons,List.not_mem_nil,or_false] at hc;rcases hc with rfl | rfl | rfl | rfl
   ·exact ⟨_,hz,by simp⟩
   ·exact ⟨_,hTO,by simp⟩
   ·exact ⟨_,e1,by rw [c1]; simp⟩
   ·exact ⟨_,e2,by rw [c2]; simp⟩
  have hf4 : ∀ c ∈ [z,TO,i1,i2],gm X aa H c:=fun c hc=>hf c (by simp at hc ⊢; rcases hc with h | h | h | h <;> simp [h])
  have na : ∀ c ∈ [z,TO,i1,i2],a ≠ c:=fun c hc=>eA I hq1 (hf4 c hc) (ob c hc)
  have nb : ∀ c ∈ [z,TO,i1,i2],b ≠ c:=fun c hc=>eA I hq2 (hf4 c hc) (ob c hc)
  have D : ZipApart z TI TO i1 i2 a b:=⟨D1,D2,D3,D4,D5,D6,D7,D8,D9,D10,na z (by simp),na TO (by simp),na i1 (by simp),na i2 (by simp),nb z (by simp),nb TO (by simp),nb i1 (by simp),nb i2 (by simp)⟩;have hl1:=rv1.length;have hl2:=rv2.length;refine wpAny_pyNext_zip_end (I.ok.hd hc) D hz hTI hTO h1 h2 p1.isList p2.isList (by rcases hend with h | h; (left; simp; omega); (right; simp; omega)) fun h' hk=>⟨rfl,?_⟩
  exact I.turnN hf4 fun c o hc e=>hk c o (fun q=>hc (by simp [q])) (fun q=>hc (by simp [q])) (fun q=>hc (by simp [q])) (fun q=>hc (by simp [q])) e
 self:=fun _ _ _ _ _ ⟨hz,_⟩ h=>wpAny_pyIter_zip hz h
noncomputable def FH (K : PySem.W.Frag) (ta : TA) : TI:=fun σ H R=>ta σ H fun vs H1=>∃ a b,vs = [.ref a,.ref b] /\ (∃ xs,dJ K H1 a xs) /\ (∃ ys,dJ K H1 b ys) /\ R (DK K a b) H1
theorem CC {X : Cx} {elts : List Expr} {x1 : Nat} {tpos : Pos} {a b : Expr} {ta : TA} {p pos : Pos} (hg : Gl X "zip") (hm : X.mg "zip" = none) (ha : PA X [a,b] ta) (hs : autoParam (starEach [a,b] X.env = [(false,eval a X.env),(false,eval b X.env)]) aI._auto_1) (hs2 : autoParam (starEach [b] X.env = [(false,eval b X.env)]) aI._auto_1) :
  PI X (.Tuple elts x1 tpos) (.Call (.Name "zip" p) [a,b] [] pos) (FH X.K ta):=by
 intro aa s σ H R I h;refine Call_ (e8 I hg hm boot_zip (PyProof.Rows.callWith_type1 (bL (ha pos aa s σ H _ I h) fun us s1 ⟨vs,H1,I1,r1,q1⟩=>?_) (by rw [hs,hs2]) (by rw [hs2]; rfl)));obtain ⟨l1,l2,e,⟨xs,hq1⟩,⟨ys,hq2⟩,q⟩:=q1;subst e;cases r1 with
 | cons r rr =>
  cases rr with
  | cons r' rr =>
   cases rr;cases r;cases r';obtain ⟨its1,rv1,p1,_⟩:=I1.list hq1;obtain ⟨its2,rv2,p2,_⟩:=I1.list hq2;refine call_zip_2 p1.isList p2.isList fun h' hz hTI hTO h1 h2 hsz hk=>?_
   have I2 : Inv X aa σ H1 { s1 with heap:=h' }:=I1.kept (t':=s1.toks) hk;refine wpAny_pyIter_zip (s:={ s1 with heap:=h' }) hz ?_;have lt : ∀ k : Nat,s1.heap.objs.size <= s1.heap.objs.size + k:=fun k=>Nat.le_add_right _ _
   refine ⟨_,[s1.heap.objs.size + 4,s1.heap.objs.size + 2,s1.heap.objs.size + 3,s1.heap.objs.size,s1.heap.objs.size + 1],_,_,H1,rfl,I2,
    yG l1 l2 (s1.heap.objs.size + 4) (s1.heap.objs.size + 2) (s1.heap.objs.size + 3) s1.heap.objs.size (s1.heap.objs.size + 1) ?_ ?_ ?_ ?_ ?_ ?_ ?_ ?_ ?_ ?_,⟨hz,hTI,⟨_,_,hTO⟩,h1,h2⟩,fun c hc=>?_,q⟩
   all_goals first
    | (show _ + _ ≠ _ + _; intro z; exact absurd (Nat.add_left_cancel z) dC)
    | (show _ ≠ _ + _; intro z; exact absurd z (by have:=Nat.lt_add_of_pos_right (n:=s1.heap.objs.size) (k:=4) dC; have:=Nat.lt_add_of_pos_right (n:=s1.heap.objs.size) (k:=1) dC; exact Nat.ne_of_lt (by assumption)))
    | (show _ + _ ≠ _; exact Nat.ne_of_gt (Nat.lt_add_of_pos_right dC))
    | skip
   have hle : s1.heap.objs.size <= c:=by
    simp only [List.mem_cons,List.not_mem_nil,or_false] at hc;rcases hc with rfl | rfl | rfl | rfl | rfl
    ·exact lt 4
    ·exact lt 2
    ·exact lt 3
    ·exact Nat.le_refl _
    ·exact lt 1
   obtain ⟨f0,f1,f2,f3,f4,f5⟩:=I1.fpOk hle (I1.hok.fresh hle);exact ⟨f0,f1,f2,f3,f4,f5⟩
end L2
namespace DD
open PySem PySem.Spec PyProof.Rows L2
noncomputable def m9 (c c' : DE) : DI:=fun σ=>(c σ).bind fun p=>(c' p.2).bind fun q=>match p.1,q.1 with
 | .lst _ xs,.lst _ ys=>some (((D.fzL xs).zip (D.fzL ys)).map fun z=>.tup [z.1,z.2],q.2)
 | _,_=>none
theorem BE {K : PySem.W.Frag} {F : Addr -> Prop} {H : Hp} {xs ys : List D} {a b : Addr} {vs ws : List V} (fl : FL K F H a vs) (ol : OwL K F H xs vs []) (fl' : FL K F H b ws) (ol' : OwL K F H ys ws []) :
  nJ K (DK K a b) ((xs.zip ys).map fun z=>.tup [z.1,z.2]) F H where
 item:=fun i d F1 H1 x1 dm e=>by
  rw [List.getElem?_map] at e
  revert e
  refine C0 fun x y hz e=>?_
  cases e;obtain ⟨hx,hy⟩:=List.getElem?_zip_eq_some.mp hz;obtain ⟨u,La,Lx,Lb,e1,eL,o1,_⟩:=ol.kid hx;have eLx : Lx = []:=(List.append_eq_nil_iff.mp (List.append_eq_nil_iff.mp eL.symm).1).2;subst eLx;obtain ⟨w,La',Lx',Lb',e2,eL',o2,_⟩:=ol'.kid hy;have eLx' : Lx' = []:=(List.append_eq_nil_iff.mp (List.append_eq_nil_iff.mp eL'.symm).1).2;subst eLx';refine ⟨⟨vs,ws,u,w,(fl.ext x1).sq,(fl'.ext x1).sq,e1,e2⟩,fun v H2 ⟨p,u',w',h1,h2,hp,hH,hv⟩=>?_⟩;subst hH hv;have h1':=h1 vs (fl.ext x1).sq;rw [e1] at h1'; cases h1';have h2':=h2 ws (fl'.ext x1).sq;rw [e2] at h2'; cases h2';have nF : ∀ c,F1 c -> c ≠ p:=fun c fc z=>by obtain ⟨o,h⟩:=dm c fc; rw [z,hp] at h; cases h
  have gr : Grow F1 H1 (fun c=>F1 c \/ c = p) (upd H1 p (.tup [u,w])):=by
   refine ⟨fun c fc=>⟨.inl fc,aV (nF c fc)⟩,fun c o e=>by rw [aV (cm e hp)]; exact e,fun c fc=>?_,fun _ c fc=>?_⟩
   ·rcases fc with fc | fc
    ·exact .inl fc
    ·exact .inr (fc ▸ hp)
   ·rcases fc with fc | fc
    ·rw [aV (nF c fc)]; exact dm c fc
    ·subst fc; exact ⟨_,cG⟩
  refine ⟨_,gr,?_⟩;simp only [Ow,OwL];refine ⟨p,[u,w],rfl,.inl ⟨.inr rfl,cG⟩,u,[w],[],[],rfl,(o1.mono x1 (fun a ha=>by cases ha)).mono gr.x (fun a ha=>by cases ha),⟨w,[],[],[],rfl,(o2.mono x1 (fun a ha=>by cases ha)).mono gr.x (fun a ha=>by cases ha),⟨rfl,rfl⟩,rfl⟩,rfl⟩
 done:=fun F1 H1 x1=>⟨vs,ws,(fl.ext x1).sq,(fl'.ext x1).sq,by
  have h1:=ol.length;have h2:=ol'.length;simp only [List.length_map,List.length_zip];omega⟩
section
variable {X : Cx} {a b o e : Expr} {c c' : DE} {p p1 pos1 : Pos} {elts : List Expr} {x1 : Nat} {tpos pos : Pos}
theorem xc (hgl : Gl X "zip") (hm : X.mg "zip" = none) (ha : QE X a c) (hb : QE X b c') (hs : autoParam (starEach [a,b] X.env = [(false,eval a X.env),(false,eval b X.env)]) aI._auto_1) (hs2 : autoParam (starEach [b] X.env = [(false,eval b X.env)]) aI._auto_1) :
  QI X (.Tuple elts x1 tpos) (.Call (.Name "zip" p1) [a,b] [] pos1) (m9 c c'):=jM (CC hgl hm (dF ha (dF hb eY hs2) (by rw [hs,hs2])) hs hs2) fun σ H R hq0=>by
 obtain ⟨F,Ro,σD,xs,σD',r,ec,k⟩:=hq0;unfold m9 at ec
 revert ec
 refine bJ fun x σ1 h1 ec=>?_
 try dsimp only at ec
 revert ec
 refine bJ fun y σ2 h2 ec=>?_
 try dsimp only at ec
 split at ec
 ·cases ec
  refine ⟨F,Ro,σD,_,σ1,r,h1,fun F1 H1 v x1 r1=>?_⟩;refine ⟨F1,_,σ1,_,_,r1,h2,fun F2 H2 u x2 r2=>?_⟩;obtain ⟨F3,x3,r3,o3⟩:=r2.freeze;obtain ⟨F4,x4,r4,o4⟩:=(r3.pop).freeze;have o3':=o3.mono x4 (fun a ha=>by cases ha);simp only [D.fz,Ow] at o3' o4;obtain ⟨a1,vs,rfl,fl,ol,_⟩:=o4;obtain ⟨a2,ws,rfl,fl',ol',_⟩:=o3';exact ⟨a1,a2,rfl,⟨vs,fl.sq⟩,⟨ws,fl'.sq⟩,k F4 H2 _ ((x1.trans x2).trans (x3.trans x4)) r4.pop (BE fl ol fl' ol')⟩
 ·cases ec
theorem uC {xs : List D} {vs : List V} {j : Nat} {x : D} {w : V} (h1 : xs[j]? = some x) (h2 : vs[j]? = some w) : (x,w) ∈ xs.zip vs:=by
 have : (xs.zip vs)[j]? = some (x,w):=List.getElem?_zip_eq_some.mpr ⟨h1,h2⟩;exact List.mem_of_getElem? this
theorem Rel.pick {K : PySem.W.Frag} {F : Addr -> Prop} {H : Hp} {σD : aP} {σ : St} {R S : Ro} {x : D} {w : V} (r : Rel K F H σD σ (S ++ R)) (h : (x,w) ∈ S) : Rel K F H σD σ ((x,w) :: R):=by
 obtain ⟨A,B,rfl⟩:=List.append_of_mem h;have r1 : Rel K F H σD σ ((A ++ B) ++ ((x,w) :: R)):=r.perm (by
  have h1 : A ++ (x,w) :: B ++ R = A ++ ((x,w) :: (B ++ R)):=by simp
  rw [h1,List.append_assoc];exact (List.perm_middle.symm).append_left A)
 exact r1.popN
theorem fx (ha : QE X a c) (hb : QE X b c') (hs : autoParam (kR b) hZ._auto_1) : QE X (.Subscript a b pos) (hV c c'):=bc (v6 tJ ha hb hs) fun σ H Q hq0=>by
 obtain ⟨F,R,σD,d,σD',r,ec,k⟩:=hq0;unfold hV at ec
 revert ec
 refine bJ fun x σ1 h1 ec=>?_
 try dsimp only at ec
 revert ec
 refine bJ fun y σ2 h2 ec=>?_
 try dsimp only at ec
 obtain ⟨z,e1,e2⟩:=cn ec;cases e2;refine ⟨F,R,σD,x,σ1,r,h1,fun F1 H1 v x1 r1=>?_⟩;refine ⟨F1,_,σ1,y,_,r1,h2,fun F2 H2 u x2 r2=>?_⟩;have bu:=r2.bor (d:=y) (v:=u) (by simp);have r3:=r2.pop;unfold cO at e1;split at e1
 ·rename_i own xs i
  obtain ⟨j,hj,hx⟩:=kL e1;cases own
  ·obtain ⟨L,⟨L1,L2,o1,h12,_⟩,_,_⟩:=r3.front.own
   simp only [Ow] at o1;obtain ⟨a1,vs,rfl,fl,ol,_⟩:=o1;obtain ⟨w,La,Lx,Lb,ew,eL,ox,_⟩:=ol.kid hx;have eLx : Lx = []:=(List.append_eq_nil_iff.mp (List.append_eq_nil_iff.mp eL.symm).1).2;subst eLx;refine .inl ⟨a1,vs,i,w,rfl,bu.int,fl.sq,?_,k F2 H2 w (x1.trans x2) (r3.pop.push ox)⟩;unfold atI; rw [ol.length,hj]; exact ew
  ·obtain ⟨a1,vs,rfl,hh,hl,r4⟩:=r3.openL
   have hjl : j < vs.length:=by rw [<- hl]; exact (List.getElem?_eq_some_iff.mp hx).1
   have ew:=List.getElem?_eq_getElem hjl;refine .inl ⟨a1,vs,i,vs[j],rfl,bu.int,.inl (.inl hh),?_,k F2 H2 _ (x1.trans x2) (r4.pop.pick (uC hx ew))⟩;unfold atI; rw [<- hl,hj]; exact ew
 ·rename_i xs i
  obtain ⟨j,hj,hx⟩:=kL e1;obtain ⟨a1,vs,rfl,ft,hl,r4⟩:=r3.openT;have hjl : j < vs.length:=by rw [<- hl]; exact (List.getElem?_eq_some_iff.mp hx).1
  have ew:=List.getElem?_eq_getElem hjl;refine .inr (.inl ⟨a1,vs,i,vs[j],rfl,bu.int,ft.sq,?_,k F2 H2 _ (x1.trans x2) (r4.pick (uC hx ew))⟩);unfold atI; rw [<- hl,hj]; exact ew
 ·split at e1
  ·rename_i z2 i hz
   revert e1
   refine lR fun ch h e1=>?_
   cases e1;exact .inr (.inr ⟨z2,i,ch,(r3.bor (by simp)).str,bu.int,hz,h,k F2 H2 _ (x1.trans x2) (r3.pop.scal rfl)⟩)
  ·cases e1
 ·cases e1
end
end DD
namespace L2
open PySem PySem.Spec PyProof.Rows
end L2
namespace DD
open PySem PySem.Spec PyProof.Rows L2
section
variable {X : Cx} {o a e tg : Expr} {q p : DP} {c : DE} {g : D -> D -> Option D} {i : Nat} {js : List DP} {pos tpos : Pos} {op : Operator}
theorem CZ : eU X (inplaceOp .Add) (jF fun i j=>i + j):=ky BI
noncomputable def Gm (g : D -> D -> Option D) (i : Nat) (js : List DP) (q p : DP) : DS:=fun σ=>(cx σ i).bind fun t=>(gw js σ).bind fun path=>(cN t path).bind fun n=>match n with
 | .lst true xs=>(q σ).bind fun kk=>match kk with
  | .int k=>(ixN xs.length k).bind fun j=>(xs[j]?).bind fun x=>match x.sc with
   | some _=>(p σ).bind fun y=>(g x y).map fun z=>.nx (σ.set i (some (cU t path (.lst true (xs.set j z)))))
   | none=>none
  | _=>none
 | _=>none
noncomputable def oC (g : D -> D -> Option D) (i : Nat) (c : DE) : DS:=fun σ=>(cx σ i).bind fun x=>match x.sc with
 | some _=>(c σ).bind fun p=>if i < p.2.length then (g x p.1).map fun z=>.nx (p.2.set i (some z)) else none
 | none=>none
theorem AO (i : Nat) {x : Str} {pos' : Pos} (hN : X.N.Nodup) (hop : eU X (inplaceOp op) g) (he : QE X e c) (hi : autoParam (X.N[i]? = some x) aI._auto_1) (hx : autoParam (lY X.env.scope x) vR._auto_1) (hf : autoParam (X.fn x = true \/ X.env.scope.names.lookup x = some .local) ma._auto_1) :
  QS X (.AugAssign (.Name x pos') op e pos) (oC g i c) [i]:=iQ (CA hN hi hx he hop.run hf) fun En σ H hq0=>by
 obtain ⟨F,R,σD,out,r,ec,kk⟩:=hq0;unfold oC at ec
 revert ec
 refine bK fun d h1 ec=>?_
 rcases h2 : d.sc with _ | dw
 ·rw [h2] at ec; cases ec
 ·rw [h2] at ec; simp only at ec
  revert ec
  refine bJ fun y σ1 h3 ec=>?_
  try dsimp only at ec
  split at ec
  ·rename_i hl
   revert ec
   refine lR fun z h4 ec=>?_
   cases ec;obtain ⟨zw,hzw⟩:=hop.sc _ _ _ h4;obtain ⟨v0,hv0,b0⟩:=r.get (bh h1);have ev : v0 = dw:=b0.sc h2;subst ev;refine ⟨v0,hv0,F,R,σD,y,σ1,r,h3,fun F1 H1 u x1 r1=>?_⟩;refine ⟨F1,d,y,z,zw,⟨[],Ow.of_sc h2⟩,r1.bor (by simp),h4,hzw,?_⟩;exact kk F1 H1 _ x1 Kp.set ((r1.pop.scal hzw).store (by rw [<- r1.mt.length]; exact hl))
  ·cases ec
end
section
variable {X : Cx} {tg : Expr} {g : DG} {s : DS} {pos : Pos} {W W' : List Nat} {body : List Stmt}
end
noncomputable abbrev fC : D -> D -> Option D:=jF fun i j=>i + j
noncomputable abbrev kc : D -> D -> Option D:=jF fun i j=>i - j
noncomputable abbrev n8 : D -> D -> Option D:=jF Builtin.bitAnd
noncomputable abbrev GC : D -> D -> Option D:=jF Builtin.bitOr
noncomputable abbrev qv : D -> D -> Option D:=jF Builtin.bitXor
noncomputable abbrev gT : D -> D -> Option D:=gI (fun _ j=>decide (0 < j)) fun i j=>i % j
noncomputable def mB (_ j : Int) : Bool:=decide (0 < j /\ j.natAbs.log2 < 9000)
noncomputable abbrev mz : D -> D -> Option D:=gI mB fun i j=>i / j
theorem ln {X : Cx} : eU X (binaryOp .FloorDiv) mz:=oJ (C:=fun _ j=>0 < j /\ j.natAbs.log2 < 9000) (xD fun i j _ _ _ _ _ hc q=>by
 have h1 : (0 : Int) < j:=hc.1;exact floordiv_int oM (by rw [Int.fdiv_eq_ediv_of_nonneg i oM]; exact q) (.inl (PyProof.noPylong_of_log2 hc.2))) fun i j h=>by simpa [mB] using h
noncomputable abbrev FM : D -> D -> Option D:=gI (fun i j=>decide (0 <= j /\ j <= 1000000 /\ i.natAbs < 2 ^ 64)) fun i j=>i ^ j.toNat
noncomputable abbrev gS : D -> D -> Option D:=gI (fun i j=>decide (0 <= j /\ j <= 1000000 /\ i.natAbs < 2 ^ 64)) fun i j=>i * 2 ^ j.toNat
noncomputable def we (i j : Int) : Bool:=decide ((-(2 ^ 64) < i /\ i < 2 ^ 64) \/ (-(2 ^ 64) < j /\ j < 2 ^ 64))
noncomputable abbrev lB : D -> D -> Option D:=gI we fun i j=>i * j
theorem lm {X : Cx} : eU X (binaryOp .Mult) lB:=oJ CP fun i j h=>by simpa [we,CMul] using h
noncomputable abbrev GD : D -> D -> Option D:=nA fun i j=>decide (i < j)
noncomputable abbrev Ad : D -> D -> Option D:=nA fun i j=>decide (j < i)
noncomputable abbrev GE : D -> D -> Option D:=nA fun i j=>decide (j <= i)
noncomputable def sj (N N' : List Str) (names : List (Str × NameKind)) (kd : Str -> Option NameKind) : Bool :=
 decide ((names.map (·.1)).Nodup) && decide (N.length <= N'.length) && names.all (fun p=>p.2 != .free || kd p.1 == some .cell || kd p.1 == some .free) &&
  (List.range N.length).all fun i=>match N'[i]? with
   | none=>true
   | some x=>match names.lookup x with
    | none=>true
    | some k=>k == .free && N[i]? == some x
theorem Ag {X : Cx} {N' : List Str} {scope : Scope} (hk : scope.kind = .function) (h : sj X.N N' scope.names X.env.kindOf = true) : mN X N' scope:=by
 unfold sj at h;simp only [Bool.and_eq_true,decide_eq_true_eq] at h;obtain ⟨⟨⟨h1,h2⟩,h3⟩,h4⟩:=h;have look : ∀ i x,i < X.N.length -> N'[i]? = some x -> (∃ k,(x,k) ∈ scope.names) -> (x,NameKind.free) ∈ scope.names /\ X.N[i]? = some x:=fun i x hi e hq0=>by
  obtain ⟨k,hm⟩:=hq0
  have:=List.all_eq_true.mp h4 i (List.mem_range.mpr hi)
  rw [e] at this;simp only at this;rw [fB h1 hm] at this;simp only [Bool.and_eq_true,beq_iff_eq] at this;obtain ⟨e1,e2⟩:=this;subst e1;exact ⟨hm,e2⟩
 refine ⟨hk,h1,h2,fun x hx=>?_,fun i x hi e hx=>(look i x hi e ⟨_,hx⟩).2,fun i x hi e hx=>(look i x hi e hx).1⟩
 have:=List.all_eq_true.mp h3 _ hx
 simp at this;exact this
theorem AW {X : Cx} {x : Str} {i : Int} {pos : Pos} (hg : Gl X x) (hm : ∃ t,X.mg x = some (.int i t)) (hd : autoParam ((x == ("__debug__" : Str)) = false) cR._auto_1) : QB X (.Name x pos) (pC (.int i)):=by
 obtain ⟨t,hm⟩:=hm;exact bc (A8 (v:=.int i) hg hm ⟨t,rfl⟩ hd) fun σ H Q hq0=>by obtain ⟨F,R,σD,d,r,ec,k⟩:=hq0; cases ec; exact k F H _ Grow.refl ⟨[],Ow.of_sc rfl⟩
section
variable {X : Cx} {es : List Expr} {ps : List DP} {pos : Pos}
theorem OwL.ofBor {K : PySem.W.Frag} {F : Addr -> Prop} {H : Hp} : ∀ {ds : List D} {vs : List V},BorL K F H ds vs -> ∃ L,OwL K F H ds vs L
 | [],[],_=>⟨[],by simp only [OwL]; exact ⟨trivial,trivial⟩⟩
 | d :: ds,v :: vs,⟨⟨L1,o⟩,r⟩=>by
  obtain ⟨L2,ol⟩:=OwL.ofBor r;exact ⟨L1 ++ L2,by simp only [OwL]; exact ⟨v,vs,L1,L2,rfl,o,ol,rfl⟩⟩
noncomputable def jt (ps : List DP) : DP:=fun σ=>(lW ps σ).bind fun ds=>if ds.length <= sizeLine then some (.lst true ds) else none
theorem mm (h : vI X es ps) : QB X (.List es pos) (jt ps):=bc (sO h) fun σ H Q hq0=>by
 obtain ⟨F,R,σD,d,r,ec,k⟩:=hq0;unfold jt at ec
 revert ec
 refine bK fun ds h1 ec=>?_
 split at ec
 ·rename_i hz
  cases ec;refine ⟨F,R,σD,ds,r,h1,fun F1 H1 vs g1 b1=>?_⟩;obtain ⟨L,ol⟩:=OwL.ofBor b1;refine ⟨by rw [ol.length]; exact hz,fun p hp=>?_⟩;have nF : ∀ c,F1 c -> c ≠ p:=fun c fc z=>by
   obtain ⟨o,h⟩:=g1.dm r.g.dom c fc;rw [z,hp] at h; cases h
  have gr : Grow F1 H1 F1 (upd H1 p (.lst vs)):=⟨fun c fc=>⟨fc,aV (nF c fc)⟩,fun c o e=>by rw [aV (cm e hp)]; exact e,fun c fc=>.inl fc,fun dm c fc=>by rw [aV (nF c fc)]; exact dm c fc⟩;refine k F1 _ _ (g1.trans gr) ⟨p :: L,?_⟩;simp only [Ow];exact ⟨p,vs,L,rfl,cG,ol.mono gr.x fun c hc=>by
   obtain ⟨o,e⟩:=ol.dom c hc;rw [aV (cm e hp)],rfl⟩
 ·cases ec
end
theorem BQ {p : DP} {σ σ' : aP} {d : D} (h : dS p σ = some (d,σ')) : p σ = some d /\ σ' = σ /\ ∃ w,d.sc = some w:=by
 unfold dS at h;rcases hp : p σ with _ | x
 ·rw [hp] at h; cases h
 ·rw [hp] at h
  simp only [bind_some] at h;rcases hs : x.sc with _ | w
  ·rw [hs] at h; cases h
  ·rw [hs] at h; cases h
   exact ⟨rfl,rfl,w,hs⟩
theorem gp {X : Cx} {a b : Expr} {p q : DP} {pos : Pos} {op : CmpOp} {g : D -> D -> Option D} (o : eU X (compareOp op) g) (ha : QB X a p) (hb : QB X b q) (hm : behindInMarks op b = false) : QT X (.Compare a [op] [b] pos) (bz (dS (aG g p q))) :=
 pR (uQ o.run ha hb hm) fun σ H Q hq0=>by
  obtain ⟨F,R,σD,k,σD',r,ec,kk⟩:=hq0;obtain ⟨e1,e2,w,hw⟩:=BQ (lC ec);subst e2;show qJ _ _ _ σ H _;exact yX o ⟨F,R,_,_,r,e1,fun F' H' v g' b'=>⟨k,b'.bl,kk F' H' g'.x (r.grow g')⟩⟩
section
variable {X : Cx} {e tg elt iter : Expr} {ifs : List Expr} {g : DG} {t : DT} {c : DE} {i : DI} {pos : Pos} {W : List Nat} {scope : Scope} {k : Nat}
theorem ga (N' : List Str) (hi : QI X tg iter i) (hg : ∀ cl s H fp aa,QG (cV X N' scope cl s H fp aa) tg g W) (ht : ∀ cl s H fp aa,vH (cV X N' scope cl s H fp aa) ifs t)
  (he : ∀ cl s H fp aa,QE (cV X N' scope cl s H fp aa) elt c) (hk : autoParam (N'.length - X.N.length = k) aI._auto_1) (hw : autoParam ((W.all fun i=>decide (X.N.length <= i)) = true) aI._auto_1) (hc : autoParam (X.calm = true) aI._auto_1) (hkd : autoParam (scope.kind = .function) aI._auto_1) (T : autoParam (sj X.N N' scope.names X.env.kindOf = true) aI._auto_1) (hs : autoParam (∀ x,foldedSetIterable iter X.env x = pure x) kS._auto_1) :
  QE X (.ListComp elt [⟨tg,iter,ifs,0⟩] scope pos) (eC k i g t c):=by
 subst hk;exact Ef hc (Ag hkd T) hi hg ht he (fun j hj=>by simpa using List.all_eq_true.mp hw j hj) hs
theorem qo (ix : Nat) (N' : List Str) {y : Str} {py spos : Pos} (hN : X.N.Nodup) (hi : QI X tg iter i) (hg : ∀ cl s H fp aa,QG (cV X N' scope cl s H fp aa) tg g W) (ht : ∀ cl s H fp aa,vH (cV X N' scope cl s H fp aa) ifs t)
  (he : ∀ cl s H fp aa,QE (cV X N' scope cl s H fp aa) elt c) (hk : autoParam (N'.length - X.N.length = k) aI._auto_1) (hw : autoParam ((W.all fun i=>decide (X.N.length <= i)) = true) aI._auto_1) (hc : autoParam (X.calm = true) aI._auto_1) (hkd : autoParam (scope.kind = .function) aI._auto_1) (T : autoParam (sj X.N N' scope.names X.env.kindOf = true) aI._auto_1)
  (hsw : autoParam (swapsWith (.ListComp elt [⟨tg,iter,ifs,0⟩] scope pos) (some (.Name y py)) spos.line X.env = pure true) aI._auto_1)
  (hiN : autoParam (X.N[ix]? = some y) aI._auto_1) (hx : autoParam (lY X.env.scope y) vR._auto_1) (hs : autoParam (∀ x,foldedSetIterable iter X.env x = pure x) kS._auto_1) (hf : autoParam (X.fn y = true \/ X.env.scope.names.lookup y = some .local) ma._auto_1) :
  QS X (.Assign [.Name y py] (.ListComp elt [⟨tg,iter,ifs,0⟩] scope pos) spos) (bf ix (eC k i g t c)) [ix]:=by
 subst hk;exact xa ix hN hc (Ag hkd T) hi hg ht he (fun j hj=>by simpa using List.all_eq_true.mp hw j hj) hsw hiN hx hs hf
end
noncomputable def dR (x : Nat) (σ : aP) : D × aP:=match cx σ x with
 | some d=>(match d.sc with | some _=>(d,σ) | none=>(d,σ.set x none))
 | none=>(.hole,σ)
noncomputable def Out.upd (f : aP -> aP) : Out -> Out
 | .nx σ=>.nx (f σ)
 | .bk σ=>.bk (f σ)
 | .ct σ=>.ct (f σ)
 | .rt d σ=>.rt d (f σ)
noncomputable def eW (x : Nat) (b : DS) : List D -> aP -> Option (Out × List D)
 | [],σ=>some (.nx σ,[])
 | d :: ds,σ=>(b (σ.set x (some d))).bind fun o=>match o with
  | .nx σ2=>(eW x b ds (dR x σ2).2).map fun r=>(r.1,(dR x σ2).1 :: r.2)
  | .ct σ2=>(eW x b ds (dR x σ2).2).map fun r=>(r.1,(dR x σ2).1 :: r.2)
  | .bk σ2=>some (.nx (dR x σ2).2,(dR x σ2).1 :: ds)
  | .rt d' σ2=>some (.rt d' (dR x σ2).2,(dR x σ2).1 :: ds)
noncomputable def oA (i x : Nat) (b : DS) : DS:=fun σ=>match cx σ i with
 | some (.lst true xs)=>if x < σ.length then (eW x b xs (σ.set i none)).map fun r=>r.1.upd fun σ2=>σ2.set i (some (.lst true r.2)) else none
 | _=>none
section
variable {K : PySem.W.Frag} {F F' : Addr -> Prop} {H H' : Hp}
theorem vi {σD : aP} {σ : St} {R : Ro} {x : Nat} {y : V} (r : Rel K F H σD σ R) (hy : σ[x]? = some (some y)) : Rel K F H (dR x σD).2 σ (((dR x σD).1,y) :: R):=by
 unfold dR;rcases h : cx σD x with _ | d
 ·exact r.push (by simp only [Ow])
 ·simp only
  obtain ⟨v,hv,r1⟩:=r.take (bh h);rw [hy] at hv; cases hv;rcases hs : d.sc with _ | w
  ·exact r1
  ·have e : y = w:=(r1.bor (by simp)).sc hs
   subst e;exact r.scal hs
end
section
variable {X : Cx} {s : DS} {pos : Pos} {W' : List Nat} {body : List Stmt}
theorem Kp.at {W : List Nat} {σ σ' : St} (h : Kp W σ σ') {i : Nat} (hi : (W.contains i) = false) : σ'[i]? = σ[i]?:=h i (by simpa using hi)
theorem AN (i x : Nat) {xn yn : Str} {npos tpos : Pos} (hnd : X.N.Nodup) (hb : nH X body s W') (hp : PassesOwn (model X.prog X.w) X.A X.env X.xe) (hc : autoParam (X.calm = true) aI._auto_1) (hxi : autoParam (((x :: W').contains i) = false) aI._auto_1) (hxw : autoParam ((W'.contains x) = false) aI._auto_1)
  (hN : autoParam (X.N[i]? = some xn) aI._auto_1) (hv : autoParam (mI X.env.scope xn) rH._auto_1) (hd : autoParam ((xn == ("__debug__" : Str)) = false) cR._auto_1) (hcd : autoParam ((xn == ("__classdict__" : Str)) = false) cR._auto_1)
  (hNx : autoParam (X.N[x]? = some yn) aI._auto_1) (hl : autoParam (lY X.env.scope yn) vR._auto_1) (hfn : autoParam (X.fn yn = true \/ X.env.scope.names.lookup yn = some .local) ma._auto_1)
  (hf : autoParam (∀ y,foldedSetIterable (.Name xn npos) X.env y = pure y) kS._auto_1) : QS X (.For (.Name yn tpos) (.Name xn npos) body [] pos) (oA i x s) (x :: W') :=
 iQ (xr hp hc (uU (iJ hN hv hd hcd)) (uV hnd hNx hl hfn) hb hf) fun En σ H hq0=>by
  obtain ⟨F,R,σD,o,r,ec,k⟩:=hq0;have hxi' : i ≠ x:=by rintro rfl; simp at hxi
  unfold oA at ec;split at ec
  ·rename_i xs h1
   split at ec
   ·rename_i hxl
    rcases hB : eW x s xs (σD.set i none) with _ | ⟨o1,items⟩
    ·rw [hB] at ec; cases ec
    ·rw [hB] at ec
     cases ec;obtain ⟨v0,hv0,r0⟩:=r.take (bh h1);obtain ⟨a,vs,rfl,ha,hlen,r1⟩:=r0.openN;have hlσ : x < σ.length:=by rw [<- r.mt.length]; exact hxl
     -- the list put together again
     have fin : ∀ {F2 H2 σD2 σ2 items2} {S : Ro},Kp (x :: W') σ σ2 -> items2.length = vs.length -> Rel X.K F2 H2 σD2 σ2 ((.node a vs,.ref a) :: (items2.zip vs ++ (S ++ R))) -> Rel X.K F2 H2 (σD2.set i (some (.lst true items2))) σ2 (S ++ R):=fun {F2 H2 σD2 σ2 items2 S} kp hl2 r2 =>
      (r2.formN hl2).put (by rw [kp.at hxi]; exact hv0)
     refine ⟨_,hv0,a,rfl,⟨vs,.inl (.inl ha)⟩,?_⟩;refine zH (K:=X.K) (a:=a) (xs:=vs) (g:=ni x) (tb:=rS X.K s W') (fun n σ1 H1=>∃ F2 σD1 dn r',Ext F H F2 H1 /\ Kp (x :: W') σ σ1 /\ x < σ1.length /\
       Rel X.K F2 H1 σD1 σ1 ((.node a vs,.ref a) :: (dn.zip (vs.take n) ++ ((xs.drop n).zip (vs.drop n) ++ R))) /\ dn.length = n /\ eW x s (xs.drop n) σD1 = some r' /\ r'.1 = o1 /\ dn ++ r'.2 = items)
      ⟨F,_,[],(o1,items),Ext.refl,Kp.refl,hlσ,by simpa using r1,rfl,by simpa using hB,rfl,rfl⟩ (fun n σ1 H1 _ ⟨F2,σD1,dn,r',_,_,_,r2,_⟩=>.inl (.inl (r2.nodeAt (by simp)))) ?_ ?_
     ·rintro n y σ1 H1 hn ⟨F2,σD1,dn,r',x2,kp1,hl1,r2,hdn,hB2,hr1,hr2⟩
      have hnl : n < vs.length:=(List.getElem?_eq_some_iff.mp hn).1;have hnl' : n < xs.length:=by rw [hlen]; exact hnl
      have ey : vs[n] = y:=by rw [List.getElem?_eq_getElem hnl] at hn; exact Option.some.inj hn
      rw [List.drop_eq_getElem_cons hnl',List.drop_eq_getElem_cons hnl,ey] at r2;rw [List.drop_eq_getElem_cons hnl'] at hB2;have r3 : Rel X.K F2 H1 σD1 σ1 ((xs[n],y) :: ((.node a vs,.ref a) :: (dn.zip (vs.take n) ++ ((xs.drop (n + 1)).zip (vs.drop (n + 1)) ++ R)))):=r2.perm (by
       have p1 : ((D.node a vs,V.ref a) :: (dn.zip (vs.take n) ++ ((xs[n] :: xs.drop (n + 1)).zip (y :: vs.drop (n + 1)) ++ R))).Perm ((D.node a vs,V.ref a) :: ((xs[n],y) :: (dn.zip (vs.take n) ++ ((xs.drop (n + 1)).zip (vs.drop (n + 1)) ++ R)))):=.cons _ List.perm_middle;exact p1.trans (.swap _ _ _))
      have r4:=r3.store (i:=x) hl1;simp only [eW] at hB2
      revert hB2
      refine bK fun o2 h2 hB2=>?_
      refine ⟨F2,_,_,o2,r4,h2,fun F3 H3 σ3 x3 kp3=>?_⟩;have kp4 : Kp (x :: W') σ σ3:=fun kk hk=>by
       have hkw : kk ∉ W':=fun z=>hk (by simp [z])
       have hkx : x ≠ kk:=fun z=>hk (by simp [z])
       rw [kp3 kk hkw,List.getElem?_set_ne hkx,kp1 kk hk]
      have hx3 : σ3[x]? = some (some y):=by
       rw [kp3.at hxw]; simp [hl1]
      have l3 : x < σ3.length:=(List.getElem?_eq_some_iff.mp hx3).1;have tk : vs.take (n + 1) = vs.take n ++ [y]:=by rw [List.take_succ,hn]; rfl
      -- behind a turn that goes on
      have goon : ∀ {σD3 : aP},(eW x s (xs.drop (n + 1)) (dR x σD3).2).map (fun r=>(r.1,(dR x σD3).1 :: r.2)) = some r' -> Rel X.K F3 H3 σD3 σ3 ((.node a vs,.ref a) :: (dn.zip (vs.take n) ++ ((xs.drop (n + 1)).zip (vs.drop (n + 1)) ++ R))) ->
        ∃ F2 σD1 dn r',Ext F H F2 H3 /\ Kp (x :: W') σ σ3 /\ x < σ3.length /\ Rel X.K F2 H3 σD1 σ3 ((.node a vs,.ref a) :: (dn.zip (vs.take (n + 1)) ++ ((xs.drop (n + 1)).zip (vs.drop (n + 1)) ++ R))) /\ dn.length = n + 1 /\ eW x s (xs.drop (n + 1)) σD1 = some r' /\ r'.1 = o1 /\ dn ++ r'.2 = items:=fun {σD3} hm r5=>by
       rcases h3 : eW x s (xs.drop (n + 1)) (dR x σD3).2 with _ | r6
       ·rw [h3] at hm; cases hm
       ·rw [h3] at hm
        cases hm;refine ⟨F3,_,dn ++ [(dR x σD3).1],r6,x2.trans x3,kp4,l3,?_,by simp [hdn],h3,hr1,by rw [<- hr2]; simp⟩;have r7:=vi r5 hx3;rw [tk,List.zip_append (by simp [hdn]; omega)];refine r7.perm ?_;have p1 : (((dR x σD3).1,y) :: (D.node a vs,V.ref a) :: (dn.zip (vs.take n) ++ ((xs.drop (n + 1)).zip (vs.drop (n + 1)) ++ R))).Perm ((D.node a vs,V.ref a) :: ((dR x σD3).1,y) :: (dn.zip (vs.take n) ++ ((xs.drop (n + 1)).zip (vs.drop (n + 1)) ++ R))):=.swap _ _ _;refine p1.trans (.cons _ ?_);rw [List.append_assoc];exact List.perm_middle.symm
      -- a turn that ends the loop
      have stop : ∀ {σD3 : aP} {S : Ro},Rel X.K F3 H3 σD3 σ3 (S ++ ((.node a vs,.ref a) :: (dn.zip (vs.take n) ++ ((xs.drop (n + 1)).zip (vs.drop (n + 1)) ++ R)))) -> (dn ++ (dR x σD3).1 :: xs.drop (n + 1)) = items -> Rel X.K F3 H3 ((dR x σD3).2.set i (some (.lst true items))) σ3 (S ++ R):=fun {σD3 S} r5 hit=>by
       have r7:=vi r5 hx3;refine fin (S:=S) kp4 (by rw [<- hit]; simp [hdn]; omega) ?_;rw [<- hit];have ez : (dn ++ (dR x σD3).1 :: xs.drop (n + 1)).zip vs = dn.zip (vs.take n) ++ (((dR x σD3).1,y) :: (xs.drop (n + 1)).zip (vs.drop (n + 1))):=by
        have : vs = vs.take n ++ y :: vs.drop (n + 1):=by
         rw [<- ey,<- List.drop_eq_getElem_cons hnl,List.take_append_drop]
        conv=>lhs; rw [this]
        rw [List.zip_append (by simp [hdn]; omega)];rfl
       rw [ez];refine r7.perm ?_;have p1 : (((dR x σD3).1,y) :: (S ++ ((D.node a vs,V.ref a) :: (dn.zip (vs.take n) ++ ((xs.drop (n + 1)).zip (vs.drop (n + 1)) ++ R))))).Perm (((dR x σD3).1,y) :: ((D.node a vs,V.ref a) :: (S ++ (dn.zip (vs.take n) ++ ((xs.drop (n + 1)).zip (vs.drop (n + 1)) ++ R))))):=.cons _ List.perm_middle;refine p1.trans ((List.Perm.swap _ _ _).trans (.cons _ ?_));have p2 : (((dR x σD3).1,y) :: (S ++ (dn.zip (vs.take n) ++ ((xs.drop (n + 1)).zip (vs.drop (n + 1)) ++ R)))).Perm (((dR x σD3).1,y) :: (dn.zip (vs.take n) ++ ((xs.drop (n + 1)).zip (vs.drop (n + 1)) ++ (S ++ R)))):=by
        refine .cons _ ((List.perm_append_comm_assoc _ _ _).trans (List.Perm.append_left _ ?_));exact List.perm_append_comm_assoc _ _ _
       refine p2.trans ?_;rw [List.append_assoc,List.cons_append];exact List.perm_middle.symm
      cases o2 with
      | nx σ4=>exact fun r5=>goon hB2 r5
      | ct σ4=>exact fun r5=>goon hB2 r5
      | bk σ4 =>
       cases hB2;subst hr1;exact fun r5=>k F3 H3 σ3 (x2.trans x3) kp4 (stop (S:=[]) r5 hr2)
      | rt d' σ4 =>
       cases hB2;subst hr1;exact fun v r5=>k F3 H3 σ3 (x2.trans x3) kp4 v (stop (S:=[(d',v)]) r5 hr2)
     ·rintro σ1 H1 ⟨F2,σD1,dn,r',x2,kp1,hl1,r2,hdn,hB2,hr1,hr2⟩
      have e1 : xs.drop vs.length = []:=List.drop_eq_nil_of_le (by rw [hlen]; exact Nat.le_refl _);rw [e1] at hB2 r2;simp only [eW] at hB2;cases hB2;subst hr1;rw [List.append_nil] at hr2;subst hr2;refine k F2 H1 σ1 x2 kp1 (fin (S:=[]) kp1 (by rw [hdn]) ?_);have : vs.take vs.length = vs:=List.take_length;rw [this] at r2;simpa using r2
   ·cases ec
  ·cases ec
end
section
variable {X : Cx} {elt : Expr} {ifs : List Expr} {t : DT} {c : DE} {pos : Pos} {scope : Scope}
end
noncomputable def v7 (i : Nat) (σ : aP) : Bool:=match cx σ i with | some (.lst true _)=>true | _=>false
noncomputable def sC (P : aP -> Bool) (c c' : DS) : DS:=fun σ=>if P σ = true then c σ else c' σ
theorem Co {X : Cx} {st : Stmt} {c c' : DS} {W W' : List Nat} (P : aP -> Bool) (h : QS X st c W) (h' : QS X st c' W') : QS X st (sC P c c') (W ++ W'):=by
 rintro aa s σ H En I ⟨F,R,σD,o,r,ec,k⟩;unfold sC at ec;split at ec
 ·exact h aa s σ H En I ⟨F,R,σD,o,r,ec,fun F' H' σ' x kp=>k F' H' σ' x (kp.mono fun k hk=>by simp [hk])⟩
 ·exact h' aa s σ H En I ⟨F,R,σD,o,r,ec,fun F' H' σ' x kp=>k F' H' σ' x (kp.mono fun k hk=>by simp [hk])⟩
theorem C5 {K : PySem.W.Frag} {H : Hp} {a : Addr} {ns : List Int} {g : GF} {E : XK} (hg : ∃ d,g [.lst false (ns.map D.int)] = some (.bl true,[d])) (hS : dJ K H a (ns.map V.int)) : cT K 1 g [.ref a] H (fun v _=>v = .bl true) E:=by
 obtain ⟨d,hd⟩:=hg;refine ⟨rfl,fun c=>∃ o,H c = some o,[],[.lst false (ns.map D.int)],.bl true,[d],rfl,⟨⟨[],?_,List.nodup_nil,fun c hc=>by cases hc⟩,fun c hc=>hc⟩,hd,fun F' H' v x _ g=>?_⟩
 ·have ol : ∀ ms : List Int,OwL K (fun c=>∃ o,H c = some o) H (ms.map D.int) (ms.map V.int) []:=by
   intro ms
   induction ms with
   | nil=>simp only [List.map_nil,OwL]; exact ⟨trivial,trivial⟩
   | cons m ms ih=>simp only [List.map_cons,OwL]; exact ⟨_,_,[],[],rfl,Ow.of_sc rfl,ih,rfl⟩
  refine ⟨[],[],?_,rfl,rfl⟩;simp only [Ow];refine ⟨a,ns.map V.int,rfl,?_,ol ns,trivial⟩;rcases hS with h | h
  ·refine .inl ⟨?_,h⟩
   rcases h with h | ⟨o,h⟩ <;> exact ⟨_,h⟩
  ·exact .inr fun H'=>.inr h
 ·exact (g.bor (d:=.bl true) (v:=v) (by simp)).bl
inductive PArg where
 | bo (i : Nat) | pu (p : DP) | bp (i : Nat) (q : DP)
section
variable {X : Cx} {e a b : Expr} {es : List Expr} {as : List PArg} {c : DE} {p q : DP} {pos : Pos}
variable {K : PySem.W.Frag} {F F' : Addr -> Prop} {H H' : Hp}
theorem nK {α β : Type} : ∀ {xs : List α} {vs : List β} {k : Nat} {d : α} {v : β},vs[k]? = some v -> (xs.set k d).zip vs = (xs.zip vs).set k (d,v)
 | [],_,_,_,_,_=>rfl
 | _ :: _,[],_,_,_,e=>by simp at e
 | x :: xs,w :: vs,0,d,v,e=>by simp at e; subst e; rfl
 | x :: xs,w :: vs,k + 1,d,v,e=>by simpa using nK (xs:=xs) (vs:=vs) (k:=k) (d:=d) (v:=v) (by simpa using e)
theorem sN {α : Type} : ∀ {l : List α} {k : Nat} {x : α},l[k]? = some x -> l.Perm (x :: l.eraseIdx k)
 | [],_,_,e=>by simp at e
 | y :: l,0,x,e=>by simp at e; subst e; exact .refl _
 | y :: l,k + 1,x,e=>((sN (l:=l) (k:=k) (by simpa using e)).cons y).trans (.swap _ _ _)
theorem pT {α β : Type} {xs : List α} {vs : List β} {k : Nat} {x : α} {v : β} (hx : xs[k]? = some x) (hv : vs[k]? = some v) : (xs.zip vs).Perm ((x,v) :: (xs.zip vs).eraseIdx k):=by
 have h : (xs.zip vs)[k]? = some (x,v):=by rw [List.getElem?_zip_eq_some]; exact ⟨hx,hv⟩
 exact sN h
theorem wK {α β : Type} {xs : List α} {vs : List β} {k : Nat} {d : α} {v : β} (hk : k < xs.length) (hv : vs[k]? = some v) : ((d,v) :: (xs.zip vs).eraseIdx k).Perm ((xs.set k d).zip vs):=by
 have h:=pT (xs:=xs.set k d) (vs:=vs) (k:=k) (x:=d) (v:=v) (by simp [hk]) hv;rw [nK hv,List.eraseIdx_set_eq,<- nK hv] at h;exact h.symm
theorem Rel.outAt {σD : aP} {σ : St} {R : Ro} {t : D} {v : V} {j : Int} {xs : List D} (r : Rel K F H σD σ ((t,v) :: R)) (e : cN t [j] = some (.lst true xs)) :
  ∃ l Rem,Lc H v [j] (.ref l) /\ Rel K F H σD σ ((.lst true xs,.ref l) :: (Rem ++ R)) /\ ∀ (F' : Addr -> Prop) (H' : Hp) (σD' : aP) (σ' : St) (R' : Ro) (d : D),Ext F H F' H' -> Rel K F' H' σD' σ' ((d,.ref l) :: (Rem ++ R')) -> Rel K F' H' σD' σ' ((cU t [j] d,v) :: R'):=by
 obtain ⟨l,La,Lx,Lb,lc,eL,⟨ws,hws,olw⟩,_⟩ : ∃ l La Lx Lb,Lc H v [j] (.ref l) /\ True /\ (∃ vs,H l = some (.lst vs) /\ OwL K F H xs vs Lx) /\ La ++ Lb = La ++ Lb:=by
  obtain ⟨L,⟨L1,L2,o1,h2,rfl⟩,nd,nf⟩:=r.front.own;obtain ⟨l,La,Lx,Lb,lc,rfl,h,back⟩:=o1.focus e;exact ⟨l,La,Lx,Lb,lc,trivial,h,rfl⟩
 cases t with
 | lst ow ys =>
  simp only [cN] at e
  revert e
  refine bK fun y h1 e=>?_
  cases e;obtain ⟨k,hk,hy⟩:=kL h1;have hkl : k < ys.length:=(List.getElem?_eq_some_iff.mp hy).1;cases ow with
  | true =>
   obtain ⟨a,vs,rfl,ha,hl,r1⟩:=r.openN;obtain ⟨a',vs',u,e1,e2,e3,e4⟩:=lc;cases e1;have ev : vs' = vs:=by rcases e2 with q | q <;> rw [ha] at q <;> cases q; rfl
   subst ev;cases e4;have hv : vs'[k]? = some (.ref l):=by
    unfold atI at e3; rw [<- hl,hk] at e3; exact e3
   refine ⟨l,(.node a vs',.ref a) :: (ys.zip vs').eraseIdx k,⟨a,vs',_,rfl,.inl ha,e3,rfl⟩,?_,fun F' H' σD' σ' R' d x rr=>?_⟩
   ·refine r1.perm ?_
    refine (((pT hy hv).append_right R).cons _).trans ?_;exact .swap _ _ _
   ·simp only [cU,hk,hy]
    have hp : ((d,V.ref l) :: ((D.node a vs',V.ref a) :: (ys.zip vs').eraseIdx k ++ R')).Perm ((D.node a vs',V.ref a) :: ((ys.set k d).zip vs' ++ R')):=by
     refine (List.Perm.swap _ _ _).trans (.cons _ ?_);exact (wK hkl hv).append_right R'
    exact (rr.perm hp).formN (by simp [hl])
  | false =>
   exfalso;obtain ⟨L,⟨L1,L2,o1,h2,rfl⟩,nd,nf⟩:=r.front.own;obtain ⟨l,La,Lx,Lb,_,rfl,_,_⟩:=o1.focus (js:=[j]) (xs:=xs) (by simp only [cN,h1,bind_some]);simp only [Ow] at o1;obtain ⟨a,ws,rfl,_,_,h⟩:=o1;simp at h
 | tup ys =>
  have hft : ∃ a vs,v = .ref a /\ F a /\ H a = some (.tup vs) /\ ys.length = vs.length /\ Rel K F H σD σ (ys.zip vs ++ R):=by
   obtain ⟨L,⟨L1,L2,o1,h2,rfl⟩,nd,nf⟩:=r.front.own;obtain ⟨l,La,Lx,Lb,_,eL,_,_⟩:=o1.focus e;simp only [Ow] at o1;obtain ⟨a,ws,rfl,ft,ol⟩:=o1;rcases ft with h | ⟨_,h⟩
   ·refine ⟨a,ws,rfl,h.1,h.2,ol.toP.1,Rel.of r.mt ⟨⟨L1 ++ L2,?_,nd,nf⟩,r.g.dom⟩⟩
    have:=ol.toP.2.append h2
    rwa [List.append_assoc]
   ·rw [h] at eL; simp at eL
  obtain ⟨a,vs2,rfl,fa,ha,hl,r1⟩:=hft;simp only [cN] at e
  revert e
  refine bK fun y h1 e=>?_
  cases e;obtain ⟨k,hk,hy⟩:=kL h1;have hkl : k < ys.length:=(List.getElem?_eq_some_iff.mp hy).1;obtain ⟨a',vs',u,e1,e2,e3,e4⟩:=lc;cases e1;have ev : vs' = vs2:=by rcases e2 with q | q <;> rw [ha] at q <;> cases q; rfl
  subst ev;cases e4;have hv : vs'[k]? = some (.ref l):=by
   unfold atI at e3; rw [<- hl,hk] at e3; exact e3
  refine ⟨l,(ys.zip vs').eraseIdx k,⟨a,vs',_,rfl,.inr ha,e3,rfl⟩,r1.perm ((pT hy hv).append_right R),fun F' H' σD' σ' R' d x rr=>?_⟩;simp only [cU,hk,hy];have hp : ((d,V.ref l) :: ((ys.zip vs').eraseIdx k ++ R')).Perm ((ys.set k d).zip vs' ++ R'):=(wK hkl hv).append_right R';have r2:=rr.perm hp;refine Rel.of r2.mt (G.formT (vs:=vs') ?_ (by simp [hl]) ⟨(x a fa).1,(x a fa).2.trans ha⟩)
  have:=r2.front
  rwa [List.append_assoc] at this
 | _=>simp only [cN] at e; cases e
theorem eJ {α β : Type} {o : Option α} {f : α -> β} {b : β} (h : o.map f = some b) : ∃ x,o = some x /\ f x = b:=by
 cases o with
 | none=>cases h
 | some x=>exact ⟨x,rfl,Option.some.inj h⟩
end
section
variable {X : Cx} {e o a b : Expr} {es : List Expr} {p q : DP} {c c' : DE} {pos apos cpos : Pos} {i : Nat} {js : List DP}
noncomputable def wA : D -> Option D
 | .int i=>some (.int (Builtin.bitNot i))
 | _=>none
theorem yh {x d : D} (h : wA x = some d) : ∃ i,x = .int i /\ d = .int (Builtin.bitNot i):=by
 cases x <;> simp only [wA] at h <;> cases h;exact ⟨_,rfl,rfl⟩
noncomputable def qg (p : DP) : DP:=fun σ=>(p σ).bind wA
theorem xl (ha : QB X a p) : QB X (.UnaryOp .Invert a pos) (qg p):=bc (z4 B4 ha) fun σ H Q hq0=>by
 obtain ⟨F,R,σD,d,r,ec,k⟩:=hq0;unfold qg at ec
 revert ec
 refine bK fun x h1 ec=>?_
 obtain ⟨i,rfl,rfl⟩:=yh ec;exact ⟨F,R,σD,_,r,h1,fun F1 H1 v g1 b1=>⟨i,b1.int,k F1 H1 _ g1 ⟨[],Ow.of_sc rfl⟩⟩⟩
theorem vZ {h : Heap} : ∀ {vs : List Value} {ps : List PyData} {as : List Addr},ReadsAll h vs ps as -> ∀ v ∈ vs,∃ p as',p ∈ ps /\ Reads h v p as':=by
 intro vs
 induction vs with
 | nil=>intro ps as h v hv; cases hv
 | cons v vs ih =>
  intro ps as h v hv;cases h with
  | cons r rs =>
   rcases List.mem_cons.mp hv with rfl | hv
   ·exact ⟨_,_,List.mem_cons_self,r⟩
   ·obtain ⟨p,as',hp,h⟩:=ih rs v hv
    exact ⟨p,as',List.mem_cons_of_mem _ hp,h⟩
end
section
variable {X : Cx} {e o a b : Expr} {es : List Expr} {p q : DP} {c c' : DE} {pos apos cpos : Pos} {i : Nat} {js : List DP}
noncomputable def lE : List D -> Option (List Bool)
 | []=>some []
 | .bl b :: xs=>(lE xs).map fun r=>b :: r
 | _=>none
theorem q5 : ∀ {xs : List D} {bs : List Bool},lE xs = some bs -> xs = bs.map D.bl
 | [],_,h=>by cases h; rfl
 | x :: xs,bs,h=>by
  cases x <;> simp only [lE] at h <;> first | cases h | skip
  obtain ⟨r,h1,e⟩:=eJ h;subst e;rw [q5 h1]; rfl
theorem OwL.bls {K : PySem.W.Frag} {F : Addr -> Prop} {H : Hp} : ∀ {bs : List Bool} {vs : List V} {L : List Addr},OwL K F H (bs.map D.bl) vs L -> vs = bs.map V.bl
 | [],_,_,h=>by simp only [List.map_nil,OwL] at h; exact h.1
 | b :: bs,_,_,h=>by
  simp only [List.map_cons,OwL] at h;obtain ⟨v,ws,L1,L2,rfl,h1,h2,rfl⟩:=h;rw [h2.bls,(h1.sc (d:=.bl b) rfl).1]; rfl
theorem uG : ∀ {bs : List Bool} {us : List Value},Vals (bs.map V.bl) us -> us = bs.map Value.bool
 | [],_,.nil=>rfl
 | b :: bs,_,.cons h t=>by rw [show _ = Value.bool b from h,uG t]; rfl
noncomputable def GQ : List D -> Option D
 | [.lst _ xs]=>(lE xs).map fun bs=>.bl (bs.all id)
 | _=>none
theorem Rel.scs {K : PySem.W.Frag} {F : Addr -> Prop} {H : Hp} {σD : aP} {σ : St} {R : Ro} : ∀ {xs : List D} {vs : List V} {L : List Addr},fN xs = true -> OwL K F H xs vs L -> Rel K F H σD σ R -> Rel K F H σD σ (xs.zip vs ++ R)
 | [],_,_,_,_,r=>by simpa using r
 | x :: xs,_,_,h,o,r=>by
  simp only [OwL] at o;obtain ⟨v,ws,L1,L2,rfl,h1,h2,rfl⟩:=o;unfold fN at h;rw [List.all_cons,Bool.and_eq_true,Option.isSome_iff_exists] at h;obtain ⟨⟨w,hw⟩,ht⟩:=h;have r2:=Rel.scs (xs:=xs) ht h2 r;have hv:=(h1.sc hw).1;subst hv;exact r2.scal hw
noncomputable def kK (p : DP) : DE:=fun σ=>(p σ).bind fun d=>match d with
 | .lst _ xs=>if fN xs = true then some (.lst true xs,σ) else none
 | _=>none
theorem wG : CallR X (.type "list") (fun vs H Q=>∃ a xs,vs = [.ref a] /\ dJ X.K H a xs /\ ∀ p,H p = none -> Q (.ref p) (upd H p (.lst xs))):=by
 rintro aa s σ H vs us Q I rv ⟨a,xs,e,sq,q⟩;subst e;obtain ⟨u,rfl,ru⟩:=mP rv;cases ru;obtain ⟨its,r,⟨o,n,hg,hc,hsl,hd⟩,hz⟩:=I.list sq;refine call_list_seq a (.inl rfl) hg hc hd (fun h' c' hk hn=>?_) (by rw [List.size_toArray,<- r.length]; exact hz);exact ⟨.ref s.heap.objs.size,_,I.laid (o:=.lst xs) hk (Nat.le_refl _) ⟨hz,its,c',r,hn⟩,rfl,q _ I.fresh⟩
theorem sL {x : Str} {p1 pos : Pos} (hg : Gl X x) (hm : X.mg x = none) (hv : bootBuiltins x = some (.type "list")) (ha : QB X e p) (hn : autoParam (x ≠ "__name__") cR._auto_1) (hdb : autoParam ((x == ("__debug__" : Str)) = false) cR._auto_1)
  (he : autoParam (starEach [e] X.env = (false,eval e X.env) :: starEach [] X.env) aI._auto_1) (hpl : autoParam ((backTo pos (starEach [] X.env)).any (·.1) = false) aI._auto_1) : QE X (.Call (.Name x p1) [e] [] pos) (kK p) :=
 bc (xz wG hg hm hv (dF ha eY he) hn hdb he hpl) fun σ H Q hq0=>by
  obtain ⟨F,R,σD,d,σD',r,ec,k⟩:=hq0;unfold kK at ec
  revert ec
  refine bK fun x h1 ec=>?_
  split at ec
  ·rename_i o xs
   split at ec
   ·rename_i hs
    cases ec;refine ⟨F,R,σD,_,r,h1,fun F1 H1 v g1 b1=>?_⟩;obtain ⟨a,ws,rfl,sq,L,ol⟩:=b1.lst;refine ⟨a,ws,rfl,sq,fun p hp=>?_⟩;have r2:=Rel.scs hs ol (r.grow g1);obtain ⟨r3,x3⟩:=r2.layL ol.toP.1 hp;exact k F1 _ _ (g1.x.trans x3) r3
   ·cases ec
  ·cases ec
end
end DD
namespace DD
open PySem PySem.Spec PySem.Calls PyProof.Rows L2 PySem.W PySem.Builtin PySem.Builtin.Str
theorem Rel.dropA {K : PySem.W.Frag} {F : Addr -> Prop} {H : Hp} {σD : aP} {σ : St} {R : Ro} : ∀ {S : Ro},Rel K F H σD σ (S ++ R) -> Rel K F H σD σ R
 | [],r=>r
 | _ :: S,r=>Rel.dropA (S:=S) (Rel.pop (R:=S ++ R) r)
section
variable {X : Cx} {apos cpos : Pos}
end
end DD
namespace DD
open PySem PySem.Spec PyProof.Rows L2
section
variable {X : Cx} {e o a b : Expr} {es : List Expr} {p q : DP} {c c' : DE} {pos apos cpos : Pos} {i : Nat} {js : List DP}
noncomputable def vg (x y : D) : Option Bool:=x.py.bind fun q=>y.py.bind fun p=>match p with
 | .list ps=>if (ps.all fun r=>ll r q) = true then some (ps.any fun r=>PyData.eqv r q) else none
 | _=>none
noncomputable def vj (x y : D) : Option D:=(vg x y).map .bl
theorem uc {h : Heap} {q : PyData} {e : Value -> Bool} (he : ∀ v p as,Reads h v p as -> e v = PyData.eqv p q) : ∀ {vs : List Value} {ps : List PyData} {as : List Addr},ReadsAll h vs ps as -> vs.any e = ps.any fun r=>PyData.eqv r q
 | _,_,_,.nil=>rfl
 | _,_,_,.cons r rs=>by rw [List.any_cons,List.any_cons,uc he rs,he _ _ _ r]
theorem zC {x y : D} {t : Bool} (h : vg x y = some t) : ∃ q ps,x.py = some q /\ y.py = some (.list ps) /\ (∀ r ∈ ps,r.canLay0 = true /\ q.canLay0 = true /\ min r.depth q.depth <= 50) /\ t = ps.any fun r=>PyData.eqv r q:=by
 unfold vg at h;rcases h1 : x.py with _ | p
 ·rw [h1] at h; cases h
 ·rw [h1] at h; simp only [bind_some] at h
  rcases h2 : y.py with _ | q
  ·rw [h2] at h; cases h
  ·rw [h2] at h; simp only [bind_some] at h
   split at h
   ·rename_i ps
    split at h
    ·rename_i hk
     cases h;refine ⟨p,ps,rfl,rfl,fun r hr=>?_,rfl⟩
     have:=List.all_eq_true.mp hk r hr
     simp only [ll,Bool.and_eq_true,decide_eq_true_eq] at this;exact ⟨this.1.1,this.1.2,this.2⟩
    ·cases h
   ·cases h
theorem BK {aa : List (Addr × Obj)} {s : Shared} {σ : St} {H : Hp} {F : Addr -> Prop} {dx dy : D} {x y : V} {v u : Value} {t : Bool} (hu : X.A.units + 64 < cLine) (I : L2.Inv X aa σ H s) (b1 : Bor X.K F H dx x) (b2 : Bor X.K F H dy y)
  (rx : RelV x v) (ry : RelV y u) (h : vg dx dy = some t) : ∃ l items,u = .ref l /\ s.heap.IsList l items /\ ∃ e : Value -> Bool,(∀ z ∈ items,SeqAt.EqAt X.A.in1 s z v (e z)) /\ items.any e = t:=by
 obtain ⟨r,ps,e1,e2,hok,rfl⟩:=zC h;obtain ⟨as,ra⟩:=b1.reads I e1 rx;obtain ⟨bs,rb⟩:=b2.reads I e2 ry;cases rb with
 | @list a o items n xs as' hg hc hdt rall =>
  classical
  refine ⟨a,items,rfl,⟨o,hg,hc,n,hdt⟩,fun z=>decide (∃ p as,Reads s.heap z p as /\ PyData.eqv p r = true),fun z hz=>?_,?_⟩
  ·obtain ⟨pz,az,hpz,rz⟩:=vZ rall z (by simpa using hz)
   obtain ⟨k1,k2,k3⟩:=hok pz hpz;have hd : decide (∃ p as,Reads s.heap z p as /\ PyData.eqv p r = true) = PyData.eqv pz r:=by
    rcases he : PyData.eqv pz r with _ | _
    ·refine decide_eq_false ?_
     rintro ⟨p',as',r',e'⟩
     have:=(PySem.SeqAt.Reads.unique pz p' z az as' k1 rz r')
     rw [<- this,he] at e'; cases e'
    ·exact decide_eq_true ⟨pz,az,rz,he⟩
   dsimp only;rw [hd];exact PySem.SeqAt.eqAt_reads pz r _ s z v az as rz ra k1 k2 (by
    simp only [Around.in1_units];omega)
  ·have hc:=uc (q:=r) (e:=fun z=>decide (∃ p as,Reads s.heap z p as /\ PyData.eqv p r = true)) (h:=s.heap) (vs:=items.toList) (ps:=ps) ?_ rall
   ·rw [<- hc]; simp
   ·intro v p as rv
    rcases he : PyData.eqv p r with _ | _
    ·refine decide_eq_false ?_
     rintro ⟨p',as',r',e'⟩
     have:=(PySem.Reads.unique rv p' as' r').1
     rw [<- this,he] at e'; cases e'
    ·exact decide_eq_true ⟨p,as,rv,he⟩
theorem zf (hu : X.A.units + 64 < cLine) : eU X (compareOp .In) vj:=by
 refine ⟨fun aa s σ H x y v u Q I rx ry pz=>?_,fun x y d h=>?_⟩
 ·obtain ⟨F,dx,dy,d,w,b1,b2,eg,hw,q⟩:=pz
  obtain ⟨t,et,rfl⟩:=eJ eg;cases hw;obtain ⟨l,items,rfl,hl,e,he,rfl⟩:=BK hu I b1 b2 rx ry et;exact SeqAt.in_listAt e hl he ⟨.bl _,H,I,rfl,q⟩
 ·obtain ⟨t,_,rfl⟩:=eJ h
  exact ⟨_,rfl⟩
end
theorem rp {K : PySem.W.Frag} {F : Addr -> Prop} {H : Hp} : ∀ {xs : List D} {vs : List V} {L : List Addr},fN xs = true -> OwL K F H xs vs L -> L = []
 | [],_,_,_,o=>by simp only [OwL] at o; exact o.2
 | x :: xs,_,_,h,o=>by
  simp only [OwL] at o;obtain ⟨v,ws,L1,L2,rfl,h1,h2,rfl⟩:=o;unfold fN at h;rw [List.all_cons,Bool.and_eq_true,Option.isSome_iff_exists] at h;obtain ⟨⟨w,hw⟩,ht⟩:=h;rw [rp (xs:=xs) ht h2,(h1.sc hw).2]; rfl
noncomputable def tT (p : DP) (pl ph : Option DP) : DE:=fun σ=>(p σ).bind fun d=>match d with
 | .lst _ xs=>if fN xs = true then (lV pl σ).bind fun l=>(lV ph σ).map fun h=>(.lst true (bY xs l h),σ) else none
 | _=>none
section
variable {X : Cx} {e a b : Expr} {lo hi : Option Expr} {pl ph : Option DP} {p q : DP} {c c' : DE} {pos p2 : Pos} {i : Nat}
theorem Cp (he : QB X e p) (hl : QO X lo pl) (hh : QO X hi ph) : QE X (.Subscript e (.Slice lo hi none p2) pos) (tT p pl ph):=bc (nW p7 he hl hh) fun σ H Q hq0=>by
 obtain ⟨F,R,σD,d,σD',r,ec,k⟩:=hq0;unfold tT at ec
 revert ec
 refine bK fun t h1 ec=>?_
 refine ⟨F,R,σD,t,r,h1,fun F1 H1 v g1 b1=>?_⟩;split at ec
 ·rename_i own xs
  split at ec
  ·rename_i hs
   revert ec
   refine bK fun l h2 ec=>?_
   obtain ⟨h,h3,e3⟩:=cn ec;cases e3;refine ⟨F1,_,_,l,r.grow g1,h2,fun F2 H2 g2=>?_⟩;refine ⟨F2,_,_,h,(r.grow g1).grow g2,h3,fun F3 H3 g3=>?_⟩;have r3:=((r.grow g1).grow g2).grow g3;obtain ⟨a,vs,rfl,sq,L,ol⟩:=((b1.grow g2).grow g3).lst;refine ⟨a,vs,rfl,sq,fun pp hp=>?_⟩;have hL:=rp hs ol;subst hL;have oc : OwL X.K F3 H3 (bY xs l h) (iU vs l h) []:=by
    unfold bY iU;rw [<- ol.length];exact (ol.drop).take
   obtain ⟨r5,x5⟩:=(Rel.pushL oc r3).layL oc.length.symm hp;exact k F3 _ _ ((g1.x.trans (g2.x.trans g3.x)).trans x5) r5
  ·cases ec
 ·cases ec
end
theorem zF {F1 : Addr -> Prop} {H1 : Hp} {p : Addr} {us : List V} (dm : ∀ a,F1 a -> ∃ o,H1 a = some o) (hp : H1 p = none) : Grow F1 H1 (fun c=>F1 c \/ c = p) (upd H1 p (.tup us)):=by
 have nF : ∀ c,F1 c -> c ≠ p:=fun c fc z=>by obtain ⟨o,h⟩:=dm c fc; rw [z,hp] at h; cases h
 refine ⟨fun c fc=>⟨.inl fc,aV (nF c fc)⟩,fun c o e=>by rw [aV (cm e hp)]; exact e,fun c fc=>?_,fun _ c fc=>?_⟩
 ·rcases fc with fc | fc
  ·exact .inl fc
  ·exact .inr (fc ▸ hp)
 ·rcases fc with fc | fc
  ·rw [aV (nF c fc)]; exact dm c fc
  ·subst fc; exact ⟨_,cG⟩
section
variable {X : Cx} {e tg elt iter : Expr} {ifs : List Expr} {g : DG} {t : DT} {c : DE} {i : DI} {pos : Pos} {W : List Nat} {N' : List Str} {scope : Scope}
end
section
variable {X : Cx} {elt tg : Expr} {ifs : List Expr} {g : DG} {t : DT} {c : DE} {pos : Pos} {W : List Nat} {scope : Scope} {k : Nat} {elts : List Expr} {x1 : Nat} {tpos p1 pos1 npos npos2 : Pos}
end
section
variable {X : Cx} {a b : Expr} {c : DE} {p q : DP} {pos : Pos}
end
end DD
namespace L2
open PySem PySem.Spec PyProof.Rows
noncomputable def Aw (K : PySem.W.Frag) (a : Addr) (n0 : Nat) : It :=
 ⟨fun i H=>∃ xs x,dJ K H a xs /\ xs[i]? = some x,
  fun i H x H'=>∃ p u,(∀ xs,dJ K H a xs -> xs[i]? = some u) /\ H p = none /\ H' = upd H p (.tup [.int ((n0 + i : Nat) : Int),u]) /\ x = .ref p,
  fun i H=>∃ xs,dJ K H a xs /\ xs.length = i⟩
theorem qW {prog : Program} {w : World} {A : Around} (hh : A.handled = none) (it l : Addr) (hne : l ≠ it) (items : Array Value) (n0 : Nat) :
  Draws prog w A it [it,l] (n0 + items.size) (fun i v=>n0 <= i /\ items[i - n0]? = some v) (fun i h=>n0 <= i /\ h.IsListIter it l (i - n0) /\ h.IsList l items) where
 live:=fun _ _ q=>by obtain ⟨o,ho,_⟩:=q.2.1; exact ⟨o,ho⟩
 frame:=fun _ _ _ q hk=>⟨q.1,q.2.1.at fun o e=>hk it (by simp) o e,q.2.2.at fun o e=>hk l (by simp) o e⟩
 item:=fun i s Q E hi q hQ=>by
  have hl : i - n0 < items.size:=by have:=q.1; omega
  refine wpAny_nextOf_list_item q.2.1 q.2.2 (x:=items[i - n0]) (by simp [hl]) fun h' hit' hs'=>?_
  refine hQ _ h' s.toks ⟨q.1,by simp [hl]⟩ ⟨Nat.le_succ_of_le q.1,?_,q.2.2.extBut hs'.extBut hne⟩ hs';rw [show i + 1 - n0 = i - n0 + 1 by have:=q.1; omega];exact hit'
 done:=fun s Q E q hE=>wpAny_nextOf_list_end hh q.2.1 q.2.2 (by simp) hE
theorem wR {P : Program} {w : World} {K : PySem.W.Frag} {elts : List Expr} {x1 : Nat} {tpos : Pos} (a z it : Addr) (n0 : Nat) (D : z ≠ it) :
  mJ P w K (.Tuple elts x1 tpos) (Aw K a n0) [z,it] z (fun i h=>(∃ old,IsEnum h z it ((n0 + i : Nat) : Int) old) /\ h.IsListIter it a i) where
 mem:=by simp
 obj:=fun i h hq0 c hc=>by
  obtain ⟨⟨old,hz⟩,⟨o1,e1,c1,d1⟩⟩:=hq0;simp only [List.mem_cons,List.not_mem_nil,or_false] at hc;rcases hc with rfl | rfl
  ·exact ⟨_,hz,fun v z=>nomatch z⟩
  ·exact ⟨_,e1,fun v z=>by rw [d1] at z; cases z⟩
 keep:=fun i h h' ⟨⟨old,hz⟩,h1⟩ k=>⟨⟨old,k z (by simp) _ hz⟩,h1.at fun o e=>k it (by simp) o e⟩
 item:=by
  rintro X hP hw hK hc i aa s σ H E I hf ⟨⟨old,hz⟩,h1⟩ ⟨xs,x,hq,hx⟩;subst hP hw hK;obtain ⟨its,rv,p1,_⟩:=I.list hq;obtain ⟨u,hu,ru⟩:=rv.get hx;have na : a ≠ z:=eA I hq (hf z (by simp)) ⟨_,hz,by simp⟩;have nb : a ≠ it:=eA I hq (hf it (by simp)) (by obtain ⟨o1,e1,c1,d1⟩:=id h1; exact ⟨_,e1,by rw [c1]; simp⟩);have hil : i < its.length:=(List.getElem?_eq_some_iff.mp hu).1;refine wpAny_pyNext_enum_itemD (qW (A:=X.A.in1) (I.ok.hd hc) it a nb its.toArray n0) hz ⟨Nat.le_add_right _ _,by rw [Nat.add_sub_cancel_left]; exact h1,p1.isList⟩ (by simp [hil]) D (by simp [D,na.symm]) fun v h' tk hv ho hst hT hsz hk=>?_
  have ev : v = u:=by
   have h2:=hv.2;rw [Nat.add_sub_cancel_left] at h2;simp only [List.getElem?_toArray] at h2;rw [hu] at h2; exact (Option.some.inj h2).symm
  subst ev;have hf2 : ∀ c ∈ [z,it],gm X aa H c:=fun c hc=>hf c hc
  have hk' : ∀ c o,c ∉ [z,it] -> s.heap.get? c = some o -> h'.get? c = some o:=fun c o hc e=>hk c o (fun q=>hc (by simp [q])) (fun q=>hc (by simp [q])) e
  have I0 : Inv X aa σ (upd H s.heap.objs.size (.tup [.int ((n0 + i : Nat) : Int),x])) { s with heap:=h' }:=I.turnT hf2 (u:=.int ((n0 + i : Nat) : Int)) ⟨tk,rfl⟩ ru hk' hT (fun c hc=>by
   obtain ⟨o1,e1,_⟩:=id hst.2.1;simp only [List.mem_cons,List.not_mem_nil,or_false] at hc;rcases hc with rfl | rfl
   ·exact ⟨_,ho⟩
   ·exact ⟨_,e1⟩)
  have I1 : Inv X aa σ (upd H s.heap.objs.size (.tup [.int ((n0 + i : Nat) : Int),x])) { s with heap:=h',toks:=tk + 1 }:=I0.kept (t':=tk + 1) (fun _ _ e=>e);have hfr : H s.heap.objs.size = none:=I.fresh;refine ⟨_,rfl,wpAny_letOwnedTupleGo_enum (s:={ s with heap:=h',toks:=tk + 1 }) ho fun h'' z1 sb=>?_⟩;have hf5 : ∀ c ∈ [z,it],(upd H s.heap.objs.size (.tup [.int ((n0 + i : Nat) : Int),x])) c = none:=fun c hc=>by
   have lt : c < s.heap.objs.size:=by
    obtain ⟨o1,e1,_⟩:=id h1;simp only [List.mem_cons,List.not_mem_nil,or_false] at hc;rcases hc with rfl | rfl
    ·exact Heap.lt_size hz
    ·exact Heap.lt_size e1
   rw [aV (Nat.ne_of_lt lt)]; exact (hf c hc).1
  have I2 : Inv X aa σ (upd H s.heap.objs.size (.tup [.int ((n0 + i : Nat) : Int),x])) { s with heap:=h'',toks:=tk + 1 }:=Inv.turnN (s:={ s with heap:=h',toks:=tk + 1 }) (ch:=[z]) I1 (fun c hc=>by
   have : c = z:=by simpa using hc
   subst this;exact ⟨hf5 c (by simp),(hf c (by simp)).2⟩) (fun c o hc e=>(sb.2 c (fun q=>hc (by simp [q]))).trans e)
  refine ⟨.ref s.heap.objs.size,_,I2,rfl,⟨_,x,fun zs hzs=>by rw [I.list_inj hzs hq]; exact hx,hfr,rfl,rfl⟩,⟨⟨_,by rw [show ((n0 + (i + 1) : Nat) : Int) = ((n0 + i : Nat) : Int) + 1 by omega]; exact z1⟩,?_⟩,hf5⟩;have h3:=hst.2.1;rw [show n0 + i + 1 - n0 = i + 1 by omega] at h3;exact h3.at fun o e=>(sb.2 it D.symm).trans e
 done:=by
  rintro X hP hw hK hc i aa s σ H E I hf ⟨⟨old,hz⟩,h1⟩ ⟨xs,hq,hend⟩;subst hP hw hK;obtain ⟨its,rv,p1,_⟩:=I.list hq;have nb : a ≠ it:=eA I hq (hf it (by simp)) (by obtain ⟨o1,e1,c1,d1⟩:=id h1; exact ⟨_,e1,by rw [c1]; simp⟩);have hl:=rv.length;refine wpAny_pyNext_enum_endD (qW (A:=X.A.in1) (I.ok.hd hc) it a nb its.toArray n0) hz ⟨Nat.le_add_right _ _,?_,p1.isList⟩ fun h' hk=>⟨rfl,?_⟩
  ·rw [Nat.add_sub_cancel_left,List.size_toArray,<- hl,hend]; exact h1
  ·exact I.turnN (ch:=[z,it]) (fun c hc=>hf c hc) fun c o hc e=>hk c o (fun q=>hc (by simp [q])) e
 self:=fun _ _ _ _ _ ⟨⟨_,hz⟩,_⟩ h=>wpAny_pyIter_enum hz h
theorem yu : bootBuiltins "enumerate" = some (.type "enumerate"):=by decide +kernel
noncomputable def EK (K : PySem.W.Frag) (n0 : Nat) (ta : TA) : TI:=fun σ H R=>ta σ H fun vs H1=>∃ a,vs = [.ref a] /\ (∃ xs,dJ K H1 a xs) /\ R (Aw K a n0) H1
theorem zJ {X : Cx} {aa : List (Addr × Obj)} {σ : St} {H1 : Hp} {s1 : Shared} {h' : Heap} {t' : Nat} {l : Addr} {n0 : Nat} {elts : List Expr} {x1 : Nat} {tpos : Pos} {R : It -> Hp -> Prop} (I1 : Inv X aa σ H1 s1) (he : IsEnum h' (s1.heap.objs.size + 1) s1.heap.objs.size (n0 : Int) .none) (hi : h'.IsListIter s1.heap.objs.size l 0)
  (hk : ∀ b o,s1.heap.get? b = some o -> h'.get? b = some o) (q : R (Aw X.K l n0) H1) : DH X aa σ (.Tuple elts x1 tpos) R (.ref (s1.heap.objs.size + 1)) { s1 with heap:=h',toks:=t' }:=by
 have I2 : Inv X aa σ H1 { s1 with heap:=h',toks:=t' }:=I1.kept (t':=t') hk;refine ⟨_,[s1.heap.objs.size + 1,s1.heap.objs.size],_,_,H1,rfl,I2,wR l (s1.heap.objs.size + 1) s1.heap.objs.size n0 (Nat.ne_of_gt (Nat.lt_succ_self _)),⟨⟨_,by simpa using he⟩,hi⟩,fun c hc=>?_,q⟩;have hle : s1.heap.objs.size <= c:=by
  simp only [List.mem_cons,List.not_mem_nil,or_false] at hc;rcases hc with rfl | rfl
  ·exact Nat.le_succ _
  ·exact Nat.le_refl _
 obtain ⟨f0,f1,f2,f3,f4,f5⟩:=I1.fpOk hle (I1.hok.fresh hle);exact ⟨f0,f1,f2,f3,f4,f5⟩
theorem A6 {X : Cx} {elts : List Expr} {x1 : Nat} {tpos : Pos} {a : Expr} {ta : TA} {p pos : Pos} (hg : Gl X "enumerate") (hm : X.mg "enumerate" = none) (ha : PA X [a] ta) (hs : autoParam (starEach [a] X.env = [(false,eval a X.env)]) aI._auto_1) :
  PI X (.Tuple elts x1 tpos) (.Call (.Name "enumerate" p) [a] [] pos) (EK X.K 0 ta):=by
 intro aa s σ H R I h;refine Call_ (e8 I hg hm yu (PyProof.Rows.callWith_type1 (bL (ha pos aa s σ H _ I h) fun us s1 ⟨vs,H1,I1,r1,q1⟩=>?_) (by rw [hs]; rfl) (by rfl)));obtain ⟨l,e,⟨xs,hq⟩,q⟩:=q1;subst e;cases r1 with
 | cons r rr =>
  cases rr;cases r;obtain ⟨its,rv,p1,_⟩:=I1.list hq;refine call_enumerate_list p1.isList fun h' he hi hsz hk=>?_
  refine wpAny_pyIter_enum (s:={ s1 with heap:=h' }) he ?_;exact zJ (t':=s1.toks) (n0:=0) I1 he hi hk q
end L2
namespace DD
open PySem PySem.Spec PyProof.Rows L2
noncomputable def nC : Nat -> List D -> List D
 | _,[]=>[]
 | n,x :: xs=>.tup [.int (n : Int),x] :: nC (n + 1) xs
theorem vm : ∀ (xs : List D) (n : Nat),(nC n xs).length = xs.length
 | [],_=>rfl
 | _ :: xs,n=>by simp [nC,vm xs]
theorem vn : ∀ (xs : List D) (n i : Nat),(nC n xs)[i]? = (xs[i]?).map fun x=>.tup [.int ((n + i : Nat) : Int),x]
 | [],_,_=>by simp [nC]
 | _ :: xs,n,0=>by simp [nC]
 | _ :: xs,n,i + 1=>by simp only [nC,List.getElem?_cons_succ,vn xs]; rw [show n + 1 + i = n + (i + 1) by omega]
noncomputable def tL (n0 : Nat) (c : DE) : DI:=fun σ=>(c σ).bind fun p=>match p.1 with
 | .lst _ xs=>some (nC n0 (D.fzL xs),p.2)
 | _=>none
theorem zA {K : PySem.W.Frag} {F : Addr -> Prop} {H : Hp} {xs : List D} {a : Addr} {vs : List V} {n0 : Nat} (fl : FL K F H a vs) (ol : OwL K F H xs vs []) :
  nJ K (Aw K a n0) (nC n0 xs) F H where
 item:=fun i d F1 H1 x1 dm e=>by
  rw [vn] at e
  revert e
  refine lR fun x hz e=>?_
  cases e;obtain ⟨u,La,Lx,Lb,e1,eL,o1,_⟩:=ol.kid hz;have eLx : Lx = []:=(List.append_eq_nil_iff.mp (List.append_eq_nil_iff.mp eL.symm).1).2;subst eLx;refine ⟨⟨vs,u,(fl.ext x1).sq,e1⟩,fun v H2 ⟨p,u',h1,hp,hH,hv⟩=>?_⟩;subst hH hv;have h1':=h1 vs (fl.ext x1).sq;rw [e1] at h1'; cases h1';have gr:=zF (us:=[.int ((n0 + i : Nat) : Int),u]) dm hp;refine ⟨_,gr,?_⟩;simp only [Ow,OwL];exact ⟨p,[.int ((n0 + i : Nat) : Int),u],rfl,.inl ⟨.inr rfl,cG⟩,.int ((n0 + i : Nat) : Int),[u],[],[],rfl,⟨rfl,rfl⟩,⟨u,[],[],[],rfl,(o1.mono x1 (fun a ha=>by cases ha)).mono gr.x (fun a ha=>by cases ha),⟨rfl,rfl⟩,rfl⟩,rfl⟩
 done:=fun F1 H1 x1=>⟨vs,(fl.ext x1).sq,by rw [vm]; exact ol.length⟩
section
variable {X : Cx} {a b o e : Expr} {c c' : DE} {p p1 pos1 : Pos} {elts : List Expr} {x1 : Nat} {tpos pos : Pos}
theorem AQ (hgl : Gl X "enumerate") (hm : X.mg "enumerate" = none) (ha : QE X a c) (hs : autoParam (starEach [a] X.env = [(false,eval a X.env)]) aI._auto_1) :
  QI X (.Tuple elts x1 tpos) (.Call (.Name "enumerate" p1) [a] [] pos1) (tL 0 c):=jM (A6 hgl hm (dF ha eY hs) hs) fun σ H R hq0=>by
 obtain ⟨F,Ro,σD,xs,σD',r,ec,k⟩:=hq0;unfold tL at ec
 revert ec
 refine bJ fun x σ1 h1 ec=>?_
 try dsimp only at ec
 split at ec
 ·cases ec
  refine ⟨F,Ro,σD,_,_,r,h1,fun F1 H1 v x1 r1=>?_⟩;obtain ⟨F3,x3,r3,o3⟩:=r1.freeze;simp only [D.fz,Ow] at o3;obtain ⟨a1,vs,rfl,fl,ol,_⟩:=o3;exact ⟨a1,rfl,⟨vs,fl.sq⟩,k F3 H1 _ (x1.trans x3) r3.pop (zA fl ol)⟩
 ·cases ec
end
section
variable {X : Cx} {elt tg iter : Expr} {ifs : List Expr} {g : DG} {t : DT} {c : DE} {pos : Pos} {W : List Nat} {scope : Scope} {k : Nat} {elts : List Expr} {x1 : Nat} {tpos p1 pos1 npos npos2 : Pos}
end
end DD
namespace L2
open PySem PySem.Spec PyProof.Rows
section
variable {prog : Program} {w : World} {A : Around} {E : Value -> Shared -> Prop} {s : Shared}
end
end L2
namespace DD
open PySem PySem.Spec PyProof.Rows L2
section
variable {X : Cx} {a b o e : Expr} {c c' : DE} {p p1 pos1 kp cp : Pos} {elts : List Expr} {x1 : Nat} {tpos pos : Pos} {kk : Nat}
end
section
variable {X : Cx} {elt : Expr} {ifs : List Expr} {g : DG} {t : DT} {c : DE} {pos : Pos} {W : List Nat} {scope : Scope} {k : Nat} {elts : List Expr} {x1 : Nat} {tpos p1 pos1 npos kp cp : Pos} {kk : Nat}
end
end DD
namespace L2
open PySem PySem.Spec PyProof.Rows
section
variable {prog : Program} {w : World} {A : Around} {E : Value -> Shared -> Prop} {s : Shared}
end
section
variable {X : Cx} {pos : Pos}
theorem ot : ∀ (l : List Value) (k : Nat),(∀ (j : Nat) (v : Value),l[j]? = some v -> ∃ t,v = .int ((k + j : Nat) : Int) t) -> Vals ((List.range' k l.length).map fun (q : Nat)=>V.int (q : Int)) l
 | [],_,_=>.nil
 | u :: l,k,h=>by
  rw [List.length_cons,List.range'_succ,List.map_cons];refine .cons ?_ (ot l (k + 1) fun j v e=>?_)
  ·obtain ⟨t,e⟩:=h 0 u rfl
   exact ⟨t,e⟩
  ·obtain ⟨t,e2⟩:=h (j + 1) v (by simpa using e)
   exact ⟨t,by rw [e2,show k + (j + 1) = k + 1 + j by omega]⟩
theorem pK : bootBuiltins "list" = some (.type "list"):=by decide +kernel
end
end L2
namespace DD
open PySem PySem.Spec PyProof.Rows L2
section
variable {X : Cx} {e tg a : Expr} {ts : List Expr} {g : DG} {gs : rF} {pos p1 p2 pos2 : Pos} {W W' : List Nat} {c : DE} {apos cpos : Pos}
theorem uW {K : PySem.W.Frag} {F : Addr -> Prop} {H : Hp} : ∀ l : List Nat,OwL K F H (l.map fun (q : Nat)=>D.int (q : Int)) (l.map fun (q : Nat)=>V.int (q : Int)) []
 | []=>by simp [OwL]
 | x :: l=>by
  simp only [List.map_cons,OwL];exact ⟨_,_,[],[],rfl,Ow.of_sc rfl,uW l,rfl⟩
end
section
variable {X : Cx} {e o a b : Expr} {es : List Expr} {p q : DP} {c c' : DE} {pos apos cpos : Pos} {i : Nat} {js : List DP}
noncomputable def og : List D -> Option D
 | [.lst _ xs]=>(lE xs).map fun bs=>.bl (bs.any id)
 | _=>none
theorem Am (hc : X.calm = true) : iy X (.builtin "any") og:=by
 refine ⟨fun aa s σ H vs us Q I rv hq0=>?_,fun ds d h=>?_⟩
 ·obtain ⟨F,ds,d,w,b,eg,hw,q⟩:=hq0
  unfold og at eg;split at eg
  ·rename_i own xs
   obtain ⟨bs,hbs,e⟩:=eJ eg;subst e; cases hw;have ex:=q5 hbs;subst ex;obtain ⟨v,rfl,bv⟩:=b.one;obtain ⟨a,ws,rfl,sq,L,ol⟩:=bv.lst;obtain ⟨u,rfl,ru⟩:=mP rv;cases ru;obtain ⟨its,r,pl,_⟩:=I.list sq;rw [ol.bls] at r;have hits:=uG r;subst hits;have hl:=pl.isList;have hlt : a < s.heap.objs.size:=by obtain ⟨_,e,_⟩:=hl; exact Heap.lt_size e
   refine call_any_walk (wpAny_pyIter_list hl ⟨_,_,_,_,_,_,fun i=>bs.getD i true,rfl,Walks.list (A:=X.A.in1) (I.ok.hd hc) _ a (Nat.ne_of_lt hlt) (bs.map Value.bool).toArray,⟨⟨_,Heap.get?_push_size _ rfl,rfl,rfl⟩,hl.push _⟩,?_,fun h' tk hk=>?_⟩)
   ·intro i v s2 Q2 E2 hP hQ
    have : v = .bool (bs.getD i true):=by
     simp only [List.getElem?_toArray,List.getElem?_map,Option.map_eq_some_iff] at hP;obtain ⟨b',hb,rfl⟩:=hP;simp [hb]
    subst this;exact wpAny_truthy_bool hQ
   ·refine ⟨.bl (bs.any id),H,I.kept (old_kept hk),?_,q⟩
    have e : (List.range (bs.map Value.bool).toArray.size).any (fun i=>bs.getD i true) = bs.any id:=by
     rw [Bool.eq_iff_iff,List.any_eq_true,List.any_eq_true];constructor
     ·rintro ⟨i,hi,h⟩
      have hi' : i < bs.length:=by simpa using hi
      exact ⟨bs[i],List.getElem_mem hi',by simpa [hi'] using h⟩
     ·rintro ⟨x,hx,h⟩
      obtain ⟨i,hi,rfl⟩:=List.getElem_of_mem hx;exact ⟨i,by simp [hi],by simpa [hi] using h⟩
    rw [e]; rfl
  ·cases eg
 ·unfold og at h
  split at h
  ·obtain ⟨bs,_,e⟩:=eJ h
   subst e; exact ⟨_,rfl⟩
  ·cases h
noncomputable def nn (p q : DP) : DE:=fun σ=>(p σ).bind fun x=>(q σ).bind fun y=>match x,y with
 | .lst true xs,.lst true ys=>if (fN xs && fN ys && decide (xs.length + ys.length <= sizeLine)) = true then some (.lst true (xs ++ ys),σ) else none
 | _,_=>none
theorem uP (ha : QB X a p) (hb : QB X b q) : QE X (.BinOp a .Add b pos) (nn p q):=bc (oH xC ha hb) fun σ H Q hq0=>by
 obtain ⟨F,R,σD,d,σD',r,ec,k⟩:=hq0;unfold nn at ec
 revert ec
 refine bK fun x h1 ec=>?_
 revert ec
 refine bK fun y h2 ec=>?_
 split at ec
 ·rename_i xs ys
  split at ec
  ·rename_i hz
   simp only [Bool.and_eq_true,decide_eq_true_eq] at hz;cases ec;refine ⟨F,R,σD,_,r,h1,fun F1 H1 v g1 b1=>?_⟩;refine ⟨F1,R,σD,_,r.grow g1,h2,fun F2 H2 u g2 b2=>?_⟩;obtain ⟨L1,o1⟩:=b1.grow g2;obtain ⟨L2,o2⟩:=b2;simp only [Ow] at o1 o2;obtain ⟨l1,us,L1',rfl,hu,ol1,_⟩:=o1;obtain ⟨l2,ws,L2',rfl,hw,ol2,_⟩:=o2;refine ⟨l1,l2,us,ws,rfl,rfl,hu,hw,by rw [<- ol1.toP.1,<- ol2.toP.1]; exact hz.2,fun p hp=>?_⟩;have r5:=Rel.scs hz.1.1 ol1 (Rel.scs hz.1.2 ol2 ((r.grow g1).grow g2));have r6 : Rel X.K F2 H2 σD σ ((xs ++ ys).zip (us ++ ws) ++ R):=by
    rw [List.zip_append ol1.toP.1,List.append_assoc]; exact r5
   obtain ⟨r7,x7⟩:=r6.layL (by simp [ol1.toP.1,ol2.toP.1]) hp;exact k F2 _ _ ((g1.x.trans g2.x).trans x7) r7
  ·cases ec
 ·cases ec
end
end DD
namespace L2
open PySem PySem.Spec PyProof.Rows
noncomputable def Au (n : Nat) : It:=⟨fun i _=>i < n,fun i H x H'=>H' = H /\ x = .int (0 + (i : Int) * 2),fun i _=>n <= i⟩
theorem yH {P : Program} {w : World} {K : PySem.W.Frag} {tg : Expr} (it : Addr) (n : Nat) : mJ P w K tg (Au n) [it] it (fun i h=>IsRangeIter h it (0 + (i : Nat) * 2) ((n : Int) - (i : Nat)) 2) where
 mem:=by simp
 obj:=fun i h st b hb=>by
  obtain rfl : b = it:=by simpa using hb
  exact ⟨_,st,fun v z=>nomatch (show Data.fields _ = Data.cell v from z)⟩
 keep:=fun i h h' st k=>k it (by simp) _ st
 item:=by
  intro X hP hw hK hc i aa s σ H E I hf st hg;subst hP hw hK;obtain ⟨f0,f1,f2,f3,f4,f5⟩:=hf it (by simp);refine (Walks.range (prog:=X.prog) (w:=X.w) (I.ok.hd hc) it 0 2 n).item i s _ _ hg st fun v h' tk hv st' kk=>?_
  obtain ⟨t,rfl⟩:=hv;have I1 : Inv X aa σ H { s with heap:=h',toks:=tk }:=I.turned (fun b o hb e=>kk b o (by simpa using hb) e) f0 f1 f3 f4 f5;exact ⟨_,rfl,sh (s:={ s with heap:=h',toks:=tk }) (n:="range_iterator") st' rfl rfl dC ⟨.int (0 + (i : Int) * 2),H,I1,⟨t,rfl⟩,⟨rfl,rfl⟩,st',fun b hb=>(hf b hb).1⟩⟩
 done:=by
  intro X hP hw hK hc i aa s σ H E I hf st hg;subst hP hw hK;obtain ⟨f0,f1,f2,f3,f4,f5⟩:=hf it (by simp);exact wpAny_pyNext_range_end (I.ok.hd hc) st (by have : n <= i:=hg; omega) fun h' eb=>⟨rfl,I.turned (t':=s.toks) (fun b o hb e=>eb b o hb e) f0 f1 f3 f4 f5⟩
 self:=fun _ _ _ _ _ st h=>wpAny_pyIter_rangeiter st h
theorem sA {m : Nat} : Builtin.Range.rangeSize 0 (m : Int) 2 = (((m + 1) / 2 : Nat) : Int):=by
 unfold Builtin.Range.rangeSize;simp only [show (2 : Int) > 0 by decide,if_true];split <;> omega
theorem qM {m : Nat} (h : m <= 1000) : Builtin.Range.small 0 (m : Int) 2 = true:=by
 have key : ∀ k : Fin 1001,Builtin.Range.small 0 (k.val : Int) 2 = true:=by decide +kernel
 exact key ⟨m,by omega⟩
section
variable {X : Cx} {tg : Expr} {pos : Pos}
noncomputable def FJ (ta : TA) : TI:=fun σ H R=>ta σ H fun vs H1=>∃ m : Nat,vs = [.int 0,.int (m : Int),.int 2] /\ m <= 1000 /\ R (Au ((m + 1) / 2)) H1
theorem tW {prog : Program} {w : World} {A : Around} {E : Value -> Shared -> Prop} {s : Shared} {m : Nat} {t u v : Tok} {Q : Value -> Shared -> Prop} (hm : m <= 1000) (h : Q (.ref s.heap.objs.size) { s with heap:=s.heap.push { cls:=.type "range",data:=.fields #[.int 0 t,.int (m : Int) u,.int 2 v] },toks:=s.toks }) :
  wpAny (model prog w) A (call (.type "range") [.int 0 t,.int (m : Int) u,.int 2 v]) Q E s:=call_range_3 dC h (Or.inl (PyProof.noPylong_small oM))
theorem CD {a b c : Expr} {ta : TA} {p pos : Pos} (hg : Gl X "range") (hm : X.mg "range" = none) (ha : PA X [a,b,c] ta) (hs : autoParam (starEach [a,b,c] X.env = [(false,eval a X.env),(false,eval b X.env),(false,eval c X.env)]) aI._auto_1)
  (hs2 : autoParam (starEach [b,c] X.env = [(false,eval b X.env),(false,eval c X.env)]) aI._auto_1) : PI X tg (.Call (.Name "range" p) [a,b,c] [] pos) (FJ ta):=by
 intro aa s σ H R I h;refine Call_ (e8 I hg hm boot_range (PyProof.Rows.callWith_type1 (bL (ha pos aa s σ H _ I h) fun us s1 hq0=>?_) (by rw [hs,hs2]) (by rw [hs2]; rfl)));obtain ⟨vs,H1,I1,r1,m,e,hm',q⟩:=hq0;subst e;obtain ⟨u1,us1,rfl,ru1,r2⟩ : ∃ u us',us = u :: us' /\ RelV (.int 0) u /\ Vals [.int (m : Int),.int 2] us':=by cases r1 with | cons r rr=>exact ⟨_,_,rfl,r,rr⟩
 obtain ⟨u2,us2,rfl,ru2,r3⟩ : ∃ u us',us1 = u :: us' /\ RelV (.int (m : Int)) u /\ Vals [.int 2] us':=by cases r2 with | cons r rr=>exact ⟨_,_,rfl,r,rr⟩
 obtain ⟨u3,us3,rfl,ru3,r4⟩ : ∃ u us',us2 = u :: us' /\ RelV (.int 2) u /\ Vals [] us':=by cases r3 with | cons r rr=>exact ⟨_,_,rfl,r,rr⟩
 cases r4;obtain ⟨t1,rfl⟩:=ru1;obtain ⟨t2,rfl⟩:=ru2;obtain ⟨t3,rfl⟩:=ru3;refine tW hm' ?_;refine wpAny_pyIter_range (IsRange.new ..) (qM hm') ?_;have I2 : Inv X aa σ H1 { s1 with heap:=s1.heap.push { cls:=.type "range",data:=.fields #[.int 0 t1,.int (m : Int) t2,.int 2 t3] },toks:=s1.toks }:=I1.kept fun b o e=>Heap.get?_push_of_some _ e
 refine ⟨(s1.heap.push { cls:=.type "range",data:=.fields #[.int 0 t1,.int (m : Int) t2,.int 2 t3] }).objs.size,[(s1.heap.push { cls:=.type "range",data:=.fields #[.int 0 t1,.int (m : Int) t2,.int 2 t3] }).objs.size],_,_,H1,rfl,I2.kept (t':=s1.toks) fun b o e=>Heap.get?_push_of_some _ e,yH _ ((m + 1) / 2),?_,fun b hb=>?_,q⟩
 ·have e1 : (0 : Int) + ((0 : Nat) : Int) * 2 = 0:=by simp
  have e2 : ((((m + 1) / 2 : Nat)) : Int) - ((0 : Nat) : Int) = Builtin.Range.rangeSize 0 (m : Int) 2:=by rw [sA]; omega
  show IsRangeIter _ _ ((0 : Int) + ((0 : Nat) : Int) * 2) (((((m + 1) / 2 : Nat)) : Int) - ((0 : Nat) : Int)) 2;rw [e1,e2];exact Heap.get?_push_size _ rfl
 ·obtain rfl : b = (s1.heap.push { cls:=.type "range",data:=.fields #[.int 0 t1,.int (m : Int) t2,.int 2 t3] }).objs.size:=by simpa using hb
  exact I2.fpOk (Nat.le_refl _) (I2.hok.fresh (Nat.le_refl _))
end
end L2
namespace DD
open PySem PySem.Spec PyProof.Rows L2
noncomputable def sr (m : Nat) : List D:=(List.range ((m + 1) / 2)).map fun (k : Nat)=>D.int (0 + (k : Int) * 2)
theorem BF {K : PySem.W.Frag} {F : Addr -> Prop} {H : Hp} {m : Nat} : nJ K (Au ((m + 1) / 2)) (sr m) F H where
 item:=fun i d F1 H1 _ dm e=>by
  unfold sr at e;rw [List.getElem?_map] at e;rcases hk : (List.range ((m + 1) / 2))[i]? with _ | j
  ·rw [hk] at e; cases e
  ·rw [hk] at e
   cases e;have hl:=(List.getElem?_eq_some_iff.mp hk).1;have hj:=(List.getElem?_eq_some_iff.mp hk).2;simp only [List.length_range] at hl;simp only [List.getElem_range] at hj;subst hj;refine ⟨hl,fun x H2 hq0=>?_⟩;obtain ⟨e2,hx⟩:=hq0;subst e2 hx;exact ⟨F1,Grow.refl,Ow.of_sc rfl⟩
 done:=fun F1 H1 _=>by simp [sr,Au]
noncomputable def lx (c : DA) : DI:=fun σ=>(c σ).bind fun p=>match p.1 with
 | [.int i,.int j,.int k]=>if decide (i = 0 /\ k = 2 /\ 0 <= j /\ j <= 1000) = true then some (sr j.toNat,p.2) else none
 | _=>none
section
variable {X : Cx} {tg e a b c : Expr} {ca : DA} {p1 pos1 : Pos}
theorem mj (hgl : Gl X "range") (hm : X.mg "range" = none) (ha : QA X [a,b,c] ca) (hs : autoParam (starEach [a,b,c] X.env = [(false,eval a X.env),(false,eval b X.env),(false,eval c X.env)]) aI._auto_1) (hs2 : autoParam (starEach [b,c] X.env = [(false,eval b X.env),(false,eval c X.env)]) aI._auto_1) :
  QI X tg (.Call (.Name "range" p1) [a,b,c] [] pos1) (lx ca):=jM (CD hgl hm ha hs hs2) fun σ H R hq0=>by
 obtain ⟨F,Ro,σD,xs,σD',r,ec,k⟩:=hq0;unfold lx at ec
 revert ec
 refine bJ fun ys σ1 h ec=>?_
 try dsimp only at ec
 refine ⟨F,Ro,σD,ys,σ1,r,h,fun F1 H1 vs x1 hl r1=>?_⟩;split at ec
 ·rename_i i j k'
  split at ec
  ·rename_i hj
   simp only [decide_eq_true_eq] at hj;obtain ⟨rfl,rfl,hj⟩:=hj;cases ec
   match vs,hl with
   | [v,u,w],_ =>
    have hv : v = .int 0:=(r1.bor (d:=.int 0) (v:=v) (by simp)).int;have hu : u = .int j:=(r1.bor (d:=.int j) (v:=u) (by simp)).int;have hw : w = .int 2:=(r1.bor (d:=.int 2) (v:=w) (by simp)).int;subst hv; subst hu; subst hw;exact ⟨j.toNat,by rw [Int.toNat_of_nonneg hj.1],by omega,k F1 H1 _ x1 (r1.popN (S:=[(D.int 0,V.int 0),(D.int j,V.int j),(D.int 2,V.int 2)])) BF⟩
  ·cases ec
 ·cases ec
end
end DD
namespace L2
open PySem PySem.Spec PyProof.Rows
theorem so : ∀ (l : List Value) (k : Nat),(∀ (j : Nat) (v : Value),l[j]? = some v -> ∃ t,v = .int (0 + ((k + j : Nat) : Int) * 2) t) -> Vals ((List.range' k l.length).map fun (q : Nat)=>V.int (0 + (q : Int) * 2)) l
 | [],_,_=>.nil
 | u :: l,k,h=>by
  rw [List.length_cons,List.range'_succ,List.map_cons];refine .cons ?_ (so l (k + 1) fun j v e=>?_)
  ·obtain ⟨t,e⟩:=h 0 u rfl
   exact ⟨t,e⟩
  ·obtain ⟨t,e2⟩:=h (j + 1) v (by simpa using e)
   exact ⟨t,by rw [e2,show k + (j + 1) = k + 1 + j by omega]⟩
section
variable {X : Cx} {pos : Pos}
noncomputable def B9 (ta : TA) : TE:=fun σ H Q=>ta σ H fun vs H1=>∃ m : Nat,vs = [.int 0,.int (m : Int),.int 2] /\ m <= 1000 /\ ∀ p,H1 p = none -> Q (.ref p) (upd H1 p (.lst ((List.range' 0 ((m + 1) / 2)).map fun (q : Nat)=>V.int (0 + (q : Int) * 2))))
theorem y2 {a b c : Expr} {ta : TA} {p1 p2 pos2 : Pos} (hc : X.calm = true) (hgl : Gl X "list") (hml : X.mg "list" = none) (hgr : Gl X "range") (hmr : X.mg "range" = none) (ha : PA X [a,b,c] ta)
  (hs : autoParam (starEach [a,b,c] X.env = [(false,eval a X.env),(false,eval b X.env),(false,eval c X.env)]) aI._auto_1) (hs2 : autoParam (starEach [b,c] X.env = [(false,eval b X.env),(false,eval c X.env)]) aI._auto_1) (hs1 : autoParam (starEach [.Call (.Name "range" p2) [a,b,c] [] pos2] X.env = [(false,eval (.Call (.Name "range" p2) [a,b,c] [] pos2) X.env)]) aI._auto_1) :
  PE X (.Call (.Name "list" p1) [.Call (.Name "range" p2) [a,b,c] [] pos2] [] pos) (B9 ta):=by
 intro aa s σ H Q I h;refine Call_ (e8 I hgl hml pK (PyProof.Rows.callWith_type1 ?_ (by rw [hs1]; rfl) (by rfl)));rw [hs1];refine Calls.spliced_cons (Call_ (e8 I hgr hmr boot_range (PyProof.Rows.callWith_type1 (bL (ha pos2 aa s σ H _ I h) fun us s1 hq0=>?_) (by rw [hs,hs2]) (by rw [hs2]; rfl))));obtain ⟨vs,H1,I1,r1,m,e,hm',q⟩:=hq0;subst e;obtain ⟨u1,us1,rfl,ru1,r2⟩ : ∃ u us',us = u :: us' /\ RelV (.int 0) u /\ Vals [.int (m : Int),.int 2] us':=by cases r1 with | cons r rr=>exact ⟨_,_,rfl,r,rr⟩
 obtain ⟨u2,us2,rfl,ru2,r3⟩ : ∃ u us',us1 = u :: us' /\ RelV (.int (m : Int)) u /\ Vals [.int 2] us':=by cases r2 with | cons r rr=>exact ⟨_,_,rfl,r,rr⟩
 obtain ⟨u3,us3,rfl,ru3,r4⟩ : ∃ u us',us2 = u :: us' /\ RelV (.int 2) u /\ Vals [] us':=by cases r3 with | cons r rr=>exact ⟨_,_,rfl,r,rr⟩
 cases r4;obtain ⟨t1,rfl⟩:=ru1;obtain ⟨t2,rfl⟩:=ru2;obtain ⟨t3,rfl⟩:=ru3;refine tW hm' (Calls.spliced_nil ?_);have I2 : Inv X aa σ H1 { s1 with heap:=s1.heap.push { cls:=.type "range",data:=.fields #[.int 0 t1,.int (m : Int) t2,.int 2 t3] },toks:=s1.toks }:=I1.kept fun b o e=>Heap.get?_push_of_some _ e
 refine call_list_range (n:=(m + 1) / 2) (I.ok.hd hc) (IsRange.new ..) (qM hm') sA oM fun h' tk acc' c' hk hS hacc=>?_
 have hv:=so acc'.toList 0 (fun i v e=>by
  obtain ⟨t,e2⟩:=hacc.2 i v (by simpa using e);exact ⟨t,by rw [e2,Nat.zero_add]⟩)
 rw [show acc'.toList.length = (m + 1) / 2 by simpa using hacc.1] at hv;exact ⟨.ref _,_,I2.laid (o:=.lst ((List.range' 0 ((m + 1) / 2)).map fun (q : Nat)=>V.int (0 + (q : Int) * 2))) hk (Nat.le_refl _) ⟨Nat.le_of_lt (small1000 (by simp; omega)),acc'.toList,c',hv,hS⟩,rfl,q _ I2.fresh⟩
end
end L2
namespace DD
open PySem PySem.Spec PyProof.Rows L2
noncomputable def mD (c : DA) : DE:=fun σ=>(c σ).bind fun p=>match p.1 with
 | [.int i,.int j,.int k]=>if decide (i = 0 /\ k = 2 /\ 0 <= j /\ j <= 1000) = true then some (.lst true ((List.range' 0 ((j.toNat + 1) / 2)).map fun (q : Nat)=>D.int (0 + (q : Int) * 2)),p.2) else none
 | _=>none
theorem xB {K : PySem.W.Frag} {F : Addr -> Prop} {H : Hp} : ∀ l : List Nat,OwL K F H (l.map fun (q : Nat)=>D.int (0 + (q : Int) * 2)) (l.map fun (q : Nat)=>V.int (0 + (q : Int) * 2)) []
 | []=>by simp [OwL]
 | x :: l=>by
  simp only [List.map_cons,OwL];exact ⟨_,_,[],[],rfl,Ow.of_sc rfl,xB l,rfl⟩
section
variable {X : Cx} {a b c : Expr} {ca : DA} {p1 p2 pos pos2 : Pos}
theorem yY (hgl : Gl X "list") (hml : X.mg "list" = none) (hgr : Gl X "range") (hmr : X.mg "range" = none) (ha : QA X [a,b,c] ca) (hc : autoParam (X.calm = true) aI._auto_1)
  (hs : autoParam (starEach [a,b,c] X.env = [(false,eval a X.env),(false,eval b X.env),(false,eval c X.env)]) aI._auto_1) (hs2 : autoParam (starEach [b,c] X.env = [(false,eval b X.env),(false,eval c X.env)]) aI._auto_1) (hs1 : autoParam (starEach [.Call (.Name "range" p2) [a,b,c] [] pos2] X.env = [(false,eval (.Call (.Name "range" p2) [a,b,c] [] pos2) X.env)]) aI._auto_1) :
  QE X (.Call (.Name "list" p1) [.Call (.Name "range" p2) [a,b,c] [] pos2] [] pos) (mD ca):=bc (y2 hc hgl hml hgr hmr ha hs hs2 hs1) fun σ H Q hq0=>by
 obtain ⟨F,R,σD,d,σD',r,ec,k⟩:=hq0;unfold mD at ec
 revert ec
 refine bJ fun ys σ1 h ec=>?_
 try dsimp only at ec
 refine ⟨F,R,σD,ys,σ1,r,h,fun F1 H1 vs x1 hl r1=>?_⟩;split at ec
 ·rename_i i j k'
  split at ec
  ·rename_i hj
   simp only [decide_eq_true_eq] at hj;obtain ⟨rfl,rfl,hj⟩:=hj;cases ec
   match vs,hl with
   | [v,u,w],_ =>
    have hv : v = .int 0:=(r1.bor (d:=.int 0) (v:=v) (by simp)).int;have hu : u = .int j:=(r1.bor (d:=.int j) (v:=u) (by simp)).int;have hw : w = .int 2:=(r1.bor (d:=.int 2) (v:=w) (by simp)).int;subst hv; subst hu; subst hw;refine ⟨j.toNat,by rw [Int.toNat_of_nonneg hj.1],by omega,fun p hp=>?_⟩;have oc:=xB (K:=X.K) (F:=F1) (H:=H1) (List.range' 0 ((j.toNat + 1) / 2));obtain ⟨r5,x5⟩:=(Rel.pushL oc (r1.popN (S:=[(D.int 0,V.int 0),(D.int j,V.int j),(D.int 2,V.int 2)]))).layL oc.length.symm hp;exact k F1 _ _ (x1.trans x5) r5
  ·cases ec
 ·cases ec
end
end DD
namespace L2
open PySem PySem.Spec PyProof.Rows
section
variable {X : Cx} {e st : Expr} {te ts : TE} {pos p2 : Pos}
end
end L2
namespace DD
open PySem PySem.Spec PyProof.Rows L2
section
variable {X : Cx} {e st : Expr} {p q : DP} {pos p2 : Pos}
end
end DD
namespace PySem
open Sem (wp)
namespace F
end F
section
variable {prog : Program} {w : World} {A : Around} {E : Value -> Shared -> Prop} {s : Shared}
end
section
variable {prog : Program} {w : World} {A : Around} {E : Value -> Shared -> Prop} {s : Shared}
end
end PySem
namespace L2
open PySem PySem.Spec PyProof.Rows
end L2
namespace DD
open PySem PySem.Spec PyProof.Rows L2
theorem qw : ∀ xs : List D,(D.fzL xs).length = xs.length:=by
 intro xs
 induction xs with
 | nil=>rfl
 | cons x xs ih=>simp only [D.fzL,List.length_cons,ih]
section
variable {X : Cx} {a b c d : Expr} {ca cb cc cd : DE} {p1 pos1 : Pos} {elts : List Expr} {x1 : Nat} {tpos : Pos}
end
end DD
namespace PySem.AutoSeq1
theorem wC (l : Addr) (items : Array Value) (n : Nat) (b : Addr) (items2 : Array Value) (n2 : Nat) (sl : Array (Option Value)) (hc0 : ¬(!items.isEmpty && Builtin.List.listTooLong (items.size + items2.size)) = true) (hc1 : items.size <= sizeLine) (hs2 : items.size + items2.size <= sizeLine + 1) :
  Meets (Builtin.«list.extend» ⟨[.ref l,.ref b],[]⟩) (fun _ R s=>s.heap.get? l = some { cls:=.type "list",dict:=none,data:=.seq items n,slots:=#[] } /\ s.heap.get? b = some { cls:=.type "list",dict:=none,data:=.seq items2 n2,slots:=sl } /\ R (.ok (.ret Value.none)) { s with heap:=s.heap.update l (Obj.mapSeq fun x=>x ++ items2),toks:=s.toks }) :=
 .of_wp fun prog w A R s h=>by
  obtain ⟨hp,g,d,tk,os⟩:=s; obtain ⟨hl,hb,h⟩:=h; have f1:=idx_int; have f2:=sub_tuple_tuple; have f3:=sub_list_list; have f4:=sub_tuple_list; have f5:=sub_list_tuple;have hz' : (items ++ items2).size <= sizeLine + 1:=by rw [Array.size_append]; exact hs2
  wp_walk using (wpAny_updateSeq hl rfl (hz:=hc1) (_hz':=hz')),wpAny_loadPart' hl,wpAny_loadPart' hb; exact ⟨_,rfl,h⟩
end PySem.AutoSeq1
namespace L2
open PySem PySem.Spec PyProof.Rows
section
variable {X : Cx}
noncomputable def D0 (K : PySem.W.Frag) : V -> List V -> Hp -> VK -> Prop:=fun x vs H Q=>∃ l b xs zs,x = .ref l /\ vs = [.ref b] /\ H l = some (.lst xs) /\ dJ K H b zs /\ xs.length + zs.length <= sizeLine /\ Q .non (upd H l (.lst (xs ++ zs)))
theorem Bi : yC X "list.extend" (D0 X.K):=by
 intro aa s σ H x vs v us Q I rx rv h;obtain ⟨l,b,xs,zs,rfl,rfl,hH,hB,hz,q⟩:=h;cases rx;obtain ⟨u,rfl,ru⟩:=rv.one;cases ru;obtain ⟨z,its,n,r,hl,e⟩:=I.lstM hH;obtain ⟨its2,r2,pl,hz2⟩:=I.list hB;obtain ⟨o,n2,e2,c2,d2,s2⟩:=pl;obtain ⟨oc,od,odt,osl⟩:=o;dsimp only at c2 d2 s2;subst c2; subst d2; subst s2;have hl2:=r2.length;have hsz : its.toArray.size + its2.toArray.size <= sizeLine:=by rw [List.size_toArray,List.size_toArray]; omega
 have hlong : ¬ (!its.toArray.isEmpty && Builtin.List.listTooLong (its.toArray.size + its2.toArray.size)) = true:=by
  rw [notLongL hsz,Bool.and_false];exact Bool.false_ne_true
 refine call_meets F.slot_list_extend ⟨_,e,rfl⟩ F.entry_list_extend (F.args_list_extend_2 _ _)
  (PySem.AutoSeq1.wC l its.toArray n b its2.toArray n2 osl hlong (by rw [List.size_toArray]; omega) oM) ⟨e,e2,?_⟩
 refine ⟨.non,_,I.lset (its':=its ++ its2) hH e (by simp) (r.append r2) ?_,rfl,q⟩;rw [List.length_append];omega
end
end L2
namespace DD
open PySem PySem.Spec PyProof.Rows L2
noncomputable def pi (i : Nat) (c : DE) : DE:=fun σ=>match cx σ i with
 | some (.lst _ _)=>(c σ).bind fun p=>match p.1,cx p.2 i with
  | .lst _ ys,some (.lst true xs)=>if xs.length + ys.length <= sizeLine then some (.non,p.2.set i (some (.lst true (xs ++ D.fzL ys)))) else none
  | _,_=>none
 | _=>none
section
variable {X : Cx} {e : Expr} {c : DE} {apos cpos : Pos}
theorem AR (i : Nat) {x : Str} {npos : Pos} (he : QE X e c) (hN : autoParam (X.N[i]? = some x) aI._auto_1) (hv : autoParam (mI X.env.scope x) rH._auto_1) (hd : autoParam ((x == ("__debug__" : Str)) = false) cR._auto_1)
  (hcd : autoParam ((x == ("__classdict__" : Str)) = false) cR._auto_1) (hbase : autoParam (attributeBase (.Name x npos) "extend" X.env (eval (.Name x npos) X.env) = eval (.Name x npos) X.env) aI._auto_1) (hfew : autoParam (((backTo cpos (starEach [e] X.env)).all (fun x=>!x.1) && (backToKw cpos (keywordEach [] X.env)).all (fun x=>x.1.isSome)
   && decide (([e] : List Expr).length + ([] : List Keyword).length + (if ([] : List Keyword).isEmpty then 0 else 1) < 30)) = true) aI._auto_1) (hline : autoParam ((apos.endLine == cpos.line) = true) aI._auto_1)
  (hst : autoParam (starEach [e] X.env = (false,eval e X.env) :: starEach [] X.env) aI._auto_1) : QE X (.Call (.Attribute (.Name x npos) "extend" apos) [e] [] cpos) (pi i c) :=
 bc (mW PySem.F.plainAttrs_list PySem.F.slot_list_extend PySem.F.type_list_extend Bi (iJ hN hv hd hcd) (dF he eY hst) hbase hfew hline hst rfl) fun σ H Q hq0=>by
  obtain ⟨F,R,σD,d,σD',r,ec,k⟩:=hq0;unfold pi at ec;split at ec
  ·rename_i own ys0 h0
   obtain ⟨v0,hv0,b0⟩:=r.get (bh h0);obtain ⟨a0,vs0,rfl,sq0,_⟩:=b0.lst
   revert ec
   refine bJ fun y σ1 h1 ec=>?_
   try dsimp only at ec
   split at ec
   ·rename_i _ _ ow ys xs h2
    split at ec
    ·rename_i hz
     cases ec;refine ⟨_,hv0,.inl ⟨rfl,vs0,sq0⟩,F,R,σD,_,σ1,r,h1,fun F1 H1 v x1 r1=>?_⟩;obtain ⟨F2,x2,rf,of⟩:=r1.freeze;simp only [D.fz,Ow] at of;obtain ⟨b,zs,rfl,fl,ol,_⟩:=of;have hlb:=ol.length;have hlf:=qw ys;have r1':=Rel.pushL ol rf.pop;obtain ⟨v1,hv1,r2⟩:=r1'.take (bh h2);rw [hv0] at hv1; cases hv1;obtain ⟨l,vs,lc,hl,hlen,upd'⟩:=Rel.listAt (S:=(D.fzL ys).zip zs) (js:=[]) (xs:=xs) r2 rfl;cases lc;obtain ⟨r3,x3⟩:=upd' (xs ++ D.fzL ys) (vs ++ zs) [] (by rw [List.zip_append hlen]; simp) (by simp [hlen,hlb]);refine ⟨_,b,vs,zs,rfl,rfl,hl,fl.sq,by omega,?_⟩;have r4:=(Rel.put (R:=R) r3 hv0);rw [List.set_set] at r4;exact k F2 _ .non ((x1.trans x2).trans x3) (r4.scal rfl)
    ·cases ec
   ·cases ec
  ·cases ec
end
end DD
namespace TT
open PySem L2 DD
noncomputable abbrev Rl (α : Type):=α -> D -> Prop
structure Sl (S : Type) where
 {α : Type}
 get : S -> α
 r : Rl α
noncomputable abbrev aS (S : Type):=List (Option (Sl S))
section
variable {S : Type} {α β γ δ ρ : Type}
noncomputable def On : Option (Sl S) -> S -> Option D -> Prop
 | none,_,_=>True
 | some l,s,o=>∃ d,o = some d /\ l.r (l.get s) d
noncomputable def Sat : aS S -> S -> aP -> Prop
 | [],_,[]=>True
 | a :: Γ,s,x :: σ=>On a s x /\ Sat Γ s σ
 | _,_,_=>False
theorem Sat.len {s : S} : ∀ {Γ : aS S} {σ : aP},Sat Γ s σ -> σ.length = Γ.length:=by
 intro Γ
 induction Γ with
 | nil =>
  intro σ h;cases σ with
  | nil=>rfl
  | cons _ _=>exact h.elim
 | cons a Γ ih =>
  intro σ h;cases σ with
  | nil=>exact h.elim
  | cons x σ=>simp [ih h.2]
theorem Sat.get {s : S} {l : Sl S} : ∀ {Γ : aS S} {σ : aP} {i : Nat},Sat Γ s σ -> Γ[i]? = some (some l) -> ∃ d,cx σ i = some d /\ l.r (l.get s) d:=by
 intro Γ
 induction Γ with
 | nil=>intro σ i _ e; simp at e
 | cons a Γ ih =>
  intro σ i h e;cases σ with
  | nil=>exact h.elim
  | cons x σ =>
   cases i with
   | zero =>
    simp at e; subst e;obtain ⟨d,e1,hd⟩:=h.1;subst e1;exact ⟨d,rfl,hd⟩
   | succ i =>
    obtain ⟨d,h1,h2⟩:=ih (i:=i) h.2 (by simpa using e);exact ⟨d,by simpa [cx] using h1,h2⟩
theorem Sat.set {s : S} {l : Option (Sl S)} {o : Option D} : ∀ {Γ : aS S} {σ : aP} {i : Nat},Sat Γ s σ -> On l s o -> Sat (Γ.set i l) s (σ.set i o):=by
 intro Γ
 induction Γ with
 | nil =>
  intro σ i h k;cases σ with
  | nil=>exact h
  | cons _ _=>exact h.elim
 | cons a Γ ih =>
  intro σ i h k;cases σ with
  | nil=>exact h.elim
  | cons x σ =>
   cases i with
   | zero=>exact ⟨k,h.2⟩
   | succ i=>exact ⟨h.1,ih h.2 k⟩
theorem Sat.setn {Γ : aS S} {s : S} {σ : aP} {i : Nat} {o : Option D} (h : Sat Γ s σ) : Sat (Γ.set i none) s (σ.set i o):=h.set trivial
theorem On.setn {s : S} : ∀ {Γ : aS S} {σ : aP} {i : Nat},Sat Γ s σ -> Sat (Γ.set i none) s σ:=by
 intro Γ
 induction Γ with
 | nil=>intro σ i h; exact h
 | cons a Γ ih =>
  intro σ i h;cases σ with
  | nil=>exact h.elim
  | cons x σ =>
   cases i with
   | zero=>exact ⟨trivial,h.2⟩
   | succ i=>exact ⟨h.1,ih h.2⟩
inductive Fr (u : S -> S) : aS S -> Prop
 | nil : Fr u []
 | non {Γ} : Fr u Γ -> Fr u (none :: Γ)
 | som {l : Sl S} {Γ} : (∀ s d,l.r (l.get s) d -> l.r (l.get (u s)) d) -> Fr u Γ -> Fr u (some l :: Γ)
theorem Fr.sat {u : S -> S} {s : S} : ∀ {Γ : aS S} {σ : aP},Fr u Γ -> Sat Γ s σ -> Sat Γ (u s) σ:=by
 intro Γ σ l
 induction l generalizing σ with
 | nil=>intro h; cases σ <;> exact h
 | non l ih =>
  intro h;cases σ with
  | nil=>exact h.elim
  | cons x σ=>exact ⟨trivial,ih h.2⟩
 | som f1 l ih =>
  intro h;cases σ with
  | nil=>exact h.elim
  | cons x σ =>
   obtain ⟨d,e,hd⟩:=h.1;exact ⟨⟨d,e,f1 s d hd⟩,ih h.2⟩
class Wk (r r' : Rl α) : Prop where
 w : ∀ a d,r a d -> r' a d
instance (priority:=high) Wk.refl {r : Rl α} : Wk r r:=⟨fun _ _ h=>h⟩
inductive Le : aS S -> aS S -> Prop
 | nil : Le [] []
 | non {a} {Γ Γ'} : Le Γ Γ' -> Le (a :: Γ) (none :: Γ')
 | som {α : Type} {g : S -> α} {r r' : Rl α} {Γ Γ'} : Wk r r' -> Le Γ Γ' -> Le (some ⟨g,r⟩ :: Γ) (some ⟨g,r'⟩ :: Γ')
theorem Le.sat {s : S} : ∀ {Γ Γ' : aS S} {σ : aP},Le Γ Γ' -> Sat Γ s σ -> Sat Γ' s σ:=by
 intro Γ Γ' σ l
 induction l generalizing σ with
 | nil=>intro h; exact h
 | non l ih =>
  intro h;cases σ with
  | nil=>exact h.elim
  | cons x σ=>exact ⟨trivial,ih h.2⟩
 | som w l ih =>
  intro h;cases σ with
  | nil=>exact h.elim
  | cons x σ =>
   obtain ⟨d,e,hd⟩:=h.1;exact ⟨⟨d,e,w.w _ _ hd⟩,ih h.2⟩
theorem Le.refl : ∀ {Γ : aS S},Le Γ Γ
 | []=>.nil
 | none :: _=>.non Le.refl
 | some ⟨_,_⟩ :: _=>.som Wk.refl Le.refl
noncomputable def ej (n : Nat) : Bool:=decide (n <= sizeLine)
noncomputable def oO (n : Nat) : Bool:=decide (n < sizeLine)
theorem jg {n : Nat} (h : ej n = true) : n <= sizeLine:=of_decide_eq_true h
theorem kz {n : Nat} (h : oO n = true) : n < sizeLine:=of_decide_eq_true h
noncomputable def rI : Rl Int:=fun i d=>d = .int i
noncomputable def rB : Rl Bool:=fun b d=>d = .bl b
noncomputable def rS : Rl Str:=fun x d=>d = .str x
noncomputable def rN : Rl Unit:=fun _ d=>d = .non
noncomputable def rA : Rl Unit:=fun _ _=>True
noncomputable def EZ (t : String) : Rl Unit:=fun _ d=>d = .ty t
inductive All2 (r : Rl α) : List α -> List D -> Prop
 | nil : All2 r [] []
 | cons {a d as ds} : r a d -> All2 r as ds -> All2 r (a :: as) (d :: ds)
noncomputable def rL (r : Rl α) : Rl (List α):=fun xs d=>∃ ds,d = .lst true ds /\ All2 r xs ds
noncomputable def rM (r : Rl α) : Rl (List α):=fun xs d=>∃ o ds,d = .lst o ds /\ All2 r xs ds
noncomputable def am (r : Rl α) (q : Rl β) : Rl (α × β):=fun p d=>∃ x y,d = .tup [x,y] /\ r p.1 x /\ q p.2 y
noncomputable def d7 (r : Rl α) (q : Rl β) (t : Rl γ) : Rl (α × β × γ):=fun p d=>∃ x y z,d = .tup [x,y,z] /\ r p.1 x /\ q p.2.1 y /\ t p.2.2 z
noncomputable def rP : Rl PyData:=fun p d=>d.py = some p /\ d.fz = d
theorem All2.len {r : Rl α} {as : List α} {ds : List D} (h : All2 r as ds) : as.length = ds.length:=by
 induction h with
 | nil=>rfl
 | cons _ _ ih=>simp [ih]
theorem All2.mono {r r' : Rl α} (k : ∀ a d,r a d -> r' a d) {as : List α} {ds : List D} (h : All2 r as ds) : All2 r' as ds:=by
 induction h with
 | nil=>exact .nil
 | cons a _ ih=>exact .cons (k _ _ a) ih
theorem All2.get {r : Rl α} {as : List α} {ds : List D} {i : Nat} {a : α} (h : All2 r as ds) : as[i]? = some a -> ∃ d,ds[i]? = some d /\ r a d:=by
 induction h generalizing i with
 | nil=>intro e; simp at e
 | cons h0 _ ih =>
  intro e;cases i with
  | zero=>simp at e; subst e; exact ⟨_,rfl,h0⟩
  | succ i=>simpa using ih (i:=i) (by simpa using e)
theorem All2.set {r : Rl α} {as : List α} {ds : List D} {i : Nat} {a : α} {d : D} (h : All2 r as ds) (k : r a d) : All2 r (as.set i a) (ds.set i d):=by
 induction h generalizing i with
 | nil=>exact .nil
 | cons h0 h ih =>
  cases i with
  | zero=>exact .cons k h
  | succ i=>exact .cons h0 ih
theorem All2.append {r : Rl α} {as bs : List α} {ds es : List D} (h : All2 r as ds) (k : All2 r bs es) : All2 r (as ++ bs) (ds ++ es):=by
 induction h with
 | nil=>exact k
 | cons h0 _ ih=>exact .cons h0 ih
theorem All2.drop {r : Rl α} : ∀ {as : List α} {ds : List D} (n : Nat),All2 r as ds -> All2 r (as.drop n) (ds.drop n)
 | _,_,0,h=>h
 | _,_,_ + 1,.nil=>.nil
 | _,_,n + 1,.cons _ h=>h.drop n
theorem All2.take {r : Rl α} : ∀ {as : List α} {ds : List D} (n : Nat),All2 r as ds -> All2 r (as.take n) (ds.take n)
 | _,_,0,h=>.nil
 | _,_,_ + 1,.nil=>.nil
 | _,_,n + 1,.cons k h=>.cons k (h.take n)
theorem All2.ofMap {r : Rl α} {f : β -> α} {g : β -> D} (k : ∀ b,r (f b) (g b)) : ∀ bs : List β,All2 r (bs.map f) (bs.map g)
 | []=>.nil
 | b :: bs=>.cons (k b) (All2.ofMap k bs)
theorem w6 : ∀ ns : List Int,All2 rI ns (ns.map D.int)
 | []=>.nil
 | _ :: ns=>.cons rfl (w6 ns)
class Fz (r : Rl α) (r' : outParam (Rl α)) : Prop where
 f : ∀ a d,r a d -> r' a d.fz
theorem All2.fz {r r' : Rl α} (k : ∀ a d,r a d -> r' a d.fz) {as : List α} {ds : List D} (h : All2 r as ds) : All2 r' as (D.fzL ds):=by
 induction h with
 | nil=>exact .nil
 | cons a _ ih=>exact .cons (k _ _ a) ih
instance : Fz rI rI:=⟨fun _ _ h=>by cases h; rfl⟩
instance {r r' : Rl α} [k : Fz r r'] : Fz (rL r) (rM r'):=⟨fun _ _ ⟨ds,e,h⟩=>⟨false,D.fzL ds,by rw [e,D.fz],h.fz k.f⟩⟩
instance {r r' : Rl α} [k : Fz r r'] : Fz (rM r) (rM r'):=⟨fun _ _ ⟨o,ds,e,h⟩=>⟨false,D.fzL ds,by rw [e,D.fz],h.fz k.f⟩⟩
instance {r r' : Rl α} {q q' : Rl β} [k : Fz r r'] [l : Fz q q'] : Fz (am r q) (am r' q'):=⟨fun _ _ ⟨x,y,e,h1,h2⟩=>⟨x.fz,y.fz,by rw [e]; simp only [D.fz,D.fzL],k.f _ _ h1,l.f _ _ h2⟩⟩
instance {r r' : Rl α} {q q' : Rl β} {t t' : Rl γ} [k : Fz r r'] [l : Fz q q'] [m : Fz t t'] : Fz (d7 r q t) (d7 r' q' t'):=⟨fun _ _ ⟨x,y,z,e,h1,h2,h3⟩=>⟨x.fz,y.fz,z.fz,by rw [e]; simp only [D.fz,D.fzL],k.f _ _ h1,l.f _ _ h2,m.f _ _ h3⟩⟩
instance {r r' : Rl α} [k : Wk r r'] : Wk (rL r) (rM r'):=⟨fun _ _ ⟨ds,e,h⟩=>⟨true,ds,e,h.mono k.w⟩⟩
instance {r r' : Rl α} {q q' : Rl β} [k : Wk r r'] [l : Wk q q'] : Wk (am r q) (am r' q'):=⟨fun _ _ ⟨x,y,e,h1,h2⟩=>⟨x,y,e,k.w _ _ h1,l.w _ _ h2⟩⟩
class Sc (r : Rl α) : Prop where
 s : ∀ a d,r a d -> ∃ w,d.sc = some w
instance : Sc rI:=⟨fun _ _ h=>by cases h; exact ⟨_,rfl⟩⟩
instance : Sc rB:=⟨fun _ _ h=>by cases h; exact ⟨_,rfl⟩⟩
class Ns (r : Rl α) : Prop where
 s : ∀ a d,r a d -> d.sc = none
instance {r : Rl α} : Ns (rL r):=⟨fun _ _ hq0=>by obtain ⟨_,e,_⟩:=hq0; rw [e]; rfl⟩
instance {r : Rl α} : Ns (rM r):=⟨fun _ _ hq0=>by obtain ⟨_,_,e,_⟩:=hq0; rw [e]; rfl⟩
instance {r : Rl α} {q : Rl β} : Ns (am r q):=⟨fun _ _ hq0=>by obtain ⟨_,_,e,_⟩:=hq0; rw [e]; rfl⟩
class Ls (r : Rl (List α)) (q : outParam (Rl α)) : Prop where
 l : ∀ xs d,r xs d -> ∃ o ds,d = .lst o ds /\ All2 q xs ds
instance {r : Rl α} : Ls (rL r) r:=⟨fun _ _ ⟨ds,e,h⟩=>⟨true,ds,e,h⟩⟩
instance {r : Rl α} : Ls (rM r) r:=⟨fun _ _ ⟨o,ds,e,h⟩=>⟨o,ds,e,h⟩⟩
end
section
variable {S : Type} {α β γ δ ρ : Type} {Γ Γ1 Γ2 Γ3 Γ' Γn : aS S}
inductive TR (S ρ : Type) where
 | nx (s : S) | rt (v : ρ) (s : S) | bk (s : S) | ct (s : S)
noncomputable def JP (Γ : aS S) (p : DP) (f : S -> Option α) (r : Rl α) : Prop:=∀ s σ v,Sat Γ s σ -> f s = some v -> ∃ d,p σ = some d /\ r v d
noncomputable def JE (Γ : aS S) (c : DE) (f : S -> Option (α × S)) (r : Rl α) (Γ' : aS S) : Prop:=∀ s σ v s',Sat Γ s σ -> f s = some (v,s') -> ∃ d σ',c σ = some (d,σ') /\ r v d /\ Sat Γ' s' σ'
noncomputable def JT (Γ : aS S) (t : DT) (f : S -> Option (Bool × S)) (Γ' : aS S) : Prop:=∀ s σ b s',Sat Γ s σ -> f s = some (b,s') -> ∃ σ',t σ = some (b,σ') /\ Sat Γ' s' σ'
noncomputable def JL (Γ : aS S) (c : DA) (f : S -> Option (List α × S)) (r : Rl α) (Γ' : aS S) : Prop:=∀ s σ v s',Sat Γ s σ -> f s = some (v,s') -> ∃ ds σ',c σ = some (ds,σ') /\ All2 r v ds /\ Sat Γ' s' σ'
noncomputable def JI (Γ : aS S) (c : DI) (f : S -> Option (List α × S)) (r : Rl α) (Γ' : aS S) : Prop:=∀ s σ v s',Sat Γ s σ -> f s = some (v,s') -> ∃ ds σ',c σ = some (ds,σ') /\ All2 r v ds /\ Sat Γ' s' σ'
noncomputable def JG (Γ : aS S) (g : DG) (put : S -> α -> S) (r : Rl α) (Γ' : aS S) : Prop:=∀ s σ v d,Sat Γ s σ -> r v d -> ∃ σ',g d σ = some σ' /\ Sat Γ' (put s v) σ'
structure Ex (S ρ : Type) where
 rt : aS S
 ro : Rl ρ
 lp : aS S
noncomputable def Rs (Γn : aS S) (E : Ex S ρ) : TR S ρ -> Out -> Prop
 | .nx s,.nx σ=>Sat Γn s σ
 | .rt v s,.rt d σ=>E.ro v d /\ Sat E.rt s σ
 | .bk s,.bk σ=>Sat E.lp s σ
 | .ct s,.ct σ=>Sat E.lp s σ
 | _,_=>False
noncomputable def JS (Γ : aS S) (c : DS) (f : S -> Option (TR S ρ)) (Γn : aS S) (E : Ex S ρ) : Prop:=∀ s σ t,Sat Γ s σ -> f s = some t -> ∃ o,c σ = some o /\ Rs Γn E t o
theorem bd {α β : Type} {o : Option α} {f : α -> Option β} {b : β} (h : o.bind f = some b) : ∃ a,o = some a /\ f a = some b:=by
 cases o with
 | none=>cases h
 | some a=>exact ⟨a,rfl,h⟩
theorem mp {α β : Type} {o : Option α} {f : α -> β} {b : β} (h : o.map f = some b) : ∃ a,o = some a /\ f a = b:=by
 cases o with
 | none=>cases h
 | some a=>exact ⟨a,rfl,Option.some.inj h⟩
theorem af (i : Nat) {get : S -> α} {r : Rl α} (h : Γ[i]? = some (some ⟨get,r⟩)) : JP Γ (pV i) (fun s=>some (get s)) r:=fun s σ v hs e=>by
 obtain ⟨d,h1,h2⟩:=hs.get h;cases e;exact ⟨d,h1,h2⟩
theorem zq {d : D} (v : α) {r : Rl α} (h : r v d) : JP Γ (pC d) (fun _=>some v) r:=fun s σ w hs e=>by cases e; exact ⟨d,rfl,h⟩
theorem aE (i : Int) : JP Γ (pC (.int i)) (fun _=>some i) rI:=zq i rfl
theorem wn (i : Bool) : JP Γ (pC (.bl i)) (fun _=>some i) rB:=zq i rfl
theorem EA (t : String) : JP Γ (pC (.ty t)) (fun _=>some ()) (EZ t):=zq () rfl
noncomputable def JO (g : D -> D -> Option D) (h : α -> β -> Option γ) (ra : Rl α) (rb : Rl β) (rc : Rl γ) : Prop:=∀ a b c x y,h a b = some c -> ra a x -> rb b y -> ∃ z,g x y = some z /\ rc c z
theorem al {g : D -> D -> Option D} {h : α -> β -> Option γ} {ra : Rl α} {rb : Rl β} {rc : Rl γ} {p q : DP} {f1 : S -> Option α} {f2 : S -> Option β} (o : JO g h ra rb rc) (h1 : JP Γ p f1 ra) (h2 : JP Γ q f2 rb) :
  JP Γ (aG g p q) (fun s=>(f1 s).bind fun a=>(f2 s).bind fun b=>h a b) rc:=fun s σ v hs e=>by
 revert e
 refine bK fun a e1 e=>?_
 revert e
 refine bK fun b e2 e=>?_
 obtain ⟨x,hx,rx⟩:=h1 s σ a hs e1;obtain ⟨y,hy,ry⟩:=h2 s σ b hs e2;obtain ⟨z,hz,rz⟩:=o a b v x y e rx ry;exact ⟨z,by simp only [aG,hx,hy,bind_some,hz],rz⟩
theorem bI {f : Int -> Int -> Int} : JO (jF f) (fun a b=>some (f a b)) rI rI rI:=fun a b c x y e h1 h2=>by cases h1; cases h2; cases e; exact ⟨_,rfl,rfl⟩
theorem cr {C : Int -> Int -> Bool} {f : Int -> Int -> Int} : JO (gI C f) (fun a b=>if C a b = true then some (f a b) else none) rI rI rI:=fun a b c x y e h1 h2=>by
 cases h1; cases h2;dsimp only at e;split at e
 ·rename_i h; cases e; exact ⟨_,if_pos h,rfl⟩
 ·cases e
noncomputable def ju (i j : Int) : Bool:=Nat.ble i.natAbs 9223372036854775808 || Nat.ble j.natAbs 9223372036854775808
theorem Bh {i j : Int} (h : ju i j = true) : we i j = true:=by
 simp only [ju,Bool.or_eq_true,Nat.ble_eq] at h;simp only [we,decide_eq_true_eq];omega
theorem jw : JO lB (fun a b=>if ju a b = true then some (a * b) else none) rI rI rI:=fun a b c x y e h1 h2=>by
 cases h1; cases h2;dsimp only at e;split at e
 ·rename_i h; cases e; exact ⟨_,if_pos (Bh h),rfl⟩
 ·cases e
noncomputable def jo (i : Int) : Bool:=Nat.ble i.natAbs 1000000000
theorem qc {i : Int} (h : jo i = true) : sI i = true:=by
 simp only [jo,Nat.ble_eq] at h;simp only [sI,decide_eq_true_eq];omega
theorem m7 {f : Int -> Int -> Bool} : JO (nA f) (fun a b=>some (f a b)) rI rI rB:=fun a b c x y e h1 h2=>by cases h1; cases h2; cases e; exact ⟨_,rfl,rfl⟩
theorem xR {p : DP} {f : S -> Option Int} (h : JP Γ p f rI) : JP Γ (qf p) (fun s=>(f s).map fun a=>-a) rI:=fun s σ v hs e=>by
 obtain ⟨a,e1,e2⟩:=mp e;obtain ⟨x,hx,rx⟩:=h s σ a hs e1;cases rx; cases e2;exact ⟨_,by simp only [qf,hx,bind_some,zG],rfl⟩
class Py {α : Type} (r : Rl α) where
 pe : α -> PyData
 ok : α -> Bool
 k : Nat
 py : ∀ a d,r a d -> d.py = some (pe a)
 lay : ∀ a,ok a = true -> (pe a).canLay0 = true
 dep : ∀ a,ok a = true -> (pe a).depth <= k
class EqR {α β : Type} (r : Rl α) (q : Rl β) [Py r] [Py q] (f : outParam (α -> β -> Bool)) : Prop where
 eqv : ∀ a b,PyData.eqv (Py.pe r a) (Py.pe q b) = f a b
instance : Py rI:=⟨PyData.int,fun _=>true,0,fun _ _ h=>by cases h; rfl,fun _ _=>rfl,fun _ _=>Nat.le_refl _⟩
theorem xm {r : Rl α} [k : Py r] : ∀ {as : List α} {ds : List D},All2 r as ds -> D.pyL ds = some (as.map (Py.pe r)):=by
 intro as ds h
 induction h with
 | nil=>rfl
 | cons h t ih=>simp only [D.pyL,k.py _ _ h,ih,bind_some,map_some,List.map_cons]
theorem u6 {r : Rl α} [k : Py r] : ∀ {as : List α},as.all (Py.ok r) = true -> PyData.canLayAll0 (as.map (Py.pe r)) = true
 | [],_=>rfl
 | a :: as,h=>by
  simp only [List.all_cons,Bool.and_eq_true] at h;simp only [List.map_cons,PyData.canLayAll0,k.lay _ h.1,u6 h.2,Bool.and_self]
theorem vq {r : Rl α} [k : Py r] : ∀ {as : List α},as.all (Py.ok r) = true -> PyData.depthAll (as.map (Py.pe r)) <= Py.k r
 | [],_=>Nat.zero_le _
 | a :: as,h=>by
  simp only [List.all_cons,Bool.and_eq_true] at h;simp only [List.map_cons,PyData.depthAll]; exact Nat.max_le.mpr ⟨k.dep a h.1,vq h.2⟩
instance {r : Rl (List α)} {q : Rl α} [l : Ls r q] [k : Py q] : Py r:=⟨fun as=>.list (as.map (Py.pe q)),fun as=>as.all (Py.ok q),Py.k q + 1,
 fun a d h=>by obtain ⟨o,ds,e,h⟩:=l.l a d h; rw [e]; simp only [D.py,xm h,map_some],fun a h=>by simp only [PyData.canLay0]; exact u6 h,fun a h=>by simp only [PyData.depth]; have:=vq (r:=q) (as:=a) h; omega⟩
noncomputable def iM (f : α -> β -> Bool) : List α -> List β -> Bool
 | [],[]=>true
 | a :: as,b :: bs=>f a b && iM f as bs
 | _,_=>false
instance : EqR rI rI (fun a b=>a == b):=⟨fun a b=>by simp only [Py.pe,PyData.eqv]⟩
theorem Dn {r : Rl α} {q : Rl β} [Py r] [Py q] {f : α -> β -> Bool} [k : EqR r q f] : ∀ {as : List α} {bs : List β},PyData.eqvAll (as.map (Py.pe r)) (bs.map (Py.pe q)) = iM f as bs
 | [],[]=>rfl
 | [],_ :: _=>rfl
 | _ :: _,[]=>rfl
 | a :: as,b :: bs=>by simp only [List.map_cons,PyData.eqvAll,iM,k.eqv a b,Dn]
instance {r : Rl (List α)} {q : Rl (List β)} {r' : Rl α} {q' : Rl β} [Ls r r'] [Ls q q'] [Py r'] [Py q'] {f : α -> β -> Bool} [k : EqR r' q' f] : EqR r q (iM f):=⟨fun a b=>by simp only [Py.pe,PyData.eqv]; exact Dn⟩
theorem v3 {r : Rl α} {q : Rl β} [kr : Py r] [kq : Py q] {a : α} {b : β} (h : (Py.ok r a && Py.ok q b && decide (min (Py.k r) (Py.k q) <= 50)) = true) : ll (Py.pe r a) (Py.pe q b) = true:=by
 simp only [Bool.and_eq_true,decide_eq_true_eq] at h;simp only [ll,kr.lay _ h.1.1,kq.lay _ h.1.2,Bool.and_self,Bool.true_and,decide_eq_true_eq];have h1:=kr.dep a h.1.1;have h2:=kq.dep b h.1.2;omega
theorem gJ {r : Rl α} {q : Rl β} [kr : Py r] [kq : Py q] {f : α -> β -> Bool} [k : EqR r q f] : JO iL (fun a b=>if (Py.ok r a && Py.ok q b && decide (min (Py.k r) (Py.k q) <= 50)) = true then some (f a b) else none) r q rB:=fun a b c x y e h1 h2=>by
 dsimp only at e;split at e
 ·rename_i h
  cases e;exact ⟨_,by simp only [iL,kr.py _ _ h1,kq.py _ _ h2,bind_some,v3 h,if_true,k.eqv],rfl⟩
 ·cases e
theorem eV {r : Rl α} {q : Rl β} [kr : Py r] [kq : Py q] {f : α -> β -> Bool} [k : EqR r q f] : JO hU (fun a b=>if (Py.ok r a && Py.ok q b && decide (min (Py.k r) (Py.k q) <= 50)) = true then some (!f a b) else none) r q rB:=fun a b c x y e h1 h2=>by
 dsimp only at e;split at e
 ·rename_i h
  cases e;exact ⟨_,by simp only [hU,kr.py _ _ h1,kq.py _ _ h2,bind_some,v3 h,if_true,k.eqv],rfl⟩
 ·cases e
theorem All2.at {r : Rl α} {as : List α} {ds : List D} {i : Int} {a : α} (h : All2 r as ds) (e : atI as i = some a) : ∃ d,atI ds i = some d /\ r a d:=by
 unfold atI at e ⊢;rw [<- h.len];obtain ⟨j,e1,e2⟩:=bd e;obtain ⟨d,h1,h2⟩:=h.get e2;exact ⟨d,by rw [e1]; exact h1,h2⟩
theorem ee {r : Rl (List α)} {q : Rl α} [l : Ls r q] : JO cO (fun (xs : List α) i=>atI xs i) r rI q:=fun a b c x y e h1 h2=>by
 obtain ⟨o,ds,e1,h⟩:=l.l a x h1;cases h2; subst e1;exact h.at e
noncomputable def Ao (r : Rl α) (k : Int) (π : α -> β) (q : Rl β) : Prop:=∀ a d,r a d -> ∃ x,cO d (.int k) = some x /\ q (π a) x
theorem h7 {r : Rl α} {q : Rl β} : Ao (am r q) 0 (fun p=>p.1) r:=fun _ _ ⟨x,_,e,h,_⟩=>⟨x,by rw [e]; rfl,h⟩
theorem fw {r : Rl α} {q : Rl β} : Ao (am r q) 1 (fun p=>p.2) q:=fun _ _ ⟨_,y,e,_,h⟩=>⟨y,by rw [e]; rfl,h⟩
theorem dB {r : Rl α} {q : Rl β} {k : Int} {π : α -> β} {p : DP} {f : S -> Option α} (t : Ao r k π q) (h : JP Γ p f r) : JP Γ (aG cO p (pC (.int k))) (fun s=>(f s).map π) q:=fun s σ v hs e=>by
 obtain ⟨a,e1,e2⟩:=mp e;obtain ⟨x,hx,rx⟩:=h s σ a hs e1;obtain ⟨y,hy,ry⟩:=t a x rx;cases e2;exact ⟨y,by simp only [aG,hx,pC,bind_some,hy],ry⟩
noncomputable def uk (g : List D -> Option D) (h : α -> Option γ) (ra : Rl α) (rc : Rl γ) : Prop:=∀ a c x,h a = some c -> ra a x -> ∃ z,g [x] = some z /\ rc c z
noncomputable def At (g : List D -> Option D) (h : α -> β -> Option γ) (ra : Rl α) (rb : Rl β) (rc : Rl γ) : Prop:=∀ a b c x y,h a b = some c -> ra a x -> rb b y -> ∃ z,g [x,y] = some z /\ rc c z
theorem gH {g : List D -> Option D} {h : α -> Option γ} {ra : Rl α} {rc : Rl γ} {p : DP} {f : S -> Option α} (o : uk g h ra rc) (h1 : JP Γ p f ra) : JP Γ (dh g [p]) (fun s=>(f s).bind h) rc:=fun s σ v hs e=>by
 revert e
 refine bK fun a e1 e=>?_
 obtain ⟨x,hx,rx⟩:=h1 s σ a hs e1;obtain ⟨z,hz,rz⟩:=o a v x e rx;exact ⟨z,by simp only [dh,lW,hx,bind_some,map_some,hz],rz⟩
theorem sf {g : List D -> Option D} {h : α -> β -> Option γ} {ra : Rl α} {rb : Rl β} {rc : Rl γ} {p q : DP} {f1 : S -> Option α} {f2 : S -> Option β} (o : At g h ra rb rc) (h1 : JP Γ p f1 ra) (h2 : JP Γ q f2 rb) : JP Γ (dh g [p,q]) (fun s=>(f1 s).bind fun a=>(f2 s).bind fun b=>h a b) rc:=fun s σ v hs e=>by
 revert e
 refine bK fun a e1 e=>?_
 revert e
 refine bK fun b e2 e=>?_
 obtain ⟨x,hx,rx⟩:=h1 s σ a hs e1;obtain ⟨y,hy,ry⟩:=h2 s σ b hs e2;obtain ⟨z,hz,rz⟩:=o a b v x y e rx ry;exact ⟨z,by simp only [dh,lW,hx,hy,bind_some,map_some,hz],rz⟩
theorem fH {r : Rl (List α)} {q : Rl α} [l : Ls r q] : uk fZ (fun xs : List α=>some (xs.length : Int)) r rI:=fun a c x e h=>by
 obtain ⟨o,ds,e1,hh⟩:=l.l a x h;cases e; subst e1;exact ⟨_,rfl,by rw [hh.len]; rfl⟩
theorem Gc {r : Rl α} {q : Rl β} : uk fZ (fun _ : α × β=>some (2 : Int)) (am r q) rI:=fun a c x e hq0=>by obtain ⟨_,_,h,_⟩:=hq0; cases e; rw [h]; exact ⟨_,rfl,rfl⟩
theorem Di : uk ue (fun i : Int=>some (if i < 0 then -i else i)) rI rI:=fun a c x e h=>by cases h; cases e; exact ⟨_,rfl,rfl⟩
theorem Dg : At oN (fun i j : Int=>some (if j > i then j else i)) rI rI rI:=fun a b c x y e h k=>by cases h; cases k; cases e; exact ⟨_,rfl,rfl⟩
theorem xY : At lr (fun i j : Int=>some (if j < i then j else i)) rI rI rI:=fun a b c x y e h k=>by cases h; cases k; cases e; exact ⟨_,rfl,rfl⟩
theorem vf : ∀ {as : List Int} {ds : List D},All2 rI as ds -> gB ds = some as
 | _,_,.nil=>rfl
 | _,_,.cons h t=>by cases h; simp only [gB,vf t,map_some]
theorem xX {r : Rl (List Int)} [l : Ls r rI] : uk nS (fun xs : List Int=>some xs.sum) r rI:=fun a c x e h=>by
 obtain ⟨o,ds,e1,hh⟩:=l.l a x h;cases e; subst e1;exact ⟨_,by simp only [nS,vf hh,map_some],rfl⟩
class Kd (r : Rl α) (k : outParam String) : Prop where
 k : ∀ a d t,r a d -> qu [d,.ty t] = (n5 k t).map .bl
instance {r : Rl α} {q : Rl β} : Kd (am r q) "tuple":=⟨fun _ _ _ hq0=>by obtain ⟨_,_,h,_⟩:=hq0; rw [h]; rfl⟩
theorem Dh {r : Rl α} {k t : String} [n : Kd r k] : At qu (fun (_ : α) (_ : Unit)=>n5 k t) r (EZ t) rB:=fun a b c x y e h1 h2=>by
 cases h2;dsimp only at e;exact ⟨_,by rw [n.k a x t h1,e]; rfl,rfl⟩
end
section
variable {S : Type} {α β γ δ ρ : Type} {Γ Γ0 Γ1 Γ2 Γ3 Γ4 Γ' Γn Γh : aS S} {c c' : DE} {t u : DT} {E : Ex S ρ}
theorem aj {p : DP} {f : S -> Option α} {r : Rl α} [k : Sc r] (h : JP Γ p f r) : JE Γ (dS p) (fun s=>(f s).map fun a=>(a,s)) r Γ:=fun s σ v s' hs e=>by
 obtain ⟨a,e1,e2⟩:=mp e;cases e2;obtain ⟨d,hd,rd⟩:=h s σ v hs e1;obtain ⟨w,hw⟩:=k.s _ _ rd;exact ⟨d,σ,by simp only [dS,hd,bind_some,hw],rd,hs⟩
theorem bU (i : Nat) {get : S -> α} {r r' : Rl α} [k : Fz r r'] (h : Γ[i]? = some (some ⟨get,r⟩)) : JE Γ (dG i) (fun s=>some (get s,s)) r' (Γ.set i (some ⟨get,r'⟩)):=fun s σ v s' hs e=>by
 obtain ⟨d,h1,h2⟩:=hs.get h;cases e;exact ⟨d.fz,_,by simp only [dG,h1,map_some],k.f _ _ h2,hs.set ⟨_,rfl,k.f _ _ h2⟩⟩
theorem eF (i : Nat) {get : S -> α} {r : Rl α} (h : Γ[i]? = some (some ⟨get,r⟩)) : JE Γ (gE i) (fun s=>some (get s,s)) r (Γ.set i none):=fun s σ v s' hs e=>by
 obtain ⟨d,h1,h2⟩:=hs.get h;cases e;exact ⟨d,σ.set i none,by simp only [gE,h1,map_some],h2,hs.setn⟩
theorem cM {g : D -> D -> Option D} {h : α -> β -> Option γ} {ra : Rl α} {rb : Rl β} {rc : Rl γ} {f1 : S -> Option (α × S)} {f2 : S -> Option (β × S)} (o : JO g h ra rb rc) (h1 : JE Γ c f1 ra Γ1) (h2 : JE Γ1 c' f2 rb Γ2) :
  JE Γ (em g c c') (fun s=>(f1 s).bind fun p=>(f2 p.2).bind fun q=>(h p.1 q.1).map fun v=>(v,q.2)) rc Γ2:=fun s σ v s' hs e=>by
 revert e
 refine bJ fun a s1 e1 e=>?_
 revert e
 refine bJ fun b s2 e2 e=>?_
 obtain ⟨w,e3,e⟩:=mp e;cases e;obtain ⟨x,σ1,hx,rx,k1⟩:=h1 s σ a s1 hs e1;obtain ⟨y,σ2,hy,ry,k2⟩:=h2 s1 σ1 b s2 k1 e2;obtain ⟨z,hz,rz⟩:=o a b v x y e3 rx ry;exact ⟨z,σ2,by simp only [em,hx,hy,bind_some,hz,map_some],rz,k2⟩
theorem jU {r : Rl (List α)} {q : Rl α} [l : Ls r q] {f1 : S -> Option (List α × S)} {f2 : S -> Option (Int × S)} (h1 : JE Γ c f1 r Γ1) (h2 : JE Γ1 c' f2 rI Γ2) :
  JE Γ (hV c c') (fun s=>(f1 s).bind fun p=>(f2 p.2).bind fun q=>(atI p.1 q.1).map fun v=>(v,q.2)) q Γ2:=cM ee h1 h2
theorem jx {r : Rl α} {q : Rl β} {k : Int} {π : α -> β} {f : S -> Option (α × S)} (t : Ao r k π q) (h : JE Γ c f r Γ1) : JE Γ (hV c (dS (pC (.int k)))) (fun s=>(f s).map fun p=>(π p.1,p.2)) q Γ1:=fun s σ v s' hs e=>by
 obtain ⟨⟨a,s1⟩,e1,e2⟩:=mp e;obtain ⟨x,σ1,hx,rx,k1⟩:=h s σ a s1 hs e1;obtain ⟨y,hy,ry⟩:=t a x rx;cases e2;exact ⟨y,σ1,by simp only [hV,hx,dS,pC,bind_some,D.sc,hy,map_some],ry,k1⟩
theorem Df {f g : S -> Option (Bool × S)} (h1 : JE Γ c f rB Γ1) (h2 : JE Γ1 c' g rB Γ2) (l : autoParam (Le Γ1 Γ') lZ._auto_1) (l2 : autoParam (Le Γ2 Γ') lZ._auto_1) : JE Γ (np c c') (fun s=>(f s).bind fun p=>if p.1 = true then g p.2 else some (false,p.2)) rB Γ':=fun s σ v s' hs e=>by
 obtain ⟨⟨a,s1⟩,e1,e2⟩:=bd e;obtain ⟨x,σ1,hx,rx,k1⟩:=h1 s σ a s1 hs e1;cases rx;cases a
 ·simp only [Bool.false_eq_true,if_false] at e2
  cases e2;exact ⟨_,σ1,by simp only [np,hx,bind_some],rfl,l.sat k1⟩
 ·simp only [if_true] at e2
  obtain ⟨y,σ2,hy,ry,k2⟩:=h2 s1 σ1 v s' k1 e2;exact ⟨y,σ2,by simp only [np,hx,bind_some,hy],ry,l2.sat k2⟩
theorem EE {r r1 r2 : Rl α} {f : S -> Option (Bool × S)} {g h : S -> Option (α × S)} [w1 : Wk r1 r] [w2 : Wk r2 r] (h0 : JT Γ t f Γ0) (h1 : JE Γ0 c g r1 Γ1) (h2 : JE Γ0 c' h r2 Γ2) (l : autoParam (Le Γ1 Γ') lZ._auto_1) (l2 : autoParam (Le Γ2 Γ') lZ._auto_1) : JE Γ (qx t c c') (fun s=>(f s).bind fun p=>if p.1 = true then g p.2 else h p.2) r Γ':=fun s σ v s' hs e=>by
 obtain ⟨⟨a,s1⟩,e1,e2⟩:=bd e;obtain ⟨σ1,hx,k1⟩:=h0 s σ a s1 hs e1;cases a
 ·simp only [Bool.false_eq_true,if_false] at e2
  obtain ⟨y,σ2,hy,ry,k2⟩:=h2 s1 σ1 v s' k1 e2;exact ⟨y,σ2,by simp only [qx,hx,bind_some,hy,Bool.false_eq_true,if_false],w2.w _ _ ry,l2.sat k2⟩
 ·simp only [if_true] at e2
  obtain ⟨y,σ2,hy,ry,k2⟩:=h1 s1 σ1 v s' k1 e2;exact ⟨y,σ2,by simp only [qx,hx,bind_some,hy,if_true],w1.w _ _ ry,l.sat k2⟩
theorem cu {r : Rl α} : JL Γ aX (fun s=>some ([],s)) r Γ:=fun s σ v s' hs e=>by cases e; exact ⟨[],σ,rfl,.nil,hs⟩
theorem eK {r : Rl α} {ca : DA} {f : S -> Option (α × S)} {g : S -> Option (List α × S)} (h1 : JE Γ c f r Γ1) (h2 : JL Γ1 ca g r Γ2) : JL Γ (ar c ca) (fun s=>(f s).bind fun p=>(g p.2).map fun q=>(p.1 :: q.1,q.2)) r Γ2:=fun s σ v s' hs e=>by
 revert e
 refine bJ fun a s1 e1 e=>?_
 obtain ⟨⟨b,s2⟩,e2,e⟩:=mp e;cases e;obtain ⟨x,σ1,hx,rx,k1⟩:=h1 s σ a s1 hs e1;obtain ⟨ys,σ2,hy,ry,k2⟩:=h2 s1 σ1 b s2 k1 e2;exact ⟨x :: ys,σ2,by simp only [ar,hx,hy,bind_some,map_some],.cons rx ry,k2⟩
theorem cv {r : Rl α} {ca : DA} {f : S -> Option (List α × S)} (h : JL Γ ca f r Γ1) : JE Γ (dE ca) (fun s=>(f s).bind fun p=>if ej (p.1.length) = true then some p else none) (rL r) Γ1:=fun s σ v s' hs e=>by
 revert e
 refine bJ fun a s1 e1 e=>?_
 obtain ⟨ds,σ1,hx,rx,k1⟩:=h s σ a s1 hs e1;dsimp only at e;split at e
 ·rename_i hl
  have hl:=jg hl;cases e;exact ⟨_,σ1,by simp only [dE,hx,bind_some,<- rx.len,hl,if_true],⟨ds,rfl,rx⟩,k1⟩
 ·cases e
theorem Gk {n : Nat} (h : n <= 100) : n <= sizeLine:=Nat.le_of_lt (L2.small1000 oM)
theorem kN {c : DE} {ca : DA} {σ σ1 σ2 : aP} {x : D} {xs : List D} (h : c σ = some (x,σ1)) (h' : ca σ1 = some (xs,σ2)) : ar c ca σ = some (x :: xs,σ2):=by
 simp only [ar,h,h',bind_some,map_some]
theorem vt {ca : DA} {σ σ1 : aP} {xs : List D} (h : ca σ = some (xs,σ1)) (hl : xs.length <= 100) : gi ca σ = some (.tup xs,σ1):=by
 simp only [gi,h,bind_some,Gk hl,if_true]
theorem i7 {a b : DE} {ra : Rl α} {rb : Rl β} {f : S -> Option (α × S)} {g : S -> Option (β × S)} (h1 : JE Γ a f ra Γ1) (h2 : JE Γ1 b g rb Γ2) : JE Γ (gi (ar a (ar b aX))) (fun s=>(f s).bind fun p=>(g p.2).map fun q=>((p.1,q.1),q.2)) (am ra rb) Γ2:=fun s σ v s' hs e=>by
 revert e
 refine bJ fun a s1 e1 e=>?_
 obtain ⟨⟨b,s2⟩,e2,e⟩:=mp e;cases e;obtain ⟨x,σ1,hx,rx,k1⟩:=h1 s σ a s1 hs e1;obtain ⟨y,σ2,hy,ry,k2⟩:=h2 s1 σ1 b s2 k1 e2;exact ⟨_,σ2,vt (kN hx (kN hy rfl)) (Nat.le_of_ble_eq_true rfl),⟨x,y,rfl,rx,ry⟩,k2⟩
theorem wt {a b d : DE} {ra : Rl α} {rb : Rl β} {rd : Rl γ} {f : S -> Option (α × S)} {g : S -> Option (β × S)} {h : S -> Option (γ × S)} (h1 : JE Γ a f ra Γ1) (h2 : JE Γ1 b g rb Γ2) (h3 : JE Γ2 d h rd Γ3) :
  JE Γ (gi (ar a (ar b (ar d aX)))) (fun s=>(f s).bind fun p=>(g p.2).bind fun q=>(h q.2).map fun o=>((p.1,q.1,o.1),o.2)) (d7 ra rb rd) Γ3:=fun s σ v s' hs e=>by
 revert e
 refine bJ fun a s1 e1 e=>?_
 revert e
 refine bJ fun b s2 e2 e=>?_
 obtain ⟨⟨w,s3⟩,e3,e⟩:=mp e;cases e;obtain ⟨x,σ1,hx,rx,k1⟩:=h1 s σ a s1 hs e1;obtain ⟨y,σ2,hy,ry,k2⟩:=h2 s1 σ1 b s2 k1 e2;obtain ⟨z,σ3,hz,rz,k3⟩:=h3 s2 σ2 w s3 k2 e3;exact ⟨_,σ3,vt (kN hx (kN hy (kN hz rfl))) (Nat.le_of_ble_eq_true rfl),⟨x,y,z,rfl,rx,ry,rz⟩,k3⟩
theorem oU {g : List D -> Option D} {h : α -> Option γ} {ra : Rl α} {rc : Rl γ} {f : S -> Option (α × S)} (o : uk g h ra rc) (h1 : JE Γ c f ra Γ1) : JE Γ (gF g (ar c aX)) (fun s=>(f s).bind fun p=>(h p.1).map fun v=>(v,p.2)) rc Γ1:=fun s σ v s' hs e=>by
 revert e
 refine bJ fun a s1 e1 e=>?_
 obtain ⟨w,e3,e⟩:=mp e;cases e;obtain ⟨x,σ1,hx,rx,k1⟩:=h1 s σ a s1 hs e1;obtain ⟨z,hz,rz⟩:=o a v x e3 rx;exact ⟨z,σ1,by simp only [gF,ar,aX,hx,bind_some,map_some,hz],rz,k1⟩
theorem jy {r : Rl α} {f g : S -> Option (List α × S)} (h1 : JE Γ c f (rL r) Γ1) (h2 : JE Γ1 c' g (rL r) Γ2) : JE Γ (jG c c') (fun s=>(f s).bind fun p=>(g p.2).bind fun q=>if ej (p.1.length + q.1.length) = true then some (p.1 ++ q.1,q.2) else none) (rL r) Γ2:=fun s σ v s' hs e=>by
 revert e
 refine bJ fun a s1 e1 e=>?_
 revert e
 refine bJ fun b s2 e2 e=>?_
 dsimp only at e;split at e
 ·rename_i hl
  have hl:=jg hl;cases e;obtain ⟨x,σ1,hx,⟨xs,rfl,rx⟩,k1⟩:=h1 s σ a s1 hs e1;obtain ⟨y,σ2,hy,⟨ys,rfl,ry⟩,k2⟩:=h2 s1 σ1 b _ k1 e2;exact ⟨_,σ2,by simp only [jG,hx,hy,bind_some,<- rx.len,<- ry.len,hl,if_true],⟨_,rfl,rx.append ry⟩,k2⟩
 ·cases e
theorem All2.sc {r : Rl α} [k : Sc r] : ∀ {as : List α} {ds : List D},All2 r as ds -> fN ds = true
 | _,_,.nil=>rfl
 | _,_,.cons h t=>by
  obtain ⟨w,hw⟩:=k.s _ _ h
  have:=All2.sc t
  unfold fN at this ⊢;rw [List.all_cons,hw,this]; rfl
noncomputable def vL (Γ : aS S) (p : Option DP) (f : S -> Option (Option Int)) : Prop:=∀ s σ v,Sat Γ s σ -> f s = some v -> lV p σ = some v
theorem tu : vL Γ none (fun _=>some none):=fun s σ v hs e=>by cases e; rfl
theorem lu {p : DP} {f : S -> Option Int} (h : JP Γ p f rI) : vL Γ (some p) (fun s=>(f s).map some):=fun s σ v hs e=>by
 obtain ⟨a,e1,e2⟩:=mp e;obtain ⟨x,hx,rx⟩:=h s σ a hs e1;cases rx; cases e2;simp only [lV,hx,bind_some]
theorem All2.cut {r : Rl α} {as : List α} {ds : List D} (h : All2 r as ds) (lo hi : Option Int) : All2 r (bY as lo hi) (bY ds lo hi):=by
 unfold bY;rw [h.len];exact (h.drop _).take _
theorem Ac {rl : Rl (List α)} {r r' : Rl α} [l : Ls rl r] [k : Fz r r'] {f : S -> Option (List α × S)} {pl ph : Option DP} {gl gh : S -> Option (Option Int)} (h1 : JE Γ c f rl Γ1) (h2 : vL Γ1 pl gl) (h3 : vL Γ1 ph gh) :
  JE Γ (vv c pl ph) (fun s=>(f s).bind fun p=>(gl p.2).bind fun lo=>(gh p.2).map fun hi=>(bY p.1 lo hi,p.2)) (rL r') Γ1:=fun s σ v s' hs e=>by
 revert e
 refine bJ fun a s1 e1 e=>?_
 revert e
 refine bK fun lo e2 e=>?_
 obtain ⟨hi,e3,e⟩:=mp e;cases e;obtain ⟨x,σ1,hx,rx,k1⟩:=h1 s σ a s1 hs e1;obtain ⟨o,ds,rfl,h⟩:=l.l a x rx;exact ⟨_,σ1,by simp only [vv,hx,bind_some,h2 s1 σ1 lo k1 e2,h3 s1 σ1 hi k1 e3,map_some],⟨_,rfl,(h.fz k.f).cut lo hi⟩,k1⟩
theorem Sat.put {i : Nat} {get : S -> α} {put : S -> α -> S} {r : Rl α} {s : S} {σ : aP} {v : α} {d : D} (hs : Sat Γ s σ) (hg : ∀ s v,get (put s v) = v) (hf : ∀ v,Fr (fun s=>put s v) (Γ.set i none)) (h : r v d) : Sat (Γ.set i (some ⟨get,r⟩)) (put s v) (σ.set i (some d)):=by
 have h1:=(hf v).sat (On.setn (i:=i) hs);have h2:=h1.set (i:=i) (l:=some ⟨get,r⟩) (o:=some d) ⟨d,rfl,by rw [show (Sl.mk get r).get = get from rfl,hg]; exact h⟩;rw [List.set_set] at h2;exact h2
theorem kD (i : Nat) {get : S -> List α} {put : S -> List α -> S} {r : Rl α} [k : Sc r] {p : DP} {f : S -> Option α} (h : JP Γ p f r) (hi : Γ[i]? = some (some ⟨get,rL r⟩)) (hg : autoParam (∀ s v,get (put s v) = v) hZ._auto_1) (hf : autoParam (∀ v,Fr (fun s=>put s v) (Γ.set i none)) gn._auto_1) :
  JE Γ (iD i [] p) (fun s=>(f s).bind fun v=>if oO ((get s).length) = true then some ((),put s (get s ++ [v])) else none) rN (Γ.set i (some ⟨get,rL r⟩)):=fun s σ v s' hs e=>by
 revert e
 refine bK fun a e1 e=>?_
 split at e
 ·rename_i hl
  have hl:=kz hl;cases e;obtain ⟨x,hx,rx⟩:=h s σ a hs e1;obtain ⟨d,hd,ds,rfl,h2⟩:=hs.get hi;obtain ⟨w,hw⟩:=k.s _ _ rx;exact ⟨.non,_,by simp only [iD,hd,gw,cN,hx,hw,bind_some,<- h2.len,hl,if_true,cU],rfl,hs.put hg hf ⟨_,rfl,h2.append (.cons rx .nil)⟩⟩
 ·cases e
theorem kC (i : Nat) {get : S -> List α} {put : S -> List α -> S} {rl : Rl (List α)} {r q : Rl α} [l : Ls rl q] {f : S -> Option (α × S)} (h : JE Γ c f r Γ1) (h0 : Γ[i]? = some (some ⟨get,rl⟩)) (hi : Γ1[i]? = some (some ⟨get,rL r⟩)) (hg : autoParam (∀ s v,get (put s v) = v) hZ._auto_1) (hf : autoParam (∀ v,Fr (fun s=>put s v) (Γ1.set i none)) gn._auto_1) :
  JE Γ (jb i c) (fun s=>(f s).bind fun p=>if oO ((get p.2).length) = true then some ((),put p.2 (get p.2 ++ [p.1])) else none) rN (Γ1.set i (some ⟨get,rL r⟩)):=fun s σ v s' hs e=>by
 revert e
 refine bJ fun a s1 e1 e=>?_
 dsimp only at e;split at e
 ·rename_i hl
  have hl:=kz hl;cases e;obtain ⟨x,σ1,hx,rx,k1⟩:=h s σ a s1 hs e1;obtain ⟨d0,hd0,h00⟩:=hs.get h0;obtain ⟨o0,ds0,rfl,_⟩:=l.l _ _ h00;obtain ⟨d,hd,ds,rfl,h2⟩:=k1.get hi;exact ⟨.non,_,by simp only [jb,hd0,hx,bind_some,hd,<- h2.len,hl,if_true],rfl,k1.put hg hf ⟨_,rfl,h2.append (.cons rx .nil)⟩⟩
 ·cases e
theorem cg {f : S -> Option (Bool × S)} (h : JE Γ c f rB Γ1) : JT Γ (bz c) f Γ1:=fun s σ v s' hs e=>by
 obtain ⟨d,σ1,h1,h2,h3⟩:=h s σ v s' hs e;cases h2;exact ⟨σ1,by simp only [bz,h1,bind_some],h3⟩
theorem oQ {f : S -> Option (Bool × S)} (h : JT Γ t f Γ1) : JT Γ (jO t) (fun s=>(f s).map fun p=>(!p.1,p.2)) Γ1:=fun s σ v s' hs e=>by
 obtain ⟨⟨a,s1⟩,e1,e2⟩:=mp e;obtain ⟨σ1,h1,h2⟩:=h s σ a s1 hs e1;cases e2;exact ⟨σ1,by simp only [jO,h1,map_some],h2⟩
theorem oR {f g : S -> Option (Bool × S)} (h1 : JT Γ t f Γ1) (h2 : JT Γ1 u g Γ2) (l : autoParam (Le Γ1 Γ') lZ._auto_1) (l2 : autoParam (Le Γ2 Γ') lZ._auto_1) : JT Γ (i4 t u) (fun s=>(f s).bind fun p=>if p.1 = true then g p.2 else some (false,p.2)) Γ':=fun s σ v s' hs e=>by
 obtain ⟨⟨a,s1⟩,e1,e2⟩:=bd e;obtain ⟨σ1,hx,k1⟩:=h1 s σ a s1 hs e1;cases a
 ·simp only [Bool.false_eq_true,if_false] at e2
  cases e2;exact ⟨σ1,by simp only [i4,hx,bind_some,Bool.false_eq_true,if_false],l.sat k1⟩
 ·simp only [if_true] at e2
  obtain ⟨σ2,hy,k2⟩:=h2 s1 σ1 v s' k1 e2;exact ⟨σ2,by simp only [i4,hx,bind_some,hy,if_true],l2.sat k2⟩
theorem se {f g : S -> Option (Bool × S)} (h1 : JT Γ t f Γ1) (h2 : JT Γ1 u g Γ2) (l : autoParam (Le Γ1 Γ') lZ._auto_1) (l2 : autoParam (Le Γ2 Γ') lZ._auto_1) : JT Γ (lh t u) (fun s=>(f s).bind fun p=>if p.1 = true then some (true,p.2) else g p.2) Γ':=fun s σ v s' hs e=>by
 obtain ⟨⟨a,s1⟩,e1,e2⟩:=bd e;obtain ⟨σ1,hx,k1⟩:=h1 s σ a s1 hs e1;cases a
 ·simp only [Bool.false_eq_true,if_false] at e2
  obtain ⟨σ2,hy,k2⟩:=h2 s1 σ1 v s' k1 e2;exact ⟨σ2,by simp only [lh,hx,bind_some,hy,Bool.false_eq_true,if_false],l2.sat k2⟩
 ·simp only [if_true] at e2
  cases e2;exact ⟨σ1,by simp only [lh,hx,bind_some,if_true],l.sat k1⟩
theorem dQ : JT Γ eM (fun s=>some (true,s)) Γ:=fun s σ v s' hs e=>by cases e; exact ⟨σ,rfl,hs⟩
noncomputable def tSeq (f g : S -> Option (TR S ρ)) : S -> Option (TR S ρ):=fun s=>(f s).bind fun r=>match r with | .nx s'=>g s' | .rt v s'=>some (.rt v s') | .bk s'=>some (.bk s') | .ct s'=>some (.ct s')
theorem g9 {c : DS} : JS Γ c (fun _=>none) Γn E:=fun s σ v hs e=>by cases e
theorem ap {a b : DS} {f g : S -> Option (TR S ρ)} (h1 : JS Γ a f Γ1 E) (h2 : JS Γ1 b g Γ2 E) : JS Γ (aL a b) (tSeq f g) Γ2 E:=fun s σ v hs e=>by
 obtain ⟨r,e1,e2⟩:=bd e;obtain ⟨o,ho,ro⟩:=h1 s σ r hs e1;cases r with
 | nx s' =>
  cases o with
  | nx σ' =>
   obtain ⟨o2,h3,r3⟩:=h2 s' σ' v ro e2;exact ⟨o2,by simp only [aL,ho,bind_some,h3],r3⟩
  | _=>exact ro.elim
 | rt w s' =>
  cases e2;cases o with
  | rt d σ'=>exact ⟨.rt d σ',by simp only [aL,ho,bind_some],ro⟩
  | _=>exact ro.elim
 | bk s' =>
  cases e2;cases o with
  | bk σ'=>exact ⟨.bk σ',by simp only [aL,ho,bind_some],ro⟩
  | _=>exact ro.elim
 | ct s' =>
  cases e2;cases o with
  | ct σ'=>exact ⟨.ct σ',by simp only [aL,ho,bind_some],ro⟩
  | _=>exact ro.elim
theorem z8 {a : DS} {f : S -> Option (TR S ρ)} (h : JS Γ a f Γ1 E) (l : Le Γ1 Γn) : JS Γ a f Γn E:=fun s σ v hs e=>by
 obtain ⟨o,ho,ro⟩:=h s σ v hs e;refine ⟨o,ho,?_⟩;cases v <;> cases o <;> first | exact l.sat ro | exact ro
theorem aN (i : Nat) {get : S -> α} {put : S -> α -> S} {r : Rl α} {f : S -> Option (α × S)} (h : JE Γ c f r Γ1) (hg : autoParam (∀ s v,get (put s v) = v) hZ._auto_1) (hf : autoParam (∀ v,Fr (fun s=>put s v) (Γ1.set i none)) gn._auto_1) (hi : autoParam (i < Γ1.length) cR._auto_1) :
  JS Γ (bf i c) (fun s=>(f s).map fun p=>.nx (put p.2 p.1)) (Γ1.set i (some ⟨get,r⟩)) E:=fun s σ v hs e=>by
 obtain ⟨⟨a,s1⟩,e1,e2⟩:=mp e;cases e2;obtain ⟨d,σ1,h1,h2,h3⟩:=h s σ a s1 hs e1;have hl : i < σ1.length:=by rw [h3.len]; exact hi
 exact ⟨.nx (σ1.set i (some d)),by simp only [bf,h1,bind_some,hl,if_true],h3.put hg hf h2⟩
theorem di {a b : DS} {ft : S -> Option (Bool × S)} {f g : S -> Option (TR S ρ)} (h0 : JT Γ t ft Γ0) (h1 : JS Γ0 a f Γ1 E) (h2 : JS Γ0 b g Γ2 E) (l1 : autoParam (Le Γ1 Γ') lZ._auto_1) (l2 : autoParam (Le Γ2 Γ') lZ._auto_1) : JS Γ (eT t a b) (fun s=>(ft s).bind fun p=>if p.1 = true then f p.2 else g p.2) Γ' E:=fun s σ v hs e=>by
 obtain ⟨⟨b,s1⟩,e1,e2⟩:=bd e;obtain ⟨σ1,hx,k1⟩:=h0 s σ b s1 hs e1;cases b
 ·simp only [Bool.false_eq_true,if_false] at e2
  obtain ⟨o,ho,ro⟩:=(z8 h2 l2) s1 σ1 v k1 e2;exact ⟨o,by simp only [eT,hx,bind_some,ho,Bool.false_eq_true,if_false],ro⟩
 ·simp only [if_true] at e2
  obtain ⟨o,ho,ro⟩:=(z8 h1 l1) s1 σ1 v k1 e2;exact ⟨o,by simp only [eT,hx,bind_some,ho,if_true],ro⟩
theorem bm {r : Rl ρ} {f : S -> Option (ρ × S)} (h : JE Γ c f r Γ1) (w : autoParam (Wk r E.ro) Gb._auto_1) (l : autoParam (Le Γ1 E.rt) lZ._auto_1) : JS Γ (bX c) (fun s=>(f s).map fun p=>.rt p.1 p.2) Γn E:=fun s σ v hs e=>by
 obtain ⟨⟨a,s1⟩,e1,e2⟩:=mp e;cases e2;obtain ⟨d,σ1,h1,h2,h3⟩:=h s σ a s1 hs e1;exact ⟨.rt d σ1,by simp only [bX,h1,map_some],w.w _ _ h2,l.sat h3⟩
theorem de {r : Rl α} {f : S -> Option (α × S)} (h : JE Γ c f r Γ1) : JS Γ (dX c) (fun s=>(f s).map fun p=>.nx p.2) Γ1 E:=fun s σ v hs e=>by
 obtain ⟨⟨a,s1⟩,e1,e2⟩:=mp e;cases e2;obtain ⟨d,σ1,h1,h2,h3⟩:=h s σ a s1 hs e1;exact ⟨.nx σ1,by simp only [dX,h1,map_some],h3⟩
theorem cj : JS Γ dv (fun s=>some (.nx s)) Γ E:=fun s σ v hs e=>by cases e; exact ⟨_,rfl,hs⟩
theorem By (i : Nat) {get : S -> α} {put : S -> α -> S} {r : Rl α} {rb : Rl β} [k : Sc r] {g : D -> D -> Option D} {h : α -> β -> Option α} {f : S -> Option (β × S)} (o : JO g h r rb r) (h1 : JE Γ c f rb Γ1) (h0 : Γ[i]? = some (some ⟨get,r⟩)) (hg : autoParam (∀ s v,get (put s v) = v) hZ._auto_1) (hf : autoParam (∀ v,Fr (fun s=>put s v) (Γ1.set i none)) gn._auto_1) (hi : autoParam (i < Γ1.length) cR._auto_1) :
  JS Γ (oC g i c) (fun s=>(f s).bind fun p=>(h (get s) p.1).map fun v=>.nx (put p.2 v)) (Γ1.set i (some ⟨get,r⟩)) E:=fun s σ v hs e=>by
 revert e
 refine bJ fun a s1 e1 e=>?_
 obtain ⟨w,e2,e⟩:=mp e;cases e;obtain ⟨d0,hd0,r0⟩:=hs.get h0;obtain ⟨wv,hw⟩:=k.s _ _ r0;obtain ⟨d,σ1,hx,rx,k1⟩:=h1 s σ a s1 hs e1;obtain ⟨z,hz,rz⟩:=o _ _ _ _ _ e2 r0 rx;have hl : i < σ1.length:=by rw [k1.len]; exact hi
 exact ⟨.nx (σ1.set i (some z)),by simp only [oC,hd0,hw,hx,bind_some,hl,if_true,hz,map_some],k1.put hg hf rz⟩
theorem All2.ix {r : Rl α} {as : List α} {ds : List D} (h : All2 r as ds) {i : Int} : ixN ds.length i = ixN as.length i:=by rw [h.len]
theorem cF (i : Nat) {get : S -> α} {put : S -> α -> S} {r : Rl α} (hg : autoParam (∀ s v,get (put s v) = v) hZ._auto_1) (hf : autoParam (∀ v,Fr (fun s=>put s v) (Γ.set i none)) gn._auto_1) (hi : autoParam (i < Γ.length) cR._auto_1) : JG Γ (bV i) put r (Γ.set i (some ⟨get,r⟩)):=fun s σ v d hs h=>by
 have hl : i < σ.length:=by rw [hs.len]; exact hi
 exact ⟨_,by simp only [bV,hl,if_true],hs.put hg hf h⟩
theorem Ab {g1 g2 : DG} {p1 : S -> α -> S} {p2 : S -> β -> S} {ra : Rl α} {rb : Rl β} (h1 : JG Γ g1 p1 ra Γ1) (h2 : JG Γ1 g2 p2 rb Γ2) : JG Γ (gu 2 (cA g1 (cA g2 gK))) (fun s v=>p2 (p1 s v.1) v.2) (am ra rb) Γ2:=fun s σ v d hs hq0=>by
 obtain ⟨x,y,e,hx,hy⟩:=hq0;obtain ⟨σ1,e1,k1⟩:=h1 s σ v.1 x hs hx;obtain ⟨σ2,e2,k2⟩:=h2 _ σ1 v.2 y k1 hy;exact ⟨σ2,by simp only [e,gu,cA,gK,List.length_cons,List.length_nil,e1,e2,bind_some,if_true],k2⟩
theorem wr {g1 g2 g3 : DG} {p1 : S -> α -> S} {p2 : S -> β -> S} {p3 : S -> γ -> S} {ra : Rl α} {rb : Rl β} {rc : Rl γ} (h1 : JG Γ g1 p1 ra Γ1) (h2 : JG Γ1 g2 p2 rb Γ2) (h3 : JG Γ2 g3 p3 rc Γ3) : JG Γ (gu 3 (cA g1 (cA g2 (cA g3 gK)))) (fun s v=>p3 (p2 (p1 s v.1) v.2.1) v.2.2) (d7 ra rb rc) Γ3:=fun s σ v d hs hq0=>by
 obtain ⟨x,y,z,e,hx,hy,hz⟩:=hq0;obtain ⟨σ1,e1,k1⟩:=h1 s σ v.1 x hs hx;obtain ⟨σ2,e2,k2⟩:=h2 _ σ1 v.2.1 y k1 hy;obtain ⟨σ3,e3,k3⟩:=h3 _ σ2 v.2.2 z k2 hz;exact ⟨σ3,by simp only [e,gu,cA,gK,List.length_cons,List.length_nil,e1,e2,e3,bind_some,if_true],k3⟩
theorem Bw (i : Nat) {get : S -> List α} {put : S -> List α -> S} {r : Rl α} {q : DP} {fq : S -> Option Int} {f : S -> Option (α × S)} (h : JE Γ c f r Γ1) (hq : JP Γ1 q fq rI) (h0 : Γ1[i]? = some (some ⟨get,rL r⟩)) (hg : autoParam (∀ s v,get (put s v) = v) hZ._auto_1) (hf : autoParam (∀ v,Fr (fun s=>put s v) (Γ1.set i none)) gn._auto_1) :
  JS Γ (mf c (my i [] q)) (fun s=>(f s).bind fun p=>(fq p.2).bind fun kk=>(ixN (get p.2).length kk).map fun j=>.nx (put p.2 ((get p.2).set j p.1))) (Γ1.set i (some ⟨get,rL r⟩)) E:=fun s σ v hs e=>by
 revert e
 refine bJ fun a s1 e1 e=>?_
 revert e
 refine bK fun kk e2 e=>?_
 obtain ⟨j,e3,e⟩:=mp e;cases e;obtain ⟨d,σ1,h1,h2,h3⟩:=h s σ a s1 hs e1;obtain ⟨dq,hdq,rq⟩:=hq s1 σ1 kk h3 e2;cases rq;obtain ⟨d',hd,ds,rfl,h4⟩:=h3.get h0;dsimp only at e3;exact ⟨.nx _,by simp only [mf,h1,bind_some,my,hd,gw,cN,hdq,h4.ix,e3,map_some,cU],h3.put hg hf ⟨_,rfl,h4.set h2⟩⟩
theorem cz {rl : Rl (List α)} {r r' : Rl α} [l : Ls rl r] [k : Fz r r'] {f : S -> Option (List α × S)} (h : JE Γ c f rl Γ1) : JI Γ (dH c) f r' Γ1:=fun s σ v s' hs e=>by
 obtain ⟨d,σ1,h1,h2,h3⟩:=h s σ v s' hs e;obtain ⟨o,ds,rfl,h⟩:=l.l v d h2;exact ⟨_,σ1,by simp only [dH,h1,bind_some],h.fz k.f,h3⟩
noncomputable def rng (lo hi : Int) : List Int:=(List.range (hi - lo).toNat).map fun (k : Nat)=>lo + k
theorem wZ (lo hi : Int) : All2 rI (rng lo hi) (jq lo hi):=by unfold rng jq; exact All2.ofMap (r:=rI) (f:=fun (k : Nat)=>lo + k) (g:=fun (k : Nat)=>D.int (lo + k)) (fun _=>rfl) _
theorem jT {f : S -> Option (Int × S)} (h : JE Γ c f rI Γ1) : JI Γ (lU (ar c aX)) (fun s=>(f s).bind fun p=>if jo p.1 = true then some (rng 0 p.1,p.2) else none) rI Γ1:=fun s σ v s' hs e=>by
 revert e
 refine bJ fun a s1 e1 e=>?_
 dsimp only at e;split at e
 ·rename_i hl
  cases e;obtain ⟨d,σ1,h1,h2,h3⟩:=h s σ a _ hs e1;cases h2;refine ⟨_,σ1,?_,wZ _ _,h3⟩;simp only [lU,ar,aX,h1,bind_some,map_some];exact if_pos (qc hl)
 ·cases e
theorem Aa {f g : S -> Option (Int × S)} (h : JE Γ c f rI Γ1) (h' : JE Γ1 c' g rI Γ2) : JI Γ (vh (ar c (ar c' aX))) (fun s=>(f s).bind fun p=>(g p.2).bind fun q=>if (jo p.1 && jo q.1) = true then some (rng p.1 q.1,q.2) else none) rI Γ2:=fun s σ v s' hs e=>by
 revert e
 refine bJ fun a s1 e1 e=>?_
 revert e
 refine bJ fun b s2 e2 e=>?_
 dsimp only at e;split at e
 ·rename_i hl
  cases e;obtain ⟨d,σ1,h1,h2,h3⟩:=h s σ a s1 hs e1;obtain ⟨d',σ2,h4,h5,h6⟩:=h' s1 σ1 b _ h3 e2;cases h2; cases h5;refine ⟨_,σ2,?_,wZ _ _,h6⟩;simp only [vh,ar,aX,h1,h4,bind_some,map_some];simp only [Bool.and_eq_true] at hl;exact if_pos (by rw [qc hl.1,qc hl.2]; rfl)
 ·cases e
theorem BY {ra ra' : Rl α} {rb rb' : Rl β} (ka : ∀ a d,ra a d -> ra' a d.fz) (kb : ∀ a d,rb a d -> rb' a d.fz) : ∀ {as : List α} {bs : List β} {ds es : List D},All2 ra as ds -> All2 rb bs es -> All2 (am ra' rb') (as.zip bs) (((D.fzL ds).zip (D.fzL es)).map fun z=>.tup [z.1,z.2]):=by
 intro as bs ds es h
 induction h generalizing bs es with
 | nil=>intro _; simp only [List.zip_nil_left,D.fzL,List.map_nil]; exact .nil
 | cons h1 t1 ih =>
  intro k;cases k with
  | nil=>simp only [List.zip_nil_right,D.fzL,List.map_nil]; exact .nil
  | cons h2 t2 =>
   simp only [List.zip_cons_cons,D.fzL,List.map_cons];exact .cons ⟨_,_,rfl,ka _ _ h1,kb _ _ h2⟩ (ih t2)
theorem xT {rl : Rl (List α)} {ra ra' : Rl α} {rm : Rl (List β)} {rb rb' : Rl β} [l : Ls rl ra] [k : Fz ra ra'] [l2 : Ls rm rb] [k2 : Fz rb rb'] {f : S -> Option (List α × S)} {g : S -> Option (List β × S)} (h : JE Γ c f rl Γ1) (h' : JE Γ1 c' g rm Γ2) : JI Γ (m9 c c') (fun s=>(f s).bind fun p=>(g p.2).map fun q=>(p.1.zip q.1,q.2)) (am ra' rb') Γ2:=fun s σ v s' hs e=>by
 revert e
 refine bJ fun a s1 e1 e=>?_
 obtain ⟨⟨b,s2⟩,e2,e⟩:=mp e;cases e;obtain ⟨d,σ1,h1,h2,h3⟩:=h s σ a s1 hs e1;obtain ⟨d',σ2,h4,h5,h6⟩:=h' s1 σ1 b s2 h3 e2;obtain ⟨o,ds,rfl,hh⟩:=l.l a d h2;obtain ⟨o',ds',rfl,hh'⟩:=l2.l b d' h5;exact ⟨_,σ2,by simp only [m9,h1,h4,bind_some],BY k.f k2.f hh hh',h6⟩
noncomputable def dI (put : S -> α -> S) (b : S -> Option (TR S ρ)) : List α -> S -> Option (TR S ρ)
 | [],s=>some (.nx s)
 | x :: xs,s=>(b (put s x)).bind fun o=>match o with
  | .nx s2=>dI put b xs s2
  | .ct s2=>dI put b xs s2
  | .bk s2=>some (.nx s2)
  | .rt d s2=>some (.rt d s2)
theorem Bq {g : DG} {put : S -> α -> S} {r : Rl α} {b : DS} {fb : S -> Option (TR S ρ)} {Γx Γb : aS S} (hg : JG Γh g put r Γx) (hb : JS Γx b fb Γb ⟨E.rt,E.ro,Γh⟩) (lb : Le Γb Γh) : ∀ {xs : List α} {ds : List D} {s : S} {σ : aP} {t : TR S ρ},All2 r xs ds -> Sat Γh s σ -> dI put fb xs s = some t -> ∃ o,fD g b ds σ = some o /\ Rs Γh E t o:=by
 intro xs ds s σ t h0
 induction h0 generalizing s σ t with
 | nil=>intro hs e; cases e; exact ⟨_,rfl,hs⟩
 | cons h1 h2 ih =>
  intro hs e;simp only [dI] at e
  revert e
  refine bK fun o e1 e=>?_
  obtain ⟨σ1,g1,k1⟩:=hg s σ _ _ hs h1;obtain ⟨o',b1,r1⟩:=hb _ σ1 o k1 e1;cases o with
  | nx s2 =>
   cases o' with
   | nx σ2 =>
    obtain ⟨o2,c1,c2⟩:=ih (lb.sat r1) e;exact ⟨o2,by simp only [fD,g1,bind_some,b1,c1],c2⟩
   | _=>exact r1.elim
  | ct s2 =>
   cases o' with
   | ct σ2 =>
    obtain ⟨o2,c1,c2⟩:=ih r1 e;exact ⟨o2,by simp only [fD,g1,bind_some,b1,c1],c2⟩
   | _=>exact r1.elim
  | bk s2 =>
   cases e;cases o' with
   | bk σ2=>exact ⟨.nx σ2,by simp only [fD,g1,bind_some,b1],r1⟩
   | _=>exact r1.elim
  | rt d s2 =>
   cases e;cases o' with
   | rt d' σ2=>exact ⟨.rt d' σ2,by simp only [fD,g1,bind_some,b1],r1⟩
   | _=>exact r1.elim
theorem dc {i : DI} {g : DG} {put : S -> α -> S} {r : Rl α} {b : DS} {fi : S -> Option (List α × S)} {fb : S -> Option (TR S ρ)} {Γx Γb : aS S} (hi : JI Γ i fi r Γ1) (l : Le Γ1 Γh) (hg : JG Γh g put r Γx) (hb : JS Γx b fb Γb ⟨E.rt,E.ro,Γh⟩) (lb : autoParam (Le Γb Γh) lZ._auto_1) :
  JS Γ (dg i g b) (fun s=>(fi s).bind fun p=>dI put fb p.1 p.2) Γh E:=fun s σ v hs e=>by
 revert e
 refine bJ fun xs s1 e1 e=>?_
 obtain ⟨ds,σ1,h1,h2,h3⟩:=hi s σ xs s1 hs e1;obtain ⟨o,h4,h5⟩:=Bq hg hb lb h2 (l.sat h3) e;exact ⟨o,by simp only [dg,h1,bind_some,h4],h5⟩
end
section
variable {S : Type} {α β γ δ ρ : Type} {Γ Γ0 Γ1 Γ2 Γ3 Γ4 Γ' Γn Γh : aS S} {c c' : DE} {t u : DT} {E : Ex S ρ}
theorem Sat.app : ∀ {Γ Δ : aS S} {s : S} {σ τ : aP},Sat Γ s σ -> Sat Δ s τ -> Sat (Γ ++ Δ) s (σ ++ τ)
 | [],_,_,[],_,_,h=>h
 | _ :: Γ,_,_,_ :: σ,_,h,k=>⟨h.1,Sat.app h.2 k⟩
 | [],_,_,_ :: _,_,h,_=>h.elim
 | _ :: _,_,_,[],_,h,_=>h.elim
theorem Sat.split : ∀ {Γ Δ : aS S} {s : S} {σ : aP},Sat (Γ ++ Δ) s σ -> ∃ σ1 σ2,σ = σ1 ++ σ2 /\ Sat Γ s σ1 /\ Sat Δ s σ2
 | [],_,_,σ,h=>⟨[],σ,rfl,trivial,h⟩
 | _ :: Γ,_,_,x :: σ,h=>by
  obtain ⟨σ1,σ2,e,h1,h2⟩:=Sat.split (Γ:=Γ) h.2;exact ⟨x :: σ1,σ2,by rw [e]; rfl,⟨h.1,h1⟩,h2⟩
 | _ :: _,_,_,[],h=>h.elim
theorem Sat.non {s : S} : ∀ {k : Nat} {σ : aP},σ.length = k -> Sat (List.replicate k none) s σ
 | 0,[],_=>trivial
 | k + 1,_ :: σ,h=>⟨trivial,Sat.non (k:=k) (by simpa using h)⟩
noncomputable def tLc (ft : α -> S -> Option (Bool × S)) (fe : α -> S -> Option (β × S)) : List α -> S -> Option (List β × S)
 | [],s=>some ([],s)
 | x :: xs,s=>(ft x s).bind fun p=>if p.1 = true then (fe x p.2).bind fun q=>(tLc ft fe xs q.2).map fun r=>(q.1 :: r.1,r.2) else tLc ft fe xs p.2
noncomputable def As (Γ : aS S) (k : Nat) (g : DG) (r : Rl α) (Δ : α -> aS S) : Prop:=∀ s σ v d,Sat (Γ ++ List.replicate k none) s σ -> r v d -> ∃ σ',g d σ = some σ' /\ Sat (Γ ++ Δ v) s σ'
theorem p9 {A : List (Option D)} {a b : Option D} {B : aP} : (A ++ a :: B).set A.length b = A ++ b :: B:=by
 rw [List.set_append_right _ _ (Nat.le_refl _)]; simp
theorem eI {r : Rl α} (i : Nat) (hi : i = Γ.length) : As Γ 1 (bV i) r (fun v=>[some ⟨fun _=>v,r⟩]):=fun s σ v d hs h=>by
 obtain ⟨σ1,σ2,rfl,h1,h2⟩:=hs.split
 match σ2,h2 with
 | [o],_ =>
  have hl : σ1.length = i:=by rw [h1.len,hi]
  have hl2 : i < (σ1 ++ [o]).length:=by simp [hl]
  refine ⟨σ1 ++ [some d],?_,h1.app ⟨⟨d,rfl,h⟩,trivial⟩⟩;simp only [bV,hl2,if_true];rw [<- hl,p9]
theorem FG {ra : Rl α} {rb : Rl β} (i j : Nat) (hi : i = Γ.length) (hj : j = Γ.length + 1) : As Γ 2 (gu 2 (cA (bV i) (cA (bV j) gK))) (am ra rb) (fun v=>[some ⟨fun _=>v.1,ra⟩,some ⟨fun _=>v.2,rb⟩]):=fun s σ v d hs hq0=>by
 obtain ⟨x,y,e,hx,hy⟩:=hq0;obtain ⟨σ1,σ2,rfl,h1,h2⟩:=hs.split
 match σ2,h2 with
 | [o,o'],_ =>
  have hl : σ1.length = i:=by rw [h1.len,hi]
  have hl2 : i < (σ1 ++ [o,o']).length:=by simp [hl]
  have hl3 : j < (σ1 ++ [some x,o']).length:=by simp [hl]; omega
  refine ⟨σ1 ++ [some x,some y],?_,h1.app ⟨⟨x,rfl,hx⟩,⟨y,rfl,hy⟩,trivial⟩⟩;have e1 : (σ1 ++ [o,o']).set i (some x) = σ1 ++ [some x,o']:=by rw [<- hl,p9]
  have e2 : (σ1 ++ [some x,o']).set j (some y) = σ1 ++ [some x,some y]:=by
   have h3 : j = (σ1 ++ [some x]).length:=by simp; omega
   rw [show σ1 ++ [some x,o'] = (σ1 ++ [some x]) ++ [o'] by simp,h3,p9]; simp
  simp only [e,gu,cA,gK,bV,List.length_cons,List.length_nil,if_true,hl2,e1,bind_some,hl3,e2]
theorem Ez {k : Nat} {g : DG} {r : Rl α} {re : Rl β} {Δ : α -> aS S} {ft : α -> S -> Option (Bool × S)} {fe : α -> S -> Option (β × S)} {Γt Γe : α -> aS S} (hg : As Γh k g r Δ) (ht : ∀ x,JT (Γh ++ Δ x) t (ft x) (Γt x)) (l1 : ∀ x,Le (Γt x) (Γh ++ List.replicate k none)) (he : ∀ x,JE (Γt x) c (fe x) re (Γe x)) (l2 : ∀ x,Le (Γe x) (Γh ++ List.replicate k none)) :
  ∀ {xs : List α} {ds : List D} {s : S} {σ : aP} {ys : List β} {s' : S},All2 r xs ds -> Sat (Γh ++ List.replicate k none) s σ -> tLc ft fe xs s = some (ys,s') -> ∃ es σ',j9 g t c ds σ = some (es,σ') /\ All2 re ys es /\ Sat (Γh ++ List.replicate k none) s' σ':=by
 intro xs ds s σ ys s' h0
 induction h0 generalizing s σ ys s' with
 | nil=>intro hs e; cases e; exact ⟨[],σ,rfl,.nil,hs⟩
 | cons h1 h2 ih =>
  intro hs e;simp only [tLc] at e
  revert e
  refine bJ fun b s1 e1 e=>?_
  obtain ⟨σ1,g1,k1⟩:=hg s σ _ _ hs h1;obtain ⟨σ2,g2,k2⟩:=ht _ s σ1 b s1 k1 e1;cases b
  ·simp only [Bool.false_eq_true,if_false] at e
   obtain ⟨es,σ3,g3,r3,k3⟩:=ih ((l1 _).sat k2) e;exact ⟨es,σ3,by simp only [j9,g1,bind_some,g2,Bool.false_eq_true,if_false,g3],r3,k3⟩
  ·simp only [if_true] at e
   revert e
   refine bJ fun v s2 e2 e=>?_
   obtain ⟨⟨w,s3⟩,e3,e⟩:=mp e;cases e;obtain ⟨d,σ3,g3,r3,k3⟩:=he _ s1 σ2 v s2 k2 e2;obtain ⟨es,σ4,g4,r4,k4⟩:=ih ((l2 _).sat k3) e3;exact ⟨d :: es,σ4,by simp only [j9,g1,bind_some,g2,if_true,g3,g4,map_some],.cons r3 r4,k4⟩
theorem dD {k : Nat} {i : DI} {g : DG} {r : Rl α} {re : Rl β} {Δ : α -> aS S} {fi : S -> Option (List α × S)} {ft : α -> S -> Option (Bool × S)} {fe : α -> S -> Option (β × S)} {Γt Γe : α -> aS S} (hi : JI Γ i fi r Γ1) (l : Le Γ1 Γh) (hg : As Γh k g r Δ) (ht : ∀ x,JT (Γh ++ Δ x) t (ft x) (Γt x)) (he : ∀ x,JE (Γt x) c (fe x) re (Γe x)) (l1 : autoParam (∀ x,Le (Γt x) (Γh ++ List.replicate k none)) DL._auto_1) (l2 : autoParam (∀ x,Le (Γe x) (Γh ++ List.replicate k none)) DL._auto_1) :
  JE Γ (eC k i g t c) (fun s=>(fi s).bind fun p=>if ej (p.1.length) = true then tLc ft fe p.1 p.2 else none) (rL re) Γh:=fun s σ v s' hs e=>by
 revert e
 refine bJ fun xs s1 e1 e=>?_
 obtain ⟨ds,σ1,h1,h2,h3⟩:=hi s σ xs s1 hs e1;dsimp only at e;split at e
 ·rename_i hl
  have hl:=jg hl;have h4:=l.sat h3;obtain ⟨es,σ2,g2,r2,k2⟩:=Ez hg ht l1 he l2 h2 (h4.app (Sat.non (k:=k) (σ:=List.replicate k none) (by simp))) e;obtain ⟨σa,σb,rfl,ka,kb⟩:=k2.split;refine ⟨_,σa,?_,⟨es,rfl,r2⟩,ka⟩;have hl2 : ds.length <= sizeLine:=by rw [<- h2.len]; exact hl
  have hlen : σ1.length = σa.length:=by rw [h4.len,ka.len]
  simp only [eC,h1,bind_some,hl2,if_true,g2,map_some,hlen,List.take_left]
 ·cases e
noncomputable def Pn : Unit -> List D -> Prop:=fun _ ds=>ds = []
noncomputable def Pc (r : Rl α) (P : β -> List D -> Prop) : α × β -> List D -> Prop:=fun p ds=>∃ d ds',ds = d :: ds' /\ r p.1 d /\ P p.2 ds'
noncomputable def JF {P : Type} (g : GF) (h : P -> Option (ρ × P)) (PI : P -> List D -> Prop) (ro : Rl ρ) (PO : P -> List D -> Prop) : Prop:=∀ p ds v q,PI p ds -> h p = some (v,q) -> ∃ d ds',g ds = some (d,ds') /\ ro v d /\ PO q ds'
noncomputable def vO {A : Type} (Γ : aS S) (as : List DD.Arg) (f : S -> Option (A × S)) (oe : A -> List (Option D) -> Prop) (Γ' : aS S) : Prop:=∀ s σ a s',Sat Γ s σ -> f s = some (a,s') -> ∃ os σ',pb as σ = some (os,σ') /\ oe a os /\ Sat Γ' s' σ'
noncomputable def o0 : Unit -> List (Option D) -> Prop:=fun _ os=>os = []
noncomputable def oB {A : Type} (oe : A -> List (Option D) -> Prop) : A -> List (Option D) -> Prop:=fun a os=>∃ o',os = none :: o' /\ oe a o'
noncomputable def oX {A : Type} (r : Rl α) (oe : A -> List (Option D) -> Prop) : α × A -> List (Option D) -> Prop:=fun a os=>∃ d o',os = some d :: o' /\ r a.1 d /\ oe a.2 o'
theorem aC : vO Γ [] (fun s=>some ((),s)) o0 Γ:=fun s σ a s' hs e=>by cases e; exact ⟨[],σ,rfl,rfl,hs⟩
theorem aD {A : Type} (i : Nat) {as : List DD.Arg} {f : S -> Option (A × S)} {oe : A -> List (Option D) -> Prop} {l : Sl S} (hi : Γ[i]? = some (some l)) (h : vO Γ as f oe Γ') : vO Γ (.bo i :: as) f (oB oe) Γ':=fun s σ a s' hs e=>by
 obtain ⟨os,σ',h1,h2,h3⟩:=h s σ a s' hs e;obtain ⟨d,hd,_⟩:=hs.get hi;exact ⟨none :: os,σ',by simp only [pb,hd,bind_some,h1,map_some],⟨os,rfl,h2⟩,h3⟩
theorem bx {A : Type} {as : List DD.Arg} {f1 : S -> Option (α × S)} {f : S -> Option (A × S)} {oe : A -> List (Option D) -> Prop} {r : Rl α} (h0 : JE Γ c f1 r Γ1) (h : vO Γ1 as f oe Γ') : vO Γ (.ex c :: as) (fun s=>(f1 s).bind fun p=>(f p.2).map fun q=>((p.1,q.1),q.2)) (oX r oe) Γ':=fun s σ a s' hs e=>by
 revert e
 refine bJ fun v s1 e1 e=>?_
 obtain ⟨⟨b,s2⟩,e2,e⟩:=mp e;cases e;obtain ⟨d,σ1,g1,r1,k1⟩:=h0 s σ v s1 hs e1;obtain ⟨os,σ',h1,h2,h3⟩:=h s1 σ1 b s2 k1 e2;exact ⟨some d :: os,σ',by simp only [pb,g1,bind_some,h1,map_some],⟨d,os,rfl,r1,h2⟩,h3⟩
noncomputable def rD {A P : Type} (Γ : aS S) (as : List DD.Arg) (oe : A -> List (Option D) -> Prop) (pk : A -> S -> P) (PI : P -> List D -> Prop) (Γ' : aS S) : Prop:=∀ s σ a os,Sat Γ s σ -> oe a os -> ∃ ds σ',gL as os σ = some (ds,σ') /\ PI (pk a s) ds /\ Sat Γ' s σ'
theorem aB : rD Γ [] o0 (fun _ _=>()) Pn Γ:=fun s σ a os hs e=>by cases e; exact ⟨[],σ,rfl,rfl,hs⟩
theorem bD {A P : Type} (i : Nat) {as : List DD.Arg} {oe : A -> List (Option D) -> Prop} {pk : A -> S -> P} {PI : P -> List D -> Prop} {get : S -> α} {r r' : Rl α} [k : Sc r] [w : Wk r r'] (hi : Γ[i]? = some (some ⟨get,r⟩)) (h : rD Γ as oe pk PI Γ') : rD Γ (.bo i :: as) (oB oe) (fun a s=>(get s,pk a s)) (Pc r' PI) Γ':=fun s σ a os hs hq0=>by
 obtain ⟨o',e,ho⟩:=hq0;obtain ⟨ds,σ',h1,h2,h3⟩:=h s σ a o' hs ho;obtain ⟨d,hd,rd⟩:=hs.get hi;obtain ⟨v,hv⟩:=k.s _ _ rd;exact ⟨d :: ds,σ',by simp only [e,gL,hd,bind_some,hv,h1,map_some],⟨d,ds,rfl,w.w _ _ rd,h2⟩,h3⟩
theorem bE {A P : Type} (i : Nat) {as : List DD.Arg} {oe : A -> List (Option D) -> Prop} {pk : A -> S -> P} {PI : P -> List D -> Prop} {get : S -> α} {r r' : Rl α} [k : Ns r] [w : Wk r r'] (hi : Γ[i]? = some (some ⟨get,r⟩)) (h : rD (Γ.set i none) as oe pk PI Γ') : rD Γ (.bo i :: as) (oB oe) (fun a s=>(get s,pk a s)) (Pc r' PI) Γ':=fun s σ a os hs hq0=>by
 obtain ⟨o',e,ho⟩:=hq0;obtain ⟨d,hd,rd⟩:=hs.get hi;obtain ⟨ds,σ',h1,h2,h3⟩:=h s (σ.set i none) a o' hs.setn ho;have hv:=k.s _ _ rd;exact ⟨d :: ds,σ',by simp only [e,gL,hd,bind_some,hv,h1,map_some],⟨d,ds,rfl,w.w _ _ rd,h2⟩,h3⟩
theorem br {A P : Type} {as : List DD.Arg} {oe : A -> List (Option D) -> Prop} {pk : A -> S -> P} {PI : P -> List D -> Prop} {r r' : Rl α} [w : Wk r r'] (h : rD Γ as oe pk PI Γ') : rD Γ (.ex c :: as) (oX r oe) (fun a s=>(a.1,pk a.2 s)) (Pc r' PI) Γ':=fun s σ a os hs hq0=>by
 obtain ⟨d,o',e,rd,ho⟩:=hq0;obtain ⟨ds,σ',h1,h2,h3⟩:=h s σ a.2 o' hs ho;exact ⟨d :: ds,σ',by simp only [e,gL,h1,map_some],⟨d,ds,rfl,w.w _ _ rd,h2⟩,h3⟩
noncomputable def nI {P : Type} (Γ : aS S) (as : List DD.Arg) (PO : P -> List D -> Prop) (u : S -> P -> S) (Γ' : aS S) : Prop:=∀ s σ q ds,Sat Γ s σ -> PO q ds -> Sat Γ' (u s q) (gO as ds σ)
theorem aA : nI Γ [] Pn (fun s _=>s) Γ:=fun s σ q ds hs e=>by cases e; exact hs
theorem bC {P : Type} (i : Nat) {as : List DD.Arg} {PO : P -> List D -> Prop} {u : S -> P -> S} {r : Rl α} [k : Sc r] (h : nI Γ as PO u Γ') : nI Γ (.bo i :: as) (Pc r PO) (fun s q=>u s q.2) Γ':=fun s σ q ds hs hq0=>by
 obtain ⟨d,ds',e,rd,hp⟩:=hq0;obtain ⟨v,hv⟩:=k.s _ _ rd;simp only [e,gO,hv];exact h s σ q.2 ds' hs hp
theorem bM {P : Type} (i : Nat) {as : List DD.Arg} {PO : P -> List D -> Prop} {u : S -> P -> S} {get : S -> α} {put : S -> α -> S} {r : Rl α} [k : Ns r] (hg : autoParam (∀ s v,get (put s v) = v) hZ._auto_1) (hf : autoParam (∀ v,Fr (fun s=>put s v) (Γ.set i none)) gn._auto_1) (h : nI (Γ.set i (some ⟨get,r⟩)) as PO u Γ') : nI Γ (.bo i :: as) (Pc r PO) (fun s q=>u (put s q.1) q.2) Γ':=fun s σ q ds hs hq0=>by
 obtain ⟨d,ds',e,rd,hp⟩:=hq0;have hv:=k.s _ _ rd;simp only [e,gO,hv];exact h _ _ q.2 ds' (hs.put hg hf rd) hp
theorem qq {P : Type} (i : Nat) {as : List DD.Arg} {PO : P -> List D -> Prop} {u : S -> P -> S} {r : Rl α} (h : nI (Γ.set i none) as PO u Γ') : nI Γ (.bo i :: as) (Pc r PO) (fun s q=>u s q.2) Γ':=fun s σ q ds hs hq0=>by
 obtain ⟨d,ds',e,rd,hp⟩:=hq0;rcases hv : d.sc with _ | w
 ·simp only [e,gO,hv]
  exact h s _ q.2 ds' hs.setn hp
 ·simp only [e,gO,hv]
  exact h s σ q.2 ds' (On.setn hs) hp
theorem bq {P : Type} {as : List DD.Arg} {PO : P -> List D -> Prop} {u : S -> P -> S} {r : Rl α} (h : nI Γ as PO u Γ') : nI Γ (.ex c :: as) (Pc r PO) (fun s q=>u s q.2) Γ':=fun s σ q ds hs hq0=>by
 obtain ⟨d,ds',e,rd,hp⟩:=hq0;simp only [e,gO];exact h s σ q.2 ds' hs hp
theorem ay {A P : Type} {g : GF} {h : P -> Option (ρ × P)} {as : List DD.Arg} {f : S -> Option (A × S)} {oe : A -> List (Option D) -> Prop} {pk : A -> S -> P} {PI PO : P -> List D -> Prop} {ro : Rl ρ} {u : S -> P -> S} (hF : JF g h PI ro PO) (h1 : vO Γ as f oe Γ1) (h2 : rD Γ1 as oe pk PI Γ2) (h3 : nI Γ2 as PO u Γ3) :
  JE Γ (aR g as) (fun s=>(f s).bind fun p=>(h (pk p.1 p.2)).map fun q=>(q.1,u p.2 q.2)) ro Γ3:=fun s σ v s' hs e=>by
 revert e
 refine bJ fun a s1 e1 e=>?_
 obtain ⟨⟨w,q⟩,e2,e⟩:=mp e;obtain ⟨rfl,rfl⟩:=Prod.mk.inj e;obtain ⟨os,σ1,g1,r1,k1⟩:=h1 s σ a s1 hs e1;obtain ⟨ds,σ2,g2,r2,k2⟩:=h2 s1 σ1 a os k1 r1;obtain ⟨d,ds',g3,r3,k3⟩:=hF _ _ _ _ r2 e2;exact ⟨d,_,by simp only [aR,g1,bind_some,g2,g3,map_some],r3,h3 s1 σ2 q ds' k2 k3⟩
end
section
variable {S : Type} {α β γ δ ρ : Type} {P Q : Type}
noncomputable def vN (W : List Nat) (k : Nat) (PI : P -> List D -> Prop) (Γ : aS Q) (pr : P -> Q) : Prop:=∀ p ds,PI p ds -> Sat Γ (pr p) ((lT W k ds).map some) /\ ds.length = Γ.length
theorem bg {W : List Nat} {k : Nat} {pr : Unit -> Q} : vN W k Pn ([] : aS Q) pr:=fun p ds h=>by cases h; exact ⟨trivial,rfl⟩
theorem aw {W : List Nat} {k : Nat} {PI : P -> List D -> Prop} {Γ : aS Q} {r : Rl α} {get : Q -> α} {pr : α × P -> Q} (hk : k ∉ W) (h0 : ∀ p,get (pr p) = p.1) (h : ∀ a,vN W (k + 1) PI Γ (fun p=>pr (a,p))) : vN W k (Pc r PI) (some ⟨get,r⟩ :: Γ) pr:=fun p ds hq0=>by
 obtain ⟨d,ds',e,rd,hp⟩:=hq0;obtain ⟨h1,h2⟩:=h p.1 p.2 ds' hp;refine ⟨?_,by simp [e,h2]⟩;simp only [e,lT,hk,if_false,List.map_cons];exact ⟨⟨d,rfl,by rw [show (Sl.mk get r).get = get from rfl,h0]; exact rd⟩,h1⟩
theorem oS {W : List Nat} {k : Nat} {PI : P -> List D -> Prop} {Γ : aS Q} {r r' : Rl α} [z : Fz r r'] {get : Q -> α} {pr : α × P -> Q} (hk : k ∈ W) (h0 : ∀ p,get (pr p) = p.1) (h : ∀ a,vN W (k + 1) PI Γ (fun p=>pr (a,p))) : vN W k (Pc r PI) (some ⟨get,r'⟩ :: Γ) pr:=fun p ds hq0=>by
 obtain ⟨d,ds',e,rd,hp⟩:=hq0;obtain ⟨h1,h2⟩:=h p.1 p.2 ds' hp;refine ⟨?_,by simp [e,h2]⟩;simp only [e,lT,hk,if_true,List.map_cons];exact ⟨⟨d.fz,rfl,by rw [show (Sl.mk get r').get = get from rfl,h0]; exact z.f _ _ rd⟩,h1⟩
noncomputable def vM (W : List Nat) (k : Nat) (PI : P -> List D -> Prop) (Γr : aS S) (fin : P -> S -> P) (PO : P -> List D -> Prop) : Prop:=∀ p ds s σ,PI p ds -> Sat Γr s σ -> PO (fin p s) (gP W σ k ds)
theorem aW {W : List Nat} {k : Nat} {Γr : aS S} : vM W k Pn Γr (fun p _=>p) Pn:=fun p ds s σ h _=>by cases h; rfl
theorem ao {W : List Nat} {k : Nat} {PI PO : P -> List D -> Prop} {Γr : aS S} {fin : P -> S -> P} {r q : Rl α} {get : S -> α} (hk : k ∉ W) (hi : Γr[k]? = some (some ⟨get,q⟩)) (h : vM W (k + 1) PI Γr fin PO) : vM W k (Pc r PI) Γr (fun p s=>(get s,fin p.2 s)) (Pc q PO):=fun p ds s σ hq0 hs=>by
 obtain ⟨d,ds',e,rd,hp⟩:=hq0;obtain ⟨d',hd,rd'⟩:=hs.get hi;exact ⟨d',_,by simp only [e,gP,hk,if_false,hd,Option.getD_some],rd',h p.2 ds' s σ hp hs⟩
theorem m6 {W : List Nat} {k : Nat} {PI PO : P -> List D -> Prop} {Γr : aS S} {fin : P -> S -> P} {r r' : Rl α} [z : Fz r r'] (hk : k ∈ W) (h : vM W (k + 1) PI Γr fin PO) : vM W k (Pc r PI) Γr (fun p s=>(p.1,fin p.2 s)) (Pc r' PO):=fun p ds s σ ⟨d,ds',e,rd,hp⟩ hs =>
 ⟨d.fz,_,by simp only [e,gP,hk,if_true],z.f _ _ rd,h p.2 ds' s σ hp hs⟩
noncomputable def Fu {α : Type} : Rl α:=fun _ _=>True
theorem bQ {N : Nat} {W : List Nat} {c : DS} {Γp Γn Γr : aS S} {f : S -> Option (TR S ρ)} {init : P -> S} {fin : P -> S -> P} {PI PO : P -> List D -> Prop} {ro : Rl ρ} (hi : vN W 0 PI Γp init) (hb : JS (Γp ++ List.replicate (N - Γp.length) none) c f Γn ⟨Γr,ro,[]⟩) (ho : vM W 0 PI Γr fin PO) :
  JF (dl N W c) (fun p=>(f (init p)).bind fun t=>match t with | .rt v s=>some (v,fin p s) | _=>none) PI ro PO:=fun p ds v q hp e=>by
 revert e
 refine bK fun t e1 e=>?_
 obtain ⟨h1,h2⟩:=hi p ds hp;have hs:=h1.app (Sat.non (s:=init p) (k:=N - Γp.length) (σ:=List.replicate (N - Γp.length) none) (by simp));obtain ⟨o,ho1,ro1⟩:=hb _ _ t hs e1;cases t with
 | rt w s =>
  cases e;cases o with
  | rt d σ=>exact ⟨d,_,by simp only [dl,h2,ho1,bind_some],ro1.1,ho p ds s σ hp ro1.2⟩
  | _=>exact ro1.elim
 | _=>cases e
end
section
variable {S : Type} {α β γ δ ρ : Type} {Γ Γ0 Γ1 Γ2 Γ3 Γ4 Γ' Γn Γh : aS S} {c c' : DE} {t u : DT} {E : Ex S ρ}
theorem z9 {r : Rl α} : JP Γ (jt []) (fun _=>some []) (rL r):=fun s σ v hs e=>by
 cases e;exact ⟨.lst true [],by simp only [jt,lW,bind_some,List.length_nil,Nat.zero_le,if_true],[],rfl,.nil⟩
noncomputable def Ar (Γ : aS S) (ps : List DP) (f : S -> Option (List α)) (r : Rl α) : Prop:=∀ s σ v,Sat Γ s σ -> f s = some v -> ∃ ds,lW ps σ = some ds /\ All2 r v ds
theorem qp {r : Rl α} : Ar Γ [] (fun _=>some []) r:=fun s σ v hs e=>by cases e; exact ⟨[],rfl,.nil⟩
theorem jv {r : Rl α} {p : DP} {ps : List DP} {f : S -> Option α} {g : S -> Option (List α)} (h : JP Γ p f r) (k : Ar Γ ps g r) : Ar Γ (p :: ps) (fun s=>(f s).bind fun a=>(g s).map fun as=>a :: as) r:=fun s σ v hs e=>by
 revert e
 refine bK fun a e1 e=>?_
 obtain ⟨as,e2,e⟩:=mp e;cases e;obtain ⟨d,h1,h2⟩:=h s σ a hs e1;obtain ⟨ds,h3,h4⟩:=k s σ as hs e2;exact ⟨d :: ds,by simp only [lW,h1,h3,bind_some,map_some],.cons h2 h4⟩
theorem tq {r : Rl α} {ps : List DP} {f : S -> Option (List α)} (h : Ar Γ ps f r) : JP Γ (jt ps) (fun s=>(f s).bind fun xs=>if ej (xs.length) = true then some xs else none) (rL r):=fun s σ v hs e=>by
 revert e
 refine bK fun a e1 e=>?_
 obtain ⟨ds,h3,h4⟩:=h s σ a hs e1;split at e
 ·rename_i hl
  have hl:=jg hl;cases e;exact ⟨.lst true ds,by simp only [jt,h3,bind_some,<- h4.len,hl,if_true],ds,rfl,h4⟩
 ·cases e
noncomputable def Ln (R : Rl α) (k : Int) (π : α -> β) (up : α -> β -> α) (q : Rl β) : Prop:=∀ a d,R a d -> ∃ x,cN d [k] = some x /\ q (π a) x /\ ∀ v y,q v y -> R (up a v) (cU d [k] y)
theorem GP {r : Rl α} {q : Rl β} : Ln (am r q) 0 (fun p=>p.1) (fun p v=>(v,p.2)) r:=fun _ _ ⟨x,y,e,h1,h2⟩=>⟨x,by rw [e]; rfl,h1,fun v z hz=>⟨z,y,by rw [e]; rfl,hz,h2⟩⟩
theorem E6 {x : D} {xs : List D} {p : PyData} {ps : List PyData} (h : x.py = some p) (h' : D.pyL xs = some ps) : D.pyL (x :: xs) = some (p :: ps):=by simp only [D.pyL,h,h',bind_some,map_some]
theorem Gw {xs : List D} {ps : List PyData} (h : D.pyL xs = some ps) : (D.tup xs).py = some (.tuple ps):=by simp only [D.py,h,map_some]
theorem C4 {p : PyData} {ps : List PyData} (h : p.canLay0 = true) (h' : PyData.canLayAll0 ps = true) : PyData.canLayAll0 (p :: ps) = true:=by simp only [PyData.canLayAll0,h,h',Bool.and_self]
theorem layT {ps : List PyData} (h : PyData.canLayAll0 ps = true) : (PyData.tuple ps).canLay0 = true:=by simp only [PyData.canLay0,h]
theorem Fa {p : PyData} {ps : List PyData} {k : Nat} (h : p.depth <= k) (h' : PyData.depthAll ps <= k) : PyData.depthAll (p :: ps) <= k:=by simp only [PyData.depthAll]; omega
theorem GH {k : Nat} : PyData.depthAll [] <= k:=by simp only [PyData.depthAll]; omega
theorem GG {ps : List PyData} {k : Nat} (h : PyData.depthAll ps <= k) : (PyData.tuple ps).depth <= k + 1:=by simp only [PyData.depth]; omega
instance {r : Rl α} {q : Rl β} [k : Py r] [l : Py q] : Py (am r q):=⟨fun p=>.tuple [Py.pe r p.1,Py.pe q p.2],fun p=>Py.ok r p.1 && Py.ok q p.2,max (Py.k r) (Py.k q) + 1,
 fun a d hq0=>by obtain ⟨x,y,e,h1,h2⟩:=hq0; rw [e]; exact Gw (E6 (k.py _ _ h1) (E6 (l.py _ _ h2) rfl)),fun a h=>by
  simp only [Bool.and_eq_true] at h;exact layT (C4 (k.lay _ h.1) (C4 (l.lay _ h.2) rfl)),fun a h=>by
  simp only [Bool.and_eq_true] at h;exact GG (Fa (Nat.le_trans (k.dep a.1 h.1) (Nat.le_max_left _ _)) (Fa (Nat.le_trans (l.dep a.2 h.2) (Nat.le_max_right _ _)) GH))⟩
end
section
variable {S : Type} {α β γ δ ρ : Type} {Γ Γ0 Γ1 Γ2 Γ3 Γ4 Γ' Γn Γh : aS S} {c c' : DE} {t u : DT} {E : Ex S ρ} {P : Type}
end
section
variable {S : Type} {α β γ δ ρ : Type} {Γ Γ0 Γ1 Γ2 Γ3 Γ4 Γ' Γn Γh : aS S} {c c' : DE} {t u : DT} {E : Ex S ρ} {P : Type}
theorem xS {p : DP} {f : S -> Option Int} (h : JP Γ p f rI) : JP Γ (qg p) (fun s=>(f s).map fun a=>Builtin.bitNot a) rI:=fun s σ v hs e=>by
 obtain ⟨a,e1,e2⟩:=mp e;obtain ⟨x,hx,rx⟩:=h s σ a hs e1;cases rx; cases e2;exact ⟨_,by simp only [qg,hx,bind_some,wA],rfl⟩
end
section
variable {S : Type} {α β γ δ ρ : Type} {Γ Γ0 Γ1 Γ2 Γ3 Γ4 Γ' Γn Γh : aS S} {c c' : DE} {t u : DT} {E : Ex S ρ} {P : Type}
theorem Du : ∀ {as : List Bool} {ds : List D},All2 rB as ds -> lE ds = some as:=by
 intro as ds h
 induction h with
 | nil=>rfl
 | cons h t ih=>cases h; simp only [lE,ih,map_some]
theorem tx {rl : Rl (List α)} {r : Rl α} [l : Ls rl r] [k : Sc r] {p : DP} {f : S -> Option (List α)} (h : JP Γ p f rl) : JE Γ (kK p) (fun s=>(f s).map fun xs=>(xs,s)) (rL r) Γ:=fun s σ v s' hs e=>by
 obtain ⟨a,e1,e2⟩:=mp e;cases e2;obtain ⟨d,hd,rd⟩:=h s σ v hs e1;obtain ⟨o,ds,rfl,hh⟩:=l.l v d rd;exact ⟨.lst true ds,σ,by simp only [kK,hd,bind_some,hh.sc,if_true],⟨ds,rfl,hh⟩,hs⟩
end
end TT
namespace TT
open PySem DD
variable {S α β γ : Type} {Γ Γ1 Γ2 Γ' : aS S}
theorem yz {r : Rl α} {q : Rl β} [Py r] [Py q] {f : α -> β -> Bool} [k : EqR r q f] {b : β} : ∀ {as : List α},(as.map (Py.pe r)).any (fun z=>PyData.eqv z (Py.pe q b)) = as.any fun a=>f a b
 | []=>rfl
 | a :: as=>by rw [List.map_cons,List.any_cons,List.any_cons,yz,k.eqv]
noncomputable def yd (ok : α -> Bool) (f : α -> Bool) (xs : List α) : Option Bool:=if xs.all ok = true then some (xs.any f) else none
theorem EG {rl : Rl (List α)} {r : Rl α} {q : Rl β} [l : Ls rl r] [kr : Py r] [kq : Py q] {f : α -> β -> Bool} [k : EqR r q f] {b : β} {xs : List α} {t : Bool} {x y : D} (e : yd (fun a=>Py.ok r a && Py.ok q b && decide (min (Py.k r) (Py.k q) <= 50)) (fun a=>f a b) xs = some t)
  (h1 : q b x) (h2 : rl xs y) : vg x y = some t:=by
 unfold yd at e;split at e
 ·rename_i h
  cases e;obtain ⟨o,ds,rfl,h3⟩:=l.l xs y h2;have hp:=xm h3;have hall : ((xs.map (Py.pe r)).all fun z=>ll z (Py.pe q b)) = true:=by
   rw [List.all_map];rw [List.all_eq_true] at h ⊢;intro z hz;exact v3 (h z hz)
  simp only [vg,D.py,hp,map_some,bind_some,kq.py _ _ h1,hall,if_true,yz]
 ·cases e
theorem wq {rl : Rl (List α)} {r : Rl α} {q : Rl β} [l : Ls rl r] [kr : Py r] [kq : Py q] {f : α -> β -> Bool} [k : EqR r q f] : JO vj (fun (b : β) (xs : List α)=>yd (fun a=>Py.ok r a && Py.ok q b && decide (min (Py.k r) (Py.k q) <= 50)) (fun a=>f a b) xs) q rl rB:=fun a b c x y e h1 h2 =>
 ⟨_,by simp only [vj,EG (rl:=rl) (r:=r) (q:=q) e h1 h2,map_some],rfl⟩
section
variable {c c' : DE} {t u : DT} {Γh : aS S} {α β : Type}
theorem De {rl : Rl (List α)} {r : Rl α} [l : Ls rl r] [k : Sc r] {p : DP} {f : S -> Option (List α)} {pl ph : Option DP} {gl gh : S -> Option (Option Int)} (h1 : JP Γ p f rl) (h2 : vL Γ pl gl) (h3 : vL Γ ph gh) :
  JE Γ (tT p pl ph) (fun s=>(f s).bind fun xs=>(gl s).bind fun lo=>(gh s).map fun hi=>(bY xs lo hi,s)) (rL r) Γ:=fun s σ v s' hs e=>by
 revert e
 refine bK fun a e1 e=>?_
 revert e
 refine bK fun lo e2 e=>?_
 obtain ⟨hi,e3,e⟩:=mp e;cases e;obtain ⟨x,hx,rx⟩:=h1 s σ a hs e1;obtain ⟨o,ds,rfl,h⟩:=l.l a x rx;exact ⟨_,σ,by simp only [tT,hx,bind_some,h.sc,if_true,h2 s σ lo hs e2,h3 s σ hi hs e3,map_some],⟨_,rfl,h.cut lo hi⟩,hs⟩
end
end TT
namespace TT
open PySem DD L2
variable {S α β γ : Type} {Γ Γ1 Γ2 Γ' : aS S} {c c' : DE} {t u : DT}
noncomputable def pf : Nat -> List α -> List (Int × α)
 | _,[]=>[]
 | n,x :: xs=>((n : Int),x) :: pf (n + 1) xs
theorem vk : ∀ (xs : List α) (n : Nat),(pf n xs).length = xs.length
 | [],_=>rfl
 | _ :: xs,n=>by simp [pf,vk xs]
theorem vF {r : Rl α} : ∀ {xs : List α} {ds : List D} (n : Nat),All2 r xs ds -> All2 (am rI r) (pf n xs) (nC n ds)
 | _,_,n,.nil=>.nil
 | _,_,n,.cons h t=>.cons ⟨_,_,rfl,rfl,h⟩ (vF (n + 1) t)
theorem EC (n0 : Nat) {rl : Rl (List α)} {r r' : Rl α} [l : Ls rl r] [k : Fz r r'] {f : S -> Option (List α × S)} (h1 : JE Γ c f rl Γ1) : JI Γ (tL n0 c) (fun s=>(f s).map fun p=>(pf n0 p.1,p.2)) (am rI r') Γ1:=fun s σ v s' hs e=>by
 obtain ⟨⟨a,s1⟩,e1,e⟩:=mp e;cases e;obtain ⟨x,σ1,hx,rx,k1⟩:=h1 s σ a s1 hs e1;obtain ⟨o,ds,rfl,h⟩:=l.l a x rx;exact ⟨_,σ1,by simp only [tL,hx,bind_some],vF n0 (h.fz k.f),k1⟩
variable {S α β γ : Type} {Γ Γ1 : aS S} {c : DE}
end TT
namespace TT
open PySem L2 DD
section
variable {S : Type} {α β γ δ ρ : Type} {Γ Γ0 Γ1 Γ2 Γ3 Γ4 Γ' Γn Γh : aS S} {c c' : DE} {t u : DT} {E : Ex S ρ} {P : Type}
theorem xZ {r : Rl (List Bool)} [l : Ls r rB] : uk og (fun xs : List Bool=>some (xs.any id)) r rB:=by
 intro a c x e h;obtain ⟨o,ds,e1,hh⟩:=l.l a x h;subst e1;cases e;exact ⟨_,by simp only [og,Du hh,map_some],rfl⟩
theorem u9 {r : Rl α} [k : Sc r] {p q : DP} {f g : S -> Option (List α)} (h1 : JP Γ p f (rL r)) (h2 : JP Γ q g (rL r)) : JE Γ (nn p q) (fun s=>(f s).bind fun a=>(g s).bind fun b=>if ej (a.length + b.length) = true then some (a ++ b,s) else none) (rL r) Γ:=by
 intro s σ v s' hs e
 revert e
 refine bK fun a e1 e=>?_
 revert e
 refine bK fun b e2 e=>?_
 split at e
 ·rename_i hl
  have hl:=jg hl;cases e;obtain ⟨x,hx,xs,ex,rx⟩:=h1 s σ a hs e1;obtain ⟨y,hy,ys,ey,ry⟩:=h2 s σ b hs e2;subst ex; subst ey;exact ⟨_,σ,by simp only [nn,hx,hy,bind_some,rx.sc,ry.sc,<- rx.len,<- ry.len,hl,decide_true,Bool.and_self,if_true],⟨_,rfl,rx.append ry⟩,hs⟩
 ·cases e
noncomputable def su (j : Int) : Bool:=decide (0 <= j /\ j <= 1000)
noncomputable def two (j : Int) : List Int:=(List.range ((j.toNat + 1) / 2)).map fun (k : Nat)=>0 + (k : Int) * 2
theorem oT {f : S -> Option (Int × S)} (h : JE Γ c f rI Γ1) : JI Γ (lx (ar (dS (pC (.int 0))) (ar c (ar (dS (pC (.int 2))) aX)))) (fun s=>(f s).bind fun p=>if su p.1 = true then some (two p.1,p.2) else none) rI Γ1:=by
 intro s σ v s' hs e
 revert e
 refine bJ fun a s1 e1 e=>?_
 dsimp only at e;split at e
 ·rename_i hl
  cases e;obtain ⟨d,σ1,h1,h2,h3⟩:=h s σ a _ hs e1;cases h2;have hl2:=of_decide_eq_true hl;refine ⟨sr a.toNat,σ1,?_,?_,h3⟩
  ·simp only [lx,ar,aX,dS,pC,D.sc,h1,bind_some,map_some]
   exact if_pos (by simpa using hl2)
  ·exact All2.ofMap (r:=rI) (f:=fun (k : Nat)=>0 + (k : Int) * 2) (g:=fun (k : Nat)=>D.int (0 + (k : Int) * 2)) (fun _=>rfl) _
 ·cases e
theorem zr {f : S -> Option (Int × S)} (h : JE Γ c f rI Γ1) : JE Γ (mD (ar (dS (pC (.int 0))) (ar c (ar (dS (pC (.int 2))) aX)))) (fun s=>(f s).bind fun p=>if su p.1 = true then some (two p.1,p.2) else none) (rL rI) Γ1:=by
 intro s σ v s' hs e
 revert e
 refine bJ fun a s1 e1 e=>?_
 dsimp only at e;split at e
 ·rename_i hl
  cases e;obtain ⟨d,σ1,h1,h2,h3⟩:=h s σ a _ hs e1;cases h2;have hl2:=of_decide_eq_true hl;refine ⟨.lst true ((List.range' 0 ((a.toNat + 1) / 2)).map fun (q : Nat)=>D.int (0 + (q : Int) * 2)),σ1,?_,⟨_,rfl,?_⟩,h3⟩
  ·simp only [mD,ar,aX,dS,pC,D.sc,h1,bind_some,map_some]
   exact if_pos (by simpa using hl2)
  ·unfold two
   rw [<- List.range_eq_range'];exact All2.ofMap (r:=rI) (f:=fun (k : Nat)=>0 + (k : Int) * 2) (g:=fun (k : Nat)=>D.int (0 + (k : Int) * 2)) (fun _=>rfl) _
 ·cases e
theorem Bx {i : Nat} {get : S -> List α} {r : Rl α} {a b : DS} {f : S -> Option (TR S ρ)} (hi : Γ[i]? = some (some ⟨get,rL r⟩)) (h : JS Γ a f Γn E) : JS Γ (sC (v7 i) a b) f Γn E:=by
 intro s σ v hs e;obtain ⟨d,hd,ds,rfl,h2⟩:=hs.get hi;obtain ⟨o,ho,k⟩:=h s σ v hs e;exact ⟨o,by simp only [sC,v7,hd,if_true,ho],k⟩
noncomputable def fQ (fb : α -> S -> Option (TR S ρ)) : List α -> S -> Option (TR S ρ)
 | [],s=>some (.nx s)
 | x :: xs,s=>(fb x s).bind fun o=>match o with
  | .nx s2=>fQ fb xs s2
  | .ct s2=>fQ fb xs s2
  | .bk s2=>some (.nx s2)
  | .rt d s2=>some (.rt d s2)
noncomputable def TR.upd (f : S -> S) : TR S ρ -> TR S ρ
 | .nx s=>.nx (f s)
 | .bk s=>.bk (f s)
 | .ct s=>.ct (f s)
 | .rt d s=>.rt d (f s)
theorem sg {x : Nat} {v : α} {r : Rl α} [k : Sc r] {Γ : aS S} {s : S} {σ : aP} (hx : x < Γ.length) (q : Sat (Γ.set x (some ⟨fun _=>v,r⟩)) s σ) : ∃ d,dR x σ = (d,σ) /\ r v d /\ Sat (Γ.set x none) s σ:=by
 obtain ⟨d,hd,rd⟩:=q.get (i:=x) (l:=Sl.mk (fun _=>v) r) (by rw [List.getElem?_set_self hx]);obtain ⟨w,hw⟩:=k.s _ _ rd;have q0:=On.setn (i:=x) q;rw [List.set_set] at q0;exact ⟨d,by simp only [dR,hd,hw],rd,q0⟩
theorem ET {x : Nat} {r : Rl α} [k : Sc r] {b : DS} {fb : α -> S -> Option (TR S ρ)} {Γb : α -> aS S} {Γr : aS S} {ro : Rl ρ} {lp : aS S} (hx : x < Γh.length) (hxr : x < Γr.length) (hn : Γh.set x none = Γh) (hr : Γr.set x none = Γr)
  (hb : ∀ v,JS (Γh.set x (some ⟨fun _=>v,r⟩)) b (fb v) (Γb v) ⟨Γr.set x (some ⟨fun _=>v,r⟩),ro,Γh.set x (some ⟨fun _=>v,r⟩)⟩) (lb : ∀ v,Le (Γb v) (Γh.set x (some ⟨fun _=>v,r⟩))) :
  ∀ {xs : List α} {ds : List D},All2 r xs ds -> ∀ {s : S} {σ : aP} {t : TR S ρ},Sat Γh s σ -> fQ fb xs s = some t -> ∃ o zs,eW x b ds σ = some (o,zs) /\ All2 r xs zs /\ Rs Γh ⟨Γr,ro,lp⟩ t o:=by
 intro xs ds h
 induction h with
 | nil=>intro s σ t hs e; cases e; exact ⟨_,[],rfl,.nil,hs⟩
 | cons h1 h2 ih =>
  intro s σ t hs e;rename_i a d0 as ds0;simp only [fQ] at e
  revert e
  refine bK fun o e1 e=>?_
  have k1:=hs.set (i:=x) (l:=some (Sl.mk (fun _=>a) r)) (o:=some d0) ⟨d0,rfl,h1⟩;obtain ⟨o',b1,r1⟩:=hb a s _ o k1 e1;cases o with
  | nx s2 =>
   cases o' with
   | nx σ2 =>
    obtain ⟨d,g1,rd,q⟩:=sg hx ((lb a).sat r1);rw [hn] at q;obtain ⟨o2,zs,c1,c2,c3⟩:=ih q e;exact ⟨o2,d :: zs,by simp only [eW,b1,bind_some,g1,c1,map_some],.cons rd c2,c3⟩
   | _=>exact r1.elim
  | ct s2 =>
   cases o' with
   | ct σ2 =>
    obtain ⟨d,g1,rd,q⟩:=sg hx r1;rw [hn] at q;obtain ⟨o2,zs,c1,c2,c3⟩:=ih q e;exact ⟨o2,d :: zs,by simp only [eW,b1,bind_some,g1,c1,map_some],.cons rd c2,c3⟩
   | _=>exact r1.elim
  | bk s2 =>
   cases e;cases o' with
   | bk σ2 =>
    obtain ⟨d,g1,rd,q⟩:=sg hx r1;rw [hn] at q;exact ⟨.nx σ2,d :: ds0,by simp only [eW,b1,bind_some,g1],.cons rd h2,q⟩
   | _=>exact r1.elim
  | rt v s2 =>
   cases e;cases o' with
   | rt d' σ2 =>
    obtain ⟨hro,hq⟩:=r1;obtain ⟨d,g1,rd,q⟩:=sg hxr hq;rw [hr] at q;exact ⟨.rt d' σ2,d :: ds0,by simp only [eW,b1,bind_some,g1],.cons rd h2,hro,q⟩
   | _=>exact r1.elim
end
section
variable {S : Type} {α β γ δ ρ : Type} {Γ Γ0 Γ1 Γ2 Γ3 Γ4 Γ' Γn Γh : aS S} {c c' : DE} {t u : DT} {E : Ex S ρ} {P : Type}
end
section
variable {S : Type} {α β γ δ ρ : Type} {Γ Γ0 Γ1 Γ2 Γ3 Γ4 Γ' Γn Γh : aS S} {c c' : DE} {t u : DT} {E : Ex S ρ} {P : Type}
instance {α' β' : Type} {r : Rl α} {q : Rl β} {r' : Rl α'} {q' : Rl β'} [Py r] [Py q] [Py r'] [Py q'] {f : α -> α' -> Bool} {g : β -> β' -> Bool} [k : EqR r r' f] [l : EqR q q' g] : EqR (am r q) (am r' q') (fun a b=>f a.1 b.1 && g a.2 b.2):=⟨fun a b=>by
 simp only [Py.pe,PyData.eqv,PyData.eqvAll,k.eqv,l.eqv,Bool.and_true]⟩
theorem BA (i : Nat) {get : S -> List α} {put : S -> List α -> S} {rl ra : Rl (List α)} {q r r' : Rl α} [l : Ls rl q] [l2 : Ls ra r] [k : Fz r r'] {f : S -> Option (List α × S)} (h : JE Γ c f ra Γ1) (h0 : Γ[i]? = some (some ⟨get,rl⟩)) (hi : Γ1[i]? = some (some ⟨get,rL r'⟩)) (hg : autoParam (∀ s v,get (put s v) = v) hZ._auto_1) (hf : autoParam (∀ v,Fr (fun s=>put s v) (Γ1.set i none)) gn._auto_1) :
  JE Γ (pi i c) (fun s=>(f s).bind fun p=>if ej ((get p.2).length + p.1.length) = true then some ((),put p.2 (get p.2 ++ p.1)) else none) rN (Γ1.set i (some ⟨get,rL r'⟩)):=by
 intro s σ v s' hs e
 revert e
 refine bJ fun a s1 e1 e=>?_
 dsimp only at e;split at e
 ·rename_i hl
  have hl:=jg hl;cases e;obtain ⟨x,σ1,hx,hrx,k1⟩:=h s σ a s1 hs e1;obtain ⟨o,xs,ex,rx⟩:=l2.l _ _ hrx;subst ex;obtain ⟨d0,hd0,h00⟩:=hs.get h0;obtain ⟨o0,ds0,e0,_⟩:=l.l _ _ h00;subst e0;obtain ⟨d,hd,ds,ed,h2⟩:=k1.get hi;subst ed;exact ⟨.non,_,by simp only [pi,hd0,hx,bind_some,hd,<- h2.len,<- rx.len,hl,if_true],rfl,k1.put hg hf ⟨_,rfl,h2.append (rx.fz k.f)⟩⟩
 ·cases e
end
end TT
namespace L2
open PySem PySem.Spec PyProof.Rows
section
variable {X : Cx}
noncomputable def Ec : V -> List V -> Hp -> VK -> Prop:=fun x vs H Q=>∃ i,x = .int i /\ vs = [] /\ Q (.int ((Builtin.Int.intBits i : Nat) : Int)) H
theorem Bj : DJ X "int.bit_length" Ec:=by
 intro aa s σ H x vs v us Q I rx rv h;obtain ⟨i,ex,ev,q⟩:=h;subst ex; subst ev;obtain ⟨t,rfl⟩:=rx;cases rv;exact call_int_bit_length ⟨.int _,H,I.tok _,⟨_,rfl⟩,q⟩
end
end L2
namespace DD
open PySem PySem.Spec PyProof.Rows L2
noncomputable def si : D -> Option D
 | .int i=>some (.int ((Builtin.Int.intBits i : Nat) : Int))
 | _=>none
theorem wB {x d : D} (h : si x = some d) : ∃ i,x = .int i /\ d = .int ((Builtin.Int.intBits i : Nat) : Int):=by
 cases x <;> simp only [si] at h <;> cases h;exact ⟨_,rfl,rfl⟩
noncomputable def oI (p : DP) : DP:=fun σ=>(p σ).bind si
section
variable {X : Cx} {a : Expr} {p : DP} {apos cpos : Pos}
theorem AX (ha : QB X a p) (hbase : autoParam (attributeBase a "bit_length" X.env (eval a X.env) = eval a X.env) aI._auto_1) (hline : autoParam ((apos.endLine == cpos.line) = true) aI._auto_1) : QB X (.Call (.Attribute a "bit_length" apos) [] [] cpos) (oI p) :=
 bc (xA PySem.F.plainAttrs_int PySem.F.slot_int_bit_length PySem.F.type_int_bit_length Bj ha hbase hline) fun σ H Q hq0=>by
  obtain ⟨F,R,σD,d,r,ec,k⟩:=hq0;unfold oI at ec
  revert ec
  refine bK fun x h1 ec=>?_
  obtain ⟨i,rfl,rfl⟩:=wB ec;refine ⟨F,R,σD,_,r,h1,fun F1 H1 v g1 b1=>?_⟩;have hv:=b1.int;subst hv;exact ⟨rfl,i,rfl,rfl,k F1 H1 _ g1 ⟨[],Ow.of_sc rfl⟩⟩
end
end DD
namespace TT
open PySem L2 DD
section
variable {S : Type} {Γ : aS S}
theorem Bz {p : DP} {f : S -> Option Int} (h : JP Γ p f rI) : JP Γ (oI p) (fun s=>(f s).map fun a=>((Builtin.Int.intBits a : Nat) : Int)) rI:=by
 intro s σ v hs e;obtain ⟨a,e1,e⟩:=mp e;subst e;obtain ⟨d,hd,rd⟩:=h s σ a hs e1;cases rd;exact ⟨_,by simp only [oI,hd,bind_some,si],rfl⟩
end
end TT
namespace DD
open PySem PySem.Spec PyProof.Rows L2
section
variable {X : Cx} {b : Expr} {c : DE} {pos npos : Pos}
end
end DD
namespace TT
open PySem DD L2
variable {S α β γ : Type} {Γ Γ1 : aS S} {c : DE}
end TT
namespace PySem.AutoSeq1
theorem BW (l : Addr) (items : Array Value) (n : Nat) (sl1 : Array (Option Value)) (b : Addr) (items2 : Array Value) (n2 : Nat) (sl : Array (Option Value)) (hs2 : items.size + items2.size <= sizeLine) :
  Meets (Builtin.«list.__add__» ⟨[.ref l,.ref b],[]⟩) (fun _ R s=>s.heap.get? l = some { cls:=.type "list",dict:=none,data:=.seq items n,slots:=sl1 } /\ s.heap.get? b = some { cls:=.type "list",dict:=none,data:=.seq items2 n2,slots:=sl } /\ R (.ok (.ret (Value.ref s.heap.objs.size))) { s with heap:=s.heap.push { cls:=.type "list",data:=.seq (items ++ items2) },toks:=s.toks }) :=
 .of_wp fun prog w A R s h=>by
  obtain ⟨hp,g,d,tk,os⟩:=s; obtain ⟨hl,hb,h⟩:=h; have f1:=idx_int; have f2:=sub_tuple_tuple; have f3:=sub_list_list; have f4:=sub_tuple_list; have f5:=sub_list_tuple;have hz' : (items ++ items2).size <= sizeLine + 1:=by rw [Array.size_append]; omega
  have hlong : Builtin.List.listTooLong (items.size + items2.size) = false:=L2.notLongL hs2
  wp_walk using wpAny_loadPart' hl,wpAny_loadPart' hb
  all_goals first | exact ⟨_,rfl,h⟩ | skip
end PySem.AutoSeq1
namespace L2
open PySem PySem.Spec PyProof.Rows
section
variable {X : Cx}
noncomputable def Ea (K : PySem.W.Frag) : R2:=fun x y H Q=>∃ l b xs zs,x = .ref l /\ y = .ref b /\ dJ K H l xs /\ dJ K H b zs /\ xs.length + zs.length <= sizeLine /\ ∀ p,H p = none -> Q (.ref p) (upd H p (.lst (xs ++ zs)))
theorem Be : fk X (binaryOp .Add) (Ea X.K):=by
 intro aa s σ H x y v u Q I rx ry h;obtain ⟨l,b,xs,zs,rfl,rfl,hH,hB,hz,q⟩:=h;cases rx;cases ry;obtain ⟨its,r,⟨o1,n1,e1,c1,d1,s1⟩,_⟩:=I.list hH;obtain ⟨its2,r2,⟨o2,n2,e2,c2,d2,s2⟩,_⟩:=I.list hB;obtain ⟨oc,od,odt,osl⟩:=o1;obtain ⟨pc,pd,pdt,psl⟩:=o2;dsimp only at c1 d1 s1 c2 d2 s2;subst c1; subst d1; subst s1; subst c2; subst d2; subst s2;have hl1:=r.length;have hl2:=r2.length;have hsz : its.toArray.size + its2.toArray.size <= sizeLine:=by rw [List.size_toArray,List.size_toArray]; omega
 refine wpAny_binaryOp_concat (T:="list") (id:="list.__add__") ⟨_,e1,rfl⟩ ⟨_,e2,rfl⟩ noFill_list_add (by rfl) ?_;refine call_meets F.slot_list_add ⟨_,e1,rfl⟩ F.entry_list_add (F.args_list_add_2 _ _) (PySem.AutoSeq1.BW l its.toArray n1 osl b its2.toArray n2 psl hsz) ⟨e1,e2,?_⟩;have ea : its.toArray ++ its2.toArray = (its ++ its2).toArray:=by simp
 rw [ea];exact ⟨.ref _,_,I.lnew (t':=s.toks) (r.append r2) (by rw [List.length_append]; omega),rfl,q _ I.fresh⟩
end
end L2
namespace DD
open PySem PySem.Spec PyProof.Rows L2
noncomputable def nk (c c' : DE) : DE:=fun σ=>(c σ).bind fun p=>(c' p.2).bind fun q=>match p.1,q.1 with
 | .lst _ xs,.lst _ ys=>if xs.length + ys.length <= sizeLine then some (.lst true (D.fzL xs ++ D.fzL ys),q.2) else none
 | _,_=>none
section
variable {X : Cx} {a b : Expr} {c c' : DE} {pos : Pos}
theorem uO (ha : QE X a c) (hb : QE X b c') : QE X (.BinOp a .Add b pos) (nk c c'):=bc (oH Be ha hb) fun σ H Q hq0=>by
 obtain ⟨F,R,σD,d,σD',r,ec,k⟩:=hq0;unfold nk at ec
 revert ec
 refine bJ fun x σ1 h1 ec=>?_
 try dsimp only at ec
 revert ec
 refine bJ fun y σ2 h2 ec=>?_
 try dsimp only at ec
 split at ec
 ·rename_i o1 xs o2 ys
  split at ec
  ·rename_i hz
   cases ec;refine ⟨F,R,σD,_,σ1,r,h1,fun F1 H1 v x1 r1=>?_⟩;refine ⟨F1,_,σ1,_,_,r1,h2,fun F2 H2 u x2 r2=>?_⟩;obtain ⟨F3,x3,r3,of3⟩:=r2.freeze;obtain ⟨F4,x4,r4,of4⟩:=r3.pop.freeze;have of3':=of3.mono x4 (fun a ha=>by cases ha);simp only [D.fz,Ow] at of3' of4;obtain ⟨l2,ws,rfl,fl2,ol2,_⟩:=of3';obtain ⟨l1,us,rfl,fl1,ol1,_⟩:=of4;have hl1:=ol1.length;have hl2:=ol2.length;have hf1:=qw xs;have hf2:=qw ys;refine ⟨l1,l2,us,ws,rfl,rfl,fl1.sq,fl2.sq,by omega,fun p hp=>?_⟩;have oc : OwL X.K F4 H2 (D.fzL xs ++ D.fzL ys) (us ++ ws) []:=OwL.app ol1 ol2;obtain ⟨r5,x5⟩:=(Rel.pushL oc r4.pop).layL oc.length.symm hp;exact k F4 _ _ ((x1.trans x2).trans ((x3.trans x4).trans x5)) r5
  ·cases ec
 ·cases ec
end
end DD
namespace TT
open PySem L2 DD
section
variable {S : Type} {α β γ δ ρ : Type} {Γ Γ0 Γ1 Γ2 Γ3 Γ4 Γ' Γn Γh : aS S} {c c' : DE}
theorem u8 {rl rl' : Rl (List α)} {r r' r1 : Rl α} [l : Ls rl r] [k : Fz r r'] [l1 : Ls rl' r1] [k1 : Fz r1 r'] {f g : S -> Option (List α × S)} (h : JE Γ c f rl Γ1) (h' : JE Γ1 c' g rl' Γ2) :
  JE Γ (nk c c') (fun s=>(f s).bind fun p=>(g p.2).bind fun q=>if ej (p.1.length + q.1.length) = true then some (p.1 ++ q.1,q.2) else none) (rL r') Γ2:=fun s σ v s' hs e=>by
 revert e
 refine bJ fun a s1 e1 e=>?_
 revert e
 refine bJ fun b s2 e2 e=>?_
 dsimp only at e;split at e
 ·rename_i hz
  cases e;obtain ⟨d,σ1,h1,h2,h3⟩:=h s σ a s1 hs e1;obtain ⟨d',σ2,h4,h5,h6⟩:=h' s1 σ1 b _ h3 e2;obtain ⟨o,ds,rfl,ha⟩:=l.l a d h2;obtain ⟨o',ds',rfl,ha'⟩:=l1.l b d' h5;have hz':=jg hz;have q1:=ha.len;have q2:=ha'.len;refine ⟨_,σ2,?_,⟨_,rfl,(ha.fz k.f).append (ha'.fz k1.f)⟩,h6⟩;simp only [nk,h1,bind_some,h4];rw [if_pos oM]
 ·cases e
end
section
variable {S : Type} {α β γ δ ρ : Type} {Γ Γ0 Γ1 Γ2 Γ3 Γ4 Γ' Γn Γh : aS S} {c c' : DE} {E : Ex S ρ}
theorem zo (i x : Nat) {get : S -> List α} {put : S -> List α -> S} {r : Rl α} [k : Sc r] {b : DS} {fb : α -> S -> Option (TR S ρ)} {Γb : α -> aS S} (hi : Γ[i]? = some (some ⟨get,rL r⟩))
  (hb : ∀ v rt,JS ((Γ.set i none).set x (some ⟨fun _=>v,r⟩)) b (fb v) (Γb v) ⟨rt,E.ro,(Γ.set i none).set x (some ⟨fun _=>v,r⟩)⟩)
  (lb : autoParam (∀ v,Le (Γb v) ((Γ.set i none).set x (some ⟨fun _=>v,r⟩))) Ga._auto_1)
  (hx : x < Γ.length) (hn : autoParam ((Γ.set i none).set x none = Γ.set i none) aI._auto_1)
  (hg : autoParam (∀ s v,get (put s v) = v) hZ._auto_1) (hf : autoParam (∀ v,Fr (fun s=>put s v) (Γ.set i none)) gn._auto_1) :
  JS Γ (oA i x b) (fun s=>(fQ fb (get s) s).map fun t=>t.upd fun s2=>put s2 (get s)) Γ E:=by
 intro s σ v hs e;obtain ⟨t,e1,e2⟩:=mp e;subst e2;obtain ⟨d,hd,ds,rfl,h2⟩:=hs.get hi;have h0 : Sat (Γ.set i none) s (σ.set i none):=hs.setn;have hrep : ∀ n,(List.replicate n (none : Option (Sl S))).set x none = List.replicate n none:=fun n=>by
  apply List.ext_getElem?;intro j;rw [List.getElem?_set];simp only [List.length_replicate,List.getElem?_replicate];split
  ·split <;> simp_all
  ·rfl
 have go : ∀ n,x < n -> ∃ o zs,eW x b ds (σ.set i none) = some (o,zs) /\ All2 r (get s) zs /\ Rs (Γ.set i none) ⟨List.replicate n none,E.ro,E.lp⟩ t o:=fun n hnx =>
  ET (lp:=E.lp) (by simpa using hx) (by simpa using hnx) hn (hrep n) (fun v=>hb v _) lb h2 h0 e1
 obtain ⟨o,zs,c1,c2,c3⟩:=go (x + 1) oM;obtain ⟨o',zs',c1',_,c3'⟩:=go (x + 2) oM;rw [c1] at c1';cases c1';have hG : Γ.set i (some ⟨get,rL r⟩) = Γ:=by
  obtain ⟨hlt,he⟩:=List.getElem?_eq_some_iff.mp hi;rw [<- he,List.set_getElem_self hlt]
 refine ⟨o.upd fun σ2=>σ2.set i (some (.lst true zs)),?_,?_⟩
 ·simp only [oA,hd,show x < σ.length by rw [hs.len]; exact hx,if_true,c1,map_some]
 ·cases t with
  | nx s2 =>
   cases o with
   | nx σ2 =>
    have q:=Sat.put (i:=i) (get:=get) (put:=put) (r:=rL r) (v:=get s) (d:=.lst true zs) c3 hg (by rw [List.set_set]; exact hf) ⟨zs,rfl,c2⟩;rw [List.set_set,hG] at q;exact q
   | _=>exact c3.elim
  | rt w s2 =>
   cases o with
   | rt d' σ2 =>
    have l1:=c3.2.len;have l2:=c3'.2.len;simp only [List.length_replicate] at l1 l2;omega
   | _=>exact c3.elim
  | bk s2 =>
   exfalso;have : ∀ (xs : List α) (s : S),fQ fb xs s ≠ some (.bk s2):=by
    intro xs
    induction xs with
    | nil=>intro s e; cases e
    | cons a as ih =>
     intro s e;simp only [fQ] at e
     revert e
     refine bK fun o e1 e=>?_
     cases o with
     | nx s3=>exact ih s3 e
     | ct s3=>exact ih s3 e
     | bk s3=>cases e
     | rt w s3=>cases e
   exact this _ _ e1
  | ct s2 =>
   exfalso;have : ∀ (xs : List α) (s : S),fQ fb xs s ≠ some (.ct s2):=by
    intro xs
    induction xs with
    | nil=>intro s e; cases e
    | cons a as ih =>
     intro s e;simp only [fQ] at e
     revert e
     refine bK fun o e1 e=>?_
     cases o with
     | nx s3=>exact ih s3 e
     | ct s3=>exact ih s3 e
     | bk s3=>cases e
     | rt w s3=>cases e
   exact this _ _ e1
end
section
variable {S α β ρ : Type}
theorem Br {put : S -> α -> S} {b : S -> Option (TR S ρ)} {I : Nat -> S -> Prop} {n : Nat} : ∀ {xs : List α} {s : S},(∀ k s x,xs[k]? = some x -> I (n + k) s -> ∃ s',b (put s x) = some (.nx s') /\ I (n + k + 1) s') -> I n s -> ∃ s',dI put b xs s = some (.nx s') /\ I (n + xs.length) s':=by
 intro xs
 induction xs generalizing n with
 | nil=>intro s _ h; exact ⟨s,rfl,h⟩
 | cons x xs ih =>
  intro s hb h;obtain ⟨s1,e1,h1⟩:=hb 0 s x rfl h;obtain ⟨s2,e2,h2⟩:=ih (n:=n + 1) (fun k s y hy hi=>by
   obtain ⟨s',q1,q2⟩:=hb (k + 1) s y (by simpa using hy) (by rw [show n + (k + 1) = n + 1 + k by omega]; exact hi);exact ⟨s',q1,by rw [show n + 1 + k + 1 = n + (k + 1) + 1 by omega]; exact q2⟩) h1
  exact ⟨s2,by simp only [dI,e1,bind_some,e2],by rw [List.length_cons,show n + (xs.length + 1) = n + 1 + xs.length by omega]; exact h2⟩
theorem qT {put : S -> α -> S} {b : S -> Option (TR S ρ)} {γ : Type} {v : S -> γ} {f : γ -> α -> γ} {I : S -> Prop} {J : γ -> Prop} : ∀ {xs : List α} {s : S},(∀ s x,x ∈ xs -> I s -> J (v s) -> ∃ s',b (put s x) = some (.nx s') /\ I s' /\ v s' = f (v s) x) -> (∀ c x,x ∈ xs -> J c -> J (f c x)) -> I s -> J (v s) -> ∃ s',dI put b xs s = some (.nx s') /\ I s' /\ v s' = xs.foldl f (v s)
 | [],s,_,_,h,_=>⟨s,rfl,h,rfl⟩
 | x :: xs,s,hb,hj,h,j=>by
  obtain ⟨s1,e1,h1,v1⟩:=hb s x (by simp) h j;obtain ⟨s2,e2,h2,v2⟩:=qT (xs:=xs) (fun s y hy=>hb s y (by simp [hy])) (fun c y hy=>hj c y (by simp [hy])) h1 (by rw [v1]; exact hj _ _ (by simp) j);exact ⟨s2,by simp only [dI,e1,bind_some,e2],h2,by rw [v2,v1]; rfl⟩
theorem fg {ft : α -> S -> Option (Bool × S)} {fe : α -> S -> Option (β × S)} {s : S} {f : α -> β} : ∀ {xs : List α},(∀ x ∈ xs,ft x s = some (true,s)) -> (∀ x ∈ xs,fe x s = some (f x,s)) -> tLc ft fe xs s = some (xs.map f,s):=by
 intro xs
 induction xs with
 | nil=>intro _ _; rfl
 | cons x xs ih =>
  intro h k;have ih:=ih (fun y hy=>h y (List.mem_cons_of_mem _ hy)) (fun y hy=>k y (List.mem_cons_of_mem _ hy));simp only [tLc,h x List.mem_cons_self,bind_some,if_true,k x List.mem_cons_self,ih,map_some,List.map_cons]
theorem gZ {ft : α -> S -> Option (Bool × S)} {fe : α -> S -> Option (β × S)} {s : S} {f : α -> β} {p : α -> Bool} : ∀ {xs : List α},(∀ x ∈ xs,ft x s = some (p x,s)) -> (∀ x ∈ xs,p x = true -> fe x s = some (f x,s)) -> tLc ft fe xs s = some ((xs.filter p).map f,s):=by
 intro xs
 induction xs with
 | nil=>intro _ _; rfl
 | cons x xs ih =>
  intro h k;have ih:=ih (fun y hy=>h y (List.mem_cons_of_mem _ hy)) (fun y hy=>k y (List.mem_cons_of_mem _ hy));cases hp : p x
  ·rw [List.filter_cons_of_neg (by rw [hp]; decide)]
   simp only [tLc,h x List.mem_cons_self,bind_some,hp,Bool.false_eq_true,if_false,ih]
  ·rw [List.filter_cons_of_pos hp]
   simp only [tLc,h x List.mem_cons_self,bind_some,hp,if_true,k x List.mem_cons_self hp,ih,map_some,List.map_cons]
theorem iW {a b : Int} : (Py.ok rI a && Py.ok rI b && decide (min (Py.k rI) (Py.k rI) <= 50)) = true:=rfl
theorem ud {xs : List α} : (xs.all fun _=>true) = true:=by simp
theorem CW {a b : List Int} : (Py.ok (rL rI) a && Py.ok (rL rI) b && decide (min (Py.k (rL rI)) (Py.k (rL rI)) <= 50)) = true:=by
 show ((a.all fun _=>true) && (b.all fun _=>true) && decide (min (0 + 1) (0 + 1) <= 50)) = true;rw [ud,ud]; rfl
theorem iB {f : α -> α -> Bool} (h : ∀ a,f a a = true) : ∀ xs : List α,iM f xs xs = true
 | []=>rfl
 | x :: xs=>by simp only [iM,h,iB h xs,Bool.and_self]
theorem aF {c : Bool} {a b : α} (h : c = true) : (if c = true then a else b) = a:=if_pos h
theorem Gj {n : Nat} (h : n <= 1000) : n <= sizeLine:=Nat.le_of_lt (L2.small1000 h)
theorem Fp {n : Nat} (h : n <= 1000) : n < sizeLine:=L2.small1000 h
theorem cS {n : Nat} (h : n <= 1000) : ej n = true:=decide_eq_true (Gj h)
theorem jR {n : Nat} (h : n <= 1000) : oO n = true:=decide_eq_true (Fp h)
theorem iN {xs : List α} {j : Nat} (h : j < xs.length) : atI xs (j : Int) = some xs[j]:=L2.atI_nat (by simp [h])
theorem nr {z : Int} (h0 : -1000000 <= z) (h1 : z <= 1000000) : jo z = true:=by
 simp only [jo,Nat.ble_eq];omega
theorem qk {x y : Int} (h : (-9223372036854775808 <= x /\ x <= 9223372036854775808) \/ (-9223372036854775808 <= y /\ y <= 9223372036854775808)) : ju x y = true:=by
 simp only [ju,Bool.or_eq_true,Nat.ble_eq]; omega
theorem tQ {x : Int} {y : Int} (h : decide (0 < y /\ y.natAbs.log2 < 9000) = true) : mB x y = true:=h
theorem jS {put : S -> α -> S} {b : S -> Option (TR S ρ)} {xs : List α} {s : S} {γ : Type} {k : TR S ρ -> Option γ} {R : Option γ} {P : S -> Prop} (h : ∃ s',dI put b xs s = some (.nx s') /\ P s') (hk : ∀ s',P s' -> k (.nx s') = R) : (dI put b xs s).bind k = R:=by
 obtain ⟨a,e,p⟩:=h;rw [e]; exact hk a p
theorem wj {put : S -> α -> S} {b : S -> Option (TR S ρ)} {xs : List α} {s : S} {γ : Type} {k : TR S ρ -> Option γ} {P : S -> Prop} (Q : Option γ -> Prop) (h : ∃ s',dI put b xs s = some (.nx s') /\ P s') (hk : ∀ s',P s' -> Q (k (.nx s'))) : Q ((dI put b xs s).bind k):=by
 obtain ⟨a,e,p⟩:=h;rw [e]; exact hk a p
theorem dA {put : S -> α -> S} {b : S -> Option (TR S ρ)} {P : S -> Prop} {xs : List α} {s : S} (I : Nat -> S -> Prop) (h0 : I 0 s) (hb : ∀ k s x,xs[k]? = some x -> I k s -> ∃ s',b (put s x) = some (.nx s') /\ I (k + 1) s') (hP : ∀ s',I xs.length s' -> P s') : ∃ s',dI put b xs s = some (.nx s') /\ P s':=by
 obtain ⟨s',e,h⟩:=Br (n:=0) (I:=I) (fun k s x hx hi=>by
  rw [Nat.zero_add] at hi ⊢;exact hb k s x hx hi) h0
 rw [Nat.zero_add] at h;exact ⟨s',e,hP s' h⟩
theorem zD {g : GF} {h : List Int × Unit -> Option (Bool × List Int × Unit)} {r : Rl (List Int)} (j : JF g h (Pc (rM rI) Pn) rB (Pc r Pn)) (ht : ∀ ns : List Int,ns.length <= 63 -> ∃ q,h (ns,()) = some (true,q)) : ∀ ns : List Int,ns.length <= 63 -> ∃ d,g [.lst false (ns.map D.int)] = some (.bl true,[d]):=fun ns hl=>by
 obtain ⟨q,e⟩:=ht ns hl;obtain ⟨d,ds',h1,h2,d',ds2,h3,_,h4⟩:=j (ns,()) [.lst false (ns.map D.int)] true q ⟨_,[],rfl,⟨false,_,rfl,w6 ns⟩,rfl⟩ e;cases h2;rw [show ds2 = [] from h4] at h3;exact ⟨d',by rw [h1,h3]⟩
end
end TT
namespace DD
open PySem PySem.Spec PyProof.Rows L2
noncomputable def lD (i : Nat) (js : List DP) (pl ph : Option DP) : DE:=fun σ=>(cx σ i).bind fun t=>(gw js σ).bind fun path=>(cN t path).bind fun n=>match n with
 | .lst true xs=>(lV pl σ).bind fun l=>(lV ph σ).map fun h=>(.lst true (bY xs l h),σ.set i (some (cU t path (.lst true (xs.map fun _=>D.hole)))))
 | _=>none
theorem y7 {K : PySem.W.Frag} {F : Addr -> Prop} {H : Hp} : ∀ (xs : List D) (vs : List V),xs.length = vs.length -> OwL K F H (xs.map fun _=>D.hole) vs []:=by
 intro xs
 induction xs with
 | nil=>intro vs h; simp only [List.map_nil,OwL]; exact ⟨List.length_eq_zero_iff.mp h.symm,trivial⟩
 | cons x xs ih =>
  intro vs h;cases vs with
  | nil=>simp at h
  | cons v vs=>simp only [List.map_cons,OwL]; exact ⟨v,vs,[],[],rfl,by simp only [Ow],ih vs (by simpa using h),rfl⟩
theorem AA {α β : Type} : ∀ (a : Nat) (xs : List α) (vs : List β),(xs.zip vs).drop a = (xs.drop a).zip (vs.drop a):=by
 intro a
 induction a with
 | zero=>intro xs vs; rfl
 | succ a ih =>
  intro xs vs;cases xs with
  | nil=>simp
  | cons x xs=>cases vs with
   | nil=>simp
   | cons v vs=>simp only [List.zip_cons_cons,List.drop_succ_cons,ih]
theorem Ay {α β : Type} : ∀ (a : Nat) (xs : List α) (vs : List β),(xs.zip vs).take a = (xs.take a).zip (vs.take a):=by
 intro a
 induction a with
 | zero=>intro xs vs; rfl
 | succ a ih =>
  intro xs vs;cases xs with
  | nil=>simp
  | cons x xs=>cases vs with
   | nil=>simp
   | cons v vs=>simp only [List.zip_cons_cons,List.take_succ_cons,ih]
theorem Rel.cutZ {K : PySem.W.Frag} {F : Addr -> Prop} {H : Hp} {σD : aP} {σ : St} {R : Ro} {xs : List D} {vs : List V} (r : Rel K F H σD σ (xs.zip vs ++ R)) (a b : Nat) : Rel K F H σD σ (((xs.drop a).take b).zip ((vs.drop a).take b) ++ R):=by
 have e : ((xs.drop a).take b).zip ((vs.drop a).take b) = ((xs.zip vs).drop a).take b:=by
  rw [AA,Ay]
 rw [e];have h1 : xs.zip vs = (xs.zip vs).take a ++ (((xs.zip vs).drop a).take b ++ ((xs.zip vs).drop a).drop b):=by rw [List.take_append_drop,List.take_append_drop]
 rw [h1] at r;generalize (xs.zip vs).take a = A at r;generalize ((xs.zip vs).drop a).take b = B at r ⊢;generalize ((xs.zip vs).drop a).drop b = C at r;have p : (A ++ (B ++ C) ++ R).Perm ((A ++ C) ++ (B ++ R)):=by
  have q1 : (B ++ C).Perm (C ++ B):=List.perm_append_comm;have q2 : (A ++ (B ++ C) ++ R).Perm (A ++ (C ++ B) ++ R):=(q1.append_left A).append_right R;refine q2.trans ?_;simp
 exact (r.perm p).popN
section
variable {X : Cx} {o : Expr} {i : Nat} {js : List DP} {lo hi : Option Expr} {pl ph : Option DP} {p2 pos : Pos}
theorem xh (ho : QP X o i js) (hl : QO X lo pl) (hh : QO X hi ph) : QE X (.Subscript o (.Slice lo hi none p2) pos) (lD i js pl ph):=bc (nW p7 ho hl hh) fun σ H Q hq0=>by
 obtain ⟨F,R,σD,d,σD',r,ec,k⟩:=hq0;unfold lD at ec
 revert ec
 refine bK fun t h1 ec=>?_
 revert ec
 refine bK fun path h2 ec=>?_
 revert ec
 refine bK fun n h3 ec=>?_
 split at ec
 ·rename_i xs
  revert ec
  refine bK fun l h4 ec=>?_
  obtain ⟨h,h5,e5⟩:=cn ec;cases e5;obtain ⟨v0,hv0,r0⟩:=r.take (bh h1);obtain ⟨l0,vs0,lc0,hl0,_⟩:=Rel.listAt (S:=[]) r0 h3;refine ⟨F,R,σD,v0,path,.ref l0,r,hv0,h2,lc0,fun F1 H1 g1=>?_⟩;refine ⟨F1,R,σD,l,r.grow g1,h4,fun F2 H2 g2=>?_⟩;refine ⟨F2,R,σD,h,(r.grow g1).grow g2,h5,fun F3 H3 g3=>?_⟩;have g:=(g1.trans g2).trans g3;obtain ⟨v1,hv1,r1⟩:=(r.grow g).take (bh h1);rw [hv0] at hv1; cases hv1;have hl3 : H3 l0 = some (.lst vs0):=g.k _ _ hl0;obtain ⟨l1,vs1,lc1,hl1,hlen1,_⟩:=Rel.listAt (S:=[]) r1 h3;have el : l0 = l1:=by
   have:=(lc0.grow g.k).uniq lc1
   injection this
  subst el;rw [hl3] at hl1; cases hl1;have r2:=Rel.pushL (y7 (F:=F3) (H:=H3) (K:=X.K) xs vs0 hlen1) r1;have r3 : Rel X.K F3 H3 (σD.set i none) σ ((t,v0) :: (((xs.map fun _=>D.hole).zip vs0) ++ R)):=r2.perm List.perm_middle;obtain ⟨l2,vs2,lc2,hl2,hlen2,upd'⟩:=Rel.listAt r3 h3;have el2 : l0 = l2:=by
   have:=lc1.uniq lc2
   injection this
  subst el2;rw [hl3] at hl2; cases hl2;obtain ⟨r4,x4⟩:=upd' (xs.map fun _=>D.hole) vs0 (xs.zip vs0) List.perm_append_comm (by simpa using hlen1);have eu : upd H3 l0 (.lst vs0) = H3:=by
   funext a;by_cases ha : a = l0
   ·subst ha; rw [cG,hl3]
   ·rw [aV ha]
  rw [eu] at r4;have r5:=Rel.put (R:=xs.zip vs0 ++ R) r4 hv0;rw [List.set_set] at r5;refine ⟨l0,vs0,rfl,.inl (.inl hl3),fun pp hp=>?_⟩;have r6 : Rel X.K F3 H3 (σD.set i (some (cU t path (.lst true (xs.map fun _=>D.hole))))) σ ((bY xs l h).zip (iU vs0 l h) ++ R):=by
   unfold bY iU;rw [<- hlen1];exact r5.cutZ _ _
  have hlc : (bY xs l h).length = (iU vs0 l h).length:=by
   unfold bY iU;simp only [List.length_take,List.length_drop,hlen1]
  obtain ⟨r7,x7⟩:=r6.layL hlc hp;exact k F3 _ _ (g.x.trans x7) r7
 ·cases ec
end
end DD
namespace TT
open PySem L2 DD
section
variable {S : Type} {α β γ δ ρ : Type} {Γ Γ0 Γ1 Γ2 Γ3 Γ4 Γ' Γn Γh : aS S} {c c' : DE} {E : Ex S ρ}
theorem zp (i : Nat) (m : Int) {get : S -> β × List (List α)} {put : S -> β × List (List α) -> S} {ra : Rl β} {r : Rl α} (h0 : Γ[i]? = some (some ⟨get,am ra (rL (rL r))⟩)) (hg : autoParam (∀ s v,get (put s v) = v) hZ._auto_1) (hf : autoParam (∀ v,Fr (fun s=>put s v) (Γ.set i none)) gn._auto_1) :
  JS Γ (mf (lD i [pC (.int 1),pC (.int 0)] none (some (pC (.int m)))) (my i [pC (.int 1)] (pC (.int 0)))) (fun s=>match (get s).2 with | row :: rows=>some (.nx (put s ((get s).1,bY row none (some m) :: rows))) | []=>none) Γ E:=by
 intro s σ v hs e;obtain ⟨d,hd,x,y,rfl,hx,ds,rfl,hy⟩:=hs.get h0;have hG : Γ.set i (some ⟨get,am ra (rL (rL r))⟩) = Γ:=by
  obtain ⟨hlt,he⟩:=List.getElem?_eq_some_iff.mp h0;rw [<- he,List.set_getElem_self hlt]
 dsimp only at e hx hy;split at e
 ·rename_i row rows er
  cases e;rw [er] at hy;cases hy with
  | cons h1 h2 =>
   rename_i dr drs;obtain ⟨zs,rfl,hz⟩:=h1;have hlt : i < σ.length:=by
    rw [hs.len]; exact (List.getElem?_eq_some_iff.mp h0).1
   have a0 : ∀ z : List D,atI (.lst true z :: drs) 0 = some (.lst true z):=fun z=>by
    rw [show (0 : Int) = ((0 : Nat) : Int) from rfl]; exact L2.atI_nat (by simp)
   have i0 : ∀ z : D,ixN (z :: drs).length 0 = some 0:=fun z=>by unfold ixN; simp
   have b1 : ∀ z : D,atI [x,z] 1 = some z:=fun z=>rfl
   have j1 : ∀ z : D,ixN [x,z].length 1 = some 1:=fun z=>rfl
   have hput:=hs.put (i:=i) (get:=get) (put:=put) (v:=((get s).1,bY row none (some m) :: rows)) (r:=am ra (rL (rL r))) (d:=.tup [x,.lst true (.lst true (bY zs none (some m)) :: drs)]) hg hf ⟨x,_,rfl,hx,_,rfl,.cons ⟨_,rfl,hz.cut _ _⟩ h2⟩;rw [hG] at hput;have g1 : cN (.tup [x,.lst true (.lst true zs :: drs)]) [1,0] = some (.lst true zs):=by simp only [cN,b1,a0,bind_some]
   have s1 : cU (.tup [x,.lst true (.lst true zs :: drs)]) [1,0] (.lst true (zs.map fun _=>D.hole)) = .tup [x,.lst true (.lst true (zs.map fun _=>D.hole) :: drs)]:=by
    simp only [cU,j1,i0,List.getElem?_cons_succ,List.getElem?_cons_zero,List.set_cons_succ,List.set_cons_zero]
   have e1 : lD i [pC (.int 1),pC (.int 0)] none (some (pC (.int m))) σ = some (.lst true (bY zs none (some m)),σ.set i (some (.tup [x,.lst true (.lst true (zs.map fun _=>D.hole) :: drs)]))):=by
    simp only [lD,hd,bind_some,gw,pC,map_some,g1,lV,s1]
   have hd2 : cx (σ.set i (some (.tup [x,.lst true (.lst true (zs.map fun _=>D.hole) :: drs)]))) i = some (.tup [x,.lst true (.lst true (zs.map fun _=>D.hole) :: drs)]):=by
    simp [cx,hlt]
   have g2 : cN (.tup [x,.lst true (.lst true (zs.map fun _=>D.hole) :: drs)]) [1] = some (.lst true (.lst true (zs.map fun _=>D.hole) :: drs)):=by simp only [cN,b1,bind_some]
   have s2 : cU (.tup [x,.lst true (.lst true (zs.map fun _=>D.hole) :: drs)]) [1] (.lst true (.lst true (bY zs none (some m)) :: drs)) = .tup [x,.lst true (.lst true (bY zs none (some m)) :: drs)]:=by
    simp only [cU,j1,List.getElem?_cons_succ,List.getElem?_cons_zero,List.set_cons_succ,List.set_cons_zero]
   refine ⟨.nx _,?_,hput⟩;simp only [mf,e1,bind_some,my,hd2,gw,pC,map_some,g2,i0,List.set_cons_zero,s2,List.set_set]
 ·cases e
end
end TT
namespace L2
open PySem PySem.Spec PyProof.Rows
section
variable {X : Cx}
end
end L2
namespace DD
open PySem PySem.Spec PyProof.Rows L2
section
variable {X : Cx}
end
end DD
namespace TT
open PySem L2 DD
end TT
namespace DD
open PySem PySem.Spec PyProof.Rows L2
section
variable {K : PySem.W.Frag} {F : Addr -> Prop} {H : Hp} {σD : aP} {σ : St} {R : Ro}
end
section
variable {X : Cx} {e : Expr} {c : DE} {apos cpos : Pos} {i : Nat} {js : List DP}
end
theorem bS {c : Const} {k p} : kR (.Constant c k p):=by intro _ _; rfl
noncomputable def GO (c c' : DE) : DE:=fun σ=>(c σ).bind fun p=>(c' p.2).bind fun q=>match p.1,q.1 with
 | .lst true xs,.int n=>if -(2 ^ 63) <= n /\ n < 2 ^ 63 /\ xs.length * n.toNat <= sizeLine then some (.lst true (List.replicate n.toNat (D.fzL xs)).flatten,q.2) else none
 | _,_=>none
section
variable {X : Cx} {a b e : Expr} {es : List Expr} {ps : List DP} {c c' : DE} {pos apos cpos : Pos} {i : Nat} {js : List DP} {o : Expr}
noncomputable def pv (i : Nat) (js : List DP) (ps : List DP) : DE:=fun σ=>(cx σ i).bind fun t=>(gw js σ).bind fun path=>(cN t path).bind fun n=>match n with
 | .lst true xs=>(lW ps σ).bind fun ds=>if fN ds && decide (ds.length <= sizeLine) && decide (xs.length < sizeLine) then some (.non,σ.set i (some (cU t path (.lst true (xs ++ [.lst true ds]))))) else none
 | _=>none
theorem AU (ho : QP X o i js) (he : vI X es ps) (hbase : autoParam (attributeBase o "append" X.env (eval o X.env) = eval o X.env) aI._auto_1) (hfew : autoParam (((backTo cpos (starEach [.List es pos] X.env)).all (fun x=>!x.1) && (backToKw cpos (keywordEach [] X.env)).all (fun x=>x.1.isSome)
   && decide (([.List es pos] : List Expr).length + ([] : List Keyword).length + (if ([] : List Keyword).isEmpty then 0 else 1) < 30)) = true) aI._auto_1) (hline : autoParam ((apos.endLine == cpos.line) = true) aI._auto_1)
  (hst : autoParam (starEach [.List es pos] X.env = (false,eval (.List es pos) X.env) :: starEach [] X.env) aI._auto_1) : QE X (.Call (.Attribute o "append" apos) [.List es pos] [] cpos) (pv i js ps) :=
 bc (mW PySem.F.plainAttrs_list PySem.F.slot_list_append PySem.F.type_list_append gY ho (dF (sO he) eY hst) hbase hfew hline hst rfl) fun σ H Q hq0=>by
  obtain ⟨F,R,σD,d,σD',r,ec,k⟩:=hq0;unfold pv at ec
  revert ec
  refine bK fun t h1 ec=>?_
  revert ec
  refine bK fun path h2 ec=>?_
  revert ec
  refine bK fun n h3 ec=>?_
  split at ec
  ·rename_i xs
   revert ec
   refine bK fun ds h4 ec=>?_
   split at ec
   ·rename_i hz
    simp only [Bool.and_eq_true,decide_eq_true_eq] at hz;cases ec;obtain ⟨v0,hv0,r0⟩:=r.take (bh h1);obtain ⟨l0,vs0,lc0,hl0,_⟩:=Rel.listAt (S:=[]) r0 h3;refine ⟨F,R,σD,v0,path,.ref l0,r,hv0,h2,lc0,fun F1 H1 g1=>⟨.inl ⟨rfl,vs0,.inl (.inl (g1.k _ _ hl0))⟩,?_⟩⟩;refine ⟨F1,R,σD,ds,r.grow g1,h4,fun F2 H2 us g2 b2=>?_⟩;obtain ⟨L,ol⟩:=OwL.ofBor b2;refine ⟨by rw [ol.length]; exact hz.1.2,fun p hp=>?_⟩;have g3:=g1.trans g2;obtain ⟨v1,hv1,r1⟩:=(r.grow g3).take (bh h1);rw [hv0] at hv1; cases hv1;have os:=(ol.sc hz.1.1).2 F2 H2;obtain ⟨r2,x2⟩:=(Rel.pushL os r1).layL os.length.symm hp;have r3 : Rel X.K F2 (upd H2 p (.lst us)) (σD.set i none) σ ((t,v0) :: ([(.lst true ds,.ref p)] ++ R)):=r2.perm (.swap _ _ _);obtain ⟨l,vs,lc,hl,hlen,upd'⟩:=r3.listAt h3;have gk : ∀ a ob,H2 a = some ob -> upd H2 p (.lst us) a = some ob:=fun a ob e=>by
     rw [aV (cm e hp)]; exact e
    have el : l0 = l:=by
     have:=((lc0.grow g3.k).grow gk).uniq lc
     injection this
    subst el;obtain ⟨r5,x5⟩:=upd' (xs ++ [.lst true ds]) (vs ++ [.ref p]) [] (by rw [List.zip_append hlen]; simp) (by simp [hlen]);refine ⟨l0,vs,.ref p,rfl,rfl,hl,by omega,?_⟩;have r6:=(Rel.put (R:=R) r5 hv0);rw [List.set_set] at r6;exact k F2 _ .non (g3.x.trans (x2.trans x5)) (r6.scal rfl)
   ·cases ec
  ·cases ec
end
end DD
namespace TT
open PySem L2 DD
section
variable {S : Type} {α β γ δ ρ : Type} {Γ Γ0 Γ1 Γ2 Γ3 Γ4 Γ' Γn Γh : aS S} {c c' : DE} {E : Ex S ρ}
end
end TT
namespace DD
open PySem PySem.Spec PySem.Calls PyProof.Rows L2 PySem.W PySem.Builtin PySem.Builtin.Str
section
variable {prog : Program} {w : World} {A : Around} {E : Value -> Shared -> Prop} {s : Shared}
end
section
variable {X : Cx} {aa : List (Addr × Obj)} {σ : St} {H : Hp} {s : Shared} {F : Addr -> Prop}
end
end DD
namespace L2
open PySem PySem.Spec PyProof.Rows
section
variable {X : Cx}
end
end L2
namespace DD
open PySem PySem.Spec PyProof.Rows L2
section
variable {X : Cx}
end
section
variable {X : Cx} {elt : Expr} {ifs : List Expr} {t : DT} {c : DE} {pos : Pos} {scope : Scope}
end
end DD
namespace TT
open PySem L2 DD
section
variable {S : Type} {α β : Type} {Γ Γ1 Γ2 : aS S}
end
end TT
namespace L2
open PySem PySem.Spec PyProof.Rows
section
variable {κ : Type} [DecidableEq κ]
end
section
variable {P : Program} {w : World} {H : Hp} {h : Heap} {a : Addr}
end
section
variable {X : Cx} {aa : List (Addr × Obj)} {σ : St} {H : Hp} {s : Shared} {a : Addr} {y v : V} {u r : Value} {o : Option V} {A : Around} {E : Value -> Shared -> Prop}
end
section
variable {X : Cx} {aa : List (Addr × Obj)} {σ : St} {H : Hp} {s : Shared} {a : Addr} {kvs : List (fO × V)} {k : fO} {u : Value} {A : Around} {E : Value -> Shared -> Prop}
end
section
variable {X : Cx} {o i e value : Expr} {pos pos' tpos : Pos} {td ty tv : TE}
end
section
variable {X : Cx} {pos : Pos}
end
end L2
namespace L2
open PySem PySem.Spec PySem.Calls PyProof.Rows
section
variable {prog : Program} {w : World} {A : Around} {E : Value -> Shared -> Prop} {s : Shared}
end
section
variable {prog : Program} {w : World} {A : Around} {R : Result -> Shared -> Prop} {I d : Addr} {h0 : Heap} {H : Hp} {n : Nat} {P : Nat -> Value -> Prop} {St : Nat -> Heap -> Prop} {fp : List Addr}
end
section
variable {X : Cx}
end
section
variable {prog : Program} {w : World} {A : Around} {E : Value -> Shared -> Prop} {s : Shared}
end
section
variable {X : Cx}
end
end L2
namespace DD
open PySem PySem.Spec PyProof.Rows L2
noncomputable def Db : List D -> Option (List fO)
 | []=>some []
 | .int i :: ds=>(Db ds).map fun k=>Sum.inl i :: k
 | _=>none
section
variable {K : PySem.W.Frag} {F : Addr -> Prop} {H : Hp} {R : Ro} {ks : List (List fO)} {xs : List D} {v : V} {o : Bool}
variable {σD : aP} {σ : St}
end
section
variable {X : Cx}
end
end DD
namespace TT
open PySem L2 DD
noncomputable abbrev K3:=Int × Int × Int
noncomputable def k3 (p : K3) : List fO:=[Sum.inl p.1,Sum.inl p.2.1,Sum.inl p.2.2]
noncomputable abbrev Gq : Rl K3:=d7 rI rI rI
theorem Dc {p : K3} {d : D} (h : Gq p d) : ∃ ds,d = .tup ds /\ Db ds = some (k3 p):=by
 obtain ⟨x,y,z,e,h1,h2,h3⟩:=h;cases h1; cases h2; cases h3;exact ⟨_,e,rfl⟩
section
variable {S : Type} {α β ρ : Type} {Γ Γ1 Γ2 : aS S} {E : Ex S ρ}
end
end TT
namespace DD
open PySem PySem.Spec PyProof.Rows L2
section
variable {X : Cx} {e st : Expr} {lo hi : Option Expr} {pl ph : Option DP} {p q : DP} {pos p2 : Pos}
end
end DD
namespace TT
open PySem L2 DD
section
variable {S : Type} {α β γ : Type} {Γ : aS S}
end
section
variable {α β γ α' β' γ' : Type}
end
end TT
namespace DD
open PySem PySem.Spec PyProof.Rows L2
section
variable {X : Cx} {a b c : Expr} {p q t : DP} {pos : Pos} {op op' : CmpOp} {g g' : D -> D -> Option D}
end
end DD
namespace TT
open PySem L2 DD
section
variable {S : Type} {α β γ ρ : Type} {Γ Γb Γh : aS S} {E : Ex S ρ}
end
end TT
namespace DD
open PySem PySem.Spec PyProof.Rows L2
section
variable {X : Cx} {e o a b : Expr} {es : List Expr} {p q : DP} {c c' : DE} {pos apos cpos : Pos} {i : Nat} {js : List DP}
end
end DD
namespace TT
open PySem L2 DD
section
variable {S α β : Type} {Γ Γ1 : aS S}
end
end TT
namespace PySem.W
open PySem PySem.Calls PyProof.Rows
noncomputable def Kp (h h' : Heap) : Prop:=∀ b o,h.get? b = some o -> h'.get? b = some o
section
variable {prog : Program} {w : World} {A : Around} {E : Value -> Shared -> Prop} {s : Shared} {h₀ : Heap} {a : Addr} {vs : List Value} {κ : SortKind} {lt : Nat -> Nat -> Option Bool} {p : Array Nat}
end
section
variable {prog : Program} {w : World} {A : Around} {E : Value -> Shared -> Prop} {s : Shared} {fin : Bool} {Q : Bool -> Shared -> Prop}
end
end PySem.W
namespace L2
open PySem PySem.Spec PyProof.Rows PySem.W
section
variable {X : Cx} {aa : List (Addr × Obj)} {σ : St} {H : Hp} {s : Shared} {h' : Heap}
end
end L2
namespace DD
open PySem PySem.Spec PyProof.Rows L2 PySem.W
section
variable {X : Cx} {e : Expr} {c : DE}
end
end DD
namespace DD
open PySem PySem.Spec PyProof.Rows L2
section
variable {X : Cx} {e : Expr} {lo hi : Option Expr} {pl ph : Option DP} {c : DE} {pos p2 : Pos}
end
end DD
namespace TT
open PySem L2 DD PySem.W
section
variable {S : Type} {α β γ : Type} {Γ Γ1 : aS S}
end
end TT
namespace DD
open PySem PySem.Spec PyProof.Rows L2
section
variable {X : Cx} {e f : Expr} {c c' : DE} {pos p2 : Pos}
end
end DD
namespace TT
open PySem L2 DD
section
variable {S : Type} {α β γ : Type} {Γ Γ1 Γ2 : aS S}
end
end TT
namespace PySem.W
open PySem PySem.Calls PyProof.Rows PyProof.V PySem.Spec
section
variable {prog : Program} {w : World} {A : Around} {E : Value -> Shared -> Prop} {s : Shared} {it d v : Addr} {i ep : Nat} {es : Array DictEntry}
end
end PySem.W
namespace PySem.W
open PySem PySem.Calls PyProof.Rows
section
variable {prog : Program} {w : World} {A : Around} {E : Value -> Shared -> Prop} {s : Shared} {vs : List Value} {κ : SortKind} {lt : Nat -> Nat -> Option Bool}
end
end PySem.W
namespace L2
open PySem PySem.Spec PySem.Calls PyProof.Rows PySem.W
section
variable {X : Cx}
end
end L2
namespace DD
open PySem PySem.Spec PyProof.Rows L2 PySem.W
section
variable {K : PySem.W.Frag} {F : Addr -> Prop} {H : Hp}
mutual
theorem Ow.nt : ∀ {d : D} {v : V} {L : List Addr},Ow K F H d v L -> ∀ a ∈ L,∀ vs,H a ≠ some (.tup vs)
 | .hole,_,_,h,a,ha=>by simp only [Ow] at h; subst h; cases ha
 | .cell,_,_,h,a,ha=>by
  simp only [Ow] at h;obtain ⟨b,o,rfl,e,rfl⟩:=h;rw [List.mem_singleton.mp ha];intro vs q;rw [e] at q;obtain ⟨o,n⟩:=o;cases q;exact n
 | .node _ _,_,_,h,a,ha=>by simp only [Ow] at h; obtain ⟨rfl,e,rfl⟩:=h; rw [List.mem_singleton.mp ha,e]; intro vs q; cases q
 | .pin _ ⟨o,n⟩,_,_,h,a,ha=>by
  simp only [Ow] at h;obtain ⟨rfl,e,rfl⟩:=h;rw [List.mem_singleton.mp ha,e];intro vs q;cases q;exact n
 | .non,_,_,h,a,ha=>by simp only [Ow] at h; rw [h.2] at ha; cases ha
 | .bl _,_,_,h,a,ha=>by simp only [Ow] at h; rw [h.2] at ha; cases ha
 | .int _,_,_,h,a,ha=>by simp only [Ow] at h; rw [h.2] at ha; cases ha
 | .str _,_,_,h,a,ha=>by simp only [Ow] at h; rw [h.2] at ha; cases ha
 | .ty _,_,_,h,a,ha=>by simp only [Ow] at h; rw [h.2] at ha; cases ha
 | .cls _,_,_,h,a,ha=>by simp only [Ow] at h; rw [h.2] at ha; cases ha
 | .lst true xs,_,_,h,a,ha=>by
  simp only [Ow] at h;obtain ⟨b,vs,L',rfl,e,r,rfl⟩:=h;rcases List.mem_cons.mp ha with rfl | ha
  ·rw [e]; intro vs q; cases q
  ·exact OwL.nt r a ha
 | .lst false xs,_,_,h,a,ha=>by simp only [Ow] at h; obtain ⟨_,_,_,_,_,rfl⟩:=h; cases ha
 | .tup xs,_,_,h,a,ha=>by simp only [Ow] at h; obtain ⟨_,_,_,_,r⟩:=h; exact OwL.nt r a ha
 | .obj true C ks xs,_,_,h,a,ha=>by
  simp only [Ow] at h;obtain ⟨b,dx,vs,L',rfl,e,_,r,rfl⟩:=h;rcases List.mem_cons.mp ha with rfl | ha
  ·rw [e]; intro vs q; cases q
  ·exact OwL.nt r a ha
 | .obj false C ks xs,_,_,h,a,ha=>by simp only [Ow] at h; obtain ⟨_,_,_,_,_,_,_,_,rfl⟩:=h; cases ha
 | .dct true ks xs,_,_,h,a,ha=>by
  simp only [Ow] at h;obtain ⟨b,vs,L',rfl,e,_,r,rfl⟩:=h;rcases List.mem_cons.mp ha with rfl | ha
  ·rw [e]; intro vs q; cases q
  ·exact OwL.nt r a ha
 | .dct false ks xs,_,_,h,a,ha=>by simp only [Ow] at h; obtain ⟨_,_,_,_,_,_,_,rfl⟩:=h; cases ha
theorem OwL.nt : ∀ {xs : List D} {vs : List V} {L : List Addr},OwL K F H xs vs L -> ∀ a ∈ L,∀ vs,H a ≠ some (.tup vs)
 | [],_,_,h,a,ha=>by simp only [OwL] at h; rw [h.2] at ha; cases ha
 | x :: xs,_,_,h,a,ha=>by
  simp only [OwL] at h;obtain ⟨v,ws,L1,L2,rfl,h1,h2,rfl⟩:=h;rcases List.mem_append.mp ha with ha | ha
  ·exact Ow.nt h1 a ha
  ·exact OwL.nt h2 a ha
end
theorem OwP.nt : ∀ {R : Ro} {L : List Addr},OwP K F H R L -> ∀ a ∈ L,∀ vs,H a ≠ some (.tup vs)
 | [],_,h,a,ha=>by cases h; cases ha
 | (d,v) :: R,_,h,a,ha=>by
  obtain ⟨L1,L2,h1,h2,rfl⟩:=h;rcases List.mem_append.mp ha with ha | ha
  ·exact h1.nt a ha
  ·exact OwP.nt h2 a ha
variable {σD : aP} {σ : St} {R : Ro} {as : List Addr}
end
section
variable {X : Cx} {e : Expr} {q : DP}
end
end DD
namespace TT
open PySem L2 DD PySem.W
section
variable {S : Type} {Γ : aS S}
end
end TT
namespace DD
open PySem PySem.Spec PyProof.Rows L2
section
variable {X : Cx}
end
end DD
namespace TT
open PySem L2 DD
end TT
namespace DD
open PySem PySem.Spec PyProof.Rows L2
mutual
noncomputable def iX : D -> Bool
 | .lst true xs=>o9 xs
 | .lst false _=>false
 | .tup xs=>o9 xs
 | .obj true _ _ xs=>o9 xs
 | .obj false _ _ _=>false
 | .dct true _ xs=>o9 xs
 | .dct false _ _=>false
 | _=>true
noncomputable def o9 : List D -> Bool
 | []=>true
 | x :: xs=>iX x && o9 xs
end
section
variable {K : PySem.W.Frag} {F F' : Addr -> Prop} {H H' : Hp} {A : List Addr}
mutual
theorem Ow.thaw (hA : ∀ a ∈ A,∀ vs,H a ≠ some (.tup vs)) : ∀ {d : D} {v : V} {L : List Addr},Ow K F H d v L -> iX d = true -> Ow K (fun a=>F a /\ a ∉ A) H d v L
 | .hole,_,_,h,_=>by simp only [Ow] at h ⊢; exact h
 | .cell,_,_,h,_=>by simp only [Ow] at h ⊢; exact h
 | .node _ _,_,_,h,_=>by simp only [Ow] at h ⊢; exact h
 | .pin _ _,_,_,h,_=>by simp only [Ow] at h ⊢; exact h
 | .non,_,_,h,_=>by simp only [Ow] at h ⊢; exact h
 | .bl _,_,_,h,_=>by simp only [Ow] at h ⊢; exact h
 | .int _,_,_,h,_=>by simp only [Ow] at h ⊢; exact h
 | .str _,_,_,h,_=>by simp only [Ow] at h ⊢; exact h
 | .ty _,_,_,h,_=>by simp only [Ow] at h ⊢; exact h
 | .cls _,_,_,h,_=>by simp only [Ow] at h ⊢; exact h
 | .lst true xs,_,_,h,f=>by
  simp only [Ow] at h ⊢;simp only [iX] at f;obtain ⟨b,vs,L',rfl,e,r,rfl⟩:=h;exact ⟨b,vs,L',rfl,e,OwL.thaw hA r f,rfl⟩
 | .lst false xs,_,_,h,f=>by simp only [iX] at f; cases f
 | .tup xs,_,_,h,f=>by
  simp only [Ow] at h ⊢;simp only [iX] at f;obtain ⟨a,vs,rfl,t,r⟩:=h;refine ⟨a,vs,rfl,?_,OwL.thaw hA r f⟩;rcases t with ⟨t1,t2⟩ | t
  ·exact .inl ⟨⟨t1,fun z=>hA a z vs t2⟩,t2⟩
  ·exact .inr t
 | .obj true C ks xs,_,_,h,f=>by
  simp only [Ow] at h ⊢;simp only [iX] at f;obtain ⟨b,dx,vs,L',rfl,e,el,r,rfl⟩:=h;exact ⟨b,dx,vs,L',rfl,e,el,OwL.thaw hA r f,rfl⟩
 | .obj false C ks xs,_,_,h,f=>by simp only [iX] at f; cases f
 | .dct true ks xs,_,_,h,f=>by
  simp only [Ow] at h ⊢;simp only [iX] at f;obtain ⟨b,vs,L',rfl,e,el,r,rfl⟩:=h;exact ⟨b,vs,L',rfl,e,el,OwL.thaw hA r f,rfl⟩
 | .dct false ks xs,_,_,h,f=>by simp only [iX] at f; cases f
theorem OwL.thaw (hA : ∀ a ∈ A,∀ vs,H a ≠ some (.tup vs)) : ∀ {xs : List D} {vs : List V} {L : List Addr},OwL K F H xs vs L -> o9 xs = true -> OwL K (fun a=>F a /\ a ∉ A) H xs vs L
 | [],_,_,h,_=>by simp only [OwL] at h ⊢; exact h
 | x :: xs,_,_,h,f=>by
  simp only [OwL] at h ⊢;simp only [o9,Bool.and_eq_true] at f;obtain ⟨v,ws,L1,L2,rfl,h1,h2,rfl⟩:=h;exact ⟨v,ws,L1,L2,rfl,Ow.thaw hA h1 f.1,OwL.thaw hA h2 f.2,rfl⟩
end
noncomputable def tP (o : Option D) : Option D:=o.bind fun d=>if iX d = true then some d else none
noncomputable def iT (σ : aP) : aP:=σ.map tP
theorem mS (hA : ∀ a ∈ A,∀ vs,H a ≠ some (.tup vs)) : ∀ {σD : aP} {σ : L2.St} {L : List Addr},OwP K F H (sl σD σ) L -> ∃ L',OwP K (fun a=>F a /\ a ∉ A) H (sl (iT σD) σ) L' /\ L'.Sublist L
 | [],_,L,h=>⟨[],by unfold iT; simp only [List.map_nil,sl]; rfl,List.nil_sublist _⟩
 | none :: σD,[],L,h=>⟨[],by unfold iT; simp only [List.map_cons,sl]; rfl,List.nil_sublist _⟩
 | some _ :: σD,[],L,h=>by
  refine ⟨[],?_,List.nil_sublist _⟩;unfold iT;simp only [List.map_cons,tP,bind_some];split <;> (simp only [sl]; rfl)
 | none :: σD,o :: σ,L,h=>by
  have h' : OwP K F H (sl σD σ) L:=by simpa only [sl] using h
  obtain ⟨L',e,s⟩:=mS hA h';exact ⟨L',by simpa only [iT,List.map_cons,tP,Option.bind_none,sl] using e,s⟩
 | some d :: σD,none :: σ,L,h=>by
  have h' : OwP K F H (sl σD σ) L:=by simpa only [sl] using h
  obtain ⟨L',e,s⟩:=mS hA h';refine ⟨L',?_,s⟩;unfold iT;simp only [List.map_cons,tP,bind_some];split <;> (simp only [sl]; exact e)
 | some d :: σD,some v :: σ,L,h=>by
  have h' : OwP K F H ((d,v) :: sl σD σ) L:=by simpa only [sl] using h
  obtain ⟨L1,L2,h1,h2,rfl⟩:=h';obtain ⟨L',e,s⟩:=mS hA h2;unfold iT;simp only [List.map_cons,tP,bind_some];split
  ·rename_i hf
   exact ⟨L1 ++ L',by simp only [sl]; exact ⟨L1,L',h1.thaw hA hf,e,rfl⟩,s.append_left _⟩
  ·exact ⟨L',by simp only [sl]; exact e,s.trans (List.sublist_append_right _ _)⟩
theorem Mt.thaw : ∀ {σD : aP} {σ : L2.St},Mt σD σ -> Mt (iT σD) σ
 | [],[],h=>h
 | none :: σD,_ :: σ,h=>Mt.thaw (σD:=σD) (σ:=σ) h
 | some d :: σD,some _ :: σ,h=>by
  have:=Mt.thaw (σD:=σD) (σ:=σ) h
  unfold iT;simp only [List.map_cons,tP,bind_some];split <;> exact this
open Classical in
noncomputable def v5 (H : Hp) (a : Addr) : D:=match H a with
 | some o=>if h : NT o then .pin a ⟨o,h⟩ else .hole
 | none=>.hole
noncomputable def aa (H : Hp) (M : List Addr) : Ro:=M.map fun a=>(v5 H a,V.ref a)
theorem sM {a : Addr} {o : HO} (e : H a = some o) (n : NT o) : v5 H a = .pin a ⟨o,n⟩:=by
 unfold v5;rw [e];simp only [n,dif_pos]
theorem Eu {o : HO} (h : ∀ vs,o ≠ .tup vs) : NT o:=by
 cases o <;> first | exact trivial | exact absurd rfl (h _)
theorem uT : ∀ {M : List Addr},(∀ a ∈ M,∃ o,H a = some o /\ NT o) -> OwP K F H (aa H M) M
 | [],_=>rfl
 | a :: M,h=>by
  obtain ⟨o,e,n⟩:=h a (by simp);refine ⟨[a],M,?_,uT fun b hb=>h b (by simp [hb]),rfl⟩;rw [sM e n];simp only [Ow];exact ⟨trivial,e,trivial⟩
theorem qO : ∀ {M M' : List Addr},(∀ a ∈ M,∃ o,H a = some o /\ NT o) -> OwP K F' H' (aa H M) M' -> M' = M /\ ∀ a ∈ M,H' a = H a
 | [],M',_,h=>⟨h,fun a ha=>by cases ha⟩
 | a :: M,M',hs,h=>by
  obtain ⟨o,e,n⟩:=hs a (by simp);obtain ⟨L1,L2,h1,h2,rfl⟩:=h;rw [sM e n] at h1;simp only [Ow] at h1;obtain ⟨_,e',rfl⟩:=h1;obtain ⟨rfl,k⟩:=qO (fun b hb=>hs b (by simp [hb])) h2;refine ⟨rfl,fun b hb=>?_⟩;rcases List.mem_cons.mp hb with rfl | hb
  ·rw [e',e]
  ·exact k b hb
variable {σD : aP} {σ : L2.St} {R : Ro} {d : D} {v : V}
theorem OwP.thaw (hA : ∀ a ∈ A,∀ vs,H a ≠ some (.tup vs)) : ∀ {S : Ro} {L : List Addr},OwP K F H S L -> (∀ z ∈ S,iX z.1 = true) -> OwP K (fun a=>F a /\ a ∉ A) H S L
 | [],_,h,_=>h
 | (d,v) :: S,_,h,f=>by
  obtain ⟨L1,L2,h1,h2,rfl⟩:=h;exact ⟨L1,L2,h1.thaw hA (f (d,v) (by simp)),OwP.thaw hA h2 fun z hz=>f z (by simp [hz]),rfl⟩
theorem Rel.thaw (r : Rel K F H σD σ ((d,v) :: R)) : ∃ (F' : Addr -> Prop) (P : Ro),Ext F H F' H /\ Rel K F' H σD σ ((d.fz,v) :: P) /\
  ∀ F2 H2 σD2 σ2 S,Ext F' H F2 H2 -> Rel K F2 H2 σD2 σ2 (S ++ P) -> (∀ z ∈ S,iX z.1 = true) -> ∃ F3,Ext F H F3 H2 /\ Rel K F3 H2 (iT σD2) σ2 (S ++ ((d,v) :: R)):=by
 obtain ⟨L,⟨L1,L2,h1,h2,rfl⟩,n,f⟩:=r.front.own;obtain ⟨M,N,rfl,hm,hn⟩:=OwP.split (R:=R) h2;have hMd : ∀ a ∈ M,∃ o,H a = some o /\ NT o:=fun a ha=>by
  obtain ⟨o,e⟩:=hm.dom a ha;exact ⟨o,e,Eu fun vs z=>hm.nt a ha vs (by rw [e,z])⟩
 obtain ⟨n1,n2,n3⟩:=List.nodup_append.mp n;have x : Ext F H (fun a=>F a \/ a ∈ L1) H:=fun a h=>⟨.inl h,rfl⟩
 refine ⟨fun a=>F a \/ a ∈ L1,aa H M,x,Rel.of r.mt ⟨⟨M ++ N,⟨[],M ++ N,h1.fz (fun a h=>.inl h) fun a h=>.inr h,?_,rfl⟩,n2,fun a ha fa=>?_⟩,fun a fa=>?_⟩,fun F2 H2 σD2 σ2 S x2 r2 hS=>?_⟩
 ·exact (uT hMd).append (hn.mono x fun _ _=>rfl)
 ·rcases fa with fa | fa
  ·exact f a (List.mem_append_right _ ha) fa
  ·exact n3 a fa a ha rfl
 ·rcases fa with fa | fa
  ·exact r.front.dom a fa
  ·exact h1.dom a fa
 ·obtain ⟨L',ho,nd,ff⟩:=r2.front.own
  obtain ⟨Z,N',rfl,hz,hn'⟩:=OwP.split (R:=S ++ aa H M) ho;obtain ⟨Y,M',rfl,hy,hm'⟩:=OwP.split (R:=S) hz;obtain ⟨rfl,hk⟩:=qO hMd hm';have hA2 : ∀ a ∈ L1,F2 a /\ H2 a = H a:=fun a ha=>x2 a (.inr ha)
  have hA : ∀ a ∈ L1,∀ vs,H2 a ≠ some (.tup vs):=fun a ha vs=>by rw [(hA2 a ha).2]; exact h1.nt a ha vs
  obtain ⟨N2,hn2,sub⟩:=mS hA hn';have x3 : Ext F H (fun a=>F2 a /\ a ∉ L1) H2:=fun a fa=>⟨⟨(x2 a (.inl fa)).1,fun z=>f a (List.mem_append_left _ z) fa⟩,(x2 a (.inl fa)).2⟩
  have subs : ((Y ++ M') ++ N2).Sublist ((Y ++ M') ++ N'):=sub.append_left _;have pm : (Y ++ (L1 ++ M') ++ N2).Perm (L1 ++ ((Y ++ M') ++ N2)):=by
   have h:=List.perm_append_comm (l₁:=Y) (l₂:=L1);have h2:=(h.append_right M').append_right N2;simpa using h2
  have nd2 : (L1 ++ ((Y ++ M') ++ N2)).Nodup:=by
   rw [List.nodup_append];refine ⟨n1,nd.sublist subs,fun a ha b hb e=>?_⟩;subst e;exact ff a (subs.subset hb) (hA2 a ha).1
  have hdr : OwP K (fun a=>F2 a /\ a ∉ L1) H2 ((d,v) :: R) (L1 ++ M'):=⟨L1,M',h1.mono x3 fun a ha=>(hA2 a ha).2,hm.mono x3 hk,rfl⟩;refine ⟨fun a=>F2 a /\ a ∉ L1,x3,Rel.of r2.mt.thaw ⟨⟨Y ++ (L1 ++ M') ++ N2,((hy.thaw hA hS).append hdr).append hn2,pm.nodup_iff.mpr nd2,fun a ha fa=>?_⟩,fun a fa=>r2.front.dom a fa.1⟩⟩;rcases List.mem_append.mp (pm.mem_iff.mp ha) with ha | ha
  ·exact fa.2 ha
  ·exact ff a (subs.subset ha) fa.1
end
noncomputable def nj (i : Nat) (c : DE) : DE:=fun σ=>(cx σ i).bind fun d=>(c (σ.set i (some d.fz))).bind fun p=>if iX p.1 = true then some (p.1,(iT p.2).set i (some d)) else none
noncomputable def gM (j : Nat) (c : DE) : DE:=fun σ=>(cx σ j).bind fun d=>(c (σ.set j none)).map fun p=>(p.1,p.2.set j (some d))
section
variable {X : Cx} {e : Expr} {c : DE}
theorem uN (i : Nat) (h : QE X e c) : QE X e (nj i c):=bc h fun σ H Q hq0=>by
 obtain ⟨F,R,σD,d,σD',r,ec,k⟩:=hq0;unfold nj at ec;obtain ⟨d0,h0,ec⟩:=Option.bind_eq_some_iff.mp ec;obtain ⟨⟨d1,σ1⟩,h1,ec⟩:=Option.bind_eq_some_iff.mp ec;dsimp only at ec;split at ec
 ·rename_i hf
  cases ec;obtain ⟨v,hv,r1⟩:=r.take (bh h0);obtain ⟨F',P,x1,r2,back⟩:=r1.thaw;have r3:=r2.put hv;rw [List.set_set] at r3;refine ⟨F',P,_,d,σ1,r3,h1,fun F2 H2 w x2 r4=>?_⟩;obtain ⟨F3,x3,r5⟩:=back F2 H2 σ1 σ [(d,w)] x2 r4 (fun z hz=>by rw [List.mem_singleton.mp hz]; exact hf);exact k F3 H2 w x3 ((r5.perm (.swap _ _ _)).put hv)
 ·cases ec
theorem gX (j : Nat) (h : QE X e c) : QE X e (gM j c):=bc h fun σ H Q hq0=>by
 obtain ⟨F,R,σD,d,σD',r,ec,k⟩:=hq0;unfold gM at ec;obtain ⟨d0,h0,ec⟩:=Option.bind_eq_some_iff.mp ec;obtain ⟨⟨d1,σ1⟩,h1,ec⟩:=eJ ec;cases ec;obtain ⟨v,hv,r1⟩:=r.take (bh h0);exact ⟨F,_,_,d1,σ1,r1,h1,fun F2 H2 w x2 r4=>k F2 H2 w x2 ((r4.perm (.swap _ _ _)).put hv)⟩
end
end DD
namespace TT
open PySem L2 DD
class Ff {α : Type} (r : Rl α) : Prop where
 f : ∀ a d,r a d -> iX d = true
theorem All2.ff {α : Type} {r : Rl α} (k : ∀ a d,r a d -> iX d = true) : ∀ {as : List α} {ds : List D},All2 r as ds -> o9 ds = true
 | _,_,.nil=>rfl
 | _,_,.cons a h=>by simp only [o9,k _ _ a,h.ff k,Bool.and_self]
section
variable {α β γ δ : Type}
instance : Ff rI:=⟨fun _ _ h=>by cases h; rfl⟩
instance {r : Rl α} [k : Ff r] : Ff (rL r):=⟨fun _ _ hq0=>by obtain ⟨ds,e,h⟩:=hq0; rw [e]; simp only [iX]; exact h.ff k.f⟩
end
section
variable {S : Type} {α β : Type} {Γ Γ1 Γ2 : aS S}
inductive Tw : aS S -> aS S -> Prop
 | nil : Tw [] []
 | non {a} {Γ Γ'} : Tw Γ Γ' -> Tw (a :: Γ) (none :: Γ')
 | som {α : Type} {g : S -> α} {r : Rl α} {Γ Γ'} : Ff r -> Tw Γ Γ' -> Tw (some ⟨g,r⟩ :: Γ) (some ⟨g,r⟩ :: Γ')
theorem Tw.sat {s : S} (w : Tw Γ1 Γ2) : ∀ {σ : aP},Sat Γ1 s σ -> Sat Γ2 s (iT σ):=by
 induction w with
 | nil=>intro σ h; cases σ with | nil=>exact h | cons _ _=>exact h.elim
 | non _ ih=>intro σ h; cases σ with | nil=>exact h.elim | cons x σ=>exact ⟨trivial,ih h.2⟩
 | som f _ ih =>
  intro σ h;cases σ with
  | nil=>exact h.elim
  | cons x σ =>
   obtain ⟨d,e,hd⟩:=h.1;refine ⟨⟨d,?_,hd⟩,ih h.2⟩;rw [e];simp only [tP,bind_some,f.f _ _ hd,if_true]
theorem u7 (i : Nat) {get : S -> β} {put : S -> β -> S} {q q' : Rl β} [z : Fz q q'] {c : DE} {r : Rl α} [k : Ff r] {f : S -> Option (α × S)} (h : JE (Γ.set i (some ⟨get,q'⟩)) c f r Γ1) (w : Tw Γ1 Γ2) (hi : Γ[i]? = some (some ⟨get,q⟩)) (hg : autoParam (∀ s v,get (put s v) = v) hZ._auto_1)
  (hf : autoParam (∀ v,Fr (fun s=>put s v) (Γ2.set i none)) gn._auto_1) :
  JE Γ (nj i c) (fun s=>(f s).map fun p=>(p.1,put p.2 (get s))) r (Γ2.set i (some ⟨get,q⟩)):=fun s σ v s' hs e=>by
 obtain ⟨⟨a,s1⟩,e1,e⟩:=mp e;cases e;obtain ⟨d,hd,rd⟩:=hs.get hi;obtain ⟨x,σ1,hx,rx,h1⟩:=h s (σ.set i (some d.fz)) a s1 (hs.set ⟨_,rfl,z.f _ _ rd⟩) e1;refine ⟨x,_,by simp only [nj,hd,bind_some,hx,k.f _ _ rx,if_true]; rfl,rx,?_⟩;exact (w.sat h1).put hg hf rd
theorem hJ (j : Nat) {get : S -> β} {put : S -> β -> S} {q : Rl β} {c : DE} {r : Rl α} {f : S -> Option (α × S)} (h : JE (Γ.set j none) c f r Γ1) (hi : Γ[j]? = some (some ⟨get,q⟩)) (hg : autoParam (∀ s v,get (put s v) = v) hZ._auto_1)
  (hf : autoParam (∀ v,Fr (fun s=>put s v) (Γ1.set j none)) gn._auto_1) :
  JE Γ (gM j c) (fun s=>(f s).map fun p=>(p.1,put p.2 (get s))) r (Γ1.set j (some ⟨get,q⟩)):=fun s σ v s' hs e=>by
 obtain ⟨⟨a,s1⟩,e1,e⟩:=mp e;cases e;obtain ⟨d,hd,rd⟩:=hs.get hi;obtain ⟨x,σ1,hx,rx,h1⟩:=h s (σ.set j none) a s1 hs.setn e1;exact ⟨x,_,by simp only [gM,hd,bind_some,hx,map_some],rx,h1.put hg hf rd⟩
end
end TT
namespace DD
open PySem PySem.Spec PyProof.Rows L2
noncomputable def pj (i : Nat) (js : List DP) : DE:=fun σ=>(cx σ i).bind fun t=>(gw js σ).bind fun path=>match cN t path with
 | some (.lst true _)=>some (.non,σ.set i (some (cU t path (.lst true []))))
 | _=>none
section
variable {X : Cx} {e o : Expr} {es : List Expr} {ps : List DP} {p : DP} {pos apos cpos : Pos} {i : Nat} {js : List DP}
theorem AS (ho : QP X o i js) (hbase : autoParam (attributeBase o "clear" X.env (eval o X.env) = eval o X.env) aI._auto_1) (hline : autoParam ((apos.endLine == cpos.line) = true) aI._auto_1) : QE X (.Call (.Attribute o "clear" apos) [] [] cpos) (pj i js) :=
 bc (xA PySem.F.plainAttrs_list PySem.F.slot_list_clear PySem.F.type_list_clear zi ho hbase hline) fun σ H Q hq0=>by
  obtain ⟨F,R,σD,d,σD',r,ec,k⟩:=hq0;unfold pj at ec;obtain ⟨t,h1,ec⟩:=Option.bind_eq_some_iff.mp ec;obtain ⟨path,h2,ec⟩:=Option.bind_eq_some_iff.mp ec;split at ec
  ·rename_i xs h3
   cases ec;obtain ⟨v0,hv0,r0⟩:=r.take (bh h1);obtain ⟨l0,vs0,lc0,hl0,_⟩:=Rel.listAt (S:=[]) r0 h3;refine ⟨F,R,σD,v0,path,.ref l0,r,hv0,h2,lc0,fun F1 H1 g1=>⟨.inl ⟨rfl,vs0,.inl (.inl (g1.k _ _ hl0))⟩,?_⟩⟩;obtain ⟨v1,hv1,r1⟩:=(r.grow g1).take (bh h1);rw [hv0] at hv1; cases hv1;obtain ⟨l,vs,lc,hl,hlen,upd'⟩:=Rel.listAt (S:=[]) r1 h3;have el : l0 = l:=by
    have:=(lc0.grow g1.k).uniq lc
    injection this
   subst el;obtain ⟨r3,x3⟩:=upd' [] [] (xs.zip vs) (by simp) rfl;refine ⟨l0,vs,rfl,rfl,hl,?_⟩;have r4:=(Rel.put (R:=xs.zip vs ++ R) r3 hv0);rw [List.set_set] at r4;exact k F1 _ .non (g1.x.trans x3) (r4.dropA.scal rfl)
  ·cases ec
end
end DD
namespace TT
open PySem L2 DD
section
variable {S : Type} {α β γ δ : Type} {Γ : aS S}
end
section
variable {S : Type} {α : Type} {Γ Γ1 : aS S}
end
end TT
namespace PySem.W
open PySem.Calls PyProof.Rows PySem.Spec PySem.MeetsSeq3
section
end
end PySem.W
namespace L2
open PySem PySem.Spec PySem.Calls PyProof.Rows PySem.W
section
variable {X : Cx} {aa : List (Addr × Obj)} {σ : St} {H : Hp} {s : Shared} {h' : Heap}
end
end L2
namespace DD
open PySem PySem.Spec PyProof.Rows L2 PySem.W
section
variable {X : Cx} {e b : Expr} {c : DE} {sts : List Stmt}
end
end DD
namespace TT
open PySem L2 DD PySem.W
section
variable {S : Type} {α β ρ : Type} {Γ Γ1 Γ2 : aS S} {E : Ex S ρ}
end
end TT
namespace TT
open PySem L2 DD
section
variable {S : Type} {α β : Type} {Γ Γ1 Γ2 : aS S}
end
end TT
namespace DD
open PySem PySem.Spec PyProof.Rows L2
section
variable {X : Cx} {s : DS} {pos : Pos} {W' : List Nat} {body : List Stmt}
end
end DD
namespace TT
open PySem L2 DD
section
variable {S : Type} {α β ρ : Type} {Γ Γb : aS S} {E : Ex S ρ}
end
end TT
namespace PySem
open Sem (wp)
section
variable {prog : Program} {w : World} {A : Around} {E : Value -> Shared -> Prop} {s : Shared}
end
section
variable {prog : Program} {w : World} {A : Around} {E : Value -> Shared -> Prop} {s : Shared}
end
end PySem
namespace L2
open PySem PySem.Spec PyProof.Rows
end L2
namespace DD
open PySem PySem.Spec PyProof.Rows L2
section
variable {X : Cx} {a b e : Expr} {c c' : DE} {p p1 pos1 : Pos} {elts : List Expr} {x1 : Nat} {tpos pos : Pos}
end
end DD
namespace TT
open PySem L2 DD PySem.W
section
variable {S : Type} {α β : Type} {Γ Γ1 Γ2 : aS S} {c c' : DE}
noncomputable def l4 (p : α × α × α × α) : List α:=[p.1,p.2.1,p.2.2.1,p.2.2.2]
noncomputable def o4 (xs : List α) : Option (α × α × α × α):=match xs with
 | [a,b,c,d]=>some (a,b,c,d)
 | _=>none
end
section
variable {α β γ δ α' β' γ' δ' : Type}
end
end TT
namespace L2
open PySem PySem.Spec PyProof.Rows
section
variable {X : Cx}
end
end L2
namespace DD
open PySem PySem.Spec PyProof.Rows L2
section
variable {X : Cx} {o e : Expr} {c c' : DE} {apos cpos : Pos}
end
end DD
namespace TT
open PySem L2 DD PySem.W
section
variable {S : Type} {Γ Γ1 Γ2 : aS S} {c c' : DE}
end
end TT
namespace L2
open PySem PySem.Spec PyProof.Rows
section
variable {X : Cx}
end
end L2
namespace DD
open PySem PySem.Spec PyProof.Rows L2
section
variable {X : Cx}
end
end DD
namespace TT
open PySem L2 DD PySem.W
end TT
namespace L2
open PySem PySem.Spec PyProof.Rows
section
variable {X : Cx}
end
end L2
namespace DD
open PySem PySem.Spec PyProof.Rows L2
section
variable {X : Cx} {e : Expr} {lo hi : Option Expr} {pl ph : Option DP} {c : DE} {pos p2 : Pos}
end
end DD
namespace TT
open PySem L2 DD PySem.W
section
variable {S : Type} {Γ Γ1 : aS S} {c : DE}
end
end TT
namespace L2
open PySem PySem.Spec PyProof.Rows
section
variable {X : Cx} {tg : Expr}
end
end L2
namespace DD
open PySem PySem.Spec PyProof.Rows L2
section
variable {X : Cx} {tg e : Expr} {c : DE}
end
end DD
namespace TT
open PySem L2 DD PySem.W
section
variable {S : Type} {Γ Γ1 : aS S} {c : DE}
end
end TT
namespace L2
open PySem PySem.Spec PyProof.Rows
noncomputable abbrev GI:=St -> Hp -> Str -> (Str -> Hp -> Prop) -> Prop
section
variable {X : Cx} {e e1 e2 : Expr} {es : List Expr} {te : TE} {t : GI} {pos : Pos}
end
end L2
namespace DD
open PySem PySem.Spec PyProof.Rows L2
section
variable {X : Cx} {e e1 e2 : Expr} {es : List Expr} {c : DE} {cs : List DE} {pos : Pos}
end
end DD
namespace TT
open PySem L2 DD PySem.W
section
variable {S : Type} {Γ Γ1 Γ2 : aS S} {c : DE} {cs : List DE}
end
end TT
namespace DD
open PySem PySem.Spec PyProof.Rows L2
end DD
namespace TT
open PySem L2 DD PySem.W
section
variable {S : Type} {Γ Γ1 Γ2 : aS S} {c c' : DE}
end
end TT
namespace L2
open PySem PySem.Spec PyProof.Rows
end L2
namespace DD
open PySem PySem.Spec PyProof.Rows L2
section
variable {X : Cx} {e : Expr} {lo hi : Option Expr} {pl ph : Option DP} {p : DP} {pos p2 : Pos}
end
end DD
namespace TT
open PySem L2 DD PySem.W
section
variable {S : Type} {α : Type} {Γ : aS S}
end
end TT
namespace L2
open PySem PySem.Spec PyProof.Rows
end L2
namespace DD
open PySem PySem.Spec PyProof.Rows L2
section
variable {X : Cx} {st : Stmt} {sts : List Stmt} {s s1 s2 : DS} {W W1 W2 : List Nat}
end
section
variable {X : Cx} {s1 s2 : DS} {pos : Pos} {W1 W2 : List Nat} {body : List Stmt}
end
end DD
namespace TT
open PySem L2 DD
section
variable {S : Type} {α τ ρ : Type} {Γ Γ1 Γb Γ2 : aS S} {E : Ex S ρ}
end
end TT
namespace DD
open PySem PySem.Spec PyProof.Rows L2
section
variable {X : Cx} {e1 e2 : Expr} {pos : Pos}
theorem Rel.open2 {K : PySem.W.Frag} {F : Addr -> Prop} {H : Hp} {σD : aP} {σ : St} {R : Ro} {x y : D} {v : V} (r : Rel K F H σD σ ((.tup [x,y],v) :: R)) : ∃ ta w0 w1,v = .ref ta /\ F ta /\ H ta = some (.tup [w0,w1]) /\ Rel K F H σD σ ((x,w0) :: (y,w1) :: R):=by
 obtain ⟨ta,ws,rfl,ft,hlw,rt⟩:=r.openT;obtain ⟨w0,w1,rfl⟩ : ∃ w0 w1,ws = [w0,w1]:=by
  match ws,hlw with
  | [a,b],_=>exact ⟨a,b,rfl⟩
 have hft : F ta /\ H ta = some (.tup [w0,w1]):=by
  rcases ft with h | h
  ·exact h
  ·exact (h.1 H).elim
 exact ⟨ta,w0,w1,rfl,hft.1,hft.2,rt⟩
theorem Rel.form2 {K : PySem.W.Frag} {F : Addr -> Prop} {H : Hp} {σD : aP} {σ : St} {R : Ro} {x y : D} {ta : Addr} {w0 w1 : V} (r : Rel K F H σD σ ((x,w0) :: (y,w1) :: R)) (f : F ta) (h : H ta = some (.tup [w0,w1])) : Rel K F H σD σ ((.tup [x,y],.ref ta) :: R):=by
 have rb : Rel K F H σD σ (([x,y] : List D).zip [w0,w1] ++ R):=r;exact Rel.of rb.mt (G.formT (by have:=rb.front; rw [List.append_assoc] at this; exact this) rfl ⟨f,h⟩)
end
end DD
namespace TT
open PySem L2 DD
section
variable {S : Type} {α β γ δ ρ : Type} {Γ : aS S}
theorem zt (i : Nat) {get : S -> β × List α} {put : S -> β × List α -> S} {r : Rl α} {q : Rl β} (hi : Γ[i]? = some (some ⟨get,am q (rL r)⟩)) (hg : autoParam (∀ s v,get (put s v) = v) hZ._auto_1) (hf : autoParam (∀ v,Fr (fun s=>put s v) (Γ.set i none)) gn._auto_1) :
  JE Γ (pj i [pC (.int 1)]) (fun s=>some ((),put s ((get s).1,[]))) rN (Γ.set i (some ⟨get,am q (rL r)⟩)):=fun s σ v s' hs e=>by
 cases e;obtain ⟨d,hd,x,y,rfl,hx,⟨ds,rfl,hy⟩⟩:=hs.get hi;refine ⟨.non,σ.set i (some (.tup [x,.lst true []])),?_,rfl,hs.put hg hf ⟨x,.lst true [],rfl,hx,⟨_,rfl,.nil⟩⟩⟩;have b1 : atI [x,D.lst true ds] 1 = some (D.lst true ds):=rfl;have j1 : ixN [x,D.lst true ds].length 1 = some 1:=rfl;simp only [pj,hd,bind_some,gw,pC,map_some,cN,b1,cU,j1,List.getElem?_cons_succ,List.getElem?_cons_zero,List.set_cons_succ,List.set_cons_zero]
end
end TT
namespace L2
open PySem PySem.Spec PyProof.Rows PySem.W
section
variable {prog : Program} {w : World} {A : Around} {E : Value -> Shared -> Prop} {s : Shared}
end
section
variable {X : Cx} {aa : List (Addr × Obj)} {σ : St} {H1 : Hp} {s1 : Shared} {l1 l2 n : Nat} {its1 its2 : List Value} {vs us : List V} {A : Around}
end
section
variable {X : Cx} {aa : List (Addr × Obj)} {σ : St} {H1 : Hp} {s1 : Shared} {l1 l2 : Nat} {its1 its2 : List Value} {vs us : List V} {A : Around} {E : Value -> Shared -> Prop}
end
section
variable {X : Cx} {a b : Expr} {ta : TA} {p1 p2 pos pos2 : Pos}
end
end L2
namespace DD
open PySem PySem.Spec PyProof.Rows L2
section
variable {X : Cx} {a b : Expr} {ca : DA} {p1 p2 pos pos2 : Pos}
end
end DD
namespace TT
open PySem L2 DD
section
variable {S : Type} {α β : Type} {Γ Γ1 : aS S}
end
end TT
namespace L2
open PySem PySem.Spec PyProof.Rows
section
variable {X : Cx}
end
end L2
namespace DD
open PySem PySem.Spec PyProof.Rows L2
section
variable {X : Cx} {a : Expr} {c : DE} {p1 pos1 tpos : Pos} {elts : List Expr} {x1 : Nat}
end
section
variable {X : Cx} {o e : Expr} {c c' : DE} {apos cpos : Pos}
end
end DD
namespace TT
open PySem L2 DD PySem.W
section
variable {S : Type} {Γ Γ1 Γ2 : aS S} {c c' : DE}
end
end TT
namespace TT
open PySem L2 DD
section
variable {S : Type} {α β γ : Type} {Γ : aS S}
end
end TT
namespace L2
open PySem PySem.Spec PyProof.Rows
section
variable {X : Cx} {pos : Pos}
noncomputable def AH (ta : TA) : TE:=fun σ H Q=>ta σ H fun vs H1=>∃ i j : Nat,vs = [.int (i : Int),.int (j : Int)] /\ i <= j /\ j <= 1000 /\ ∀ p,H1 p = none -> Q (.ref p) (upd H1 p (.lst ((List.range' i (j - i)).map fun (q : Nat)=>V.int (q : Int))))
theorem xy {a b : Expr} {ta : TA} {p1 p2 pos2 : Pos} (hc : X.calm = true) (hgl : Gl X "list") (hml : X.mg "list" = none) (hgr : Gl X "range") (hmr : X.mg "range" = none) (ha : PA X [a,b] ta)
  (hs : autoParam (starEach [a,b] X.env = [(false,eval a X.env),(false,eval b X.env)]) aI._auto_1) (hs2 : autoParam (starEach [b] X.env = [(false,eval b X.env)]) aI._auto_1) (hs1 : autoParam (starEach [.Call (.Name "range" p2) [a,b] [] pos2] X.env = [(false,eval (.Call (.Name "range" p2) [a,b] [] pos2) X.env)]) aI._auto_1) :
  PE X (.Call (.Name "list" p1) [.Call (.Name "range" p2) [a,b] [] pos2] [] pos) (AH ta):=by
 intro aa s σ H Q I h;refine Call_ (e8 I hgl hml pK (PyProof.Rows.callWith_type1 ?_ (by rw [hs1]; rfl) (by rfl)));rw [hs1];refine Calls.spliced_cons (Call_ (e8 I hgr hmr boot_range (PyProof.Rows.callWith_type1 (bL (ha pos2 aa s σ H _ I h) fun us s1 hq0=>?_) (by rw [hs,hs2]) (by rw [hs2]; rfl))));obtain ⟨vs,H1,I1,r1,i,j,e,hij,hj,q⟩:=hq0;subst e;obtain ⟨u1,us1,rfl,ru1,r2⟩ : ∃ u us',us = u :: us' /\ RelV (.int (i : Int)) u /\ Vals [.int (j : Int)] us':=by cases r1 with | cons r rr=>exact ⟨_,_,rfl,r,rr⟩
 obtain ⟨u2,us2,rfl,ru2,r3⟩ : ∃ u us',us1 = u :: us' /\ RelV (.int (j : Int)) u /\ Vals [] us':=by cases r2 with | cons r rr=>exact ⟨_,_,rfl,r,rr⟩
 cases r3;obtain ⟨t1,rfl⟩:=ru1;obtain ⟨t2,rfl⟩:=ru2;refine call_range_2 (Calls.spliced_nil ?_);have I2 : Inv X aa σ H1 { s1 with heap:=s1.heap.push { cls:=.type "range",data:=.fields #[.int (i : Int) t1,.int (j : Int) t2,.int 1 s1.toks] },toks:=s1.toks + 1 }:=I1.kept fun b o e=>Heap.get?_push_of_some _ e
 refine call_list_range (n:=j - i) (I.ok.hd hc) (IsRange.new ..) (small_one oM oM oM oM) (by rw [rangeSize_one]; split <;> omega) oM fun h' tk acc' c' hk hS hacc=>?_
 have hv:=ot acc'.toList i (fun k v e=>by
  obtain ⟨t,e2⟩:=hacc.2 k v (by simpa using e);exact ⟨t,by rw [e2]; congr 1; omega⟩)
 rw [show acc'.toList.length = j - i by simpa using hacc.1] at hv;exact ⟨.ref _,_,I2.laid (o:=.lst ((List.range' i (j - i)).map fun (q : Nat)=>V.int (q : Int))) hk (Nat.le_refl _) ⟨Nat.le_of_lt (small1000 (by simp; omega)),acc'.toList,c',hv,hS⟩,rfl,q _ I2.fresh⟩
end
end L2
namespace DD
open PySem PySem.Spec PyProof.Rows L2
section
variable {X : Cx} {e o a b : Expr} {p q : DP} {c : DE} {pos p1 p2 pos2 apos cpos : Pos} {i : Nat} {js : List DP}
noncomputable def kJ (p q : DP) : DE:=fun σ=>(p σ).bind fun x=>(q σ).bind fun y=>match x,y with
 | .int i,.int j=>if decide (0 <= i /\ i <= j /\ j <= 1000) = true then some (.lst true ((List.range' i.toNat (j.toNat - i.toNat)).map fun (q : Nat)=>D.int (q : Int)),σ) else none
 | _,_=>none
theorem xi (hgl : Gl X "list") (hml : X.mg "list" = none) (hgr : Gl X "range") (hmr : X.mg "range" = none) (ha : QB X a p) (hb : QB X b q) (hc : autoParam (X.calm = true) aI._auto_1)
  (hs : autoParam (starEach [a,b] X.env = [(false,eval a X.env),(false,eval b X.env)]) aI._auto_1) (hs2 : autoParam (starEach [b] X.env = [(false,eval b X.env)]) aI._auto_1) (hs1 : autoParam (starEach [.Call (.Name "range" p2) [a,b] [] pos2] X.env = [(false,eval (.Call (.Name "range" p2) [a,b] [] pos2) X.env)]) aI._auto_1) :
  QE X (.Call (.Name "list" p1) [.Call (.Name "range" p2) [a,b] [] pos2] [] pos) (kJ p q):=bc (xy hc hgl hml hgr hmr (dF ha (dF hb eY hs2) (hs.trans (by rw [hs2]))) hs hs2 hs1) fun σ H Q hq0=>by
 obtain ⟨F,R,σD,d,σD',r,ec,k⟩:=hq0;unfold kJ at ec;obtain ⟨x,h1,ec⟩:=Option.bind_eq_some_iff.mp ec;obtain ⟨y,h2,ec⟩:=Option.bind_eq_some_iff.mp ec;split at ec
 ·rename_i i j _
  split at ec
  ·rename_i hj
   simp only [decide_eq_true_eq] at hj;cases ec;refine ⟨F,R,σD,_,r,h1,fun F1 H1 v g1 b1=>?_⟩;refine ⟨F1,R,σD,_,r.grow g1,h2,fun F2 H2 u g2 b2=>?_⟩;have hv:=b1.int;have hu:=b2.int;subst hv; subst hu;refine ⟨i.toNat,j.toNat,by rw [Int.toNat_of_nonneg hj.1,Int.toNat_of_nonneg oM],by omega,by omega,fun p hp=>?_⟩;have oc:=uW (K:=X.K) (F:=F2) (H:=H2) (List.range' i.toNat (j.toNat - i.toNat));obtain ⟨r5,x5⟩:=(Rel.pushL oc (r.grow (g1.trans g2))).layL oc.length.symm hp;exact k F2 _ _ ((g1.trans g2).x.trans x5) r5
  ·cases ec
 ·cases ec
noncomputable def pw (i : Nat) (q : DP) (c : DE) : DE:=fun σ=>(cx σ i).bind fun t=>(q σ).bind fun dj=>match dj with
 | .int j=>(cN t [j]).bind fun n=>match n with
  | .lst true xs=>(c (σ.set i none)).bind fun p=>if xs.length < sizeLine then some (.non,p.2.set i (some (cU t [j] (.lst true (xs ++ [p.1]))))) else none
  | _=>none
 | _=>none
theorem AV (ho : QP X o i [q]) (he : QE X e c) (hbase : autoParam (attributeBase o "append" X.env (eval o X.env) = eval o X.env) aI._auto_1) (hfew : autoParam (((backTo cpos (starEach [e] X.env)).all (fun x=>!x.1) && (backToKw cpos (keywordEach [] X.env)).all (fun x=>x.1.isSome)
   && decide (([e] : List Expr).length + ([] : List Keyword).length + (if ([] : List Keyword).isEmpty then 0 else 1) < 30)) = true) aI._auto_1) (hline : autoParam ((apos.endLine == cpos.line) = true) aI._auto_1)
  (hst : autoParam (starEach [e] X.env = (false,eval e X.env) :: starEach [] X.env) aI._auto_1) : QE X (.Call (.Attribute o "append" apos) [e] [] cpos) (pw i q c) :=
 bc (mW PySem.F.plainAttrs_list PySem.F.slot_list_append PySem.F.type_list_append gY ho (dF he eY hst) hbase hfew hline hst rfl) fun σ H Q hq0=>by
  obtain ⟨F,R,σD,d,σD',r,ec,k⟩:=hq0;unfold pw at ec;obtain ⟨t,h1,ec⟩:=Option.bind_eq_some_iff.mp ec;obtain ⟨dj,h2,ec⟩:=Option.bind_eq_some_iff.mp ec;split at ec
  ·rename_i j
   obtain ⟨n,h3,ec⟩:=Option.bind_eq_some_iff.mp ec;split at ec
   ·rename_i xs
    obtain ⟨⟨y,σ1⟩,h4,ec⟩:=Option.bind_eq_some_iff.mp ec;dsimp only at ec;split at ec
    ·rename_i hz
     cases ec;obtain ⟨v0,hv0,r0⟩:=r.take (bh h1);obtain ⟨l,Rem,lc,r1,back⟩:=r0.outAt h3;obtain ⟨ws,hws⟩ : ∃ ws,H l = some (.lst ws):=by
      obtain ⟨l',vs',lc',hl',_⟩:=Rel.listAt (S:=[]) (js:=[]) (R:=Rem ++ R) r1 rfl;cases lc'; exact ⟨_,hl'⟩
     refine ⟨F,R,σD,v0,[j],.ref l,r,hv0,by simp only [gw,h2,bind_some,map_some],lc,fun F1 H1 g1=>⟨.inl ⟨rfl,ws,.inl (.inl (g1.k _ _ hws))⟩,?_⟩⟩;refine ⟨F1,_,_,y,σ1,r1.grow g1,h4,fun F2 H2 u x2 r2=>?_⟩;have r3 : Rel X.K F2 H2 σ1 σ ((.lst true xs,.ref l) :: ([(y,u)] ++ (Rem ++ R))):=r2.perm (.swap _ _ _);obtain ⟨l',vs,lc',hl,hlen,upd'⟩:=Rel.listAt (js:=[]) r3 rfl;cases lc';obtain ⟨r4,x4⟩:=upd' (xs ++ [y]) (vs ++ [u]) [] (by rw [List.zip_append hlen]; simp) (by simp [hlen]);refine ⟨_,vs,u,rfl,rfl,hl,by omega,?_⟩;have xx:=(g1.x.trans x2).trans x4;have r5:=back F2 _ _ _ R _ xx r4;exact k F2 _ .non xx ((r5.put hv0).scal rfl)
    ·cases ec
   ·cases ec
  ·cases ec
noncomputable def pq (i : Nat) (c : DE) : DE:=fun σ=>match cx σ i with
 | some (.tup [.int m,.lst true rows])=>(cN (.lst true rows) [0]).bind fun n=>match n with
  | .lst true xs=>(c (σ.set i (some (.tup [.int m,.hole])))).bind fun p=>if xs.length < sizeLine then some (.non,p.2.set i (some (.tup [.int m,cU (.lst true rows) [0] (.lst true (xs ++ [p.1]))]))) else none
  | _=>none
 | _=>none
theorem AT (ho : QP X o i [pC (.int 1),pC (.int 0)]) (he : QE X e c) (hbase : autoParam (attributeBase o "append" X.env (eval o X.env) = eval o X.env) aI._auto_1) (hfew : autoParam (((backTo cpos (starEach [e] X.env)).all (fun x=>!x.1) && (backToKw cpos (keywordEach [] X.env)).all (fun x=>x.1.isSome)
   && decide (([e] : List Expr).length + ([] : List Keyword).length + (if ([] : List Keyword).isEmpty then 0 else 1) < 30)) = true) aI._auto_1) (hline : autoParam ((apos.endLine == cpos.line) = true) aI._auto_1)
  (hst : autoParam (starEach [e] X.env = (false,eval e X.env) :: starEach [] X.env) aI._auto_1) : QE X (.Call (.Attribute o "append" apos) [e] [] cpos) (pq i c) :=
 bc (mW PySem.F.plainAttrs_list PySem.F.slot_list_append PySem.F.type_list_append gY ho (dF he eY hst) hbase hfew hline hst rfl) fun σ H Q hq0=>by
  obtain ⟨F,R,σD,d,σD',r,ec,k⟩:=hq0;unfold pq at ec;split at ec
  ·rename_i m rows h1
   obtain ⟨n,h3,ec⟩:=Option.bind_eq_some_iff.mp ec;split at ec
   ·rename_i xs
    obtain ⟨⟨y,σ1⟩,h4,ec⟩:=Option.bind_eq_some_iff.mp ec;dsimp only at ec;split at ec
    ·rename_i hz
     cases ec;obtain ⟨v0,hv0,r0⟩:=r.take (bh h1);obtain ⟨ta,w0,w1,rfl,f1,t1,r1⟩:=r0.open2;have r2 : Rel X.K F H (σD.set i none) σ ((.lst true rows,w1) :: ((.int m,w0) :: R)):=r1.perm (.swap _ _ _);have hw0 : w0 = .int m:=(r1.bor (d:=.int m) (v:=w0) (by simp)).int;obtain ⟨l,Rem,lc,r3,back⟩:=r2.outAt h3;obtain ⟨ws,hws⟩ : ∃ ws,H l = some (.lst ws):=by
      obtain ⟨l',vs',lc',hl',_⟩:=Rel.listAt (S:=[]) (js:=[]) (R:=Rem ++ ((.int m,w0) :: R)) r3 rfl;cases lc'; exact ⟨_,hl'⟩
     have r4 : Rel X.K F H (σD.set i (some (.tup [.int m,.hole]))) σ ((.lst true xs,.ref l) :: (Rem ++ ((.int m,w0) :: R))):=by
      have q1:=(r3.push (d:=.hole) (v:=w1) (by simp [Ow])).push (d:=.int m) (v:=w0) (by simp [Ow,hw0]);have q2:=(q1.form2 f1 t1).put hv0;rw [List.set_set] at q2;exact q2
     refine ⟨F,R,σD,.ref ta,[1,0],.ref l,r,hv0,rfl,⟨ta,[w0,w1],w1,rfl,.inr t1,rfl,lc⟩,fun F1 H1 g1=>⟨.inl ⟨rfl,ws,.inl (.inl (g1.k _ _ hws))⟩,?_⟩⟩;refine ⟨F1,_,_,y,σ1,r4.grow g1,h4,fun F2 H2 u x2 r5=>?_⟩;have r6 : Rel X.K F2 H2 σ1 σ ((.lst true xs,.ref l) :: ([(y,u)] ++ (Rem ++ ((.int m,w0) :: R)))):=r5.perm (.swap _ _ _);obtain ⟨l',vs,lc',hl,hlen,upd'⟩:=Rel.listAt (js:=[]) r6 rfl;cases lc';obtain ⟨r7,x7⟩:=upd' (xs ++ [y]) (vs ++ [u]) [] (by rw [List.zip_append hlen]; simp) (by simp [hlen]);refine ⟨_,vs,u,rfl,rfl,hl,by omega,?_⟩;have xx:=(g1.x.trans x2).trans x7;have r8:=back F2 _ _ _ _ _ xx r7;obtain ⟨f2,t2⟩:=xx ta f1;exact k F2 _ .non xx ((((r8.perm (.swap _ _ _)).form2 f2 (t2.trans t1)).put hv0).scal rfl)
    ·cases ec
   ·cases ec
  ·cases ec
end
end DD
namespace TT
open PySem L2 DD
section
variable {S : Type} {α β γ δ ρ : Type} {Γ Γ0 Γ1 Γ2 Γ3 Γ4 Γ' Γn Γh : aS S} {c c' : DE} {E : Ex S ρ} {p q : DP}
noncomputable def Gv (i j : Int) : Bool:=decide (0 <= i /\ i <= j /\ j <= 1000)
theorem xU {f g : S -> Option Int} (hp : JP Γ p f rI) (hq : JP Γ q g rI) : JE Γ (kJ p q) (fun s=>(f s).bind fun i=>(g s).bind fun j=>if Gv i j = true then some ((List.range' i.toNat (j.toNat - i.toNat)).map fun (k : Nat)=>(k : Int),s) else none) (rL rI) Γ:=fun s σ v s' hs e=>by
 revert e
 refine bK fun i e1 e=>?_
 revert e
 refine bK fun j e2 e=>?_
 split at e
 ·rename_i hl
  cases e;obtain ⟨d1,h1,r1⟩:=hp s σ i hs e1;obtain ⟨d2,h2,r2⟩:=hq s σ j hs e2;cases r1; cases r2;refine ⟨.lst true ((List.range' i.toNat (j.toNat - i.toNat)).map fun (k : Nat)=>D.int (k : Int)),σ,?_,⟨_,rfl,?_⟩,hs⟩
  ·simp only [kJ,h1,h2,bind_some]
   exact if_pos hl
  ·generalize List.range' i.toNat (j.toNat - i.toNat) = l
   induction l with
   | nil=>exact .nil
   | cons x l ih=>exact .cons rfl ih
 ·cases e
theorem zu (i : Nat) {get : S -> List (List α)} {put : S -> List (List α) -> S} {r : Rl α} {f : S -> Option (α × S)} {fq : S -> Option Int} (hq : JP Γ q fq rI) (h : JE (Γ.set i none) c f r Γ1) (hi : Γ[i]? = some (some ⟨get,rL (rL r)⟩)) (hg : autoParam (∀ s v,get (put s v) = v) hZ._auto_1)
  (hf : autoParam (∀ v,Fr (fun s=>put s v) (Γ1.set i none)) gn._auto_1) :
  JE Γ (pw i q c) (fun s=>(fq s).bind fun j=>(L2.ixN (get s).length j).bind fun m=>((get s)[m]?).bind fun x=>(f s).bind fun p=>if oO (x.length) = true then some ((),put p.2 ((get s).set m (x ++ [p.1]))) else none) rN (Γ1.set i (some ⟨get,rL (rL r)⟩)):=fun s σ v s' hs e=>by
 revert e
 refine bK fun j e1 e=>?_
 revert e
 refine bK fun m e2 e=>?_
 revert e
 refine bK fun x e3 e=>?_
 revert e
 refine bJ fun a s1 e4 e=>?_
 dsimp only at e;split at e
 ·rename_i hl
  have hl:=kz hl;cases e;obtain ⟨d,hd,ds,rfl,h2⟩:=hs.get hi;obtain ⟨dq,hdq,rq⟩:=hq s σ j hs e1;cases rq;obtain ⟨da,σ1,hda,rda,h1⟩:=h s (σ.set i none) a s1 hs.setn e4;have hlen:=h2.len;obtain ⟨dx,hdx,dxs,rfl,h3⟩:=h2.get e3;have hle:=h3.len;rw [hlen] at e2;refine ⟨.non,_,?_,rfl,h1.put hg hf ⟨ds.set m (.lst true (dxs ++ [da])),rfl,h2.set ⟨_,rfl,h3.append (.cons rda .nil)⟩⟩⟩;simp only [pw,hd,bind_some,hdq,cN,L2.atI,e2,hdx,hda,cU];rw [if_pos (by rw [<- hle]; exact hl)]
 ·cases e
theorem xV (i : Nat) {get : S -> Int × List (List α)} {put : S -> Int × List (List α) -> S} {r : Rl α} {f : S -> Option (α × S)} (h : JE (Γ.set i (some ⟨get,am rI Fu⟩)) c f r Γ1) (h0 : Γ[i]? = some (some ⟨get,am rI (rL (rL r))⟩)) (hg : autoParam (∀ s v,get (put s v) = v) hZ._auto_1)
  (hf : autoParam (∀ v,Fr (fun s=>put s v) (Γ1.set i none)) gn._auto_1) :
  JE Γ (pq i c) (fun s=>match (get s).2 with | row :: rows=>(f s).bind fun p=>if oO row.length = true then some ((),put p.2 ((get s).1,(row ++ [p.1]) :: rows)) else none | []=>none) rN (Γ1.set i (some ⟨get,am rI (rL (rL r))⟩)):=fun s σ v s' hs e=>by
 obtain ⟨d,hd,x,y,rfl,hx,ds,rfl,hy⟩:=hs.get h0;dsimp only at e hx hy;cases hx;split at e
 ·rename_i row rows er
  rw [er] at hy
  revert e
  refine bJ fun a s1 e4 e=>?_
  dsimp only at e;split at e
  ·rename_i hl
   have hl:=kz hl;cases e;cases hy with
   | cons h1 h2 =>
    rename_i dr drs;obtain ⟨zs,rfl,hz⟩:=h1;obtain ⟨da,σ1,hda,rda,hs1⟩:=h s (σ.set i (some (.tup [.int (get s).1,.hole]))) a s1 (hs.set ⟨_,rfl,_,_,rfl,rfl,trivial⟩) e4;have a0 : ∀ z : List D,atI (.lst true z :: drs) 0 = some (.lst true z):=fun z=>by
     rw [show (0 : Int) = ((0 : Nat) : Int) from rfl]; exact L2.atI_nat (by simp)
    have i0 : ∀ z : D,ixN (z :: drs).length 0 = some 0:=fun z=>by unfold ixN; simp
    have hle:=hz.len;refine ⟨.non,_,?_,rfl,hs1.put (d:=.tup [.int (get s).1,.lst true (.lst true (zs ++ [da]) :: drs)]) hg hf ⟨_,_,rfl,rfl,_,rfl,.cons ⟨_,rfl,hz.append (.cons rda .nil)⟩ h2⟩⟩;simp only [pq,hd,cN,a0,bind_some,hda,cU,i0,List.getElem?_cons_zero,List.set_cons_zero];rw [if_pos (by rw [<- hle]; exact hl)]
  ·cases e
 ·cases e
theorem zx (i : Nat) {get : S -> List (List (List Int))} {put : S -> List (List (List Int)) -> S} {f fq : S -> Option Int} (hq : JP Γ q fq rI) (h : JP Γ p f rI) (hi : Γ[i]? = some (some ⟨get,rL (rL (rL rI))⟩)) (hg : autoParam (∀ s v,get (put s v) = v) hZ._auto_1)
  (hf : autoParam (∀ v,Fr (fun s=>put s v) (Γ.set i none)) gn._auto_1) :
  JE Γ (pv i [q] [p]) (fun s=>(fq s).bind fun j=>(L2.ixN (get s).length j).bind fun m=>((get s)[m]?).bind fun x=>(f s).bind fun v=>if oO (x.length) = true then some ((),put s ((get s).set m (x ++ [[v]]))) else none) rN (Γ.set i (some ⟨get,rL (rL (rL rI))⟩)):=fun s σ v s' hs e=>by
 revert e
 refine bK fun j e1 e=>?_
 revert e
 refine bK fun m e2 e=>?_
 revert e
 refine bK fun x e3 e=>?_
 revert e
 refine bK fun a e4 e=>?_
 split at e
 ·rename_i hl
  have hl:=kz hl;cases e;obtain ⟨d,hd,ds,rfl,h2⟩:=hs.get hi;obtain ⟨dq,hdq,rq⟩:=hq s σ j hs e1;cases rq;obtain ⟨da,hda,rda⟩:=h s σ a hs e4;cases rda;have hlen:=h2.len;obtain ⟨dx,hdx,dxs,rfl,h3⟩:=h2.get e3;have hle:=h3.len;rw [hlen] at e2;refine ⟨.non,_,?_,rfl,hs.put hg hf ⟨ds.set m (.lst true (dxs ++ [.lst true [.int a]])),rfl,h2.set ⟨_,rfl,h3.append (.cons ⟨_,rfl,.cons rfl .nil⟩ .nil)⟩⟩⟩;simp only [pv,hd,bind_some,gw,hdq,map_some,cN,L2.atI,e2,hdx,lW,hda,cU];rw [if_pos (by simp only [fN,Bool.and_eq_true,decide_eq_true_eq]; exact ⟨⟨rfl,L2.small1000 (by simp) |> Nat.le_of_lt⟩,by rw [<- hle]; exact hl⟩)]
 ·cases e
theorem xW (i : Nat) {get : S -> β × List (List (List Int))} {put : S -> β × List (List (List Int)) -> S} {ra : Rl β} {f : S -> Option Int} (h : JP Γ p f rI) (h0 : Γ[i]? = some (some ⟨get,am ra (rL (rL (rL rI)))⟩)) (hg : autoParam (∀ s v,get (put s v) = v) hZ._auto_1)
  (hf : autoParam (∀ v,Fr (fun s=>put s v) (Γ.set i none)) gn._auto_1) :
  JE Γ (iD i [pC (.int 1),pC (.int 0),pC (.int 0)] p) (fun s=>match (get s).2 with | (w :: row) :: rows=>(f s).bind fun a=>if oO w.length = true then some ((),put s ((get s).1,((w ++ [a]) :: row) :: rows)) else none | _=>none) rN (Γ.set i (some ⟨get,am ra (rL (rL (rL rI)))⟩)):=fun s σ v s' hs e=>by
 obtain ⟨d,hd,x,y,rfl,hx,ds,rfl,hy⟩:=hs.get h0;dsimp only at e hx hy;split at e
 ·rename_i w row rows er
  rw [er] at hy
  revert e
  refine bK fun a e4 e=>?_
  split at e
  ·rename_i hl
   have hl:=kz hl;cases e;cases hy with
   | cons h1 h2 =>
    rename_i dr drs;obtain ⟨zs,rfl,hz⟩:=h1;cases hz with
    | cons k1 k2 =>
     rename_i dw dws;obtain ⟨us,rfl,hu⟩:=k1;obtain ⟨da,hda,rda⟩:=h s σ a hs e4;cases rda;have a0 : ∀ (z : List D) (l : List D),atI (.lst true z :: l) 0 = some (.lst true z):=fun z l=>by
      rw [show (0 : Int) = ((0 : Nat) : Int) from rfl]; exact L2.atI_nat (by simp)
     have i0 : ∀ (z : D) (l : List D),ixN (z :: l).length 0 = some 0:=fun z l=>by unfold ixN; simp
     have b1 : ∀ z : D,atI [x,z] 1 = some z:=fun z=>rfl
     have j1 : ∀ z : D,ixN [x,z].length 1 = some 1:=fun z=>rfl
     have hle:=hu.len;refine ⟨.non,_,?_,rfl,hs.put hg hf ⟨x,_,rfl,hx,_,rfl,.cons ⟨_,rfl,.cons ⟨_,rfl,hu.append (.cons rfl .nil)⟩ k2⟩ h2⟩⟩;simp only [iD,hd,bind_some,gw,pC,map_some,cN,b1,a0,hda,D.sc,cU,j1,i0,List.getElem?_cons_zero,List.getElem?_cons_succ,List.set_cons_zero,List.set_cons_succ];rw [if_pos (by rw [<- hle]; exact hl)]
  ·cases e
 ·cases e
end
end TT
namespace DD
open PySem PySem.Spec PyProof.Rows L2
section
variable {X : Cx} {e o : Expr} {i : Nat}
noncomputable def ym (i : Nat) : DE:=fun σ=>match cx σ i with
 | some (.tup [x,.lst true (y :: ys)])=>some (y,σ.set i (some (.tup [x,.lst true (.hole :: ys)])))
 | _=>none
theorem Ee (ho : QP X o i [pC (.int 1),pC (.int 0)]) : QE X o (ym i):=bc ho fun σ H Q hq0=>by
 obtain ⟨F,R,σD,d,σD',r,ec,k⟩:=hq0;unfold ym at ec;split at ec
 ·rename_i x y ys h1
  cases ec;obtain ⟨v0,hv0,r0⟩:=r.take (bh h1);obtain ⟨ta,w0,w1,rfl,f1,t1,r1⟩:=r0.open2;have r2 : Rel X.K F H (σD.set i none) σ ((.lst true (d :: ys),w1) :: ((x,w0) :: R)):=r1.perm (.swap _ _ _);obtain ⟨a,vs,rfl,ha,hl,r3⟩:=r2.openN;obtain ⟨u,us,rfl⟩ : ∃ u us,vs = u :: us:=by
   match vs,hl with
   | u :: us,_=>exact ⟨u,us,rfl⟩
  have a0 : atI (u :: us) 0 = some u:=by rw [show (0 : Int) = ((0 : Nat) : Int) from rfl]; exact L2.atI_nat (by simp)
  have r4 : Rel X.K F H (σD.set i none) σ ((.node a (u :: us),.ref a) :: ((D.hole :: ys).zip (u :: us) ++ ((x,w0) :: ((d,u) :: R)))):=by
   have q1:=r3.push (d:=.hole) (v:=u) (by simp [Ow]);refine q1.perm ?_;show ((D.hole,u) :: (D.node a (u :: us),V.ref a) :: ((d,u) :: (ys.zip us ++ ((x,w0) :: R)))).Perm ((D.node a (u :: us),V.ref a) :: (D.hole,u) :: (ys.zip us ++ ((x,w0) :: ((d,u) :: R))));refine (List.Perm.swap _ _ _).trans (.cons _ (.cons _ ?_));have p1 : ((d,u) :: (ys.zip us ++ ((x,w0) :: R))).Perm (ys.zip us ++ ((d,u) :: (x,w0) :: R)):=(List.perm_middle).symm;exact p1.trans ((List.Perm.swap _ _ _).append_left _)
  have r5:=(r4.formN (by simpa using hl)).perm (.swap _ _ _);have r6:=(r5.form2 f1 t1).put hv0;rw [List.set_set] at r6;refine ⟨F,R,σD,.ref ta,[1,0],u,r,hv0,rfl,⟨ta,[w0,.ref a],.ref a,rfl,.inr t1,rfl,⟨a,u :: us,u,rfl,.inl ha,a0,rfl⟩⟩,fun F1 H1 g1=>?_⟩;exact k F1 H1 u g1.x (r6.grow g1)
 ·cases ec
end
end DD
namespace TT
open PySem L2 DD
section
variable {S : Type} {α β : Type} {Γ : aS S}
noncomputable def E1 (r : Rl α) : Rl (List α):=fun as d=>∃ a bs xs,as = a :: bs /\ d = .lst true (.hole :: xs) /\ All2 r bs xs
theorem ED (i : Nat) {get : S -> β × List α} {ra : Rl β} {r : Rl α} (h0 : Γ[i]? = some (some ⟨get,am ra (rL r)⟩)) :
  JE Γ (ym i) (fun s=>match (get s).2 with | a :: _=>some (a,s) | []=>none) r (Γ.set i (some ⟨get,am ra (E1 r)⟩)):=fun s σ v s' hs e=>by
 obtain ⟨d,hd,x,y,rfl,hx,ds,rfl,hy⟩:=hs.get h0;dsimp only at e hx hy;split at e
 ·rename_i a as er
  rw [er] at hy;cases e;cases hy with
  | cons h1 h2 =>
   rename_i dy dys;exact ⟨dy,_,by simp only [ym,hd],h1,hs.set ⟨_,rfl,x,_,rfl,hx,_,_,_,er,rfl,h2⟩⟩
 ·cases e
theorem Dd (i : Nat) {get : S -> β × List α} {ra : Rl β} {r : Rl α} (h0 : Γ[i]? = some (some ⟨get,am ra (E1 r)⟩)) :
  JE Γ (lD i [pC (.int 1)] (some (pC (.int 1))) none) (fun s=>some ((get s).2.tail,s)) (rL r) (Γ.set i none):=fun s σ v s' hs e=>by
 obtain ⟨d,hd,x,y,rfl,hx,a,bs,xs,ea,rfl,hy⟩:=hs.get h0;cases e;dsimp only at ea;have b1 : ∀ z : D,atI [x,z] 1 = some z:=fun z=>rfl
 have hc : bY (D.hole :: xs) (some 1) none = xs:=by
  unfold bY;have e1 : HT.sIx (D.hole :: xs).length 0 (some 1) = 1:=by
   unfold HT.sIx; simp
  have e2 : HT.sIx (D.hole :: xs).length (D.hole :: xs).length none = (D.hole :: xs).length:=rfl;rw [e1,e2];simp
 refine ⟨.lst true (bY (D.hole :: xs) (some 1) none),σ.set i (some (cU (.tup [x,.lst true (.hole :: xs)]) [1] (.lst true ((D.hole :: xs).map fun _=>D.hole)))),?_,⟨_,rfl,?_⟩,hs.setn⟩
 ·simp only [lD,hd,bind_some,gw,pC,map_some,cN,b1,lV]
 ·rw [hc,ea]; exact hy
end
end TT
namespace L2
open PySem PySem.Spec PyProof.Rows
noncomputable def Av (n : Nat) : It:=⟨fun i _=>i < n,fun i H x H'=>H' = H /\ x = .int (2 + (i : Int) * 2),fun i _=>n <= i⟩
theorem AE {P : Program} {w : World} {K : PySem.W.Frag} {tg : Expr} (it : Addr) (n : Nat) : mJ P w K tg (Av n) [it] it (fun i h=>IsRangeIter h it (2 + (i : Nat) * 2) ((n : Int) - (i : Nat)) 2) where
 mem:=by simp
 obj:=fun i h st b hb=>by
  obtain rfl : b = it:=by simpa using hb
  exact ⟨_,st,fun v z=>nomatch (show Data.fields _ = Data.cell v from z)⟩
 keep:=fun i h h' st k=>k it (by simp) _ st
 item:=by
  intro X hP hw hK hc i aa s σ H E I hf st hg;subst hP hw hK;obtain ⟨f0,f1,f2,f3,f4,f5⟩:=hf it (by simp);refine (Walks.range (prog:=X.prog) (w:=X.w) (I.ok.hd hc) it 2 2 n).item i s _ _ hg st fun v h' tk hv st' kk=>?_
  obtain ⟨t,rfl⟩:=hv;have I1 : Inv X aa σ H { s with heap:=h',toks:=tk }:=I.turned (fun b o hb e=>kk b o (by simpa using hb) e) f0 f1 f3 f4 f5;exact ⟨_,rfl,sh (s:={ s with heap:=h',toks:=tk }) (n:="range_iterator") st' rfl rfl dC ⟨.int (2 + (i : Int) * 2),H,I1,⟨t,rfl⟩,⟨rfl,rfl⟩,st',fun b hb=>(hf b hb).1⟩⟩
 done:=by
  intro X hP hw hK hc i aa s σ H E I hf st hg;subst hP hw hK;obtain ⟨f0,f1,f2,f3,f4,f5⟩:=hf it (by simp);exact wpAny_pyNext_range_end (I.ok.hd hc) st (by have : n <= i:=hg; omega) fun h' eb=>⟨rfl,I.turned (t':=s.toks) (fun b o hb e=>eb b o hb e) f0 f1 f3 f4 f5⟩
 self:=fun _ _ _ _ _ st h=>wpAny_pyIter_rangeiter st h
theorem AI {m : Nat} : Builtin.Range.rangeSize 2 (m : Int) 2 = (((m - 1) / 2 : Nat) : Int):=by
 unfold Builtin.Range.rangeSize;simp only [show (2 : Int) > 0 by decide,if_true];split <;> omega
theorem yN {m : Nat} (h : m <= 1000) : Builtin.Range.small 2 (m : Int) 2 = true:=by
 have key : ∀ k : Fin 1001,Builtin.Range.small 2 (k.val : Int) 2 = true:=by decide +kernel
 exact key ⟨m,by omega⟩
section
variable {X : Cx} {tg : Expr} {pos : Pos}
noncomputable def FI (ta : TA) : TI:=fun σ H R=>ta σ H fun vs H1=>∃ m : Nat,vs = [.int 2,.int (m : Int),.int 2] /\ m <= 1000 /\ R (Av ((m - 1) / 2)) H1
theorem BT {prog : Program} {w : World} {A : Around} {E : Value -> Shared -> Prop} {s : Shared} {m : Nat} {t u v : Tok} {Q : Value -> Shared -> Prop} (hm : m <= 1000) (h : Q (.ref s.heap.objs.size) { s with heap:=s.heap.push { cls:=.type "range",data:=.fields #[.int 2 t,.int (m : Int) u,.int 2 v] },toks:=s.toks }) :
  wpAny (model prog w) A (call (.type "range") [.int 2 t,.int (m : Int) u,.int 2 v]) Q E s:=call_range_3 dC h (Or.inl (PyProof.noPylong_small oM))
theorem Ej {a b c : Expr} {ta : TA} {p pos : Pos} (hg : Gl X "range") (hm : X.mg "range" = none) (ha : PA X [a,b,c] ta) (hs : autoParam (starEach [a,b,c] X.env = [(false,eval a X.env),(false,eval b X.env),(false,eval c X.env)]) aI._auto_1)
  (hs2 : autoParam (starEach [b,c] X.env = [(false,eval b X.env),(false,eval c X.env)]) aI._auto_1) : PI X tg (.Call (.Name "range" p) [a,b,c] [] pos) (FI ta):=by
 intro aa s σ H R I h;refine Call_ (e8 I hg hm boot_range (PyProof.Rows.callWith_type1 (bL (ha pos aa s σ H _ I h) fun us s1 hq0=>?_) (by rw [hs,hs2]) (by rw [hs2]; rfl)));obtain ⟨vs,H1,I1,r1,m,e,hm',q⟩:=hq0;subst e;obtain ⟨u1,us1,rfl,ru1,r2⟩ : ∃ u us',us = u :: us' /\ RelV (.int 2) u /\ Vals [.int (m : Int),.int 2] us':=by cases r1 with | cons r rr=>exact ⟨_,_,rfl,r,rr⟩
 obtain ⟨u2,us2,rfl,ru2,r3⟩ : ∃ u us',us1 = u :: us' /\ RelV (.int (m : Int)) u /\ Vals [.int 2] us':=by cases r2 with | cons r rr=>exact ⟨_,_,rfl,r,rr⟩
 obtain ⟨u3,us3,rfl,ru3,r4⟩ : ∃ u us',us2 = u :: us' /\ RelV (.int 2) u /\ Vals [] us':=by cases r3 with | cons r rr=>exact ⟨_,_,rfl,r,rr⟩
 cases r4;obtain ⟨t1,rfl⟩:=ru1;obtain ⟨t2,rfl⟩:=ru2;obtain ⟨t3,rfl⟩:=ru3;refine BT hm' ?_;refine wpAny_pyIter_range (IsRange.new ..) (yN hm') ?_;have I2 : Inv X aa σ H1 { s1 with heap:=s1.heap.push { cls:=.type "range",data:=.fields #[.int 2 t1,.int (m : Int) t2,.int 2 t3] },toks:=s1.toks }:=I1.kept fun b o e=>Heap.get?_push_of_some _ e
 refine ⟨(s1.heap.push { cls:=.type "range",data:=.fields #[.int 2 t1,.int (m : Int) t2,.int 2 t3] }).objs.size,[(s1.heap.push { cls:=.type "range",data:=.fields #[.int 2 t1,.int (m : Int) t2,.int 2 t3] }).objs.size],_,_,H1,rfl,I2.kept (t':=s1.toks) fun b o e=>Heap.get?_push_of_some _ e,AE _ ((m - 1) / 2),?_,fun b hb=>?_,q⟩
 ·have e1 : (2 : Int) + ((0 : Nat) : Int) * 2 = 2:=by simp
  have e2 : ((((m - 1) / 2 : Nat)) : Int) - ((0 : Nat) : Int) = Builtin.Range.rangeSize 2 (m : Int) 2:=by rw [AI]; omega
  show IsRangeIter _ _ ((2 : Int) + ((0 : Nat) : Int) * 2) (((((m - 1) / 2 : Nat)) : Int) - ((0 : Nat) : Int)) 2;rw [e1,e2];exact Heap.get?_push_size _ rfl
 ·obtain rfl : b = (s1.heap.push { cls:=.type "range",data:=.fields #[.int 2 t1,.int (m : Int) t2,.int 2 t3] }).objs.size:=by simpa using hb
  exact I2.fpOk (Nat.le_refl _) (I2.hok.fresh (Nat.le_refl _))
end
end L2
namespace DD
open PySem PySem.Spec PyProof.Rows L2
noncomputable def wS (m : Nat) : List D:=(List.range ((m - 1) / 2)).map fun (k : Nat)=>D.int (2 + (k : Int) * 2)
theorem Dk {K : PySem.W.Frag} {F : Addr -> Prop} {H : Hp} {m : Nat} : nJ K (Av ((m - 1) / 2)) (wS m) F H where
 item:=fun i d F1 H1 _ dm e=>by
  unfold wS at e;rw [List.getElem?_map] at e;rcases hk : (List.range ((m - 1) / 2))[i]? with _ | j
  ·rw [hk] at e; cases e
  ·rw [hk] at e
   cases e;have hl:=(List.getElem?_eq_some_iff.mp hk).1;have hj:=(List.getElem?_eq_some_iff.mp hk).2;simp only [List.length_range] at hl;simp only [List.getElem_range] at hj;subst hj;refine ⟨hl,fun x H2 hq0=>?_⟩;obtain ⟨e2,hx⟩:=hq0;subst e2 hx;exact ⟨F1,Grow.refl,Ow.of_sc rfl⟩
 done:=fun F1 H1 _=>by simp [wS,Av]
noncomputable def tK (c : DA) : DI:=fun σ=>(c σ).bind fun p=>match p.1 with
 | [.int i,.int j,.int k]=>if decide (i = 2 /\ k = 2 /\ 0 <= j /\ j <= 1000) = true then some (wS j.toNat,p.2) else none
 | _=>none
section
variable {X : Cx} {tg e a b c : Expr} {ca : DA} {p1 pos1 : Pos}
theorem Ed (hgl : Gl X "range") (hm : X.mg "range" = none) (ha : QA X [a,b,c] ca) (hs : autoParam (starEach [a,b,c] X.env = [(false,eval a X.env),(false,eval b X.env),(false,eval c X.env)]) aI._auto_1) (hs2 : autoParam (starEach [b,c] X.env = [(false,eval b X.env),(false,eval c X.env)]) aI._auto_1) :
  QI X tg (.Call (.Name "range" p1) [a,b,c] [] pos1) (tK ca):=jM (Ej hgl hm ha hs hs2) fun σ H R hq0=>by
 obtain ⟨F,Ro,σD,xs,σD',r,ec,k⟩:=hq0;unfold tK at ec
 revert ec
 refine bJ fun ys σ1 h ec=>?_
 try dsimp only at ec
 refine ⟨F,Ro,σD,ys,σ1,r,h,fun F1 H1 vs x1 hl r1=>?_⟩;split at ec
 ·rename_i i j k'
  split at ec
  ·rename_i hj
   simp only [decide_eq_true_eq] at hj;obtain ⟨rfl,rfl,hj⟩:=hj;cases ec
   match vs,hl with
   | [v,u,w],_ =>
    have hv : v = .int 2:=(r1.bor (d:=.int 2) (v:=v) (by simp)).int;have hu : u = .int j:=(r1.bor (d:=.int j) (v:=u) (by simp)).int;have hw : w = .int 2:=(r1.bor (d:=.int 2) (v:=w) (by simp)).int;subst hv; subst hu; subst hw;exact ⟨j.toNat,by rw [Int.toNat_of_nonneg hj.1],by omega,k F1 H1 _ x1 (r1.popN (S:=[(D.int 2,V.int 2),(D.int j,V.int j),(D.int 2,V.int 2)])) Dk⟩
  ·cases ec
 ·cases ec
end
end DD
namespace TT
open PySem L2 DD
section
variable {S : Type} {α β : Type} {Γ Γ1 : aS S} {c : DE}
noncomputable def B6 (j : Int) : List Int:=(List.range ((j.toNat - 1) / 2)).map fun (k : Nat)=>2 + (k : Int) * 2
theorem EB {f : S -> Option (Int × S)} (h : JE Γ c f rI Γ1) : JI Γ (tK (ar (dS (pC (.int 2))) (ar c (ar (dS (pC (.int 2))) aX)))) (fun s=>(f s).bind fun p=>if su p.1 = true then some (B6 p.1,p.2) else none) rI Γ1:=by
 intro s σ v s' hs e
 revert e
 refine bJ fun a s1 e1 e=>?_
 dsimp only at e;split at e
 ·rename_i hl
  cases e;obtain ⟨d,σ1,h1,h2,h3⟩:=h s σ a _ hs e1;cases h2;have hl2:=of_decide_eq_true hl;refine ⟨wS a.toNat,σ1,?_,?_,h3⟩
  ·simp only [tK,ar,aX,dS,pC,D.sc,h1,bind_some,map_some]
   exact if_pos (by simpa using hl2)
  ·exact All2.ofMap (r:=rI) (f:=fun (k : Nat)=>2 + (k : Int) * 2) (g:=fun (k : Nat)=>D.int (2 + (k : Int) * 2)) (fun _=>rfl) _
 ·cases e
end
end TT
namespace RK
noncomputable def ak : List Nat -> List Nat
 | []=>[0]
 | r :: rs=>ak rs ++ (ak rs).map (r ^^^ ·)
theorem eN : ∀ rs,0 ∈ ak rs:=by
 intro rs
 induction rs with
 | nil=>simp [ak]
 | cons r rs ih=>simp only [ak,List.mem_append]; exact .inl ih
theorem cQ {r : Nat} : ∀ {rs : List Nat},r ∈ rs -> r ∈ ak rs:=by
 intro rs
 induction rs with
 | nil=>intro h; cases h
 | cons a rs ih =>
  intro h;simp only [ak,List.mem_append,List.mem_map];rcases List.mem_cons.mp h with rfl | h
  ·exact .inr ⟨0,eN rs,by simp⟩
  ·exact .inl (ih h)
theorem cX : ∀ {rs : List Nat} {x y : Nat},x ∈ ak rs -> y ∈ ak rs -> x ^^^ y ∈ ak rs:=by
 intro rs
 induction rs with
 | nil=>intro x y hx hy; simp only [ak,List.mem_singleton] at hx hy; subst hx; subst hy; simp [ak]
 | cons r rs ih =>
  intro x y hx hy;simp only [ak,List.mem_append,List.mem_map] at hx hy ⊢;rcases hx with hx | ⟨a,ha,rfl⟩
  ·rcases hy with hy | ⟨b,hb,rfl⟩
   ·exact .inl (ih hx hy)
   ·exact .inr ⟨x ^^^ b,ih hx hb,by rw [<- Nat.xor_assoc,<- Nat.xor_assoc,Nat.xor_comm r x]⟩
  ·rcases hy with hy | ⟨b,hb,rfl⟩
   ·exact .inr ⟨a ^^^ y,ih ha hy,by rw [Nat.xor_assoc]⟩
   ·refine .inl ?_
    have e : r ^^^ a ^^^ (r ^^^ b) = a ^^^ b:=by
     rw [Nat.xor_comm r a,Nat.xor_assoc,<- Nat.xor_assoc r r b,Nat.xor_self,Nat.zero_xor]
    rw [e]; exact ih ha hb
theorem cY {rs ss : List Nat} (h : ∀ r ∈ rs,r ∈ ak ss) : ∀ {x},x ∈ ak rs -> x ∈ ak ss:=by
 induction rs with
 | nil=>intro x hx; simp only [ak,List.mem_singleton] at hx; subst hx; exact eN ss
 | cons r rs ih =>
  intro x hx;simp only [ak,List.mem_append,List.mem_map] at hx;rcases hx with hx | ⟨a,ha,rfl⟩
  ·exact ih (fun q hq=>h q (by simp [hq])) hx
  ·exact cX (h r (by simp)) (ih (fun q hq=>h q (by simp [hq])) ha)
noncomputable def pN : List (Nat × Nat) -> Prop
 | []=>True
 | b :: bs=>b.2.testBit b.1 = true /\ (∀ c ∈ bs,c.2.testBit b.1 = false) /\ pN bs
theorem wV {t : Nat} : ∀ {rs : List Nat} {x : Nat},(∀ r ∈ rs,r.testBit t = false) -> x ∈ ak rs -> x.testBit t = false:=by
 intro rs
 induction rs with
 | nil=>intro x _ hx; simp only [ak,List.mem_singleton] at hx; subst hx; simp
 | cons r rs ih =>
  intro x h hx;simp only [ak,List.mem_append,List.mem_map] at hx;rcases hx with hx | ⟨a,ha,rfl⟩
  ·exact ih (fun q hq=>h q (by simp [hq])) hx
  ·rw [Nat.testBit_xor,h r (by simp),ih (fun q hq=>h q (by simp [hq])) ha]; rfl
theorem yI : ∀ {bs : List (Nat × Nat)} {x : Nat},pN bs -> x ∈ ak (bs.map (·.2)) -> (∀ b ∈ bs,x.testBit b.1 = false) -> x = 0:=by
 intro bs
 induction bs with
 | nil=>intro x _ hx _; simpa [ak] using hx
 | cons b bs ih =>
  intro x ht hx hb;obtain ⟨h1,h2,h3⟩:=ht;simp only [List.map_cons,ak,List.mem_append,List.mem_map] at hx;rcases hx with hx | ⟨y,hy,rfl⟩
  ·exact ih h3 hx fun c hc=>hb c (by simp [hc])
  ·exfalso
   have h4:=hb b (by simp);have h5:=wV (t:=b.1) (fun r hr=>by obtain ⟨c,hc,rfl⟩:=List.mem_map.mp hr; exact h2 c hc) hy;rw [Nat.testBit_xor,h1,h5] at h4;cases h4
theorem sF {bs : List (Nat × Nat)} (ht : pN bs) {x z : Nat} (hs : x ^^^ z ∈ ak (bs.map (·.2))) (hz : ∀ b ∈ bs,z.testBit b.1 = false) : z = 0 ↔ x ∈ ak (bs.map (·.2)):=by
 constructor
 ·intro h; subst h; simpa using hs
 ·intro h
  refine yI ht ?_ hz;have e : x ^^^ (x ^^^ z) = z:=by rw [<- Nat.xor_assoc,Nat.xor_self,Nat.zero_xor]
  rw [<- e]; exact cX h hs
noncomputable def gr (done : List Nat) : List Nat -> Nat
 | []=>0
 | m :: ms=>(if m ∈ ak done then 0 else 1) + gr (m :: done) ms
theorem mQ {r : Nat} (h : r ≠ 0) : r.testBit r.log2 = true:=by
 rw [Nat.testBit_eq_decide_div_mod_eq,decide_eq_true_eq];have h1:=Nat.log2_self_le h;have h2 : r < 2 ^ (r.log2 + 1):=Nat.lt_log2_self;rw [Nat.pow_succ] at h2;have h3 : r / 2 ^ r.log2 = 1:=by
  apply Nat.div_eq_of_lt_le
  ·omega
  ·omega
 rw [h3]
theorem yy {n m i : Nat} (hn : n.testBit i = false) (hm : m.testBit i = true) (h : ∀ j,i < j -> n.testBit j = m.testBit j) : n < m:=by
 have e : n / 2 ^ (i + 1) = m / 2 ^ (i + 1):=by
  apply Nat.eq_of_testBit_eq;intro j;rw [Nat.testBit_div_two_pow,Nat.testBit_div_two_pow];exact h _ oM
 rw [Nat.testBit_eq_decide_div_mod_eq] at hn hm;have hn1:=of_decide_eq_false hn;have hm1:=of_decide_eq_true hm;have n1:=Nat.mod_pow_succ (x:=n) (b:=2) (k:=i);have m1:=Nat.mod_pow_succ (x:=m) (b:=2) (k:=i);have hn2 : n / 2 ^ i % 2 = 0:=by omega
 rw [hn2,Nat.mul_zero] at n1;rw [hm1,Nat.mul_one] at m1;have n2:=Nat.mod_lt n (show 0 < 2 ^ i from Nat.pow_pos dC);have n3:=Nat.div_add_mod n (2 ^ (i + 1));have m3:=Nat.div_add_mod m (2 ^ (i + 1));rw [e] at n3;omega
theorem Bl {m r : Nat} (h : r ≠ 0) : (min m (m ^^^ r)).testBit r.log2 = false:=by
 have ht:=mQ h;have hi : ∀ j,r.log2 < j -> r.testBit j = false:=fun j hj=>Nat.testBit_lt_two_pow (Nat.lt_of_lt_of_le (Nat.lt_log2_self) (Nat.pow_le_pow_right dC hj))
 cases hm : m.testBit r.log2
 ·have hlt : m < m ^^^ r:=yy (i:=r.log2) hm (by rw [Nat.testBit_xor,hm,ht]; rfl) fun j hj=>by rw [Nat.testBit_xor,hi j hj]; simp
  rw [Nat.min_eq_left (Nat.le_of_lt hlt)]; exact hm
 ·have hlt : m ^^^ r < m:=yy (i:=r.log2) (by rw [Nat.testBit_xor,hm,ht]; rfl) hm fun j hj=>by rw [Nat.testBit_xor,hi j hj]; simp
  rw [Nat.min_eq_right (Nat.le_of_lt hlt),Nat.testBit_xor,hm,ht]; rfl
theorem zj {m r t : Nat} (h1 : m.testBit t = false) (h2 : r.testBit t = false) : (min m (m ^^^ r)).testBit t = false:=by
 rcases Nat.le_total m (m ^^^ r) with h | h
 ·rw [Nat.min_eq_left h]; exact h1
 ·rw [Nat.min_eq_right h,Nat.testBit_xor,h1,h2]; rfl
noncomputable def ce (rows : List Nat) (x : Nat) : Nat:=rows.foldl (fun m r=>min m (m ^^^ r)) x
noncomputable def uS (rows : List Nat) : List (Nat × Nat):=rows.map fun r=>(r.log2,r)
theorem uR (rows : List Nat) : (uS rows).map (·.2) = rows:=by
 unfold uS; rw [List.map_map]; exact List.map_id' rows
theorem yU : ∀ (rows : List Nat) (x : Nat),x ^^^ ce rows x ∈ ak rows:=by
 intro rows
 induction rows with
 | nil=>intro x; simp [ce,ak]
 | cons r rows ih =>
  intro x;have h:=ih (min x (x ^^^ r));simp only [ce,List.foldl_cons] at h ⊢;simp only [ak,List.mem_append,List.mem_map];rcases Nat.le_total x (x ^^^ r) with hm | hm
  ·rw [Nat.min_eq_left hm] at h ⊢; exact .inl h
  ·rw [Nat.min_eq_right hm] at h ⊢
   refine .inr ⟨_,h,?_⟩;rw [<- Nat.xor_assoc,<- Nat.xor_assoc,Nat.xor_comm r x,Nat.xor_assoc x r r,Nat.xor_self,Nat.xor_zero]
theorem yV {t : Nat} : ∀ (rows : List Nat) (x : Nat),x.testBit t = false -> (∀ r ∈ rows,r.testBit t = false) -> (ce rows x).testBit t = false:=by
 intro rows
 induction rows with
 | nil=>intro x h _; exact h
 | cons r rows ih =>
  intro x h hr;simp only [ce,List.foldl_cons];exact ih _ (zj h (hr r (by simp))) fun q hq=>hr q (by simp [hq])
theorem yW : ∀ (rows : List Nat) (x : Nat),pN (uS rows) -> (∀ r ∈ rows,r ≠ 0) -> ∀ b ∈ uS rows,(ce rows x).testBit b.1 = false:=by
 intro rows
 induction rows with
 | nil=>intro x _ _ b hb; cases hb
 | cons r rows ih =>
  intro x ht h0 b hb;obtain ⟨h1,h2,h3⟩:=ht;simp only [ce,List.foldl_cons];rcases List.mem_cons.mp hb with rfl | hb
  ·exact yV rows _ (Bl (h0 r (by simp))) fun q hq=>h2 (q.log2,q) (List.mem_map.mpr ⟨q,hq,rfl⟩)
  ·exact ih _ h3 (fun q hq=>h0 q (by simp [hq])) b hb
theorem yJ {b : Nat × Nat} : ∀ {bs : List (Nat × Nat)},pN bs -> b.2.testBit b.1 = true -> (∀ c ∈ bs,b.2.testBit c.1 = false) -> pN (bs ++ [b]):=by
 intro bs
 induction bs with
 | nil=>intro _ h1 _; exact ⟨h1,(fun c hc=>by cases hc),trivial⟩
 | cons c bs ih =>
  intro ht h1 h2;obtain ⟨t1,t2,t3⟩:=ht;refine ⟨t1,?_,ih t3 h1 fun d hd=>h2 d (by simp [hd])⟩;intro d hd;have hd : d ∈ bs ++ [b]:=hd;rw [List.mem_append,List.mem_singleton] at hd;rcases hd with hd | rfl
  ·exact t2 d hd
  ·exact h2 c (by simp)
noncomputable def ci (rows : List Nat) (m : Nat) : List Nat:=if ce rows m > 0 then rows ++ [ce rows m] else rows
theorem ou {rs ss : List Nat} (h1 : ∀ r ∈ rs,r ∈ ak ss) (h2 : ∀ s ∈ ss,s ∈ ak rs) (x : Nat) : x ∈ ak rs ↔ x ∈ ak ss:=⟨cY h1,cY h2⟩
theorem C6 : ∀ (ms done rows : List Nat),pN (uS rows) -> (∀ r ∈ rows,r ≠ 0) -> (∀ r ∈ rows,r ∈ ak done) -> (∀ d ∈ done,d ∈ ak rows) -> (ms.foldl ci rows).length = rows.length + gr done ms:=by
 intro ms
 induction ms with
 | nil=>intro done rows _ _ _ _; simp [gr]
 | cons m ms ih =>
  intro done rows ht h0 h1 h2;rw [List.foldl_cons];have hsp:=yU rows m;have hz:=yW rows m ht h0;have key : ce rows m = 0 ↔ m ∈ ak rows:=by
   have:=sF ht (x:=m) (z:=ce rows m) (by rw [uR]; exact hsp) hz
   rw [uR] at this;exact this
  have hsame:=ou h1 h2;have hd : ∀ r ∈ rows,r ∈ ak (m :: done):=fun r hr=>by simp only [ak,List.mem_append]; exact .inl (h1 r hr)
  by_cases hm : m ∈ ak done
  ·have e0:=key.mpr ((hsame m).mpr hm)
   have es : ci rows m = rows:=by unfold ci; rw [e0]; rfl
   rw [es,ih (m :: done) rows ht h0 hd (fun d hdd=>by
    rcases List.mem_cons.mp hdd with rfl | hdd
    ·exact (hsame _).mpr hm
    ·exact h2 d hdd)]
   simp only [gr,hm,if_true]; omega
  ·have e0 : ce rows m ≠ 0:=fun h=>hm ((hsame m).mp (key.mp h))
   have es : ci rows m = rows ++ [ce rows m]:=by unfold ci; rw [if_pos oM]
   have hmz : m = (m ^^^ ce rows m) ^^^ ce rows m:=by rw [Nat.xor_assoc,Nat.xor_self,Nat.xor_zero]
   have sub : ∀ r ∈ rows,r ∈ ak (rows ++ [ce rows m]):=fun r hr=>cQ (by simp [hr])
   rw [es,ih (m :: done) _ (by
    unfold uS;rw [List.map_append];exact yJ ht (mQ e0) hz) (fun r hr=>by
     rw [List.mem_append,List.mem_singleton] at hr;rcases hr with hr | rfl
     ·exact h0 r hr
     ·exact e0) (fun r hr=>by
     rw [List.mem_append,List.mem_singleton] at hr;rcases hr with hr | rfl
     ·exact hd r hr
     ·have a1 : m ^^^ ce rows m ∈ ak (m :: done):=cY hd hsp
      have a2 : m ∈ ak (m :: done):=cQ (by simp);have e : m ^^^ (m ^^^ ce rows m) = ce rows m:=by rw [<- Nat.xor_assoc,Nat.xor_self,Nat.zero_xor]
      rw [<- e]; exact cX a2 a1) (fun d hdd=>by
     rcases List.mem_cons.mp hdd with rfl | hdd
     ·have a1:=cY sub hsp
      have a2 : ce rows d ∈ ak (rows ++ [ce rows d]):=cQ (by simp);have a3:=cX a1 a2
      rwa [Nat.xor_assoc,Nat.xor_self,Nat.xor_zero] at a3
     ·exact cY sub (h2 d hdd))]
   simp only [gr,hm,if_false,List.length_append,List.length_singleton]; omega
theorem nZ (ms : List Nat) : (ms.foldl ci []).length = gr [] ms:=by
 have:=C6 ms [] [] trivial (fun r hr=>by cases hr) (fun r hr=>by cases hr) (fun d hd=>by cases hd)
 simpa using this
noncomputable def eQ (ls : List (Nat × Nat)) (x : Nat) : Nat:=ls.foldl (fun m l=>if m.testBit l.1 = true then m ^^^ l.2 else m) x
noncomputable def Rd (ls : List (Nat × Nat)) : Prop:=(∀ l ∈ ls,l.2.testBit l.1 = true) /\ ls.Pairwise fun a b=>a.2.testBit b.1 = false /\ b.2.testBit a.1 = false
theorem Rd.tri : ∀ {ls : List (Nat × Nat)},Rd ls -> pN ls:=by
 intro ls
 induction ls with
 | nil=>intro _; trivial
 | cons l ls ih =>
  intro h;obtain ⟨h1,h2⟩:=h;rw [List.pairwise_cons] at h2;exact ⟨h1 l (by simp),fun c hc=>(h2.1 c hc).2,ih ⟨fun c hc=>h1 c (by simp [hc]),h2.2⟩⟩
theorem Bn : ∀ (ls : List (Nat × Nat)) (x : Nat),x ^^^ eQ ls x ∈ ak (ls.map (·.2)):=by
 intro ls
 induction ls with
 | nil=>intro x; simp [eQ,ak]
 | cons l ls ih =>
  intro x;simp only [eQ,List.foldl_cons,List.map_cons,ak,List.mem_append,List.mem_map];by_cases h : x.testBit l.1 = true
  ·rw [if_pos h]
   refine .inr ⟨_,ih (x ^^^ l.2),?_⟩;simp only [eQ];rw [<- Nat.xor_assoc,<- Nat.xor_assoc,Nat.xor_comm l.2 x,Nat.xor_assoc x l.2 l.2,Nat.xor_self,Nat.xor_zero]
  ·rw [if_neg h]; exact .inl (ih x)
theorem Bo {t : Nat} : ∀ (ls : List (Nat × Nat)) (x : Nat),x.testBit t = false -> (∀ l ∈ ls,l.2.testBit t = false) -> (eQ ls x).testBit t = false:=by
 intro ls
 induction ls with
 | nil=>intro x h _; exact h
 | cons l ls ih =>
  intro x h hr;simp only [eQ,List.foldl_cons];refine ih _ ?_ fun q hq=>hr q (by simp [hq])
  split
  ·rw [Nat.testBit_xor,h,hr l (by simp)]; rfl
  ·exact h
theorem Bp : ∀ (ls : List (Nat × Nat)) (x : Nat),pN ls -> ∀ b ∈ ls,(eQ ls x).testBit b.1 = false:=by
 intro ls
 induction ls with
 | nil=>intro x _ b hb; cases hb
 | cons l ls ih =>
  intro x ht b hb;obtain ⟨h1,h2,h3⟩:=ht;simp only [eQ,List.foldl_cons];rcases List.mem_cons.mp hb with rfl | hb
  ·refine Bo ls _ ?_ fun q hq=>h2 q hq
   split
   ·rename_i h; rw [Nat.testBit_xor,h,h1]; rfl
   ·rename_i h; simpa using h
  ·exact ih _ h3 b hb
noncomputable def iY (m : Nat) (l : Nat × Nat) : Nat × Nat:=if l.2.testBit m.log2 = true then (l.1,l.2 ^^^ m) else l
theorem wF (m : Nat) (l : Nat × Nat) : (iY m l).1 = l.1:=by unfold iY; split <;> rfl
theorem qy {m : Nat} {l : Nat × Nat} {t : Nat} (h : m.testBit t = false) : (iY m l).2.testBit t = l.2.testBit t:=by
 unfold iY;split
 ·rw [Nat.testBit_xor,h]; simp
 ·rfl
theorem BS {m : Nat} {l : Nat × Nat} (h : m ≠ 0) : (iY m l).2.testBit m.log2 = false:=by
 unfold iY;split
 ·rename_i h1; rw [Nat.testBit_xor,h1,mQ h]; rfl
 ·rename_i h1; simpa using h1
noncomputable def fv (ls : List (Nat × Nat)) (m : Nat) : List (Nat × Nat):=ls.map (iY m) ++ [(m.log2,m)]
theorem AB {ls : List (Nat × Nat)} {m : Nat} (h : Rd ls) (h0 : m ≠ 0) (hb : ∀ l ∈ ls,m.testBit l.1 = false) : Rd (fv ls m):=by
 obtain ⟨h1,h2⟩:=h;constructor
 ·intro l hl
  unfold fv at hl;rw [List.mem_append,List.mem_singleton] at hl;rcases hl with hl | rfl
  ·obtain ⟨k,hk,rfl⟩:=List.mem_map.mp hl
   rw [wF,qy (hb k hk)]; exact h1 k hk
  ·exact mQ h0
 ·unfold fv
  rw [List.pairwise_append];refine ⟨?_,List.pairwise_singleton _ _,?_⟩
  ·rw [List.pairwise_map]
   refine (List.Pairwise.and_mem.mp h2).imp ?_;rintro a b ⟨ha,hb2,q1,q2⟩;rw [wF,wF,qy (hb b hb2),qy (hb a ha)];exact ⟨q1,q2⟩
  ·intro a ha b hb2
   rw [List.mem_singleton] at hb2;subst hb2;obtain ⟨k,hk,rfl⟩:=List.mem_map.mp ha;refine ⟨BS h0,?_⟩;rw [wF]; exact hb k hk
noncomputable def ik (ls : List (Nat × Nat)) (m : Nat) : List (Nat × Nat):=if eQ ls m ≠ 0 then fv ls (eQ ls m) else ls
theorem sn (ls : List (Nat × Nat)) (m : Nat) : m ∈ ak ((fv ls m).map (·.2)):=cQ (by unfold fv; simp)
theorem sk (ls : List (Nat × Nat)) (m : Nat) : ∀ r ∈ ls.map (·.2),r ∈ ak ((fv ls m).map (·.2)):=by
 intro r hr;obtain ⟨l,hl,rfl⟩:=List.mem_map.mp hr;have h1 : (iY m l).2 ∈ ak ((fv ls m).map (·.2)):=cQ (List.mem_map.mpr ⟨iY m l,by unfold fv; simp only [List.mem_append,List.mem_map]; exact .inl ⟨l,hl,rfl⟩,rfl⟩);by_cases h : l.2.testBit m.log2 = true
 ·have e : (iY m l).2 = l.2 ^^^ m:=by unfold iY; rw [if_pos h]
  rw [e] at h1;have h3:=cX h1 (sn ls m)
  rwa [Nat.xor_assoc,Nat.xor_self,Nat.xor_zero] at h3
 ·have e : (iY m l).2 = l.2:=by unfold iY; rw [if_neg h]
  rw [e] at h1; exact h1
theorem AC {ls : List (Nat × Nat)} {m : Nat} {ss : List Nat} (h1 : ∀ r ∈ ls.map (·.2),r ∈ ak ss) (h2 : m ∈ ak ss) : ∀ r ∈ (fv ls m).map (·.2),r ∈ ak ss:=by
 intro r hr;obtain ⟨l,hl,rfl⟩:=List.mem_map.mp hr;unfold fv at hl;rw [List.mem_append,List.mem_singleton] at hl;rcases hl with hl | rfl
 ·obtain ⟨k,hk,rfl⟩:=List.mem_map.mp hl
  have hk2:=h1 k.2 (List.mem_map.mpr ⟨k,hk,rfl⟩);unfold iY;split
  ·exact cX hk2 h2
  ·exact hk2
 ·exact h2
theorem Ew : ∀ (ms done : List Nat) (ls : List (Nat × Nat)),Rd ls -> (∀ r ∈ ls.map (·.2),r ∈ ak done) -> (∀ d ∈ done,d ∈ ak (ls.map (·.2))) -> (ms.foldl ik ls).length = ls.length + gr done ms:=by
 intro ms
 induction ms with
 | nil=>intro done ls _ _ _; simp [gr]
 | cons m ms ih =>
  intro done ls hr h1 h2;rw [List.foldl_cons];have hsp:=Bn ls m;have hz:=Bp ls m hr.tri;have key:=sF hr.tri (x:=m) (z:=eQ ls m) hsp hz;have hsame:=ou h1 h2;have hd : ∀ r ∈ ls.map (·.2),r ∈ ak (m :: done):=fun r hr=>by simp only [ak,List.mem_append]; exact .inl (h1 r hr)
  by_cases hm : m ∈ ak done
  ·have e0:=key.mpr ((hsame m).mpr hm)
   have es : ik ls m = ls:=by unfold ik; rw [e0]; rfl
   rw [es,ih (m :: done) ls hr hd (fun d hdd=>by
    rcases List.mem_cons.mp hdd with rfl | hdd
    ·exact (hsame _).mpr hm
    ·exact h2 d hdd)]
   simp only [gr,hm,if_true]; omega
  ·have e0 : eQ ls m ≠ 0:=fun h=>hm ((hsame m).mp (key.mp h))
   have es : ik ls m = fv ls (eQ ls m):=by unfold ik; rw [if_pos e0]
   rw [es,ih (m :: done) _ (AB hr e0 hz) (AC hd (by
     have a1:=cY hd hsp;have a2 : m ∈ ak (m :: done):=cQ (by simp);have a3:=cX a2 a1
     rwa [<- Nat.xor_assoc,Nat.xor_self,Nat.zero_xor] at a3)) (fun d hdd=>by
     rcases List.mem_cons.mp hdd with rfl | hdd
     ·have a1:=cY (sk ls (eQ ls d)) hsp
      have a3:=cX a1 (sn ls (eQ ls d))
      rwa [Nat.xor_assoc,Nat.xor_self,Nat.xor_zero] at a3
     ·exact cY (sk ls _) (h2 d hdd))]
   simp only [gr,hm,if_false,fv,List.length_append,List.length_map,List.length_singleton]; omega
theorem w5 (ms : List Nat) : (ms.foldl ik []).length = (ms.foldl ci []).length:=by
 rw [nZ]
 have:=Ew ms [] [] ⟨(fun l hl=>by cases hl),List.Pairwise.nil⟩ (fun r hr=>by cases hr) (fun d hd=>by cases hd)
 simpa using this
theorem n6 : ∀ (ms : List Nat) {d e : List Nat},(∀ x,x ∈ ak d ↔ x ∈ ak e) -> gr d ms = gr e ms:=by
 intro ms
 induction ms with
 | nil=>intro d e _; rfl
 | cons m ms ih =>
  intro d e h;have h2 : ∀ x,x ∈ ak (m :: d) ↔ x ∈ ak (m :: e):=fun x=>by
   simp only [ak,List.mem_append,List.mem_map,h]
  simp only [gr,ih h2,h m]
theorem Dm : ∀ (as bs d : List Nat),gr d (as ++ bs) = gr d as + gr (as.reverse ++ d) bs:=by
 intro as
 induction as with
 | nil=>intro bs d; simp [gr]
 | cons a as ih =>
  intro bs d;simp only [List.cons_append,gr,ih,List.reverse_cons,List.append_assoc,List.nil_append];omega
theorem fm {rs ss : List Nat} (h : ∀ r ∈ rs,r ∈ ss) {x : Nat} (hx : x ∈ ak rs) : x ∈ ak ss:=cY (fun r hr=>cQ (h r hr)) hx
noncomputable def rk (ms : List Nat) : Nat:=gr [] ms
theorem sE (as bs : List Nat) : rk (as ++ bs) = rk as + gr as bs:=by
 unfold rk;rw [Dm];congr 1;refine n6 bs fun x=>⟨fun h=>fm (fun r hr=>by simpa using hr) h,fun h=>fm (fun r hr=>by simpa using hr) h⟩
theorem BM (d : List Nat) (a b : Nat) (ms : List Nat) : gr d (a :: b :: ms) = gr d (b :: a :: ms):=by
 have h2 : gr (b :: a :: d) ms = gr (a :: b :: d) ms:=n6 ms fun x=>⟨fun h=>fm (fun r hr=>by simp at hr ⊢; rcases hr with h | h | h <;> simp [h]) h,fun h=>fm (fun r hr=>by simp at hr ⊢; rcases hr with h | h | h <;> simp [h]) h⟩
 have e1 : ∀ p q : Nat,p ∉ ak d -> q ∉ ak d -> q ∈ ak (p :: d) -> p ∈ ak (q :: d):=by
  intro p q hp hq h;simp only [ak,List.mem_append,List.mem_map] at h ⊢;rcases h with h | ⟨s,hs,rfl⟩
  ·exact absurd h hq
  ·exact .inr ⟨s,hs,by rw [Nat.xor_assoc,Nat.xor_self,Nat.xor_zero]⟩
 have e2 : ∀ p q : Nat,q ∈ ak d -> q ∈ ak (p :: d):=fun p q h=>by simp only [ak,List.mem_append]; exact .inl h
 have e3 : ∀ p q : Nat,p ∈ ak d -> q ∉ ak d -> q ∉ ak (p :: d):=by
  intro p q hp hq h;simp only [ak,List.mem_append,List.mem_map] at h;rcases h with h | ⟨s,hs,rfl⟩
  ·exact hq h
  ·exact hq (cX hp hs)
 simp only [gr,h2];by_cases ha : a ∈ ak d <;> by_cases hb : b ∈ ak d
 ·simp [ha,hb,e2]
 ·simp [ha,hb,e2,e3 a b ha hb]
 ·simp [ha,hb,e2,e3 b a hb ha]
 ·by_cases h : b ∈ ak (a :: d)
  ·simp [ha,hb,h,e1 a b ha hb h]
  ·have : a ∉ ak (b :: d):=fun h'=>h (e1 b a hb ha h')
   simp [ha,hb,h,this]
theorem BN {as bs : List Nat} (p : as.Perm bs) : ∀ d,gr d as = gr d bs:=by
 induction p with
 | nil=>intro d; rfl
 | cons x _ ih=>intro d; simp only [gr,ih]
 | swap x y l=>intro d; exact BM d y x l
 | trans _ _ h1 h2=>intro d; rw [h1,h2]
theorem uK {as bs : List Nat} (p : as.Perm bs) : rk as = rk bs:=BN p []
theorem EM : ∀ (ms d : List Nat),(∀ m ∈ ms,m ∈ ak d) -> gr d ms = 0:=by
 intro ms
 induction ms with
 | nil=>intro d _; rfl
 | cons m ms ih =>
  intro d h;simp only [gr,h m (by simp),if_true];rw [ih (m :: d) fun x hx=>by simp only [ak,List.mem_append]; exact .inl (h x (by simp [hx]))]
theorem Cg {as bs : List Nat} (h : ∀ b ∈ bs,b ∈ ak as) : rk (as ++ bs) = rk as:=by rw [sE,EM bs as h]; rfl
end RK
namespace RK
open PySem
theorem y8 : ∀ a b : Nat,(a &&& b) + (a ^^^ b) = a ||| b:=by
 intro a
 induction a using Nat.strongRecOn with
 | ind a ih =>
  intro b;rcases Nat.eq_zero_or_pos a with rfl | h
  ·simp
  ·have h1:=ih (a / 2) oM (b / 2)
   rw [<- Nat.and_div_two,<- Nat.xor_div_two,<- Nat.or_div_two] at h1;have hm : (a &&& b) % 2 + (a ^^^ b) % 2 = (a ||| b) % 2:=by
    rw [Nat.and_mod_two_pow (n:=1) (a:=a) (b:=b) |> fun h=>h,Nat.xor_mod_two_pow (n:=1) (a:=a) (b:=b),Nat.or_mod_two_pow (n:=1) (a:=a) (b:=b)];rcases Nat.mod_two_eq_zero_or_one a with e | e <;> rcases Nat.mod_two_eq_zero_or_one b with f | f <;> rw [show (2 : Nat) ^ 1 = 2 from rfl,e,f] <;> rfl
   have d1:=Nat.div_add_mod (a &&& b) 2;have d2:=Nat.div_add_mod (a ^^^ b) 2;have d3:=Nat.div_add_mod (a ||| b) 2;omega
theorem t9 (a b : Nat) : Builtin.bitAnd (a : Int) (b : Int) = ((a &&& b : Nat) : Int):=by
 unfold Builtin.bitAnd;simp
theorem vE (a b : Nat) : Builtin.bitOr (a : Int) (b : Int) = ((a ||| b : Nat) : Int):=by
 unfold Builtin.bitOr Builtin.bitAnd Builtin.bitNot;rw [show decide ((0 : Int) <= -(a : Int) - 1) = false from decide_eq_false oM,show decide ((0 : Int) <= -(b : Int) - 1) = false from decide_eq_false oM];dsimp only;rw [show (-(-(a : Int) - 1) - 1).toNat = a by omega,show (-(-(b : Int) - 1) - 1).toNat = b by omega];omega
theorem oa (a b : Nat) : Builtin.bitXor (a : Int) (b : Int) = ((a ^^^ b : Nat) : Int):=by
 have h:=y8 a b;unfold Builtin.bitXor;rw [vE,t9]; omega
theorem gq (b : Nat) : (1 : Int) * 2 ^ b = ((2 ^ b : Nat) : Int):=by rw [Int.one_mul]; simp
theorem qm (m b : Nat) : (!(Builtin.bitAnd (m : Int) ((2 ^ b : Nat) : Int) == 0)) = m.testBit b:=by
 rw [t9];have e : (((m &&& 2 ^ b : Nat) : Int) == 0) = decide (m &&& 2 ^ b = 0):=by
  rw [Bool.eq_iff_iff,beq_iff_eq,decide_eq_true_eq]; omega
 rw [e];cases hb : m.testBit b
 ·have : m &&& 2 ^ b = 0:=by
   apply Nat.eq_of_testBit_eq;intro i;rw [Nat.testBit_and,Nat.testBit_two_pow];by_cases h : b = i
   ·subst h; simp [hb]
   ·simp [h]
  simp [this]
 ·have : m &&& 2 ^ b ≠ 0:=fun h=>by
   have h2 : (m &&& 2 ^ b).testBit b = true:=by rw [Nat.testBit_and,hb,Nat.testBit_two_pow_self]; rfl
   rw [h] at h2; simp at h2
  simp [this]
theorem zP {m : Nat} (h : m ≠ 0) : ((Builtin.Int.intBits (m : Int) : Nat) : Int) - 1 = ((m.log2 : Nat) : Int):=by
 unfold Builtin.Int.intBits;have : ((m : Int) == 0) = false:=by rw [beq_eq_false_iff_ne]; omega
 rw [this];simp only [Bool.false_eq_true,if_false,Int.natAbs_natCast];omega
theorem log2_lt {m B : Nat} (h : m ≠ 0) (hm : m < 2 ^ B) : m.log2 < B:=(Nat.log2_lt h).mpr hm
noncomputable abbrev L3:=Nat × Nat × Nat
noncomputable def eZ (ls : List L3) (x : Nat × Nat) : Nat × Nat:=ls.foldl (fun p l=>if p.1.testBit l.1 = true then (p.1 ^^^ l.2.1,p.2 ^^^ l.2.2) else p) x
noncomputable def nu (l : L3) : Nat × Nat:=(l.1,l.2.1)
theorem zk : ∀ (ls : List L3) (x : Nat × Nat),(eZ ls x).1 = eQ (ls.map nu) x.1:=by
 intro ls
 induction ls with
 | nil=>intro x; rfl
 | cons l ls ih =>
  intro x;simp only [eZ,eQ,List.foldl_cons,List.map_cons,nu] at ih ⊢;by_cases h : x.1.testBit l.1 = true
  ·rw [if_pos h,if_pos h]; exact ih _
  ·rw [if_neg h,if_neg h]; exact ih _
noncomputable def ke (m q : Nat) (l : L3) : L3:=if l.2.1.testBit m.log2 = true then (l.1,l.2.1 ^^^ m,l.2.2 ^^^ q) else l
noncomputable def iZ (ls : List L3) (m q : Nat) : List L3:=ls.map (ke m q) ++ [(m.log2,m,q)]
theorem yD (ls : List L3) (m q : Nat) : (iZ ls m q).map nu = fv (ls.map nu) m:=by
 unfold iZ fv;rw [List.map_append,List.map_map,List.map_map];congr 1;apply List.map_congr_left;intro l _;by_cases h : l.2.1.testBit m.log2 = true
 ·simp [Function.comp,ke,iY,nu,h]
 ·simp [Function.comp,ke,iY,nu,h]
noncomputable def fK (ls : List L3) (m q : Nat) : List L3:=if (eZ ls (m,q)).1 ≠ 0 then iZ ls (eZ ls (m,q)).1 (eZ ls (m,q)).2 else ls
theorem yL (ls : List L3) (m q : Nat) : (fK ls m q).map nu = ik (ls.map nu) m:=by
 unfold fK ik;rw [zk];split
 ·rw [yD]
 ·rfl
noncomputable def eB : List L3 -> Nat -> List Nat -> List L3
 | ls,_,[]=>ls
 | ls,n,m :: ms=>eB (fK ls m (2 ^ n)) (n + 1) ms
theorem xN : ∀ (ms : List Nat) (ls : List L3) (n : Nat),(eB ls n ms).map nu = ms.foldl ik (ls.map nu):=by
 intro ms
 induction ms with
 | nil=>intro ls n; rfl
 | cons m ms ih=>intro ls n; simp only [eB,ih,yL,List.foldl_cons]
theorem wl (ms : List Nat) : (eB [] 0 ms).length = rk ms:=by
 have h:=congrArg List.length (xN ms [] 0);rw [List.length_map,List.map_nil,w5,nZ] at h;exact h
noncomputable def Bd (B : Nat) (ls : List L3) : Prop:=∀ l ∈ ls,l.2.1 < 2 ^ B
theorem u0 {B : Nat} : ∀ {ls : List L3},Bd B ls -> ∀ {x : Nat × Nat},x.1 < 2 ^ B -> (eZ ls x).1 < 2 ^ B:=by
 intro ls
 induction ls with
 | nil=>intro _ x h; exact h
 | cons l ls ih =>
  intro hb x h;simp only [eZ,List.foldl_cons];refine ih (fun k hk=>hb k (by simp [hk])) ?_;split
  ·exact Nat.xor_lt_two_pow h (hb l (by simp))
  ·exact h
theorem yE {B : Nat} {ls : List L3} (h : Bd B ls) {m q : Nat} (hm : m < 2 ^ B) : Bd B (iZ ls m q):=by
 intro l hl;unfold iZ at hl;rw [List.mem_append,List.mem_singleton] at hl;rcases hl with hl | rfl
 ·obtain ⟨k,hk,rfl⟩:=List.mem_map.mp hl
  unfold ke;split
  ·exact Nat.xor_lt_two_pow (h k hk) hm
  ·exact h k hk
 ·exact hm
theorem yM {B : Nat} {ls : List L3} (h : Bd B ls) {m q : Nat} (hm : m < 2 ^ B) : Bd B (fK ls m q):=by
 unfold fK;split
 ·exact yE h (u0 h hm)
 ·exact h
theorem wU (ls : List L3) (m q : Nat) : (fK ls m q).length <= ls.length + 1:=by
 unfold fK iZ;split <;> simp
end RK
namespace LW
open PySem TT
noncomputable def bt (m k : Int) : Bool:=m / (1 * 2 ^ k.toNat) % 2 == 1
noncomputable def lF (m : Int) : List Int:=(rng 0 41).filter (bt m)
noncomputable def mZ (v : List Int) : Int:=(v.map fun c=>(1 : Int) * 2 ^ c.toNat).sum
noncomputable def S2 (p : Nat -> Bool) : Nat -> Nat
 | 0=>0
 | n + 1=>S2 p n + (if p n = true then 2 ^ n else 0)
theorem EU (p : Nat -> Bool) : ∀ n,S2 p n < 2 ^ n:=by
 intro n
 induction n with
 | zero=>simp [S2]
 | succ n ih =>
  simp only [S2,Nat.pow_succ];split <;> omega
theorem DC (p : Nat -> Bool) : ∀ n j,(S2 p n).testBit j = (decide (j < n) && p j):=by
 intro n
 induction n with
 | zero=>intro j; simp [S2]
 | succ n ih =>
  intro j;have hlt:=EU p n;simp only [S2];by_cases hp : p n = true
  ·rw [if_pos hp,Nat.add_comm]
   by_cases hj : j = n
   ·subst hj
    rw [Nat.testBit_two_pow_add_eq,ih];simp [hp]
   ·by_cases hj2 : j < n
    ·rw [Nat.testBit_two_pow_add_gt hj2,ih]
     simp [hj2,Nat.lt_succ_of_lt hj2]
    ·have hb : 2 ^ n + S2 p n < 2 ^ (n + 1):=by rw [Nat.pow_succ]; omega
     have h2 : 2 ^ n + S2 p n < 2 ^ j:=Nat.lt_of_lt_of_le hb (Nat.pow_le_pow_right dC oM);rw [Nat.testBit_lt_two_pow h2];simp [show ¬ j < n + 1 by omega]
  ·rw [if_neg hp,Nat.add_zero,ih]
   by_cases hj : j = n
   ·subst hj; simp [hp]
   ·by_cases hj2 : j < n
    ·simp [hj2,Nat.lt_succ_of_lt hj2]
    ·simp [hj2,show ¬ j < n + 1 by omega]
theorem Bm (q : Int -> Bool) : ∀ n : Nat,mZ ((rng 0 n).filter q) = ((S2 (fun k=>q (k : Int)) n : Nat) : Int):=by
 intro n
 induction n with
 | zero=>rfl
 | succ n ih =>
  have e : rng 0 ((n + 1 : Nat) : Int) = rng 0 n ++ [(n : Int)]:=by
   unfold rng;simp only [Int.sub_zero,Int.toNat_natCast,List.range_succ,List.map_append,List.map_cons,List.map_nil];simp
  rw [e,List.filter_append];unfold mZ at ih ⊢;rw [List.map_append,List.sum_append,ih];simp only [S2];by_cases hq : q (n : Int) = true
  ·simp [hq,List.filter_cons]
  ·simp [hq,List.filter_cons]
theorem yt (x k : Nat) : bt (x : Int) (k : Int) = x.testBit k:=by
 unfold bt;rw [Nat.testBit_eq_decide_div_mod_eq,Int.toNat_natCast,Int.one_mul];have e : ((x : Int) / 2 ^ k % 2) = ((x / 2 ^ k % 2 : Nat) : Int):=by simp
 rw [e,Bool.eq_iff_iff,beq_iff_eq,decide_eq_true_eq];omega
end LW
namespace RK
theorem qL {B : Nat} : ∀ {rs : List Nat} {x : Nat},(∀ r ∈ rs,r < 2 ^ B) -> x ∈ ak rs -> x < 2 ^ B:=by
 intro rs
 induction rs with
 | nil=>intro x _ h; simp only [ak,List.mem_singleton] at h; subst h; exact Nat.pow_pos dC
 | cons r rs ih =>
  intro x h hx;simp only [ak,List.mem_append,List.mem_map] at hx;rcases hx with hx | ⟨a,ha,rfl⟩
  ·exact ih (fun q hq=>h q (by simp [hq])) hx
  ·exact Nat.xor_lt_two_pow (h r (by simp)) (ih (fun q hq=>h q (by simp [hq])) ha)
noncomputable def up (M : Nat) (x : Nat) : Nat:=x * 2 ^ M
theorem wN (M x y : Nat) : up M (x ^^^ y) = up M x ^^^ up M y:=by
 unfold up;rw [<- Nat.shiftLeft_eq,<- Nat.shiftLeft_eq,<- Nat.shiftLeft_eq,Nat.shiftLeft_xor_distrib]
theorem pU (M : Nat) : up M 0 = 0:=by unfold up; simp
theorem wO (M x i : Nat) : (up M x).testBit i = (decide (M <= i) && x.testBit (i - M)):=by
 unfold up;rw [<- Nat.shiftLeft_eq,Nat.testBit_shiftLeft]
theorem sw {M : Nat} : ∀ {as bs : List Nat} {x : Nat},x ∈ ak (as ++ bs.map (up M)) ↔ ∃ a b,a ∈ ak as /\ b ∈ ak bs /\ x = a ^^^ up M b:=by
 intro as bs x;constructor
 ·intro h
  have h1 : ∀ r ∈ as ++ bs.map (up M),∃ a b,a ∈ ak as /\ b ∈ ak bs /\ r = a ^^^ up M b:=by
   intro r hr;rcases List.mem_append.mp hr with hr | hr
   ·exact ⟨r,0,cQ hr,eN bs,by rw [pU,Nat.xor_zero]⟩
   ·obtain ⟨b,hb,rfl⟩:=List.mem_map.mp hr
    exact ⟨0,b,eN as,cQ hb,by rw [Nat.zero_xor]⟩
  have go : ∀ (rs : List Nat) (y : Nat),(∀ r ∈ rs,∃ a b,a ∈ ak as /\ b ∈ ak bs /\ r = a ^^^ up M b) -> y ∈ ak rs -> ∃ a b,a ∈ ak as /\ b ∈ ak bs /\ y = a ^^^ up M b:=by
   intro rs
   induction rs with
   | nil =>
    intro y _ hy;have : y = 0:=by simpa [ak] using hy
    exact ⟨0,0,eN as,eN bs,by rw [this,pU]; rfl⟩
   | cons r rs ih =>
    intro y hr hy;have hy' : y ∈ ak rs \/ ∃ z ∈ ak rs,y = z ^^^ r \/ y = r ^^^ z:=by
     simp only [ak,List.mem_append,List.mem_map] at hy;rcases hy with hy | ⟨z,hz,e⟩
     ·exact .inl hy
     ·exact .inr ⟨z,hz,by first | exact .inl e.symm | exact .inr e.symm⟩
    rcases hy' with hy | ⟨z,hz,e⟩
    ·exact ih y (fun r' h'=>hr r' (List.mem_cons_of_mem _ h')) hy
    ·obtain ⟨a1,b1,h1,h2,e1⟩:=ih z (fun r' h'=>hr r' (List.mem_cons_of_mem _ h')) hz
     obtain ⟨a2,b2,h3,h4,e2⟩:=hr r List.mem_cons_self;refine ⟨a1 ^^^ a2,b1 ^^^ b2,cX h1 h3,cX h2 h4,?_⟩;have ez : z ^^^ r = (a1 ^^^ a2) ^^^ up M (b1 ^^^ b2):=by
      rw [wN,e1,e2];rw [Nat.xor_assoc,Nat.xor_assoc,<- Nat.xor_assoc (up M b1),Nat.xor_comm (up M b1) a2,Nat.xor_assoc]
     rcases e with e | e
     ·rw [e,ez]
     ·rw [e,Nat.xor_comm,ez]
  exact go _ x h1 h
 ·rintro ⟨a,b,ha,hb,rfl⟩
  refine cX (cY (fun r hr=>cQ (List.mem_append_left _ hr)) ha) ?_;have hu : ∀ {bs : List Nat} {b : Nat},b ∈ ak bs -> up M b ∈ ak (bs.map (up M)):=by
   intro bs
   induction bs with
   | nil =>
    intro b hb;have : b = 0:=by simpa [ak] using hb
    rw [this,pU];exact eN _
   | cons r rs ih =>
    intro b hb;simp only [ak,List.mem_append,List.mem_map] at hb;rcases hb with hb | ⟨z,hz,e⟩
    ·exact cY (fun q hq=>cQ (by simp [List.mem_map] at hq ⊢; exact .inr hq)) (ih hb)
    ·have h1 : up M z ∈ ak ((r :: rs).map (up M)):=cY (fun q hq=>cQ (by simp [List.mem_map] at hq ⊢; exact .inr hq)) (ih hz)
     have h2 : up M r ∈ ak ((r :: rs).map (up M)):=cQ (by simp);have h3:=cX h1 h2;rw [<- wN] at h3;rw [<- e]
     first | exact h3 | (rw [Nat.xor_comm]; exact h3)
  exact cY (fun q hq=>cQ (List.mem_append_right _ hq)) (hu hb)
theorem tf {M a b c d : Nat} (ha : a < 2 ^ M) (hc : c < 2 ^ M) (h : a ^^^ up M b = c ^^^ up M d) : a = c /\ b = d:=by
 have lo : ∀ (z w i : Nat),z < 2 ^ M -> (z ^^^ up M w).testBit i = (if i < M then z.testBit i else w.testBit (i - M)):=by
  intro z w i hz;rw [Nat.testBit_xor,wO];by_cases hi : i < M
  ·rw [if_pos hi,decide_eq_false oM]; simp
  ·rw [if_neg hi,decide_eq_true oM,Nat.testBit_lt_two_pow (Nat.lt_of_lt_of_le hz (Nat.pow_le_pow_right dC (Nat.le_of_not_lt hi)))]
   simp
 constructor
 ·apply Nat.eq_of_testBit_eq
  intro i;by_cases hi : i < M
  ·have h1:=lo a b i ha
   have h2:=lo c d i hc;rw [h,h2,if_pos hi,if_pos hi] at h1;exact h1.symm
  ·rw [Nat.testBit_lt_two_pow (Nat.lt_of_lt_of_le ha (Nat.pow_le_pow_right dC (Nat.le_of_not_lt hi))),Nat.testBit_lt_two_pow (Nat.lt_of_lt_of_le hc (Nat.pow_le_pow_right dC (Nat.le_of_not_lt hi)))]
 ·apply Nat.eq_of_testBit_eq
  intro i;have h1:=lo a b (i + M) ha;have h2:=lo c d (i + M) hc;rw [h,h2,if_neg oM,if_neg oM,Nat.add_sub_cancel] at h1;exact h1.symm
theorem DM {M : Nat} {as bs : List Nat} (ha : ∀ a ∈ as,a < 2 ^ M) (x : Nat) : up M x ∈ ak (as ++ bs.map (up M)) ↔ x ∈ ak bs:=by
 rw [sw];constructor
 ·rintro ⟨a,b,h1,h2,e⟩
  have hlt : a < 2 ^ M:=qL ha h1;obtain ⟨_,e2⟩:=tf (a:=0) (Nat.pow_pos dC) hlt (by rw [Nat.zero_xor]; exact e);rw [e2]; exact h2
 ·intro h
  exact ⟨0,x,eN as,h,by rw [Nat.zero_xor]⟩
theorem EL {M : Nat} {as : List Nat} (ha : ∀ a ∈ as,a < 2 ^ M) : ∀ (bs ds : List Nat),gr (as ++ ds.map (up M)) (bs.map (up M)) = gr ds bs:=by
 intro bs
 induction bs with
 | nil=>intro ds; rfl
 | cons b bs ih =>
  intro ds;have e1 : ∀ x,x ∈ ak (up M b :: (as ++ ds.map (up M))) ↔ x ∈ ak (as ++ (b :: ds).map (up M)):=fun x =>
   ⟨fm (fun r hr=>by simp only [List.mem_cons,List.mem_append,List.map_cons] at hr ⊢; rcases hr with h | h | h; exact .inr (.inl h); exact .inl h; exact .inr (.inr h)),
    fm (fun r hr=>by simp only [List.mem_cons,List.mem_append,List.map_cons] at hr ⊢; rcases hr with h | h | h; exact .inr (.inl h); exact .inl h; exact .inr (.inr h))⟩
  simp only [List.map_cons,gr];rw [n6 _ e1,ih (b :: ds)];have e2:=DM (bs:=ds) ha b;by_cases h : b ∈ ak ds
  ·simp only [h,e2.mpr h,if_true]
  ·rw [if_neg h,if_neg (fun z=>h (e2.mp z))]
theorem Ce {M : Nat} {as bs : List Nat} (ha : ∀ a ∈ as,a < 2 ^ M) : rk (as ++ bs.map (up M)) = rk as + rk bs:=by
 rw [sE]
 have:=EL ha bs []
 simp only [List.map_nil,List.append_nil] at this;rw [this]; rfl
end RK
namespace LW
open PySem L2 DD
noncomputable def dW (i : Nat) : Stmt:=PySem.Challenge.pw_telltight_k83_whole_two_safes.main.body.getD i (.Pass ⟨0,0,0,0⟩)
noncomputable abbrev gA : Stmt:=dW 1
noncomputable abbrev ia : Stmt:=dW 3
noncomputable abbrev iI : Stmt:=dW 6
noncomputable abbrev fR : Stmt:=dW 7
noncomputable abbrev gy : Stmt:=dW 8
noncomputable abbrev fG : Stmt:=dW 12
noncomputable abbrev ki : Stmt:=dW 17
noncomputable abbrev ij : Stmt:=dW 19
noncomputable abbrev fS : Stmt:=dW 23
noncomputable abbrev ii : Stmt:=dW 27
noncomputable abbrev jl : Stmt:=dW 28
noncomputable abbrev ku : Stmt:=dW 29
noncomputable abbrev kl : Stmt:=dW 30
noncomputable abbrev kj : Stmt:=dW 33
noncomputable abbrev ko : Stmt:=dW 35
noncomputable abbrev ji : Stmt:=dW 39
noncomputable abbrev jk : Stmt:=dW 40
noncomputable abbrev kt : Stmt:=dW 42
noncomputable abbrev h9 : Stmt:=dW 5
noncomputable abbrev ie : Stmt:=dW 9
noncomputable abbrev jn : Stmt:=dW 13
noncomputable abbrev fT : Stmt:=dW 16
noncomputable abbrev ig : Stmt:=dW 20
noncomputable abbrev km : Stmt:=dW 31
noncomputable abbrev jj : Stmt:=dW 32
noncomputable abbrev ib : Stmt:=dW 38
noncomputable abbrev iH : Stmt:=dW 10
noncomputable abbrev eO : Stmt:=dW 21
noncomputable abbrev fV : Stmt:=dW 25
noncomputable abbrev ic : Stmt:=dW 43
noncomputable abbrev jm : Stmt:=dW 44
noncomputable abbrev fU : Stmt:=dW 11
noncomputable abbrev iG : Stmt:=dW 22
noncomputable abbrev gz : Stmt:=dW 24
noncomputable abbrev jh : Stmt:=dW 45
noncomputable abbrev oz : Stmt:=dW 46
theorem sB : aZ ["n"] ["n"] (aK gA):=⟨rfl,rfl,rfl,by decide +kernel,rfl,by decide +kernel,by decide +kernel⟩
theorem ul : aZ ["n","group"] ["n","group"] (aK ia):=⟨rfl,rfl,rfl,by decide +kernel,rfl,by decide +kernel,by decide +kernel⟩
theorem vY : aZ ["view"] ["view"] (aK iI):=⟨rfl,rfl,rfl,by decide +kernel,rfl,by decide +kernel,by decide +kernel⟩
theorem sc_less_lines : aZ ["lines","mask","made","lead","other","how"] ["lines","mask","made"] (aK fR):=⟨rfl,rfl,rfl,by decide +kernel,rfl,by decide +kernel,by decide +kernel⟩
theorem sc_with_line : aZ ["lines","mask","made","lead","changed","other","there","how"] ["lines","mask","made"] (aK gy):=⟨rfl,rfl,rfl,by decide +kernel,rfl,by decide +kernel,by decide +kernel⟩
theorem qa : aZ ["views","many"] ["views","many"] (aK fG):=⟨rfl,rfl,rfl,by decide +kernel,rfl,by decide +kernel,by decide +kernel⟩
theorem yP : aZ ["openers","group"] ["openers","group"] (aK ki):=⟨rfl,rfl,rfl,by decide +kernel,rfl,by decide +kernel,by decide +kernel⟩
theorem uq : aZ ["groups","group"] ["groups","group"] (aK ij):=⟨rfl,rfl,rfl,by decide +kernel,rfl,by decide +kernel,by decide +kernel⟩
theorem sc_knows_lock : aZ ["table","group","alone"] ["table","group"] (aK fS):=⟨rfl,rfl,rfl,by decide +kernel,rfl,by decide +kernel,by decide +kernel⟩
theorem uo : aZ ["_law_script","_law_k"] ["_law_script","_law_k"] (aK ii):=⟨rfl,rfl,rfl,by decide +kernel,rfl,by decide +kernel,by decide +kernel⟩
theorem sc_ldraws : aZ ["_law_cell","_law_many","_law_base","_law_found","_law_left","_law_k","_law_number"] ["_law_cell","_law_many","_law_base"] (aK jl):=⟨rfl,rfl,rfl,by decide +kernel,rfl,by decide +kernel,by decide +kernel⟩
theorem yS : aZ ["_law_mask_here"] ["_law_mask_here"] (aK ku):=⟨rfl,rfl,rfl,by decide +kernel,rfl,by decide +kernel,by decide +kernel⟩
theorem yQ : aZ ["_law_view"] ["_law_view"] (aK kl):=⟨rfl,rfl,rfl,by decide +kernel,rfl,by decide +kernel,by decide +kernel⟩
theorem sc_lrank : aZ ["_law_masks_here","_law_rows","_law_mask_here","_law_row"] ["_law_masks_here"] (aK kj):=⟨rfl,rfl,rfl,by decide +kernel,rfl,by decide +kernel,by decide +kernel⟩
theorem yR : aZ ["_law_heap_here"] ["_law_heap_here"] (aK ko):=⟨rfl,rfl,rfl,by decide +kernel,rfl,by decide +kernel,by decide +kernel⟩
theorem sc_lopens : aZ ["_law_openers_here","_law_g","_law_opener"] ["_law_openers_here","_law_g"] (aK ji):=⟨rfl,rfl,rfl,by decide +kernel,rfl,by decide +kernel,by decide +kernel⟩
theorem sc_lleast : aZ ["_law_n","_law_groups","_law_found","_law_g","_law_less"] ["_law_n","_law_groups"] (aK jk):=⟨rfl,rfl,rfl,by decide +kernel,rfl,by decide +kernel,by decide +kernel⟩
theorem sc_lboth : aZ ["_law_one","_law_other","_law_views","_law_name","_law_row"] ["_law_one","_law_other"] (aK kt):=⟨rfl,rfl,rfl,by decide +kernel,rfl,by decide +kernel,by decide +kernel⟩
theorem sc_views_of : aZ ["heap","g","found","name"] ["heap","g"] (aK h9):=⟨rfl,rfl,rfl,by decide +kernel,rfl,by decide +kernel,by decide +kernel⟩
theorem sc_lines_of : aZ ["views","lines","place","view","left"] ["views"] (aK ie):=⟨rfl,rfl,rfl,by decide +kernel,rfl,by decide +kernel,by decide +kernel⟩
theorem sc_beside : aZ ["one","other","views"] ["one","other"] (aK jn):=⟨rfl,rfl,rfl,by decide +kernel,rfl,by decide +kernel,by decide +kernel⟩
theorem rK : aZ ["n"] ["n"] (aK fT):=⟨rfl,rfl,rfl,by decide +kernel,rfl,by decide +kernel,by decide +kernel⟩
theorem um : aZ ["groups"] ["groups"] (aK ig):=⟨rfl,rfl,rfl,by decide +kernel,rfl,by decide +kernel,by decide +kernel⟩
theorem sc_lheap : aZ ["_law_cell","_law_n","_law_most","_law_digits","_law_many","_law_views","_law_name","_law_row","_law_j","_law_digit","_law_mask_here"] ["_law_cell","_law_n","_law_most"] (aK km):=⟨rfl,rfl,rfl,by decide +kernel,rfl,by decide +kernel,by decide +kernel⟩
theorem sc_lmasks : aZ ["_law_heap_here","_law_g","_law_found","_law_name"] ["_law_heap_here","_law_g"] (aK jj):=⟨rfl,rfl,rfl,by decide +kernel,rfl,by decide +kernel,by decide +kernel⟩
theorem sc_lopeners : aZ ["_law_cell","_law_n","_law_digits","_law_openers_here","_law_digit","_law_g"] ["_law_cell","_law_n"] (aK ib):=⟨rfl,rfl,rfl,by decide +kernel,rfl,by decide +kernel,by decide +kernel⟩
theorem vX : aZ ["views"] ["views"] (aK iH):=⟨rfl,rfl,rfl,by decide +kernel,rfl,by decide +kernel,by decide +kernel⟩
theorem nV : aZ ["n","openers"] ["n","openers"] (aK eO):=⟨rfl,rfl,rfl,by decide +kernel,rfl,by decide +kernel,by decide +kernel⟩
theorem sc_both_safes : aZ ["one","other","both","asked"] ["one","other"] (aK fV):=⟨rfl,rfl,rfl,by decide +kernel,rfl,by decide +kernel,by decide +kernel⟩
theorem sc_lknowing : aZ ["_law_n","_law_heap_here","_law_found","_law_g","_law_mine"] ["_law_n","_law_heap_here"] (aK ic):=⟨rfl,rfl,rfl,by decide +kernel,rfl,by decide +kernel,by decide +kernel⟩
theorem sc_ldrawn : aZ ["_law_cell","_law_n","_law_heap_here"] ["_law_cell","_law_n"] (aK jm):=⟨rfl,rfl,rfl,by decide +kernel,rfl,by decide +kernel,by decide +kernel⟩
theorem rQ : aZ ["heap"] ["heap"] (aK fU):=⟨rfl,rfl,rfl,by decide +kernel,rfl,by decide +kernel,by decide +kernel⟩
theorem sc_safe_of : aZ ["n","openers","least","keys_without","many","views","opener","keys","fresh","key","coin"] ["n","openers"] (aK iG):=⟨rfl,rfl,rfl,by decide +kernel,rfl,by decide +kernel,by decide +kernel⟩
theorem sc_opened_by : aZ ["heap","table"] ["heap"] (aK gz):=⟨rfl,rfl,rfl,by decide +kernel,rfl,by decide +kernel,by decide +kernel⟩
theorem sc_lright : aZ ["_law_n","_law_one","_law_other","_law_kept","_law_due","_law_first","_law_groups","_law_time","_law_told","_law_table_here","_law_g","_law_alone"] ["_law_n","_law_one","_law_other"] (aK jh):=⟨rfl,rfl,rfl,by decide +kernel,rfl,by decide +kernel,by decide +kernel⟩
theorem sc_law : aZ ["_law_script","_law_k","_law_cell","_law_more","_law_n","_law_one","_law_other","_law_safe","_law_both_here"] ["_law_script"] (aK oz):=⟨rfl,rfl,rfl,by decide +kernel,rfl,by decide +kernel,by decide +kernel⟩
noncomputable def nG : DS:=(bX (dS (aG kc (aG gS (pC (.int 1)) (pV 0)) (pC (.int 1)))))
noncomputable def gD : GF:=dl 1 [] nG
noncomputable def pD : DS:=(bX (eC 1 (lU (ar (dS (pV 0)) aX)) (bV 2) (bz (em hU (dS (aG n8 (pV 1) (aG gS (pC (.int 1)) (pV 2)))) (dS (pC (.int 0))))) (dS (pV 2))))
noncomputable def il : GF:=dl 2 [] pD
noncomputable def qZ : DS:=(bX (gF nS (ar (eC 1 (dH (dG 0)) (bV 1) eM (dS (aG gS (pC (.int 1)) (pV 1)))) aX)))
noncomputable def jY : GF:=dl 1 [] qZ
noncomputable def jH : DS:=(aL (dg (dH (dG 0)) (gu 3 (cA (bV 3) (cA (bV 4) (cA (bV 5) gK)))) (eT (bz (em hU (dS (aG n8 (pV 1) (pV 3))) (dS (pC (.int 0))))) (aL (bf 1 (dS (aG qv (pV 1) (pV 4))))
   (bf 2 (dS (aG qv (pV 2) (pV 5))))) dv))
   (bX (gi (ar (dS (pV 1)) (ar (dS (pV 2)) aX)))))
noncomputable def ip : GF:=dl 6 [3,4,5,1,2] jH
noncomputable def nD : DS:=(aL (bf 3 (dS (aG gS (pC (.int 1)) (aG kc (oI (pV 1)) (pC (.int 1))))))
   (aL (bf 4 (dE aX))
   (aL (dg (dH (dG 0)) (gu 3 (cA (bV 5) (cA (bV 6) (cA (bV 7) gK)))) (eT (bz (em hU (dS (aG n8 (pV 6) (pV 3))) (dS (pC (.int 0))))) (dX (jb 4 (gi (ar (dS (pV 5)) (ar (dS (aG qv (pV 6) (pV 1))) (ar (dS (aG qv (pV 7) (pV 2))) aX)))))) (dX (jb 4 (gi (ar (dS (pV 5)) (ar (dS (pV 6)) (ar (dS (pV 7)) aX))))))))
   (bX (jG (gE 4) (dE (ar (gi (ar (dS (pV 3)) (ar (dS (pV 1)) (ar (dS (pV 2)) aX)))) aX)))))))
noncomputable def iF : GF:=dl 8 [3,4,5,6,7] nD
noncomputable def lX : DS:=(bX (eC 1 (dH (dG 0)) (bV 2) eM (eC 1 (dH (dG 2)) (bV 3) eM (dS (aG fC (pV 3) (pV 1))))))
noncomputable def fI : GF:=dl 2 [] lX
noncomputable def vx : DS:=(bX (gF og (ar (eC 1 (dH (dG 0)) (bV 2) eM (dS (aG iL (aG n8 (pV 2) (qg (pV 1))) (pC (.int 0))))) aX)))
noncomputable def nc : GF:=dl 2 [] vx
noncomputable def pJ : DS:=(bX (gF og (ar (eC 1 (dH (dG 0)) (bV 2) eM (np (dS (aG hU (pV 2) (pV 1))) (dS (aG iL (aG n8 (pV 2) (qg (pV 1))) (pC (.int 0)))))) aX)))
noncomputable def ja : GF:=dl 2 [] pJ
noncomputable def mE : DS:=(aL (bf 2 (qx (bz (em hU (dS (pV 1)) (dS (pC (.int 0))))) (dS (aG cO (pV 0) (aG kc (pV 1) (pC (.int 1))))) (dS (pC (.int 0)))))
   (bX (dS (aG iL (aG cO (pV 0) (aG kc (aG GC (pV 1) (pC (.int 1))) (pC (.int 1)))) (pV 2)))))
noncomputable def iu : GF:=dl 3 [2] mE
noncomputable def pI : DS:=(aL (eT (bz (em GD (dS (pV 1)) (dS (dh fZ [(pV 0)])))) (bX (dS (aG cO (pV 0) (pV 1)))) dv)
   (bX (dS (pC (.int 0)))))
noncomputable def ir : GF:=dl 2 [] pI
noncomputable def t6 : DS:=(aL (bf 3 (dE aX))
   (aL (bf 4 (dS (pV 0)))
   (aL (dg (lU (ar (dS (pV 1)) aX)) (bV 5) (eT (i4 (bz (em GE (dS (dh ue [(pV 0)])) (dS (aG FM (pC (.int 10)) (pC (.int 18)))))) (i4 (bz (em hU (dS (pV 4)) (dS (pC (.int 0))))) (bz (em hU (dS (pV 4)) (dS (qf (pC (.int 1)))))))) (aL (dX (iD 3 [] (aG gT (pV 4) (pV 2))))
   (bf 4 (dS (aG mz (pV 4) (pV 2))))) (aL (bf 6 (dS (aG gT (aG fC (aG lB (aG fC (pV 0) (pC (.int 1009))) (pC (.int 69621))) (aG lB (pC (.int 7919)) (pV 5))) (pC (.int 2147483629)))))
   (aL (bf 6 (dS (aG gT (aG fC (aG fC (aG lB (pV 6) (pV 6)) (aG lB (pC (.int 17)) (pV 5))) (pC (.int 5))) (pC (.int 2147483629)))))
   (dX (iD 3 [] (aG gT (aG mz (aG gT (aG lB (pV 6) (pV 6)) (pC (.int 2147483587))) (pC (.int 64))) (pV 2))))))))
   (bX (gE 3)))))
noncomputable def jD : GF:=dl 7 [3,4,5,4,6,6] t6
noncomputable def vD : DS:=(bX (eC 1 (lU (ar (dS (pC (.int 41))) aX)) (bV 1) (bz (em iL (dS (aG gT (aG mz (pV 0) (aG gS (pC (.int 1)) (pV 1))) (pC (.int 2)))) (dS (pC (.int 1))))) (dS (pV 1))))
noncomputable def kG : GF:=dl 1 [] vD
noncomputable def vz : DS:=(bX (gF nS (ar (eC 1 (dH (dG 0)) (bV 1) eM (dS (aG gS (pC (.int 1)) (pV 1)))) aX)))
noncomputable def ng : GF:=dl 1 [] vz
noncomputable def vy : DS:=(aL (bf 1 (dE aX))
   (aL (dg (dH (dG 0)) (bV 2) (aL (sC (v7 1) (oA 1 3 (bf 2 (dS (dh lr [(pV 2),(aG qv (pV 2) (pV 3))])))) (dg (dH (dG 1)) (bV 3) (bf 2 (dS (dh lr [(pV 2),(aG qv (pV 2) (pV 3))])))))
   (eT (bz (em Ad (dS (pV 2)) (dS (pC (.int 0))))) (dX (iD 1 [] (pV 2))) dv)))
   (bX (dS (dh fZ [(pV 1)])))))
noncomputable def iA : GF:=dl 4 [1,2,3,2,3,2] vy
noncomputable def vB : DS:=(bX (gi (ar (dS (aG cO (pV 0) (pC (.int 0)))) (ar (eC 1 (dH (hV (dG 0) (dS (pC (.int 1))))) (bV 1) eM (eC 1 (dH (dG 1)) (bV 2) eM (kK (pV 2)))) aX))))
noncomputable def kE : GF:=dl 1 [] vB
noncomputable def t0 : DS:=(aL (dg (dH (dG 0)) (bV 2) (eT (bz (em iL (dS (aG n8 (pV 2) (pV 1))) (dS (pV 2)))) (bX (dS (pC (.bl true)))) dv))
   (bX (dS (pC (.bl false)))))
noncomputable def jB : GF:=dl 3 [2] t0
noncomputable def t5 : DS:=(aL (bf 2 (dE aX))
   (aL (dg (lx (ar (dS (pC (.int 0))) (ar (dS (aG gS (pC (.int 1)) (pV 0))) (ar (dS (pC (.int 2))) aX)))) (bV 3) (eT (bz (dS (aG vj (pV 3) (pV 1)))) (aL (bf 4 (eC 1 (lx (ar (dS (pC (.int 0))) (ar (dS (pV 3)) (ar (dS (pC (.int 2))) aX)))) (bV 5) (i4 (bz (dS (aG vj (pV 5) (pV 1)))) (bz (em iL (dS (aG n8 (pV 5) (pV 3))) (dS (pV 5))))) (dS (pV 5))))
   (eT (bz (dS (aG iL (pV 4) (jt [])))) (dX (iD 2 [] (pV 3))) dv)) dv))
   (bX (gE 2))))
noncomputable def jC : GF:=dl 5 [2,3,4] t5
noncomputable def vC : DS:=(aL (bf 2 (dE aX))
   (aL (dg (lU (ar (dS (dh fZ [(aG cO (pV 0) (pC (.int 1)))])) aX)) (bV 3) (aL (bf 4 (eC 1 (dH (hV (hV (dG 0) (dS (pC (.int 1)))) (dS (pV 3)))) (bV 5) eM (kK (pV 5))))
   (dX (jb 2 (jG (gE 4) (eC 1 (dH (hV (hV (dG 1) (dS (pC (.int 1)))) (dS (pV 3)))) (bV 5) eM (eC 1 (dH (dG 5)) (bV 6) eM (dS (aG fC (pV 6) (aG cO (pV 0) (pC (.int 0))))))))))))
   (aL (mf (dE (ar (nn (aG cO (aG cO (pV 2) (pC (.int 0))) (pC (.int 0))) (aG cO (aG cO (pV 2) (pC (.int 0))) (pC (.int 1)))) aX)) (my 2 [] (pC (.int 0))))
   (bX (gi (ar (dS (aG fC (aG cO (pV 0) (pC (.int 0))) (aG cO (pV 1) (pC (.int 0))))) (ar (gE 2) aX)))))))
noncomputable def kF : GF:=dl 5 [2,3,4] vC
noncomputable def pB : DS:=(aL (bf 2 (dE aX))
   (aL (dg (dH (aR il [.ex (dS (dh fZ [(aG cO (pV 0) (pC (.int 1)))])),.bo 1])) (bV 3) (dX (pi 2 (hV (hV (dG 0) (dS (pC (.int 1)))) (dS (pV 3))))))
   (bX (gE 2))))
noncomputable def i8 : GF:=dl 4 [2,3] pB
noncomputable def pG : DS:=(aL (bf 1 (dE aX))
   (aL (dg (tL 0 (dG 0)) (gu 2 (cA (bV 2) (cA (bV 3) gK))) (aL (bf 4 (aR ip [.bo 1,.ex (aR jY [.bo 3]),.ex (dS (aG gS (pC (.int 1)) (pV 2)))]))
   (eT (bz (em hU (dS (aG cO (pV 4) (pC (.int 0)))) (dS (pC (.int 0))))) (bf 1 (aR iF [.bo 1,.ex (dS (aG cO (pV 4) (pC (.int 0)))),.ex (dS (aG cO (pV 4) (pC (.int 1))))])) dv)))
   (bX (gE 1))))
noncomputable def i9 : GF:=dl 5 [1,2,3,4,1] pG
noncomputable def t8 : DS:=(aL (bf 2 (eC 2 (m9 (hV (dG 0) (dS (pC (.int 1)))) (hV (dG 1) (dS (pC (.int 1))))) (gu 2 (cA (bV 3) (cA (bV 4) gK))) eM (jG (aR fI [.bo 3,.ex (dS (pC (.int 0)))]) (aR fI [.bo 4,.ex (dS (aG cO (pV 0) (pC (.int 0))))]))))
   (bX (gi (ar (dS (aG fC (aG cO (pV 0) (pC (.int 0))) (aG cO (pV 1) (pC (.int 0))))) (ar (gE 2) aX)))))
noncomputable def lA : GF:=dl 3 [2] t8
noncomputable def mF : DS:=(bX (mD (ar (dS (pC (.int 0))) (ar (aR gD [.bo 0]) (ar (dS (pC (.int 2))) aX)))))
noncomputable def gf : GF:=dl 1 [] mF
noncomputable def pH : DS:=(bX (eC 1 (dH (dG 0)) (bV 1) (jO (bz (aR ja [.bo 0,.bo 1]))) (dS (pV 1))))
noncomputable def iq : GF:=dl 1 [] pH
noncomputable def vA : DS:=(aL (bf 3 (aR jD [.bo 0,.ex (dS (pC (.int 18))),.ex (dS (pC (.int 65536)))]))
   (aL (bf 4 (dS (aG gT (aG cO (pV 3) (pC (.int 0))) (aG fC (pV 2) (pC (.int 1))))))
   (aL (bf 5 (dE aX))
   (aL (dg (lU (ar (dS (pV 1)) aX)) (bV 6) (aL (bf 7 (dE aX))
   (aL (dg (lU (ar (dS (aG gT (aG cO (pV 3) (aG fC (pC (.int 1)) (pV 6))) (pC (.int 4)))) aX)) (bV 8) (aL (bf 9 (dS (aG cO (pV 3) (aG fC (aG fC (pC (.int 5)) (aG lB (pC (.int 3)) (pV 6))) (pV 8)))))
   (aL (bf 10 (dS (aG gT (pV 9) (aG gS (pC (.int 1)) (pV 4)))))
   (aL (eT (bz (em Ad (dS (pV 4)) (dS (pC (.int 16))))) i5 dv)
   (dX (jb 7 (aR kG [.bo 10])))))))
   (dX (jb 5 (gE 7))))))
   (bX (gi (ar (dS (pV 4)) (ar (gE 5) aX))))))))
noncomputable def nh : GF:=dl 11 [3,4,5,6,7,8,9,10] vA
noncomputable def t4 : DS:=(aL (bf 2 (dE aX))
   (aL (dg (lU (ar (dS (dh fZ [(aG cO (pV 0) (pC (.int 1)))])) aX)) (bV 3) (eT (bz (em iL (dS (aG gT (aG mz (pV 1) (aG gS (pC (.int 1)) (pV 3))) (pC (.int 2)))) (dS (pC (.int 1))))) (bf 2 (jG (gE 2) (eC 1 (dH (hV (hV (dG 0) (dS (pC (.int 1)))) (dS (pV 3)))) (bV 4) eM (aR ng [.bo 4])))) dv))
   (bX (gE 2))))
noncomputable def gR : GF:=dl 4 [2,3,2] t4
noncomputable def pE : DS:=(aL (bf 2 (aR jD [.bo 0,.ex (dS (pC (.int 12))),.ex (dS (pC (.int 64)))]))
   (aL (bf 3 (dE aX))
   (aL (dg (dH (tT (pV 2) (some (pC (.int 2))) (some (aG fC (pC (.int 2)) (aG gT (aG cO (pV 2) (pC (.int 0))) (pC (.int 11))))))) (bV 4) (aL (bf 5 (dS (aG lB (pC (.int 2)) (aG gT (pV 4) (aG gS (pC (.int 1)) (aG kc (pV 1) (pC (.int 1))))))))
   (eT (lh (bz (em Ad (dS (pV 5)) (dS (pC (.int 0))))) (bz (em iL (dS (aG gT (aG cO (pV 2) (pC (.int 1))) (pC (.int 8)))) (dS (pC (.int 3)))))) (dX (iD 3 [] (pV 5))) dv)))
   (bX (gE 3)))))
noncomputable def im : GF:=dl 6 [2,3,4,5] pE
noncomputable def qY : DS:=(bX (gF fZ (ar (aR i9 [.bo 0]) aX)))
noncomputable def jX : GF:=dl 1 [] qY
noncomputable def j2 : DS:=(bX (aR iq [.ex (eC 1 (dH (aR gf [.bo 0])) (bV 2) (bz (aR nc [.bo 1,.bo 2])) (dS (pV 2)))]))
noncomputable def fM : GF:=dl 2 [] j2
noncomputable def mH : DS:=(aL (bf 2 (aR lA [.bo 0,.bo 1]))
   (aL (bf 3 (ym 2))
   (bX (gi (ar (dS (aG cO (pV 2) (pC (.int 0)))) (ar (jG (dE (ar (dE (ar (nn (aG cO (pV 3) (pC (.int 0))) (aG cO (pV 3) (pC (.int 1)))) aX)) aX)) (lD 2 [(pC (.int 1))] (some (pC (.int 1))) none)) aX))))))
noncomputable def fh : GF:=dl 4 [2,3] mH
noncomputable def pF : DS:=(aL (bf 2 (dE aX))
   (aL (dg (lx (ar (dS (pC (.int 0))) (ar (dS (aG gS (pC (.int 1)) (pV 0))) (ar (dS (pC (.int 2))) aX)))) (bV 3) (aL (bf 4 (aR gR [.bo 1,.bo 3]))
   (eT (bz (em iL (aR iA [.ex (nk (dG 4) (aR gR [.bo 1,.ex (dS (pC (.int 1)))]))]) (aR iA [.bo 4]))) (dX (iD 2 [] (pV 3))) dv)))
   (bX (gE 2))))
noncomputable def io : GF:=dl 5 [2,3,4] pF
noncomputable def t7 : DS:=(aL (bf 2 (aR nh [.bo 0,.bo 1,.ex (dS (pC (.int 6)))]))
   (aL (eT (bz (em Ad (dS (dh fZ [(aG cO (aG cO (pV 2) (pC (.int 1))) (pC (.int 0)))])) (dS (pC (.int 1))))) (mf (lD 2 [(pC (.int 1)),(pC (.int 0))] none (some (pC (.int 1)))) (my 2 [(pC (.int 1))] (pC (.int 0)))) dv)
   (aL (eT (bz (dS (aG iL (aG cO (aG cO (pV 2) (pC (.int 1))) (pC (.int 0))) (jt [])))) (dX (pq 2 (aR kG [.ex (dS (aG gT (aG mz (pV 0) (pC (.int 8))) (aG gS (pC (.int 1)) (aG cO (pV 2) (pC (.int 0))))))]))) dv)
   (bX (gE 2)))))
noncomputable def jE : GF:=dl 3 [2] t7
noncomputable def mG : DS:=(bX (eC 1 (vh (ar (dS (pC (.int 1))) (ar (em fC (aR gD [.ex (dS (dh fZ [(aG cO (pV 0) (pC (.int 1)))]))]) (dS (pC (.int 1)))) aX))) (bV 1) eM (aR jX [.ex (aR i8 [.bo 0,.bo 1])])))
noncomputable def gg : GF:=dl 1 [] mG
noncomputable def qX : DS:=(aL (bf 2 (aR fM [.bo 0,.bo 1]))
   (aL (bf 3 (eC 1 (vh (ar (dS (pC (.int 1))) (ar (dS (pV 0)) aX))) (bV 11) eM (dE aX)))
   (aL (eT (bz (dS (aG iL (pV 2) (jt [(pC (.int 0))])))) (bX (gi (ar (dS (pC (.int 0))) (ar (jG (dE (ar (dE (ar (dE aX) aX)) aX)) (gE 3)) aX)))) dv)
   (aL (bf 4 (dS (pC (.int 1))))
   (aL (bf 5 (jG (dE (ar (dE (ar (dE (ar (dS (pC (.int 0))) aX)) aX)) aX)) (gE 3)))
   (aL (dg (dH (dG 2)) (bV 6) (aL (bf 7 (aR il [.bo 0,.bo 6]))
   (aL (bf 8 (kJ (pV 4) (aG kc (aG fC (pV 4) (dh fZ [(pV 7)])) (pC (.int 1)))))
   (aL (dg (m9 (dG 7) (dG 8)) (gu 2 (cA (bV 9) (cA (bV 10) gK))) (dX (pv 5 [(pV 9)] [(pV 10)])))
   (aL (dX (pw 5 (aG cO (pV 7) (qf (pC (.int 1)))) (nk (dE (ar (dS (pC (.int 0))) aX)) (dG 8))))
   (oC fC 4 (dS (dh fZ [(pV 8)]))))))))
   (bX (gi (ar (dS (pV 4)) (ar (gE 5) aX))))))))))
noncomputable def gc : GF:=dl 11 [2,3,4,5,6,7,8,9,10,4] qX
noncomputable def nE : DS:=(aL (bf 1 (aR gg [.bo 0]))
   (bX (aR iq [.ex (eC 1 (dH (aR gf [.ex (dS (dh fZ [(aG cO (pV 0) (pC (.int 1)))]))])) (bV 2) (bz (aR iu [.bo 1,.bo 2])) (dS (pV 2)))])))
noncomputable def gC : GF:=dl 2 [1] nE
noncomputable def tZ : DS:=(aL (bf 3 (dE (ar (aR kE [.bo 1]) (ar (aR kE [.bo 2]) aX))))
   (aL (bf 4 (aR kF [.bo 1,.bo 2]))
   (aL (eT (lh (bz (em hU (aR fh [.ex (dG 1),.ex (dG 1)]) (aR kF [.ex (dG 1),.ex (dG 1)]))) (bz (dS (aG hU (jt [(pV 1),(pV 2)]) (pV 3))))) i5 dv)
   (aL (bf 5 (aR io [.bo 0,.ex (hV (dG 3) (dS (pC (.int 0))))]))
   (aL (bf 6 (eC 1 (dH (aR io [.bo 0,.ex (hV (dG 3) (dS (pC (.int 1))))])) (bV 12) (bz (dS (aG vj (pV 12) (pV 5)))) (dS (pV 12))))
   (aL (dg (lU (ar (dS (pC (.int 2))) aX)) (bV 7) (aL (bf 8 (aR fh [.bo 1,.bo 2]))
   (aL (eT (lh (jO (bz (dS (dh qu [(pV 8),(pC (.ty "tuple"))])))) (lh (bz (dS (aG hU (pV 8) (pV 4)))) (bz (dS (aG hU (jt [(pV 1),(pV 2)]) (pV 3)))))) i5 dv)
   (aL (eT (bz (em hU (gM 4 (gM 3 (gM 2 (gM 1 (nj 8 (aR gC [.bo 8])))))) (aR jC [.bo 0,.bo 6]))) i5 dv)
   (aL (bf 9 (gM 4 (gM 3 (gM 2 (gM 1 (nj 8 (aR gg [.bo 8])))))))
   (aL (dg (tK (ar (dS (pC (.int 2))) (ar (dS (aG gS (pC (.int 1)) (pV 0))) (ar (dS (pC (.int 2))) aX)))) (bV 10) (aL (bf 11 (em fC (aR iA [.ex (aR gR [.ex (hV (dG 3) (dS (pC (.int 0)))),.bo 10])]) (aR iA [.ex (aR gR [.ex (hV (dG 3) (dS (pC (.int 1)))),.bo 10])])))
   (eT (bz (em hU (dS (aG cO (pV 9) (aG kc (pV 10) (pC (.int 1))))) (dS (pV 11)))) i5 dv)))
   (aL (dX (iD 8 [(pC (.int 1)),(pC (.int 0)),(pC (.int 0))] (pC (.int 77))))
   (dX (pj 8 [(pC (.int 1))])))))))))
   (bX (dS (pC (.bl true))))))))))
noncomputable def jA : GF:=dl 12 [3,4,5,6,7,8,9,10,11] tZ
noncomputable def Al : DS:=(aL (dg (lx (ar (dS (pC (.int 0))) (ar (dS (dh oN [(pC (.int 2)),(dh lr [(pC (.int 30)),(aG kc (dh fZ [(pV 0)]) (pC (.int 1)))])])) (ar (dS (pC (.int 2))) aX)))) (bV 1) (aL (bf 2 (aR ir [.bo 0,.bo 1]))
   (aL (bf 3 (aR ir [.bo 0,.ex (dS (aG fC (pV 1) (pC (.int 1))))]))
   (aL (bf 4 (dS (aG fC (pC (.int 2)) (aG gT (pV 2) (pC (.int 3))))))
   (aL (bf 5 (vv (aR im [.ex (dS (aG mz (pV 2) (pC (.int 3)))),.bo 4]) none (some (pC (.int 6)))))
   (aL (bf 6 (vv (aR im [.bo 3,.bo 4]) none (some (pC (.int 6)))))
   (aL (eT (jO (bz (aR jA [.bo 4,.ex (aR gc [.bo 4,.bo 5]),.ex (aR gc [.bo 4,.bo 6])]))) i5 dv)
   (aL (eT (jO (bz (aR jA [.bo 4,.ex (aR jE [.ex (dS (aG mz (pV 2) (pC (.int 3)))),.bo 4]),.ex (aR jE [.bo 3,.bo 4])]))) i5 dv)
   (aL (bf 7 (aR fh [.ex (aR gc [.bo 4,.bo 5]),.ex (aR gc [.bo 4,.bo 6])]))
   (aL (bf 8 (eC 1 (lx (ar (dS (pC (.int 0))) (ar (dS (aG gS (pC (.int 1)) (pV 4))) (ar (dS (pC (.int 2))) aX)))) (bV 9) (i4 (bz (aR jB [.bo 5,.bo 9])) (bz (aR jB [.bo 6,.bo 9]))) (dS (pV 9))))
   (eT (bz (em hU (aR gC [.bo 7]) (aR jC [.bo 4,.bo 8]))) i5 dv)))))))))))
   (bX (dS (pC (.bl true)))))
noncomputable def jZ : GF:=dl 9 [1,2,3,4,5,6,7,8] Al
set_option genInjectivity false
set_option genSizeOfSpec false
set_option genSizeOf false
structure Dz (K : PySem.W.Frag) (mg : Str -> Option Value) where
 a_all_names : Addr
 d_all_names : FuncData
 a_names_in : Addr
 d_names_in : FuncData
 a_mask_of : Addr
 d_mask_of : FuncData
 a_less_lines : Addr
 d_less_lines : FuncData
 a_with_line : Addr
 d_with_line : FuncData
 a_moved_views : Addr
 d_moved_views : FuncData
 a_opens : Addr
 d_opens : FuncData
 a_has_less : Addr
 d_has_less : FuncData
 a_knows_lock : Addr
 d_knows_lock : FuncData
 a_lcell_at : Addr
 d_lcell_at : FuncData
 a_ldraws : Addr
 d_ldraws : FuncData
 a_lbits : Addr
 d_lbits : FuncData
 a_lmask : Addr
 d_lmask : FuncData
 a_lrank : Addr
 d_lrank : FuncData
 a_lcopy : Addr
 d_lcopy : FuncData
 a_lopens : Addr
 d_lopens : FuncData
 a_lleast : Addr
 d_lleast : FuncData
 a_lboth : Addr
 d_lboth : FuncData
 a_views_of : Addr
 d_views_of : FuncData
 a_lines_of : Addr
 d_lines_of : FuncData
 a_beside : Addr
 d_beside : FuncData
 a_key_groups : Addr
 d_key_groups : FuncData
 a_least_of : Addr
 d_least_of : FuncData
 a_lheap : Addr
 d_lheap : FuncData
 a_lmasks : Addr
 d_lmasks : FuncData
 a_lopeners : Addr
 d_lopeners : FuncData
 a_rank_of : Addr
 d_rank_of : FuncData
 a_least_openers : Addr
 d_least_openers : FuncData
 a_both_safes : Addr
 d_both_safes : FuncData
 a_lknowing : Addr
 d_lknowing : FuncData
 a_ldrawn : Addr
 d_ldrawn : FuncData
 a_coin_table : Addr
 d_coin_table : FuncData
 a_safe_of : Addr
 d_safe_of : FuncData
 a_opened_by : Addr
 d_opened_by : FuncData
 a_lright : Addr
 d_lright : FuncData
structure Tx {K : PySem.W.Frag} {mg : Str -> Option Value} (t : Dz K mg) : Prop where
 F_all_names : Fun K "all_names" "all_names" gA t.a_all_names t.d_all_names
 m_all_names : mg "all_names" = some (.ref t.a_all_names)
 n_all_names : Binds K t.d_all_names ["n"] []
 F_names_in : Fun K "names_in" "names_in" ia t.a_names_in t.d_names_in
 m_names_in : mg "names_in" = some (.ref t.a_names_in)
 n_names_in : Binds K t.d_names_in ["n","group"] []
 F_mask_of : Fun K "mask_of" "mask_of" iI t.a_mask_of t.d_mask_of
 m_mask_of : mg "mask_of" = some (.ref t.a_mask_of)
 n_mask_of : Binds K t.d_mask_of ["view"] []
 F_less_lines : Fun K "less_lines" "less_lines" fR t.a_less_lines t.d_less_lines
 m_less_lines : mg "less_lines" = some (.ref t.a_less_lines)
 n_less_lines : Binds K t.d_less_lines ["lines","mask","made"] []
 F_with_line : Fun K "with_line" "with_line" gy t.a_with_line t.d_with_line
 m_with_line : mg "with_line" = some (.ref t.a_with_line)
 n_with_line : Binds K t.d_with_line ["lines","mask","made"] []
 F_moved_views : Fun K "moved_views" "moved_views" fG t.a_moved_views t.d_moved_views
 m_moved_views : mg "moved_views" = some (.ref t.a_moved_views)
 n_moved_views : Binds K t.d_moved_views ["views","many"] []
 F_opens : Fun K "opens" "opens" ki t.a_opens t.d_opens
 m_opens : mg "opens" = some (.ref t.a_opens)
 n_opens : Binds K t.d_opens ["openers","group"] []
 F_has_less : Fun K "has_less" "has_less" ij t.a_has_less t.d_has_less
 m_has_less : mg "has_less" = some (.ref t.a_has_less)
 n_has_less : Binds K t.d_has_less ["groups","group"] []
 F_knows_lock : Fun K "knows_lock" "knows_lock" fS t.a_knows_lock t.d_knows_lock
 m_knows_lock : mg "knows_lock" = some (.ref t.a_knows_lock)
 n_knows_lock : Binds K t.d_knows_lock ["table","group"] []
 F_lcell_at : Fun K "_law_cell_at" "_law_cell_at" ii t.a_lcell_at t.d_lcell_at
 m_lcell_at : mg "_law_cell_at" = some (.ref t.a_lcell_at)
 n_lcell_at : Binds K t.d_lcell_at ["_law_script","_law_k"] []
 F_ldraws : Fun K "_law_draws" "_law_draws" jl t.a_ldraws t.d_ldraws
 m_ldraws : mg "_law_draws" = some (.ref t.a_ldraws)
 n_ldraws : Binds K t.d_ldraws ["_law_cell","_law_many","_law_base"] []
 F_lbits : Fun K "_law_bits" "_law_bits" ku t.a_lbits t.d_lbits
 m_lbits : mg "_law_bits" = some (.ref t.a_lbits)
 n_lbits : Binds K t.d_lbits ["_law_mask_here"] []
 F_lmask : Fun K "_law_mask" "_law_mask" kl t.a_lmask t.d_lmask
 m_lmask : mg "_law_mask" = some (.ref t.a_lmask)
 n_lmask : Binds K t.d_lmask ["_law_view"] []
 F_lrank : Fun K "_law_rank" "_law_rank" kj t.a_lrank t.d_lrank
 m_lrank : mg "_law_rank" = some (.ref t.a_lrank)
 n_lrank : Binds K t.d_lrank ["_law_masks_here"] []
 F_lcopy : Fun K "_law_copy" "_law_copy" ko t.a_lcopy t.d_lcopy
 m_lcopy : mg "_law_copy" = some (.ref t.a_lcopy)
 n_lcopy : Binds K t.d_lcopy ["_law_heap_here"] []
 F_lopens : Fun K "_law_opens" "_law_opens" ji t.a_lopens t.d_lopens
 m_lopens : mg "_law_opens" = some (.ref t.a_lopens)
 n_lopens : Binds K t.d_lopens ["_law_openers_here","_law_g"] []
 F_lleast : Fun K "_law_least" "_law_least" jk t.a_lleast t.d_lleast
 m_lleast : mg "_law_least" = some (.ref t.a_lleast)
 n_lleast : Binds K t.d_lleast ["_law_n","_law_groups"] []
 F_lboth : Fun K "_law_both" "_law_both" kt t.a_lboth t.d_lboth
 m_lboth : mg "_law_both" = some (.ref t.a_lboth)
 n_lboth : Binds K t.d_lboth ["_law_one","_law_other"] []
 F_views_of : Fun K "views_of" "views_of" h9 t.a_views_of t.d_views_of
 m_views_of : mg "views_of" = some (.ref t.a_views_of)
 n_views_of : Binds K t.d_views_of ["heap","g"] []
 F_lines_of : Fun K "lines_of" "lines_of" ie t.a_lines_of t.d_lines_of
 m_lines_of : mg "lines_of" = some (.ref t.a_lines_of)
 n_lines_of : Binds K t.d_lines_of ["views"] []
 F_beside : Fun K "beside" "beside" jn t.a_beside t.d_beside
 m_beside : mg "beside" = some (.ref t.a_beside)
 n_beside : Binds K t.d_beside ["one","other"] []
 F_key_groups : Fun K "key_groups" "key_groups" fT t.a_key_groups t.d_key_groups
 m_key_groups : mg "key_groups" = some (.ref t.a_key_groups)
 n_key_groups : Binds K t.d_key_groups ["n"] []
 F_least_of : Fun K "least_of" "least_of" ig t.a_least_of t.d_least_of
 m_least_of : mg "least_of" = some (.ref t.a_least_of)
 n_least_of : Binds K t.d_least_of ["groups"] []
 F_lheap : Fun K "_law_heap" "_law_heap" km t.a_lheap t.d_lheap
 m_lheap : mg "_law_heap" = some (.ref t.a_lheap)
 n_lheap : Binds K t.d_lheap ["_law_cell","_law_n","_law_most"] []
 F_lmasks : Fun K "_law_masks" "_law_masks" jj t.a_lmasks t.d_lmasks
 m_lmasks : mg "_law_masks" = some (.ref t.a_lmasks)
 n_lmasks : Binds K t.d_lmasks ["_law_heap_here","_law_g"] []
 F_lopeners : Fun K "_law_openers" "_law_openers" ib t.a_lopeners t.d_lopeners
 m_lopeners : mg "_law_openers" = some (.ref t.a_lopeners)
 n_lopeners : Binds K t.d_lopeners ["_law_cell","_law_n"] []
 F_rank_of : Fun K "rank_of" "rank_of" iH t.a_rank_of t.d_rank_of
 m_rank_of : mg "rank_of" = some (.ref t.a_rank_of)
 n_rank_of : Binds K t.d_rank_of ["views"] []
 F_least_openers : Fun K "least_openers" "least_openers" eO t.a_least_openers t.d_least_openers
 m_least_openers : mg "least_openers" = some (.ref t.a_least_openers)
 n_least_openers : Binds K t.d_least_openers ["n","openers"] []
 F_both_safes : Fun K "both_safes" "both_safes" fV t.a_both_safes t.d_both_safes
 m_both_safes : mg "both_safes" = some (.ref t.a_both_safes)
 n_both_safes : Binds K t.d_both_safes ["one","other"] []
 F_lknowing : Fun K "_law_knowing" "_law_knowing" ic t.a_lknowing t.d_lknowing
 m_lknowing : mg "_law_knowing" = some (.ref t.a_lknowing)
 n_lknowing : Binds K t.d_lknowing ["_law_n","_law_heap_here"] []
 F_ldrawn : Fun K "_law_drawn" "_law_drawn" jm t.a_ldrawn t.d_ldrawn
 m_ldrawn : mg "_law_drawn" = some (.ref t.a_ldrawn)
 n_ldrawn : Binds K t.d_ldrawn ["_law_cell","_law_n"] []
 F_coin_table : Fun K "coin_table" "coin_table" fU t.a_coin_table t.d_coin_table
 m_coin_table : mg "coin_table" = some (.ref t.a_coin_table)
 n_coin_table : Binds K t.d_coin_table ["heap"] []
 F_safe_of : Fun K "safe_of" "safe_of" iG t.a_safe_of t.d_safe_of
 m_safe_of : mg "safe_of" = some (.ref t.a_safe_of)
 n_safe_of : Binds K t.d_safe_of ["n","openers"] []
 F_opened_by : Fun K "opened_by" "opened_by" gz t.a_opened_by t.d_opened_by
 m_opened_by : mg "opened_by" = some (.ref t.a_opened_by)
 n_opened_by : Binds K t.d_opened_by ["heap"] []
 F_lright : Fun K "_law_right" "_law_right" jh t.a_lright t.d_lright
 m_lright : mg "_law_right" = some (.ref t.a_lright)
 n_lright : Binds K t.d_lright ["_law_n","_law_one","_law_other"] []
 b_abs : mg "abs" = none
 b_any : mg "any" = none
 b_enumerate : mg "enumerate" = none
 b_isinstance : mg "isinstance" = none
 b_len : mg "len" = none
 b_list : mg "list" = none
 b_max : mg "max" = none
 b_min : mg "min" = none
 b_range : mg "range" = none
 b_sum : mg "sum" = none
 b_tuple : mg "tuple" = none
 b_zip : mg "zip" = none
 c_LOCK : ∃ t,mg "LOCK" = some (.int 1 t)
section
variable {P : Program} {w : World} {K : PySem.W.Frag} {mg : Str -> Option Value} {base : Heap} {t : Dz K mg}
theorem mv (T : Tx t) : bR P w K mg base cP 1 t.a_all_names t.d_all_names ["n"] (cT K 1 gD):=by
 refine cD (N:=["n"]) (W:=[]) T.F_all_names sB dC fun cdv A outer s H E hr=>?_
 have hu:=hr.units;exact (au (bn (ai (aH jQ (aH fy ab (ag 0)) ab))))
theorem nv (T : Tx t) : bR P w K mg base cP 1 t.a_names_in t.d_names_in ["n","group"] (cT K 2 il):=by
 refine cD (N:=["n","group"]) (W:=[]) T.F_names_in ul dC fun cdv A outer s H E hr=>?_
 have hu:=hr.units;exact (au (bn (ga ["n","group","k"] (jP (by rfl) T.b_range (aq (ai (ag 0)) aQ)) (fun _ _ _ _ _=>by exact (aO 2 (show List.Nodup (["n","group","k"] : List Str) by decide +kernel))) (fun _ _ _ _ _=>by exact (gW (cH (gQ hu) (ai (aH lq (ag 1) (aH fy ab (ag 2)))) (ai ab) (bN _)))) (fun _ _ _ _ _=>by exact (ai (ag 2))))))
theorem wc (T : Tx t) : bR P w K mg base cP 1 t.a_mask_of t.d_mask_of ["view"] (cT K 1 jY):=by
 refine cD (N:=["view"]) (W:=[]) T.F_mask_of vY dC fun cdv A outer s H E hr=>?_
 have hu:=hr.units;exact (au (bn (oF (id:="sum") (Ak (by rfl)) (by rfl) T.b_sum (by decide +kernel) (aq (ga ["view","coin"] (cy (bT 0)) (fun _ _ _ _ _=>by exact (aO 1 (show List.Nodup (["view","coin"] : List Str) by decide +kernel))) (fun _ _ _ _ _=>by exact dP) (fun _ _ _ _ _=>by exact (ai (aH fy ab (ag 1))))) aQ))))
theorem rR (T : Tx t) : bR P w K mg base cP 1 t.a_less_lines t.d_less_lines ["lines","mask","made"] (cT K 3 ip):=by
 refine cD (N:=["lines","mask","made","lead","other","how"]) (W:=[3,4,5,1,2]) T.F_less_lines sc_less_lines dC fun cdv A outer s H E hr=>?_
 have hu:=hr.units;exact (ah (cE (by rfl) (cy (bT 0)) (ml (by rfl) (d9 (aO 3 sc_less_lines.nd) (d9 (aO 4 sc_less_lines.nd) (d9 (aO 5 sc_less_lines.nd) kw)))) (au (dz (cH (gQ hu) (ai (aH lq (ag 1) (ag 3))) (ai ab) (bN _)) (ah (aT 1 sc_less_lines.nd (ai (aH mX (ag 1) (ag 4))))
   (au (aT 2 sc_less_lines.nd (ai (aH mX (ag 2) (ag 5)))))) cw)) PassesOwn.never)
   (au (bn (fX (aq (ai (ag 1)) (aq (ai (ag 2)) aQ))))))
theorem sU (T : Tx t) : bR P w K mg base cP 1 t.a_with_line t.d_with_line ["lines","mask","made"] (cT K 3 iF):=by
 refine cD (N:=["lines","mask","made","lead","changed","other","there","how"]) (W:=[3,4,5,6,7]) T.F_with_line sc_with_line dC fun cdv A outer s H E hr=>?_
 have hu:=hr.units;exact (ah (aT 3 sc_with_line.nd (ai (aH fy ab (aH jQ (AX (ag 1)) ab))))
   (ah (aT 4 sc_with_line.nd (cq aQ))
   (ah (cE (by rfl) (cy (bT 0)) (ml (by rfl) (d9 (aO 5 sc_with_line.nd) (d9 (aO 6 sc_with_line.nd) (d9 (aO 7 sc_with_line.nd) kw)))) (au (dz (cH (gQ hu) (ai (aH lq (ag 6) (ag 3))) (ai ab) (bN _)) (au (cZ (kx 4 (fX (aq (ai (ag 5)) (aq (ai (aH mX (ag 6) (ag 1))) (aq (ai (aH mX (ag 7) (ag 2))) aQ))))))) (au (cZ (kx 4 (fX (aq (ai (ag 5)) (aq (ai (ag 6)) (aq (ai (ag 7)) aQ))))))))) PassesOwn.never)
   (au (bn (jr (eD 4) (cq (aq (fX (aq (ai (ag 3)) (aq (ai (ag 1)) (aq (ai (ag 2)) aQ)))) aQ))))))))
theorem qi (T : Tx t) : bR P w K mg base cP 1 t.a_moved_views t.d_moved_views ["views","many"] (cT K 2 fI):=by
 refine cD (N:=["views","many"]) (W:=[]) T.F_moved_views qa dC fun cdv A outer s H E hr=>?_
 have hu:=hr.units;exact (au (bn (ga ["views","many","view"] (cy (bT 0)) (fun _ _ _ _ _=>by exact (aO 2 (show List.Nodup (["views","many","view"] : List Str) by decide +kernel))) (fun _ _ _ _ _=>by exact dP) (fun _ _ _ _ _=>by exact (ga ["views","many","view","coin"] (cy (bT 2)) (fun _ _ _ _ _=>by exact (aO 3 (show List.Nodup (["views","many","view","coin"] : List Str) by decide +kernel))) (fun _ _ _ _ _=>by exact dP) (fun _ _ _ _ _=>by exact (ai (aH eE (ag 3) (ag 1)))))))))
theorem za (T : Tx t) : bR P w K mg base cP 1 t.a_opens t.d_opens ["openers","group"] (cT K 2 nc):=by
 refine cD (N:=["openers","group"]) (W:=[]) T.F_opens yP dC fun cdv A outer s H E hr=>?_
 have hu:=hr.units;exact (au (bn (oF (id:="any") (Am (by rfl)) (by rfl) T.b_any (by decide +kernel) (aq (ga ["openers","group","opener"] (cy (bT 0)) (fun _ _ _ _ _=>by exact (aO 2 (show List.Nodup (["openers","group","opener"] : List Str) by decide +kernel))) (fun _ _ _ _ _=>by exact dP) (fun _ _ _ _ _=>by exact (ai (oG (iS hu) (aH lq (ag 2) (xl (ag 1))) ab (bN _))))) aQ))))
theorem ux (T : Tx t) : bR P w K mg base cP 1 t.a_has_less t.d_has_less ["groups","group"] (cT K 2 ja):=by
 refine cD (N:=["groups","group"]) (W:=[]) T.F_has_less uq dC fun cdv A outer s H E hr=>?_
 have hu:=hr.units;exact (au (bn (oF (id:="any") (Am (by rfl)) (by rfl) T.b_any (by decide +kernel) (aq (ga ["groups","group","other"] (cy (bT 0)) (fun _ _ _ _ _=>by exact (aO 2 (show List.Nodup (["groups","group","other"] : List Str) by decide +kernel))) (fun _ _ _ _ _=>by exact dP) (fun _ _ _ _ _=>by exact (Cr (ai (oG (gQ hu) (ag 2) (ag 1) (bN _))) (Cq (ai (oG (iS hu) (aH lq (ag 2) (xl (ag 1))) ab (bN _))))))) aQ))))
theorem rV (T : Tx t) : bR P w K mg base cP 1 t.a_knows_lock t.d_knows_lock ["table","group"] (cT K 2 iu):=by
 refine cD (N:=["table","group","alone"]) (W:=[2]) T.F_knows_lock sc_knows_lock dC fun cdv A outer s H E hr=>?_
 have hu:=hr.units;exact (ah (aT 2 sc_knows_lock.nd (Eg (cH (gQ hu) (ai (ag 1)) (ai ab) (bN _)) (ai (bP (ag 0) (aH jQ (ag 1) ab))) (ai ab)))
   (au (bn (ai (oG (iS hu) (bP (ag 0) (aH jQ (aH Fy (ag 1) (AW (by rfl) T.c_LOCK)) ab)) (ag 2) (bN _))))))
theorem uw (T : Tx t) : bR P w K mg base cP 1 t.a_lcell_at t.d_lcell_at ["_law_script","_law_k"] (cT K 2 ir):=by
 refine cD (N:=["_law_script","_law_k"]) (W:=[]) T.F_lcell_at uo dC fun cdv A outer s H E hr=>?_
 have hu:=hr.units;exact (ah (dz (cH FA (ai (ag 1)) (ai (eP (id:="len") gN (by rfl) T.b_len (by decide +kernel) (bB (ag 0) cf))) (bN _)) (au (bn (ai (bP (ag 0) (ag 1))))) cw)
   (au (bn (ai ab))))
theorem qS (T : Tx t) : bR P w K mg base cP 1 t.a_ldraws t.d_ldraws ["_law_cell","_law_many","_law_base"] (cT K 3 jD):=by
 refine cD (N:=["_law_cell","_law_many","_law_base","_law_found","_law_left","_law_k","_law_number"]) (W:=[3,4,5,4,6,6]) T.F_ldraws sc_ldraws dC fun cdv A outer s H E hr=>?_
 have hu:=hr.units;exact (ah (aT 3 sc_ldraws.nd (cq aQ))
   (ah (aT 4 sc_ldraws.nd (ai (ag 0)))
   (ah (cE (by rfl) (jP (by rfl) T.b_range (aq (ai (ag 1)) aQ)) (aO 5 sc_ldraws.nd) (au (dz (qd (oD (cH FB (ai (eP (id:="abs") ES (by rfl) T.b_abs (by decide +kernel) (bB (ag 0) cf))) (ai (aH Et ab ab)) (bN _)) (oD (cH (gQ hu) (ai (ag 4)) (ai ab) (bN _)) (qe (cH (gQ hu) (ai (ag 4)) (ai (xk ab)) (bN _)))))) (ah (cZ (iz (gx 3) (aH fA (ag 4) (ag 2))))
   (au (aT 4 sc_ldraws.nd (ai (aH ln (ag 4) (ag 2)))))) (ah (aT 6 sc_ldraws.nd (ai (aH fA (aH eE (aH lm (aH eE (ag 0) ab) ab) (aH lm ab (ag 5))) ab)))
   (ah (aT 6 sc_ldraws.nd (ai (aH fA (aH eE (aH eE (aH lm (ag 6) (ag 6)) (aH lm ab (ag 5))) ab) ab)))
   (au (cZ (iz (gx 3) (aH fA (aH ln (aH fA (aH lm (ag 6) (ag 6)) ab) ab) (ag 2))))))))) PassesOwn.never)
   (au (bn (eD 3))))))
theorem sW (T : Tx t) : bR P w K mg base cP 1 t.a_lbits t.d_lbits ["_law_mask_here"] (cT K 1 kG):=by
 refine cD (N:=["_law_mask_here"]) (W:=[]) T.F_lbits yS dC fun cdv A outer s H E hr=>?_
 have hu:=hr.units;exact (au (bn (ga ["_law_mask_here","_law_k"] (jP (by rfl) T.b_range (aq (ai ab) aQ)) (fun _ _ _ _ _=>by exact (aO 1 (show List.Nodup (["_law_mask_here","_law_k"] : List Str) by decide +kernel))) (fun _ _ _ _ _=>by exact (gW (cH (iS hu) (ai (aH fA (aH ln (ag 0) (aH fy ab (ag 1))) ab)) (ai ab) (bN _)))) (fun _ _ _ _ _=>by exact (ai (ag 1))))))
theorem zb (T : Tx t) : bR P w K mg base cP 1 t.a_lmask t.d_lmask ["_law_view"] (cT K 1 ng):=by
 refine cD (N:=["_law_view"]) (W:=[]) T.F_lmask yQ dC fun cdv A outer s H E hr=>?_
 have hu:=hr.units;exact (au (bn (oF (id:="sum") (Ak (by rfl)) (by rfl) T.b_sum (by decide +kernel) (aq (ga ["_law_view","_law_coin"] (cy (bT 0)) (fun _ _ _ _ _=>by exact (aO 1 (show List.Nodup (["_law_view","_law_coin"] : List Str) by decide +kernel))) (fun _ _ _ _ _=>by exact dP) (fun _ _ _ _ _=>by exact (ai (aH fy ab (ag 1))))) aQ))))
theorem sV (T : Tx t) : bR P w K mg base cP 1 t.a_lrank t.d_lrank ["_law_masks_here"] (cT K 1 iA):=by
 refine cD (N:=["_law_masks_here","_law_rows","_law_mask_here","_law_row"]) (W:=[1,2,3,2,3,2]) T.F_lrank sc_lrank dC fun cdv A outer s H E hr=>?_
 have hu:=hr.units;exact (ah (aT 1 sc_lrank.nd (cq aQ))
   (ah (cE (by rfl) (cy (bT 0)) (aO 2 sc_lrank.nd) (ah (Co (v7 1) (AN 1 3 sc_lrank.nd (au (aT 2 sc_lrank.nd (ai (eP (id:="min") (tY (by rfl)) (by rfl) T.b_min (by decide +kernel) (bB (ag 2) (bB (aH mX (ag 2) (ag 3)) cf)))))) PassesOwn.never) (cE (by rfl) (cy (bT 1)) (aO 3 sc_lrank.nd) (au (aT 2 sc_lrank.nd (ai (eP (id:="min") (tY (by rfl)) (by rfl) T.b_min (by decide +kernel) (bB (ag 2) (bB (aH mX (ag 2) (ag 3)) cf)))))) PassesOwn.never))
   (au (dz (cH wd (ai (ag 2)) (ai ab) (bN _)) (au (cZ (iz (gx 1) (ag 2)))) cw))) PassesOwn.never)
   (au (bn (ai (eP (id:="len") gN (by rfl) T.b_len (by decide +kernel) (bB (ag 1) cf)))))))
theorem zd (T : Tx t) : bR P w K mg base cP 1 t.a_lcopy t.d_lcopy ["_law_heap_here"] (cT K 1 kE):=by
 refine cD (N:=["_law_heap_here"]) (W:=[]) T.F_lcopy yR dC fun cdv A outer s H E hr=>?_
 have hu:=hr.units;exact (au (bn (fX (aq (ai (bP (hs:=bS) (ag 0) ab)) (aq (ga ["_law_heap_here","_law_row"] (cy (fx (bT 0) (ai ab))) (fun _ _ _ _ _=>by exact (aO 1 (show List.Nodup (["_law_heap_here","_law_row"] : List Str) by decide +kernel))) (fun _ _ _ _ _=>by exact dP) (fun _ _ _ _ _=>by exact (ga ["_law_heap_here","_law_row","_law_view"] (cy (bT 1)) (fun _ _ _ _ _=>by exact (aO 2 (show List.Nodup (["_law_heap_here","_law_row","_law_view"] : List Str) by decide +kernel))) (fun _ _ _ _ _=>by exact dP) (fun _ _ _ _ _=>by exact (sL (by rfl) T.b_list (by decide +kernel) (ag 2)))))) aQ)))))
theorem xF (T : Tx t) : bR P w K mg base cP 1 t.a_lopens t.d_lopens ["_law_openers_here","_law_g"] (cT K 2 jB):=by
 refine cD (N:=["_law_openers_here","_law_g","_law_opener"]) (W:=[2]) T.F_lopens sc_lopens dC fun cdv A outer s H E hr=>?_
 have hu:=hr.units;exact (ah (cE (by rfl) (cy (bT 0)) (aO 2 sc_lopens.nd) (au (dz (cH (iS hu) (ai (aH lq (ag 2) (ag 1))) (ai (ag 2)) (bN _)) (au (bn (ai rY))) cw)) PassesOwn.never)
   (au (bn (ai rY))))
theorem qR (T : Tx t) : bR P w K mg base cP 1 t.a_lleast t.d_lleast ["_law_n","_law_groups"] (cT K 2 jC):=by
 refine cD (N:=["_law_n","_law_groups","_law_found","_law_g","_law_less"]) (W:=[2,3,4]) T.F_lleast sc_lleast dC fun cdv A outer s H E hr=>?_
 have hu:=hr.units;exact (ah (aT 2 sc_lleast.nd (cq aQ))
   (ah (cE (by rfl) (mj (by rfl) T.b_range (aq (ai ab) (aq (ai (aH fy ab (ag 0))) (aq (ai ab) aQ)))) (aO 3 sc_lleast.nd) (au (dz (gp (zf hu) (ag 3) (ag 1) (by rfl)) (ah (qo 4 ["_law_n","_law_groups","_law_found","_law_g","_law_less","_law_other"] sc_lleast.nd (mj (by rfl) T.b_range (aq (ai ab) (aq (ai (ag 3)) (aq (ai ab) aQ)))) (fun _ _ _ _ _=>by exact (aO 5 (show List.Nodup (["_law_n","_law_groups","_law_found","_law_g","_law_less","_law_other"] : List Str) by decide +kernel))) (fun _ _ _ _ _=>by exact (gW (qd (oD (gp (zf hu) (ag 5) (ag 1) (by rfl)) (qe (cH (iS hu) (ai (aH lq (ag 5) (ag 3))) (ai (ag 5)) (bN _))))))) (fun _ _ _ _ _=>by exact (ai (ag 5))))
   (au (dz (gp (iS hu) (ag 4) (mm cf) (bN _)) (au (cZ (iz (gx 2) (ag 3)))) cw))) cw)) PassesOwn.never)
   (au (bn (eD 2)))))
theorem ze (T : Tx t) : bR P w K mg base cP 1 t.a_lboth t.d_lboth ["_law_one","_law_other"] (cT K 2 kF):=by
 refine cD (N:=["_law_one","_law_other","_law_views","_law_name","_law_row"]) (W:=[2,3,4]) T.F_lboth sc_lboth dC fun cdv A outer s H E hr=>?_
 have hu:=hr.units;exact (ah (aT 2 sc_lboth.nd (cq aQ))
   (ah (cE (by rfl) (jP (by rfl) T.b_range (aq (ai (eP (id:="len") gN (by rfl) T.b_len (by decide +kernel) (bB (bP (hs:=bS) (ag 0) ab) cf))) aQ)) (aO 3 sc_lboth.nd) (ah (qo 4 ["_law_one","_law_other","_law_views","_law_name","_law_row","_law_view"] sc_lboth.nd (cy (fx (fx (bT 0) (ai ab)) (ai (ag 3)))) (fun _ _ _ _ _=>by exact (aO 5 (show List.Nodup (["_law_one","_law_other","_law_views","_law_name","_law_row","_law_view"] : List Str) by decide +kernel))) (fun _ _ _ _ _=>by exact dP) (fun _ _ _ _ _=>by exact (sL (by rfl) T.b_list (by decide +kernel) (ag 5))))
   (au (cZ (kx 2 (jr (eD 4) (ga ["_law_one","_law_other","_law_views","_law_name","_law_row","_law_view"] (cy (fx (fx (bT 1) (ai ab)) (ai (ag 3)))) (fun _ _ _ _ _=>by exact (aO 5 (show List.Nodup (["_law_one","_law_other","_law_views","_law_name","_law_row","_law_view"] : List Str) by decide +kernel))) (fun _ _ _ _ _=>by exact dP) (fun _ _ _ _ _=>by exact (ga ["_law_one","_law_other","_law_views","_law_name","_law_row","_law_view","_law_coin"] (cy (bT 5)) (fun _ _ _ _ _=>by exact (aO 6 (show List.Nodup (["_law_one","_law_other","_law_views","_law_name","_law_row","_law_view","_law_coin"] : List Str) by decide +kernel))) (fun _ _ _ _ _=>by exact dP) (fun _ _ _ _ _=>by exact (ai (aH eE (ag 6) (bP (hs:=bS) (ag 0) ab)))))))))))) PassesOwn.never)
   (ah (xb (cq (aq (uP (bP (hs:=bS) (bP (hs:=bS) (ag 2) ab) ab) (bP (hs:=bS) (bP (hs:=bS) (ag 2) ab) ab)) aQ)) (xf (gx 2) ab))
   (au (bn (fX (aq (ai (aH eE (bP (hs:=bS) (ag 0) ab) (bP (hs:=bS) (ag 1) ab))) (aq (eD 2) aQ))))))))
theorem ur (T : Tx t) : bR P w K mg base cP 2 t.a_views_of t.d_views_of ["heap","g"] (cT K 2 i8):=by
 have G_names_in:=nv (P:=P) (w:=w) (base:=base) T;refine cD (N:=["heap","g","found","name"]) (W:=[2,3]) T.F_views_of sc_views_of dC fun cdv A outer s H E hr=>?_
 have hu:=hr.units;exact (ah (aT 2 sc_views_of.nd (cq aQ))
   (ah (cE (by rfl) (cy (ax G_names_in (hr.mono dC) (by rfl) T.m_names_in T.F_names_in.kp T.n_names_in (bO (ai (eP (id:="len") gN (by rfl) T.b_len (by decide +kernel) (bB (bP (hs:=bS) (ag 0) ab) cf))) (aM 1 aJ)))) (aO 3 sc_views_of.nd) (au (cZ (AR 2 (fx (fx (bT 0) (ai ab)) (ai (ag 3)))))) PassesOwn.never)
   (au (bn (eD 2)))))
theorem uv (T : Tx t) : bR P w K mg base cP 2 t.a_lines_of t.d_lines_of ["views"] (cT K 1 i9):=by
 have G_less_lines:=rR (P:=P) (w:=w) (base:=base) T;have G_mask_of:=wc (P:=P) (w:=w) (base:=base) T;have G_with_line:=sU (P:=P) (w:=w) (base:=base) T;refine cD (N:=["views","lines","place","view","left"]) (W:=[1,2,3,4,1]) T.F_lines_of sc_lines_of dC fun cdv A outer s H E hr=>?_
 have hu:=hr.units;exact (ah (aT 1 sc_lines_of.nd (cq aQ))
   (ah (cE (by rfl) (AQ (by rfl) T.b_enumerate (bT 0)) (ml (by rfl) (d9 (aO 2 sc_lines_of.nd) (d9 (aO 3 sc_lines_of.nd) kw))) (ah (aT 4 sc_lines_of.nd (ax G_less_lines (hr.mono dC) (by rfl) T.m_less_lines T.F_less_lines.kp T.n_less_lines (aM 1 (bO (ax G_mask_of (hr.mono dC) (by rfl) T.m_mask_of T.F_mask_of.kp T.n_mask_of (aM 3 aJ)) (bO (ai (aH fy ab (ag 2))) aJ)))))
   (au (dz (cH (gQ hu) (ai (bP (hs:=bS) (ag 4) ab)) (ai ab) (bN _)) (au (aT 1 sc_lines_of.nd (ax G_with_line (hr.mono dC) (by rfl) T.m_with_line T.F_with_line.kp T.n_with_line (aM 1 (bO (ai (bP (hs:=bS) (ag 4) ab)) (bO (ai (bP (hs:=bS) (ag 4) ab)) aJ)))))) cw))) PassesOwn.never)
   (au (bn (eD 1)))))
theorem xH (T : Tx t) : bR P w K mg base cP 2 t.a_beside t.d_beside ["one","other"] (cT K 2 lA):=by
 have G_moved_views:=qi (P:=P) (w:=w) (base:=base) T;refine cD (N:=["one","other","views"]) (W:=[2]) T.F_beside sc_beside dC fun cdv A outer s H E hr=>?_
 have hu:=hr.units;exact (ah (qo 2 ["one","other","views","ahead","behind"] sc_beside.nd (xc (by rfl) T.b_zip (fx (bT 0) (ai ab)) (fx (bT 1) (ai ab))) (fun _ _ _ _ _=>by exact (ml (by rfl) (d9 (aO 3 (show List.Nodup (["one","other","views","ahead","behind"] : List Str) by decide +kernel)) (d9 (aO 4 (show List.Nodup (["one","other","views","ahead","behind"] : List Str) by decide +kernel)) kw)))) (fun _ _ _ _ _=>by exact dP) (fun _ _ _ _ _=>by exact (jr (ax G_moved_views (hr.mono dC) (by rfl) T.m_moved_views T.F_moved_views.kp T.n_moved_views (aM 3 (bO (ai ab) aJ))) (ax G_moved_views (hr.mono dC) (by rfl) T.m_moved_views T.F_moved_views.kp T.n_moved_views (aM 4 (bO (ai (bP (hs:=bS) (ag 0) ab)) aJ))))))
   (au (bn (fX (aq (ai (aH eE (bP (hs:=bS) (ag 0) ab) (bP (hs:=bS) (ag 1) ab))) (aq (eD 2) aQ))))))
theorem lO (T : Tx t) : bR P w K mg base cP 2 t.a_key_groups t.d_key_groups ["n"] (cT K 1 gf):=by
 have G_all_names:=mv (P:=P) (w:=w) (base:=base) T;refine cD (N:=["n"]) (W:=[]) T.F_key_groups rK dC fun cdv A outer s H E hr=>?_
 have hu:=hr.units;exact (au (bn (yY (by rfl) T.b_list (by rfl) T.b_range (aq (ai ab) (aq (ax G_all_names (hr.mono dC) (by rfl) T.m_all_names T.F_all_names.kp T.n_all_names (aM 0 aJ)) (aq (ai ab) aQ))))))
theorem nw (T : Tx t) : bR P w K mg base cP 2 t.a_least_of t.d_least_of ["groups"] (cT K 1 iq):=by
 have G_has_less:=ux (P:=P) (w:=w) (base:=base) T;refine cD (N:=["groups"]) (W:=[]) T.F_least_of um dC fun cdv A outer s H E hr=>?_
 have hu:=hr.units;exact (au (bn (ga ["groups","group"] (cy (bT 0)) (fun _ _ _ _ _=>by exact (aO 1 (show List.Nodup (["groups","group"] : List Str) by decide +kernel))) (fun _ _ _ _ _=>by exact (gW (oE (mi (ax G_has_less (hr.mono dC) (by rfl) T.m_has_less T.F_has_less.kp T.n_has_less (aM 0 (aM 1 aJ))))))) (fun _ _ _ _ _=>by exact (ai (ag 1))))))
theorem zc (T : Tx t) : bR P w K mg base cP 2 t.a_lheap t.d_lheap ["_law_cell","_law_n","_law_most"] (cT K 3 nh):=by
 have G_lbits:=sW (P:=P) (w:=w) (base:=base) T;have G_ldraws:=qS (P:=P) (w:=w) (base:=base) T;refine cD (N:=["_law_cell","_law_n","_law_most","_law_digits","_law_many","_law_views","_law_name","_law_row","_law_j","_law_digit","_law_mask_here"]) (W:=[3,4,5,6,7,8,9,10]) T.F_lheap sc_lheap dC fun cdv A outer s H E hr=>?_
 have hu:=hr.units;exact (ah (aT 3 sc_lheap.nd (ax G_ldraws (hr.mono dC) (by rfl) T.m_ldraws T.F_ldraws.kp T.n_ldraws (aM 0 (bO (ai ab) (bO (ai ab) aJ)))))
   (ah (aT 4 sc_lheap.nd (ai (aH fA (bP (hs:=bS) (ag 3) ab) (aH eE (ag 2) ab))))
   (ah (aT 5 sc_lheap.nd (cq aQ))
   (ah (cE (by rfl) (jP (by rfl) T.b_range (aq (ai (ag 1)) aQ)) (aO 6 sc_lheap.nd) (ah (aT 7 sc_lheap.nd (cq aQ))
   (ah (cE (by rfl) (jP (by rfl) T.b_range (aq (ai (aH fA (bP (ag 3) (aH eE ab (ag 6))) ab)) aQ)) (aO 8 sc_lheap.nd) (ah (aT 9 sc_lheap.nd (ai (bP (ag 3) (aH eE (aH eE ab (aH lm ab (ag 6))) (ag 8)))))
   (ah (aT 10 sc_lheap.nd (ai (aH fA (ag 9) (aH fy ab (ag 4)))))
   (ah (dz (cH wd (ai (ag 4)) (ai ab) (bN _)) fo cw)
   (au (cZ (kx 7 (ax G_lbits (hr.mono dC) (by rfl) T.m_lbits T.F_lbits.kp T.n_lbits (aM 10 aJ)))))))) PassesOwn.never)
   (au (cZ (kx 5 (eD 7)))))) PassesOwn.never)
   (au (bn (fX (aq (ai (ag 4)) (aq (eD 5) aQ)))))))))
theorem qQ (T : Tx t) : bR P w K mg base cP 2 t.a_lmasks t.d_lmasks ["_law_heap_here","_law_g"] (cT K 2 gR):=by
 have G_lmask:=zb (P:=P) (w:=w) (base:=base) T;refine cD (N:=["_law_heap_here","_law_g","_law_found","_law_name"]) (W:=[2,3,2]) T.F_lmasks sc_lmasks dC fun cdv A outer s H E hr=>?_
 have hu:=hr.units;exact (ah (aT 2 sc_lmasks.nd (cq aQ))
   (ah (cE (by rfl) (jP (by rfl) T.b_range (aq (ai (eP (id:="len") gN (by rfl) T.b_len (by decide +kernel) (bB (bP (hs:=bS) (ag 0) ab) cf))) aQ)) (aO 3 sc_lmasks.nd) (au (dz (cH (iS hu) (ai (aH fA (aH ln (ag 1) (aH fy ab (ag 3))) ab)) (ai ab) (bN _)) (au (aT 2 sc_lmasks.nd (jr (eD 2) (ga ["_law_heap_here","_law_g","_law_found","_law_name","_law_view"] (cy (fx (fx (bT 0) (ai ab)) (ai (ag 3)))) (fun _ _ _ _ _=>by exact (aO 4 (show List.Nodup (["_law_heap_here","_law_g","_law_found","_law_name","_law_view"] : List Str) by decide +kernel))) (fun _ _ _ _ _=>by exact dP) (fun _ _ _ _ _=>by exact (ax G_lmask (hr.mono dC) (by rfl) T.m_lmask T.F_lmask.kp T.n_lmask (aM 4 aJ))))))) cw)) PassesOwn.never)
   (au (bn (eD 2)))))
theorem ut (T : Tx t) : bR P w K mg base cP 2 t.a_lopeners t.d_lopeners ["_law_cell","_law_n"] (cT K 2 im):=by
 have G_ldraws:=qS (P:=P) (w:=w) (base:=base) T;refine cD (N:=["_law_cell","_law_n","_law_digits","_law_openers_here","_law_digit","_law_g"]) (W:=[2,3,4,5]) T.F_lopeners sc_lopeners dC fun cdv A outer s H E hr=>?_
 have hu:=hr.units;exact (ah (aT 2 sc_lopeners.nd (ax G_ldraws (hr.mono dC) (by rfl) T.m_ldraws T.F_ldraws.kp T.n_ldraws (aM 0 (bO (ai ab) (bO (ai ab) aJ)))))
   (ah (aT 3 sc_lopeners.nd (cq aQ))
   (ah (cE (by rfl) (cy (Cp (ag 2) (jc ab) (jc (aH eE ab (aH fA (bP (hs:=bS) (ag 2) ab) ab))))) (aO 4 sc_lopeners.nd) (ah (aT 5 sc_lopeners.nd (ai (aH lm ab (aH fA (ag 4) (aH fy ab (aH jQ (ag 1) ab))))))
   (au (dz (qd (rX (cH wd (ai (ag 5)) (ai ab) (bN _)) (sJ (cH (iS hu) (ai (aH fA (bP (hs:=bS) (ag 2) ab) ab)) (ai ab) (bN _))))) (au (cZ (iz (gx 3) (ag 5)))) cw))) PassesOwn.never)
   (au (bn (eD 3))))))
theorem v9 (T : Tx t) : bR P w K mg base cP 3 t.a_rank_of t.d_rank_of ["views"] (cT K 1 jX):=by
 have G_lines_of:=uv (P:=P) (w:=w) (base:=base) T;refine cD (N:=["views"]) (W:=[]) T.F_rank_of vX dC fun cdv A outer s H E hr=>?_
 have hu:=hr.units;exact (au (bn (oF (id:="len") gN (by rfl) T.b_len (by decide +kernel) (aq (ax G_lines_of (hr.mono dC) (by rfl) T.m_lines_of T.F_lines_of.kp T.n_lines_of (aM 0 aJ)) aQ))))
theorem nX (T : Tx t) : bR P w K mg base cP 3 t.a_least_openers t.d_least_openers ["n","openers"] (cT K 2 fM):=by
 have G_key_groups:=lO (P:=P) (w:=w) (base:=base) T;have G_least_of:=nw (P:=P) (w:=w) (base:=base) T;have G_opens:=za (P:=P) (w:=w) (base:=base) T;refine cD (N:=["n","openers"]) (W:=[]) T.F_least_openers nV dC fun cdv A outer s H E hr=>?_
 have hu:=hr.units;exact (au (bn (ax G_least_of (hr.mono dC) (by rfl) T.m_least_of T.F_least_of.kp T.n_least_of (bO (ga ["n","openers","group"] (cy (ax G_key_groups (hr.mono dC) (by rfl) T.m_key_groups T.F_key_groups.kp T.n_key_groups (aM 0 aJ))) (fun _ _ _ _ _=>by exact (aO 2 (show List.Nodup (["n","openers","group"] : List Str) by decide +kernel))) (fun _ _ _ _ _=>by exact (gW (mi (ax G_opens (hr.mono dC) (by rfl) T.m_opens T.F_opens.kp T.n_opens (aM 1 (aM 2 aJ)))))) (fun _ _ _ _ _=>by exact (ai (ag 2)))) aJ))))
theorem lQ (T : Tx t) : bR P w K mg base cP 3 t.a_both_safes t.d_both_safes ["one","other"] (cT K 2 fh):=by
 have G_beside:=xH (P:=P) (w:=w) (base:=base) T;refine cD (N:=["one","other","both","asked"]) (W:=[2,3]) T.F_both_safes sc_both_safes dC fun cdv A outer s H E hr=>?_
 have hu:=hr.units;exact (ah (aT 2 sc_both_safes.nd (ax G_beside (hr.mono dC) (by rfl) T.m_beside T.F_beside.kp T.n_beside (aM 0 (aM 1 aJ))))
   (ah (aT 3 sc_both_safes.nd (Ee (fL (fL (gx 2) ab) ab)))
   (au (bn (fX (aq (ai (bP (hs:=bS) (ag 2) ab)) (aq (jr (cq (aq (by exact (cq (aq (uP (bP (hs:=bS) (ag 3) ab) (bP (hs:=bS) (ag 3) ab)) aQ))) aQ)) (xh (fL (gx 2) ab) (jc ab) mV)) aQ)))))))
theorem uu (T : Tx t) : bR P w K mg base cP 3 t.a_lknowing t.d_lknowing ["_law_n","_law_heap_here"] (cT K 2 io):=by
 have G_lmasks:=qQ (P:=P) (w:=w) (base:=base) T;have G_lrank:=sV (P:=P) (w:=w) (base:=base) T;refine cD (N:=["_law_n","_law_heap_here","_law_found","_law_g","_law_mine"]) (W:=[2,3,4]) T.F_lknowing sc_lknowing dC fun cdv A outer s H E hr=>?_
 have hu:=hr.units;exact (ah (aT 2 sc_lknowing.nd (cq aQ))
   (ah (cE (by rfl) (mj (by rfl) T.b_range (aq (ai ab) (aq (ai (aH fy ab (ag 0))) (aq (ai ab) aQ)))) (aO 3 sc_lknowing.nd) (ah (aT 4 sc_lknowing.nd (ax G_lmasks (hr.mono dC) (by rfl) T.m_lmasks T.F_lmasks.kp T.n_lmasks (aM 1 (aM 3 aJ))))
   (au (dz (cH (iS hu) (ax G_lrank (hr.mono dC) (by rfl) T.m_lrank T.F_lrank.kp T.n_lrank (bO (uO (bT 4) (ax G_lmasks (hr.mono dC) (by rfl) T.m_lmasks T.F_lmasks.kp T.n_lmasks (aM 1 (bO (ai ab) aJ)))) aJ)) (ax G_lrank (hr.mono dC) (by rfl) T.m_lrank T.F_lrank.kp T.n_lrank (aM 4 aJ)) (bN _)) (au (cZ (iz (gx 2) (ag 3)))) cw))) PassesOwn.never)
   (au (bn (eD 2)))))
theorem xG (T : Tx t) : bR P w K mg base cP 3 t.a_ldrawn t.d_ldrawn ["_law_cell","_law_n"] (cT K 2 jE):=by
 have G_lbits:=sW (P:=P) (w:=w) (base:=base) T;have G_lheap:=zc (P:=P) (w:=w) (base:=base) T;refine cD (N:=["_law_cell","_law_n","_law_heap_here"]) (W:=[2]) T.F_ldrawn sc_ldrawn dC fun cdv A outer s H E hr=>?_
 have hu:=hr.units;exact (ah (aT 2 sc_ldrawn.nd (ax G_lheap (hr.mono dC) (by rfl) T.m_lheap T.F_lheap.kp T.n_lheap (aM 0 (aM 1 (bO (ai ab) aJ)))))
   (ah (dz (cH wd (ai (eP (id:="len") gN (by rfl) T.b_len (by decide +kernel) (bB (bP (hs:=bS) (bP (hs:=bS) (ag 2) ab) ab) cf))) (ai ab) (bN _)) (au (xb (xh (fL (fL (gx 2) ab) ab) mV (jc ab)) (xf (fL (gx 2) ab) ab))) cw)
   (ah (dz (gp (iS hu) (bP (hs:=bS) (bP (hs:=bS) (ag 2) ab) ab) (mm cf) (bN _)) (au (cZ (AT (fL (fL (gx 2) ab) ab) (ax G_lbits (hr.mono dC) (by rfl) T.m_lbits T.F_lbits.kp T.n_lbits (bO (ai (aH fA (aH ln (ag 0) ab) (aH fy ab (bP (hs:=bS) (ag 2) ab)))) aJ))))) cw)
   (au (bn (eD 2))))))
theorem lP (T : Tx t) : bR P w K mg base cP 4 t.a_coin_table t.d_coin_table ["heap"] (cT K 1 gg):=by
 have G_all_names:=mv (P:=P) (w:=w) (base:=base) T;have G_rank_of:=v9 (P:=P) (w:=w) (base:=base) T;have G_views_of:=ur (P:=P) (w:=w) (base:=base) T;refine cD (N:=["heap"]) (W:=[]) T.F_coin_table rQ dC fun cdv A outer s H E hr=>?_
 have hu:=hr.units;exact (au (bn (ga ["heap","group"] (zZ (by rfl) T.b_range (aq (ai ab) (aq (z3 eE (ax G_all_names (hr.mono dC) (by rfl) T.m_all_names T.F_all_names.kp T.n_all_names (bO (ai (eP (id:="len") gN (by rfl) T.b_len (by decide +kernel) (bB (bP (hs:=bS) (ag 0) ab) cf))) aJ)) (ai ab)) aQ))) (fun _ _ _ _ _=>by exact (aO 1 (show List.Nodup (["heap","group"] : List Str) by decide +kernel))) (fun _ _ _ _ _=>by exact dP) (fun _ _ _ _ _=>by exact (ax G_rank_of (hr.mono dC) (by rfl) T.m_rank_of T.F_rank_of.kp T.n_rank_of (bO (ax G_views_of (hr.mono dC) (by rfl) T.m_views_of T.F_views_of.kp T.n_views_of (aM 0 (aM 1 aJ))) aJ))))))
theorem v8 (T : Tx t) : bR P w K mg base cP 4 t.a_safe_of t.d_safe_of ["n","openers"] (cT K 2 gc):=by
 have G_least_openers:=nX (P:=P) (w:=w) (base:=base) T;have G_names_in:=nv (P:=P) (w:=w) (base:=base) T;refine cD (N:=["n","openers","least","keys_without","many","views","opener","keys","fresh","key","coin"]) (W:=[2,3,4,5,6,7,8,9,10,4]) T.F_safe_of sc_safe_of dC fun cdv A outer s H E hr=>?_
 have hu:=hr.units;exact (ah (aT 2 sc_safe_of.nd (ax G_least_openers (hr.mono dC) (by rfl) T.m_least_openers T.F_least_openers.kp T.n_least_openers (aM 0 (aM 1 aJ))))
   (ah (qo 3 ["n","openers","least","keys_without","many","views","opener","keys","fresh","%1","coin","key"] sc_safe_of.nd (zZ (by rfl) T.b_range (aq (ai ab) (aq (ai (ag 0)) aQ))) (fun _ _ _ _ _=>by exact (aO 11 (show List.Nodup (["n","openers","least","keys_without","many","views","opener","keys","fresh","%1","coin","key"] : List Str) by decide +kernel))) (fun _ _ _ _ _=>by exact dP) (fun _ _ _ _ _=>by exact (cq aQ)))
   (ah (dz (gp (iS hu) (ag 2) (mm (bB ab cf)) (bN _)) (au (bn (fX (aq (ai ab) (aq (jr (cq (aq (by exact (cq (aq (cq aQ) aQ))) aQ)) (eD 3)) aQ))))) cw)
   (ah (aT 4 sc_safe_of.nd (ai ab))
   (ah (aT 5 sc_safe_of.nd (jr (cq (aq (by exact (cq (aq (by exact (cq (aq (ai ab) aQ))) aQ))) aQ)) (eD 3)))
   (ah (cE (by rfl) (cy (bT 2)) (aO 6 sc_safe_of.nd) (ah (aT 7 sc_safe_of.nd (ax G_names_in (hr.mono dC) (by rfl) T.m_names_in T.F_names_in.kp T.n_names_in (aM 0 (aM 6 aJ))))
   (ah (aT 8 sc_safe_of.nd (xi (by rfl) T.b_list (by rfl) T.b_range (ag 4) (aH jQ (aH eE (ag 4) (eP (id:="len") gN (by rfl) T.b_len (by decide +kernel) (bB (ag 7) cf))) ab)))
   (ah (cE (by rfl) (xc (by rfl) T.b_zip (bT 7) (bT 8)) (ml (by rfl) (d9 (aO 9 sc_safe_of.nd) (d9 (aO 10 sc_safe_of.nd) kw))) (au (cZ (AU (fL (gx 5) (ag 9)) (bB (ag 10) cf)))) PassesOwn.never)
   (ah (cZ (AV (fL (gx 5) (bP (ag 7) (xk ab))) (uO (cq (aq (ai ab) aQ)) (bT 8))))
   (au (AO 4 sc_safe_of.nd CZ (ai (eP (id:="len") gN (by rfl) T.b_len (by decide +kernel) (bB (ag 8) cf))))))))) PassesOwn.never)
   (au (bn (fX (aq (ai (ag 4)) (aq (eD 5) aQ)))))))))))
theorem mr (T : Tx t) : bR P w K mg base cP 5 t.a_opened_by t.d_opened_by ["heap"] (cT K 1 gC):=by
 have G_coin_table:=lP (P:=P) (w:=w) (base:=base) T;have G_key_groups:=lO (P:=P) (w:=w) (base:=base) T;have G_knows_lock:=rV (P:=P) (w:=w) (base:=base) T;have G_least_of:=nw (P:=P) (w:=w) (base:=base) T;refine cD (N:=["heap","table"]) (W:=[1]) T.F_opened_by sc_opened_by dC fun cdv A outer s H E hr=>?_
 have hu:=hr.units;exact (ah (aT 1 sc_opened_by.nd (ax G_coin_table (hr.mono dC) (by rfl) T.m_coin_table T.F_coin_table.kp T.n_coin_table (aM 0 aJ)))
   (au (bn (ax G_least_of (hr.mono dC) (by rfl) T.m_least_of T.F_least_of.kp T.n_least_of (bO (ga ["heap","table","group"] (cy (ax G_key_groups (hr.mono dC) (by rfl) T.m_key_groups T.F_key_groups.kp T.n_key_groups (bO (ai (eP (id:="len") gN (by rfl) T.b_len (by decide +kernel) (bB (bP (hs:=bS) (ag 0) ab) cf))) aJ))) (fun _ _ _ _ _=>by exact (aO 2 (show List.Nodup (["heap","table","group"] : List Str) by decide +kernel))) (fun _ _ _ _ _=>by exact (gW (mi (ax G_knows_lock (hr.mono dC) (by rfl) T.m_knows_lock T.F_knows_lock.kp T.n_knows_lock (aM 1 (aM 2 aJ)))))) (fun _ _ _ _ _=>by exact (ai (ag 2)))) aJ)))))
theorem xE (T : Tx t) : bR P w K mg base cP 6 t.a_lright t.d_lright ["_law_n","_law_one","_law_other"] (cT K 3 jA):=by
 have G_lboth:=ze (P:=P) (w:=w) (base:=base) T;have G_lcopy:=zd (P:=P) (w:=w) (base:=base) T;have G_lknowing:=uu (P:=P) (w:=w) (base:=base) T;have G_lleast:=qR (P:=P) (w:=w) (base:=base) T;have G_lmasks:=qQ (P:=P) (w:=w) (base:=base) T;have G_lrank:=sV (P:=P) (w:=w) (base:=base) T;have G_both_safes:=lQ (P:=P) (w:=w) (base:=base) T;have G_coin_table:=lP (P:=P) (w:=w) (base:=base) T;have G_opened_by:=mr (P:=P) (w:=w) (base:=base) T;refine cD (N:=["_law_n","_law_one","_law_other","_law_kept","_law_due","_law_first","_law_groups","_law_time","_law_told","_law_table_here","_law_g","_law_alone"]) (W:=[3,4,5,6,7,8,9,10,11]) T.F_lright sc_lright dC fun cdv A outer s H E hr=>?_
 have hu:=hr.units;exact (ah (aT 3 sc_lright.nd (cq (aq (ax G_lcopy (hr.mono dC) (by rfl) T.m_lcopy T.F_lcopy.kp T.n_lcopy (aM 1 aJ)) (aq (ax G_lcopy (hr.mono dC) (by rfl) T.m_lcopy T.F_lcopy.kp T.n_lcopy (aM 2 aJ)) aQ))))
   (ah (aT 4 sc_lright.nd (ax G_lboth (hr.mono dC) (by rfl) T.m_lboth T.F_lboth.kp T.n_lboth (aM 1 (aM 2 aJ))))
   (ah (dz (qd (rX (cH (gQ hu) (ax G_both_safes (hr.mono dC) (by rfl) T.m_both_safes T.F_both_safes.kp T.n_both_safes (bO (bT 1) (bO (bT 1) aJ))) (ax G_lboth (hr.mono dC) (by rfl) T.m_lboth T.F_lboth.kp T.n_lboth (bO (bT 1) (bO (bT 1) aJ))) (bN _)) (sJ (gp (gQ hu) (mm (bB (ag 1) (bB (ag 2) cf))) (ag 3) (bN _))))) fo cw)
   (ah (aT 5 sc_lright.nd (ax G_lknowing (hr.mono dC) (by rfl) T.m_lknowing T.F_lknowing.kp T.n_lknowing (aM 0 (bO (fx (bT 3) (ai ab)) aJ))))
   (ah (qo 6 ["_law_n","_law_one","_law_other","_law_kept","_law_due","_law_first","_law_groups","_law_time","_law_told","_law_table_here","%1","_law_alone","_law_g"] sc_lright.nd (cy (ax G_lknowing (hr.mono dC) (by rfl) T.m_lknowing T.F_lknowing.kp T.n_lknowing (aM 0 (bO (fx (bT 3) (ai ab)) aJ)))) (fun _ _ _ _ _=>by exact (aO 12 (show List.Nodup (["_law_n","_law_one","_law_other","_law_kept","_law_due","_law_first","_law_groups","_law_time","_law_told","_law_table_here","%1","_law_alone","_law_g"] : List Str) by decide +kernel))) (fun _ _ _ _ _=>by exact (gW (gp (zf hu) (ag 12) (ag 5) (by rfl)))) (fun _ _ _ _ _=>by exact (ai (ag 12))))
   (ah (cE (by rfl) (jP (by rfl) T.b_range (aq (ai ab) aQ)) (aO 7 sc_lright.nd) (ah (aT 8 sc_lright.nd (ax G_both_safes (hr.mono dC) (by rfl) T.m_both_safes T.F_both_safes.kp T.n_both_safes (aM 1 (aM 2 aJ))))
   (ah (dz (qd (rX (oE (mi (ai (eP (id:="isinstance") ER (by rfl) T.b_isinstance (by decide +kernel) (bB (ag 8) (bB (xj (T:="tuple") (by rfl) T.b_tuple (by decide +kernel)) cf)))))) (rX (gp (gQ hu) (ag 8) (ag 4) (bN _)) (sJ (gp (gQ hu) (mm (bB (ag 1) (bB (ag 2) cf))) (ag 3) (bN _)))))) fo cw)
   (ah (dz (cH (gQ hu) (gX 4 (gX 3 (gX 2 (gX 1 (uN 8 (ax G_opened_by (hr.mono dC) (by rfl) T.m_opened_by T.F_opened_by.kp T.n_opened_by (aM 8 aJ))))))) (ax G_lleast (hr.mono dC) (by rfl) T.m_lleast T.F_lleast.kp T.n_lleast (aM 0 (aM 6 aJ))) (bN _)) fo cw)
   (ah (aT 9 sc_lright.nd (gX 4 (gX 3 (gX 2 (gX 1 (uN 8 (ax G_coin_table (hr.mono dC) (by rfl) T.m_coin_table T.F_coin_table.kp T.n_coin_table (aM 8 aJ))))))))
   (ah (cE (by rfl) (Ed (by rfl) T.b_range (aq (ai ab) (aq (ai (aH fy ab (ag 0))) (aq (ai ab) aQ)))) (aO 10 sc_lright.nd) (ah (aT 11 sc_lright.nd (z3 eE (ax G_lrank (hr.mono dC) (by rfl) T.m_lrank T.F_lrank.kp T.n_lrank (bO (ax G_lmasks (hr.mono dC) (by rfl) T.m_lmasks T.F_lmasks.kp T.n_lmasks (bO (fx (bT 3) (ai ab)) (aM 10 aJ))) aJ)) (ax G_lrank (hr.mono dC) (by rfl) T.m_lrank T.F_lrank.kp T.n_lrank (bO (ax G_lmasks (hr.mono dC) (by rfl) T.m_lmasks T.F_lmasks.kp T.n_lmasks (bO (fx (bT 3) (ai ab)) (aM 10 aJ))) aJ))))
   (au (dz (cH (gQ hu) (ai (bP (ag 9) (aH jQ (ag 10) ab))) (ai (ag 11)) (bN _)) fo cw))) PassesOwn.never)
   (ah (cZ (iz (fL (fL (fL (gx 8) ab) ab) ab) ab))
   (au (cZ (AS (fL (gx 8) ab)))))))))) PassesOwn.never)
   (au (bn (ai rY)))))))))
theorem CU (T : Tx t) {f : Addr} {fd : FuncData} (F : Fun K "law" "law" oz f fd) : bR P w K mg base cP 7 f fd ["_law_script"] (cT K 1 jZ):=by
 have G_lcell_at:=uw (P:=P) (w:=w) (base:=base) T;have G_ldrawn:=xG (P:=P) (w:=w) (base:=base) T;have G_lleast:=qR (P:=P) (w:=w) (base:=base) T;have G_lopeners:=ut (P:=P) (w:=w) (base:=base) T;have G_lopens:=xF (P:=P) (w:=w) (base:=base) T;have G_lright:=xE (P:=P) (w:=w) (base:=base) T;have G_both_safes:=lQ (P:=P) (w:=w) (base:=base) T;have G_opened_by:=mr (P:=P) (w:=w) (base:=base) T;have G_safe_of:=v8 (P:=P) (w:=w) (base:=base) T;refine cD (N:=["_law_script","_law_k","_law_cell","_law_more","_law_n","_law_one","_law_other","_law_safe","_law_both_here"]) (W:=[1,2,3,4,5,6,7,8]) F sc_law dC fun cdv A outer s H E hr=>?_
 have hu:=hr.units;exact (ah (cE (by rfl) (mj (by rfl) T.b_range (aq (ai ab) (aq (ai (eP (id:="max") (Dt (by rfl)) (by rfl) T.b_max (by decide +kernel) (bB ab (bB (eP (id:="min") (tY (by rfl)) (by rfl) T.b_min (by decide +kernel) (bB ab (bB (aH jQ (eP (id:="len") gN (by rfl) T.b_len (by decide +kernel) (bB (ag 0) cf)) ab) cf))) cf)))) (aq (ai ab) aQ)))) (aO 1 sc_law.nd) (ah (aT 2 sc_law.nd (ax G_lcell_at (hr.mono dC) (by rfl) T.m_lcell_at T.F_lcell_at.kp T.n_lcell_at (aM 0 (aM 1 aJ))))
   (ah (aT 3 sc_law.nd (ax G_lcell_at (hr.mono dC) (by rfl) T.m_lcell_at T.F_lcell_at.kp T.n_lcell_at (aM 0 (bO (ai (aH eE (ag 1) ab)) aJ))))
   (ah (aT 4 sc_law.nd (ai (aH eE ab (aH fA (ag 2) ab))))
   (ah (aT 5 sc_law.nd (sK (ax G_lopeners (hr.mono dC) (by rfl) T.m_lopeners T.F_lopeners.kp T.n_lopeners (bO (ai (aH ln (ag 2) ab)) (aM 4 aJ))) mV (jc ab)))
   (ah (aT 6 sc_law.nd (sK (ax G_lopeners (hr.mono dC) (by rfl) T.m_lopeners T.F_lopeners.kp T.n_lopeners (aM 3 (aM 4 aJ))) mV (jc ab)))
   (ah (dz (oE (mi (ax G_lright (hr.mono dC) (by rfl) T.m_lright T.F_lright.kp T.n_lright (aM 4 (bO (ax G_safe_of (hr.mono dC) (by rfl) T.m_safe_of T.F_safe_of.kp T.n_safe_of (aM 4 (aM 5 aJ))) (bO (ax G_safe_of (hr.mono dC) (by rfl) T.m_safe_of T.F_safe_of.kp T.n_safe_of (aM 4 (aM 6 aJ))) aJ)))))) fo cw)
   (ah (dz (oE (mi (ax G_lright (hr.mono dC) (by rfl) T.m_lright T.F_lright.kp T.n_lright (aM 4 (bO (ax G_ldrawn (hr.mono dC) (by rfl) T.m_ldrawn T.F_ldrawn.kp T.n_ldrawn (bO (ai (aH ln (ag 2) ab)) (aM 4 aJ))) (bO (ax G_ldrawn (hr.mono dC) (by rfl) T.m_ldrawn T.F_ldrawn.kp T.n_ldrawn (aM 3 (aM 4 aJ))) aJ)))))) fo cw)
   (ah (aT 7 sc_law.nd (ax G_both_safes (hr.mono dC) (by rfl) T.m_both_safes T.F_both_safes.kp T.n_both_safes (bO (ax G_safe_of (hr.mono dC) (by rfl) T.m_safe_of T.F_safe_of.kp T.n_safe_of (aM 4 (aM 5 aJ))) (bO (ax G_safe_of (hr.mono dC) (by rfl) T.m_safe_of T.F_safe_of.kp T.n_safe_of (aM 4 (aM 6 aJ))) aJ))))
   (ah (qo 8 ["_law_script","_law_k","_law_cell","_law_more","_law_n","_law_one","_law_other","_law_safe","_law_both_here","_law_g"] sc_law.nd (mj (by rfl) T.b_range (aq (ai ab) (aq (ai (aH fy ab (ag 4))) (aq (ai ab) aQ)))) (fun _ _ _ _ _=>by exact (aO 9 (show List.Nodup (["_law_script","_law_k","_law_cell","_law_more","_law_n","_law_one","_law_other","_law_safe","_law_both_here","_law_g"] : List Str) by decide +kernel))) (fun _ _ _ _ _=>by exact (gW (qd (oD (mi (ax G_lopens (hr.mono dC) (by rfl) T.m_lopens T.F_lopens.kp T.n_lopens (aM 5 (aM 9 aJ)))) (qe (mi (ax G_lopens (hr.mono dC) (by rfl) T.m_lopens T.F_lopens.kp T.n_lopens (aM 6 (aM 9 aJ))))))))) (fun _ _ _ _ _=>by exact (ai (ag 9))))
   (au (dz (cH (gQ hu) (ax G_opened_by (hr.mono dC) (by rfl) T.m_opened_by T.F_opened_by.kp T.n_opened_by (aM 7 aJ)) (ax G_lleast (hr.mono dC) (by rfl) T.m_lleast T.F_lleast.kp T.n_lleast (aM 4 (aM 8 aJ))) (bN _)) fo cw))))))))))) PassesOwn.never)
   (au (bn (ai rY))))
end
noncomputable abbrev dL (K : PySem.W.Frag) (x : Str) (f : Addr) : Prop:=nsIn K mainGlobals x = some (some (.ref f))
noncomputable abbrev dO (K : PySem.W.Frag) (c : Value) (x : Str) : Prop:=codeIn K c x = true
noncomputable abbrev dN (K : PySem.W.Frag) (f : Addr) : Prop:=keepIn K (.ref f) = true
noncomputable abbrev bH (x : Str) (s : Stmt) (k d p : Value) (a : Option Addr) (c t : Value) : FuncData:=fnOf x x (kI s) (iC s) (aK s) .none k d p a c t
noncomputable abbrev dM (K : PySem.W.Frag) (f : Addr) (o : Value) (d : Option Addr) (F : FuncData) (s : Array (Option Value)) : Prop:=K.lookup f = some ⟨o,d,.func F,s⟩
theorem Dw {l : PySem.W.OpenLaw} {w : World} {K : PySem.W.Frag} {h : Heap} {mg : Str -> Option Value} {fa : Addr} (X : K.In h) (G : h.Ns mainGlobals mg) (hfa : mg "law" = some (.ref fa))
 {f0 f1 f2 f3 f4 f5 f6 f7 f8 f9 f10 f11 f12 f13 f14 f15 f16 f17 f18 f19 f20 f21 f22 f23 f24 f25 f26 f27 f28 f29 f30 f31 f32 f33 f34 f35 : Addr} {od0 an0 od1 an1 od2 an2 od3 an3 od4 an4 od5 an5 od6 an6 od7 an7 od8 an8 od9 an9 od10 an10 od11 an11 od12 an12 od13 an13 od14 an14 od15 an15 od16 an16 od17 an17 od18 an18 od19 an19 od20 an20 od21 an21 od22 an22 od23 an23 od24 an24 od25 an25 od26 an26 od27 an27 od28 an28 od29 an29 od30 an30 od31 an31 od32 an32 od33 an33 od34 an34 od35 an35 : Option Addr} {sl0 sl1 sl2 sl3 sl4 sl5 sl6 sl7 sl8 sl9 sl10 sl11 sl12 sl13 sl14 sl15 sl16 sl17 sl18 sl19 sl20 sl21 sl22 sl23 sl24 sl25 sl26 sl27 sl28 sl29 sl30 sl31 sl32 sl33 sl34 sl35 : Array (Option Value)} {oc0 kV0 dc0 pm0 cd0 ct0 oc1 kV1 dc1 pm1 cd1 ct1 oc2 kV2 dc2 pm2 cd2 ct2 oc3 kV3 dc3 pm3 cd3 ct3 oc4 kV4 dc4 pm4 cd4 ct4 oc5 kV5 dc5 pm5 cd5 ct5 oc6 kV6 dc6 pm6 cd6 ct6 oc7 kV7 dc7 pm7 cd7 ct7 oc8 kV8 dc8 pm8 cd8 ct8 oc9 kV9 dc9 pm9 cd9 ct9 oc10 kV10 dc10 pm10 cd10 ct10 oc11 kV11 dc11 pm11 cd11 ct11 oc12 kV12 dc12 pm12 cd12 ct12 oc13 kV13 dc13 pm13 cd13 ct13 oc14 kV14 dc14 pm14 cd14 ct14 oc15 kV15 dc15 pm15 cd15 ct15 oc16 kV16 dc16 pm16 cd16 ct16 oc17 kV17 dc17 pm17 cd17 ct17 oc18 kV18 dc18 pm18 cd18 ct18 oc19 kV19 dc19 pm19 cd19 ct19 oc20 kV20 dc20 pm20 cd20 ct20 oc21 kV21 dc21 pm21 cd21 ct21 oc22 kV22 dc22 pm22 cd22 ct22 oc23 kV23 dc23 pm23 cd23 ct23 oc24 kV24 dc24 pm24 cd24 ct24 oc25 kV25 dc25 pm25 cd25 ct25 oc26 kV26 dc26 pm26 cd26 ct26 oc27 kV27 dc27 pm27 cd27 ct27 oc28 kV28 dc28 pm28 cd28 ct28 oc29 kV29 dc29 pm29 cd29 ct29 oc30 kV30 dc30 pm30 cd30 ct30 oc31 kV31 dc31 pm31 cd31 ct31 oc32 kV32 dc32 pm32 cd32 ct32 oc33 kV33 dc33 pm33 cd33 ct33 oc34 kV34 dc34 pm34 cd34 ct34 oc35 kV35 dc35 pm35 cd35 ct35 : Value}
  (a0 : dL K "all_names" f0) (l0 : dM K f0 oc0 od0 (bH "all_names" gA kV0 dc0 pm0 an0 cd0 ct0) sl0) (c0 : dO K cd0 "all_names") (k0 : dN K f0)
  (a1 : dL K "names_in" f1) (l1 : dM K f1 oc1 od1 (bH "names_in" ia kV1 dc1 pm1 an1 cd1 ct1) sl1) (c1 : dO K cd1 "names_in") (k1 : dN K f1)
  (a2 : dL K "mask_of" f2) (l2 : dM K f2 oc2 od2 (bH "mask_of" iI kV2 dc2 pm2 an2 cd2 ct2) sl2) (c2 : dO K cd2 "mask_of") (k2 : dN K f2)
  (a3 : dL K "less_lines" f3) (l3 : dM K f3 oc3 od3 (bH "less_lines" fR kV3 dc3 pm3 an3 cd3 ct3) sl3) (c3 : dO K cd3 "less_lines") (k3 : dN K f3)
  (a4 : dL K "with_line" f4) (l4 : dM K f4 oc4 od4 (bH "with_line" gy kV4 dc4 pm4 an4 cd4 ct4) sl4) (c4 : dO K cd4 "with_line") (k4 : dN K f4)
  (a5 : dL K "moved_views" f5) (l5 : dM K f5 oc5 od5 (bH "moved_views" fG kV5 dc5 pm5 an5 cd5 ct5) sl5) (c5 : dO K cd5 "moved_views") (k5 : dN K f5)
  (a6 : dL K "opens" f6) (l6 : dM K f6 oc6 od6 (bH "opens" ki kV6 dc6 pm6 an6 cd6 ct6) sl6) (c6 : dO K cd6 "opens") (k6 : dN K f6)
  (a7 : dL K "has_less" f7) (l7 : dM K f7 oc7 od7 (bH "has_less" ij kV7 dc7 pm7 an7 cd7 ct7) sl7) (c7 : dO K cd7 "has_less") (k7 : dN K f7)
  (a8 : dL K "knows_lock" f8) (l8 : dM K f8 oc8 od8 (bH "knows_lock" fS kV8 dc8 pm8 an8 cd8 ct8) sl8) (c8 : dO K cd8 "knows_lock") (k8 : dN K f8)
  (a9 : dL K "_law_cell_at" f9) (l9 : dM K f9 oc9 od9 (bH "_law_cell_at" ii kV9 dc9 pm9 an9 cd9 ct9) sl9) (c9 : dO K cd9 "_law_cell_at") (k9 : dN K f9)
  (a10 : dL K "_law_draws" f10) (l10 : dM K f10 oc10 od10 (bH "_law_draws" jl kV10 dc10 pm10 an10 cd10 ct10) sl10) (c10 : dO K cd10 "_law_draws") (k10 : dN K f10)
  (a11 : dL K "_law_bits" f11) (l11 : dM K f11 oc11 od11 (bH "_law_bits" ku kV11 dc11 pm11 an11 cd11 ct11) sl11) (c11 : dO K cd11 "_law_bits") (k11 : dN K f11)
  (a12 : dL K "_law_mask" f12) (l12 : dM K f12 oc12 od12 (bH "_law_mask" kl kV12 dc12 pm12 an12 cd12 ct12) sl12) (c12 : dO K cd12 "_law_mask") (k12 : dN K f12)
  (a13 : dL K "_law_rank" f13) (l13 : dM K f13 oc13 od13 (bH "_law_rank" kj kV13 dc13 pm13 an13 cd13 ct13) sl13) (c13 : dO K cd13 "_law_rank") (k13 : dN K f13)
  (a14 : dL K "_law_copy" f14) (l14 : dM K f14 oc14 od14 (bH "_law_copy" ko kV14 dc14 pm14 an14 cd14 ct14) sl14) (c14 : dO K cd14 "_law_copy") (k14 : dN K f14)
  (a15 : dL K "_law_opens" f15) (l15 : dM K f15 oc15 od15 (bH "_law_opens" ji kV15 dc15 pm15 an15 cd15 ct15) sl15) (c15 : dO K cd15 "_law_opens") (k15 : dN K f15)
  (a16 : dL K "_law_least" f16) (l16 : dM K f16 oc16 od16 (bH "_law_least" jk kV16 dc16 pm16 an16 cd16 ct16) sl16) (c16 : dO K cd16 "_law_least") (k16 : dN K f16)
  (a17 : dL K "_law_both" f17) (l17 : dM K f17 oc17 od17 (bH "_law_both" kt kV17 dc17 pm17 an17 cd17 ct17) sl17) (c17 : dO K cd17 "_law_both") (k17 : dN K f17)
  (a18 : dL K "views_of" f18) (l18 : dM K f18 oc18 od18 (bH "views_of" h9 kV18 dc18 pm18 an18 cd18 ct18) sl18) (c18 : dO K cd18 "views_of") (k18 : dN K f18)
  (a19 : dL K "lines_of" f19) (l19 : dM K f19 oc19 od19 (bH "lines_of" ie kV19 dc19 pm19 an19 cd19 ct19) sl19) (c19 : dO K cd19 "lines_of") (k19 : dN K f19)
  (a20 : dL K "beside" f20) (l20 : dM K f20 oc20 od20 (bH "beside" jn kV20 dc20 pm20 an20 cd20 ct20) sl20) (c20 : dO K cd20 "beside") (k20 : dN K f20)
  (a21 : dL K "key_groups" f21) (l21 : dM K f21 oc21 od21 (bH "key_groups" fT kV21 dc21 pm21 an21 cd21 ct21) sl21) (c21 : dO K cd21 "key_groups") (k21 : dN K f21)
  (a22 : dL K "least_of" f22) (l22 : dM K f22 oc22 od22 (bH "least_of" ig kV22 dc22 pm22 an22 cd22 ct22) sl22) (c22 : dO K cd22 "least_of") (k22 : dN K f22)
  (a23 : dL K "_law_heap" f23) (l23 : dM K f23 oc23 od23 (bH "_law_heap" km kV23 dc23 pm23 an23 cd23 ct23) sl23) (c23 : dO K cd23 "_law_heap") (k23 : dN K f23)
  (a24 : dL K "_law_masks" f24) (l24 : dM K f24 oc24 od24 (bH "_law_masks" jj kV24 dc24 pm24 an24 cd24 ct24) sl24) (c24 : dO K cd24 "_law_masks") (k24 : dN K f24)
  (a25 : dL K "_law_openers" f25) (l25 : dM K f25 oc25 od25 (bH "_law_openers" ib kV25 dc25 pm25 an25 cd25 ct25) sl25) (c25 : dO K cd25 "_law_openers") (k25 : dN K f25)
  (a26 : dL K "rank_of" f26) (l26 : dM K f26 oc26 od26 (bH "rank_of" iH kV26 dc26 pm26 an26 cd26 ct26) sl26) (c26 : dO K cd26 "rank_of") (k26 : dN K f26)
  (a27 : dL K "least_openers" f27) (l27 : dM K f27 oc27 od27 (bH "least_openers" eO kV27 dc27 pm27 an27 cd27 ct27) sl27) (c27 : dO K cd27 "least_openers") (k27 : dN K f27)
  (a28 : dL K "both_safes" f28) (l28 : dM K f28 oc28 od28 (bH "both_safes" fV kV28 dc28 pm28 an28 cd28 ct28) sl28) (c28 : dO K cd28 "both_safes") (k28 : dN K f28)
  (a29 : dL K "_law_knowing" f29) (l29 : dM K f29 oc29 od29 (bH "_law_knowing" ic kV29 dc29 pm29 an29 cd29 ct29) sl29) (c29 : dO K cd29 "_law_knowing") (k29 : dN K f29)
  (a30 : dL K "_law_drawn" f30) (l30 : dM K f30 oc30 od30 (bH "_law_drawn" jm kV30 dc30 pm30 an30 cd30 ct30) sl30) (c30 : dO K cd30 "_law_drawn") (k30 : dN K f30)
  (a31 : dL K "coin_table" f31) (l31 : dM K f31 oc31 od31 (bH "coin_table" fU kV31 dc31 pm31 an31 cd31 ct31) sl31) (c31 : dO K cd31 "coin_table") (k31 : dN K f31)
  (a32 : dL K "safe_of" f32) (l32 : dM K f32 oc32 od32 (bH "safe_of" iG kV32 dc32 pm32 an32 cd32 ct32) sl32) (c32 : dO K cd32 "safe_of") (k32 : dN K f32)
  (a33 : dL K "opened_by" f33) (l33 : dM K f33 oc33 od33 (bH "opened_by" gz kV33 dc33 pm33 an33 cd33 ct33) sl33) (c33 : dO K cd33 "opened_by") (k33 : dN K f33)
  (a34 : dL K "_law_right" f34) (l34 : dM K f34 oc34 od34 (bH "_law_right" jh kV34 dc34 pm34 an34 cd34 ct34) sl34) (c34 : dO K cd34 "_law_right") (k34 : dN K f34)
  (a35 : dL K "law" f35) (l35 : dM K f35 oc35 od35 (bH "law" oz kV35 dc35 pm35 an35 cd35 ct35) sl35) (c35 : dO K cd35 "law") (k35 : dN K f35)
  (z_abs : nsIn K mainGlobals "abs" = some none)
  (z_any : nsIn K mainGlobals "any" = some none)
  (z_enumerate : nsIn K mainGlobals "enumerate" = some none)
  (z_isinstance : nsIn K mainGlobals "isinstance" = some none)
  (z_len : nsIn K mainGlobals "len" = some none)
  (z_list : nsIn K mainGlobals "list" = some none)
  (z_max : nsIn K mainGlobals "max" = some none)
  (z_min : nsIn K mainGlobals "min" = some none)
  (z_range : nsIn K mainGlobals "range" = some none)
  (z_sum : nsIn K mainGlobals "sum" = some none)
  (z_tuple : nsIn K mainGlobals "tuple" = some none)
  (z_zip : nsIn K mainGlobals "zip" = some none)
  {t_LOCK : Tok} (v_LOCK : nsIn K mainGlobals "LOCK" = some (some (.int 1 t_LOCK)))
  : ∃ fd : FuncData,(∀ (s : Shared) (v : Value),BindsTo s fd ⟨[v],[]⟩ [("_law_script",v)]) /\ ∀ base : Heap,K.In base -> base.Ns mainGlobals mg -> bR l.prog w K mg base cP 7 fa fd ["_law_script"] (cT K 1 jZ):=by
 have e:=hfa.symm.trans (mg_of X G a35);cases e;have F0:=bG (st:=gA) l0 c0 k0;have b0:=F0.binds (ps:=["n"]) fun _ _ _ _ _ _ us hl=>by rcases us with _ | ⟨_,_ | ⟨_,us⟩⟩ <;> first | rfl | (simp at hl) | cases hl
 have F1:=bG (st:=ia) l1 c1 k1;have b1:=F1.binds (ps:=["n","group"]) fun _ _ _ _ _ _ us hl=>by rcases us with _ | ⟨_,_ | ⟨_,_ | ⟨_,us⟩⟩⟩ <;> first | rfl | (simp at hl) | cases hl
 have F2:=bG (st:=iI) l2 c2 k2;have b2:=F2.binds (ps:=["view"]) fun _ _ _ _ _ _ us hl=>by rcases us with _ | ⟨_,_ | ⟨_,us⟩⟩ <;> first | rfl | (simp at hl) | cases hl
 have F3:=bG (st:=fR) l3 c3 k3;have b3:=F3.binds (ps:=["lines","mask","made"]) fun _ _ _ _ _ _ us hl=>by rcases us with _ | ⟨_,_ | ⟨_,_ | ⟨_,_ | ⟨_,us⟩⟩⟩⟩ <;> first | rfl | (simp at hl) | cases hl
 have F4:=bG (st:=gy) l4 c4 k4;have b4:=F4.binds (ps:=["lines","mask","made"]) fun _ _ _ _ _ _ us hl=>by rcases us with _ | ⟨_,_ | ⟨_,_ | ⟨_,_ | ⟨_,us⟩⟩⟩⟩ <;> first | rfl | (simp at hl) | cases hl
 have F5:=bG (st:=fG) l5 c5 k5;have b5:=F5.binds (ps:=["views","many"]) fun _ _ _ _ _ _ us hl=>by rcases us with _ | ⟨_,_ | ⟨_,_ | ⟨_,us⟩⟩⟩ <;> first | rfl | (simp at hl) | cases hl
 have F6:=bG (st:=ki) l6 c6 k6;have b6:=F6.binds (ps:=["openers","group"]) fun _ _ _ _ _ _ us hl=>by rcases us with _ | ⟨_,_ | ⟨_,_ | ⟨_,us⟩⟩⟩ <;> first | rfl | (simp at hl) | cases hl
 have F7:=bG (st:=ij) l7 c7 k7;have b7:=F7.binds (ps:=["groups","group"]) fun _ _ _ _ _ _ us hl=>by rcases us with _ | ⟨_,_ | ⟨_,_ | ⟨_,us⟩⟩⟩ <;> first | rfl | (simp at hl) | cases hl
 have F8:=bG (st:=fS) l8 c8 k8;have b8:=F8.binds (ps:=["table","group"]) fun _ _ _ _ _ _ us hl=>by rcases us with _ | ⟨_,_ | ⟨_,_ | ⟨_,us⟩⟩⟩ <;> first | rfl | (simp at hl) | cases hl
 have F9:=bG (st:=ii) l9 c9 k9;have b9:=F9.binds (ps:=["_law_script","_law_k"]) fun _ _ _ _ _ _ us hl=>by rcases us with _ | ⟨_,_ | ⟨_,_ | ⟨_,us⟩⟩⟩ <;> first | rfl | (simp at hl) | cases hl
 have F10:=bG (st:=jl) l10 c10 k10;have b10:=F10.binds (ps:=["_law_cell","_law_many","_law_base"]) fun _ _ _ _ _ _ us hl=>by rcases us with _ | ⟨_,_ | ⟨_,_ | ⟨_,_ | ⟨_,us⟩⟩⟩⟩ <;> first | rfl | (simp at hl) | cases hl
 have F11:=bG (st:=ku) l11 c11 k11;have b11:=F11.binds (ps:=["_law_mask_here"]) fun _ _ _ _ _ _ us hl=>by rcases us with _ | ⟨_,_ | ⟨_,us⟩⟩ <;> first | rfl | (simp at hl) | cases hl
 have F12:=bG (st:=kl) l12 c12 k12;have b12:=F12.binds (ps:=["_law_view"]) fun _ _ _ _ _ _ us hl=>by rcases us with _ | ⟨_,_ | ⟨_,us⟩⟩ <;> first | rfl | (simp at hl) | cases hl
 have F13:=bG (st:=kj) l13 c13 k13;have b13:=F13.binds (ps:=["_law_masks_here"]) fun _ _ _ _ _ _ us hl=>by rcases us with _ | ⟨_,_ | ⟨_,us⟩⟩ <;> first | rfl | (simp at hl) | cases hl
 have F14:=bG (st:=ko) l14 c14 k14;have b14:=F14.binds (ps:=["_law_heap_here"]) fun _ _ _ _ _ _ us hl=>by rcases us with _ | ⟨_,_ | ⟨_,us⟩⟩ <;> first | rfl | (simp at hl) | cases hl
 have F15:=bG (st:=ji) l15 c15 k15;have b15:=F15.binds (ps:=["_law_openers_here","_law_g"]) fun _ _ _ _ _ _ us hl=>by rcases us with _ | ⟨_,_ | ⟨_,_ | ⟨_,us⟩⟩⟩ <;> first | rfl | (simp at hl) | cases hl
 have F16:=bG (st:=jk) l16 c16 k16;have b16:=F16.binds (ps:=["_law_n","_law_groups"]) fun _ _ _ _ _ _ us hl=>by rcases us with _ | ⟨_,_ | ⟨_,_ | ⟨_,us⟩⟩⟩ <;> first | rfl | (simp at hl) | cases hl
 have F17:=bG (st:=kt) l17 c17 k17;have b17:=F17.binds (ps:=["_law_one","_law_other"]) fun _ _ _ _ _ _ us hl=>by rcases us with _ | ⟨_,_ | ⟨_,_ | ⟨_,us⟩⟩⟩ <;> first | rfl | (simp at hl) | cases hl
 have F18:=bG (st:=h9) l18 c18 k18;have b18:=F18.binds (ps:=["heap","g"]) fun _ _ _ _ _ _ us hl=>by rcases us with _ | ⟨_,_ | ⟨_,_ | ⟨_,us⟩⟩⟩ <;> first | rfl | (simp at hl) | cases hl
 have F19:=bG (st:=ie) l19 c19 k19;have b19:=F19.binds (ps:=["views"]) fun _ _ _ _ _ _ us hl=>by rcases us with _ | ⟨_,_ | ⟨_,us⟩⟩ <;> first | rfl | (simp at hl) | cases hl
 have F20:=bG (st:=jn) l20 c20 k20;have b20:=F20.binds (ps:=["one","other"]) fun _ _ _ _ _ _ us hl=>by rcases us with _ | ⟨_,_ | ⟨_,_ | ⟨_,us⟩⟩⟩ <;> first | rfl | (simp at hl) | cases hl
 have F21:=bG (st:=fT) l21 c21 k21;have b21:=F21.binds (ps:=["n"]) fun _ _ _ _ _ _ us hl=>by rcases us with _ | ⟨_,_ | ⟨_,us⟩⟩ <;> first | rfl | (simp at hl) | cases hl
 have F22:=bG (st:=ig) l22 c22 k22;have b22:=F22.binds (ps:=["groups"]) fun _ _ _ _ _ _ us hl=>by rcases us with _ | ⟨_,_ | ⟨_,us⟩⟩ <;> first | rfl | (simp at hl) | cases hl
 have F23:=bG (st:=km) l23 c23 k23;have b23:=F23.binds (ps:=["_law_cell","_law_n","_law_most"]) fun _ _ _ _ _ _ us hl=>by rcases us with _ | ⟨_,_ | ⟨_,_ | ⟨_,_ | ⟨_,us⟩⟩⟩⟩ <;> first | rfl | (simp at hl) | cases hl
 have F24:=bG (st:=jj) l24 c24 k24;have b24:=F24.binds (ps:=["_law_heap_here","_law_g"]) fun _ _ _ _ _ _ us hl=>by rcases us with _ | ⟨_,_ | ⟨_,_ | ⟨_,us⟩⟩⟩ <;> first | rfl | (simp at hl) | cases hl
 have F25:=bG (st:=ib) l25 c25 k25;have b25:=F25.binds (ps:=["_law_cell","_law_n"]) fun _ _ _ _ _ _ us hl=>by rcases us with _ | ⟨_,_ | ⟨_,_ | ⟨_,us⟩⟩⟩ <;> first | rfl | (simp at hl) | cases hl
 have F26:=bG (st:=iH) l26 c26 k26;have b26:=F26.binds (ps:=["views"]) fun _ _ _ _ _ _ us hl=>by rcases us with _ | ⟨_,_ | ⟨_,us⟩⟩ <;> first | rfl | (simp at hl) | cases hl
 have F27:=bG (st:=eO) l27 c27 k27;have b27:=F27.binds (ps:=["n","openers"]) fun _ _ _ _ _ _ us hl=>by rcases us with _ | ⟨_,_ | ⟨_,_ | ⟨_,us⟩⟩⟩ <;> first | rfl | (simp at hl) | cases hl
 have F28:=bG (st:=fV) l28 c28 k28;have b28:=F28.binds (ps:=["one","other"]) fun _ _ _ _ _ _ us hl=>by rcases us with _ | ⟨_,_ | ⟨_,_ | ⟨_,us⟩⟩⟩ <;> first | rfl | (simp at hl) | cases hl
 have F29:=bG (st:=ic) l29 c29 k29;have b29:=F29.binds (ps:=["_law_n","_law_heap_here"]) fun _ _ _ _ _ _ us hl=>by rcases us with _ | ⟨_,_ | ⟨_,_ | ⟨_,us⟩⟩⟩ <;> first | rfl | (simp at hl) | cases hl
 have F30:=bG (st:=jm) l30 c30 k30;have b30:=F30.binds (ps:=["_law_cell","_law_n"]) fun _ _ _ _ _ _ us hl=>by rcases us with _ | ⟨_,_ | ⟨_,_ | ⟨_,us⟩⟩⟩ <;> first | rfl | (simp at hl) | cases hl
 have F31:=bG (st:=fU) l31 c31 k31;have b31:=F31.binds (ps:=["heap"]) fun _ _ _ _ _ _ us hl=>by rcases us with _ | ⟨_,_ | ⟨_,us⟩⟩ <;> first | rfl | (simp at hl) | cases hl
 have F32:=bG (st:=iG) l32 c32 k32;have b32:=F32.binds (ps:=["n","openers"]) fun _ _ _ _ _ _ us hl=>by rcases us with _ | ⟨_,_ | ⟨_,_ | ⟨_,us⟩⟩⟩ <;> first | rfl | (simp at hl) | cases hl
 have F33:=bG (st:=gz) l33 c33 k33;have b33:=F33.binds (ps:=["heap"]) fun _ _ _ _ _ _ us hl=>by rcases us with _ | ⟨_,_ | ⟨_,us⟩⟩ <;> first | rfl | (simp at hl) | cases hl
 have F34:=bG (st:=jh) l34 c34 k34;have b34:=F34.binds (ps:=["_law_n","_law_one","_law_other"]) fun _ _ _ _ _ _ us hl=>by rcases us with _ | ⟨_,_ | ⟨_,_ | ⟨_,_ | ⟨_,us⟩⟩⟩⟩ <;> first | rfl | (simp at hl) | cases hl
 have F35:=bG (st:=oz) l35 c35 k35
 let t : Dz K mg:=⟨f0,bH "all_names" gA kV0 dc0 pm0 an0 cd0 ct0,f1,bH "names_in" ia kV1 dc1 pm1 an1 cd1 ct1,f2,bH "mask_of" iI kV2 dc2 pm2 an2 cd2 ct2,f3,bH "less_lines" fR kV3 dc3 pm3 an3 cd3 ct3,f4,bH "with_line" gy kV4 dc4 pm4 an4 cd4 ct4,f5,bH "moved_views" fG kV5 dc5 pm5 an5 cd5 ct5,f6,bH "opens" ki kV6 dc6 pm6 an6 cd6 ct6,f7,bH "has_less" ij kV7 dc7 pm7 an7 cd7 ct7,f8,bH "knows_lock" fS kV8 dc8 pm8 an8 cd8 ct8,f9,bH "_law_cell_at" ii kV9 dc9 pm9 an9 cd9 ct9,f10,bH "_law_draws" jl kV10 dc10 pm10 an10 cd10 ct10,f11,bH "_law_bits" ku kV11 dc11 pm11 an11 cd11 ct11,f12,bH "_law_mask" kl kV12 dc12 pm12 an12 cd12 ct12,f13,bH "_law_rank" kj kV13 dc13 pm13 an13 cd13 ct13,f14,bH "_law_copy" ko kV14 dc14 pm14 an14 cd14 ct14,f15,bH "_law_opens" ji kV15 dc15 pm15 an15 cd15 ct15,f16,bH "_law_least" jk kV16 dc16 pm16 an16 cd16 ct16,f17,bH "_law_both" kt kV17 dc17 pm17 an17 cd17 ct17,f18,bH "views_of" h9 kV18 dc18 pm18 an18 cd18 ct18,f19,bH "lines_of" ie kV19 dc19 pm19 an19 cd19 ct19,f20,bH "beside" jn kV20 dc20 pm20 an20 cd20 ct20,f21,bH "key_groups" fT kV21 dc21 pm21 an21 cd21 ct21,f22,bH "least_of" ig kV22 dc22 pm22 an22 cd22 ct22,f23,bH "_law_heap" km kV23 dc23 pm23 an23 cd23 ct23,f24,bH "_law_masks" jj kV24 dc24 pm24 an24 cd24 ct24,f25,bH "_law_openers" ib kV25 dc25 pm25 an25 cd25 ct25,f26,bH "rank_of" iH kV26 dc26 pm26 an26 cd26 ct26,f27,bH "least_openers" eO kV27 dc27 pm27 an27 cd27 ct27,f28,bH "both_safes" fV kV28 dc28 pm28 an28 cd28 ct28,f29,bH "_law_knowing" ic kV29 dc29 pm29 an29 cd29 ct29,f30,bH "_law_drawn" jm kV30 dc30 pm30 an30 cd30 ct30,f31,bH "coin_table" fU kV31 dc31 pm31 an31 cd31 ct31,f32,bH "safe_of" iG kV32 dc32 pm32 an32 cd32 ct32,f33,bH "opened_by" gz kV33 dc33 pm33 an33 cd33 ct33,f34,bH "_law_right" jh kV34 dc34 pm34 an34 cd34 ct34⟩
 have T : Tx t:=⟨F0,mg_of X G a0,b0,F1,mg_of X G a1,b1,F2,mg_of X G a2,b2,F3,mg_of X G a3,b3,F4,mg_of X G a4,b4,F5,mg_of X G a5,b5,F6,mg_of X G a6,b6,F7,mg_of X G a7,b7,F8,mg_of X G a8,b8,F9,mg_of X G a9,b9,F10,mg_of X G a10,b10,F11,mg_of X G a11,b11,F12,mg_of X G a12,b12,F13,mg_of X G a13,b13,F14,mg_of X G a14,b14,F15,mg_of X G a15,b15,F16,mg_of X G a16,b16,F17,mg_of X G a17,b17,F18,mg_of X G a18,b18,F19,mg_of X G a19,b19,F20,mg_of X G a20,b20,F21,mg_of X G a21,b21,F22,mg_of X G a22,b22,F23,mg_of X G a23,b23,F24,mg_of X G a24,b24,F25,mg_of X G a25,b25,F26,mg_of X G a26,b26,F27,mg_of X G a27,b27,F28,mg_of X G a28,b28,F29,mg_of X G a29,b29,F30,mg_of X G a30,b30,F31,mg_of X G a31,b31,F32,mg_of X G a32,b32,F33,mg_of X G a33,b33,F34,mg_of X G a34,b34,mg_none_of X G z_abs,mg_none_of X G z_any,mg_none_of X G z_enumerate,mg_none_of X G z_isinstance,mg_none_of X G z_len,mg_none_of X G z_list,mg_none_of X G z_max,mg_none_of X G z_min,mg_none_of X G z_range,mg_none_of X G z_sum,mg_none_of X G z_tuple,mg_none_of X G z_zip,⟨_,mg_of X G v_LOCK⟩⟩;exact ⟨bH "law" oz kV35 dc35 pm35 an35 cd35 ct35,fun s v=>.of_eq rfl,fun base _ _=>CU T F35⟩
theorem Fc {l : PySem.W.OpenLaw} {q : Program} {loose : List Str} {XP : (Str -> Option Value) -> Heap -> Prop} {YP : World -> Heap -> Prop} {d : DefRec} {K : Params -> PySem.W.Frag} (hn : l.most = some 63) (hdf : d.params.defaults = [])
  (hY : ∀ (w : World) (h : Heap),YP w h -> (K w.params).In h) (hg : ∀ ns : List Int,ns.length <= 63 -> ∃ d,jZ [.lst false (ns.map D.int)] = some (.bl true,[d]))
  (F : ∀ (w : World) (mg : Str -> Option Value) (fa : Addr) (h : Heap),(K w.params).In h -> h.Ns mainGlobals mg -> mg d.name = some (.ref fa) ->
   ∃ fd : FuncData,(∀ (s : Shared) (u : Value),BindsTo s fd ⟨[u],[]⟩ [("_law_script",u)]) /\ ∀ base : Heap,(K w.params).In base -> base.Ns mainGlobals mg -> bR l.prog w (K w.params) mg base cP 7 fa fd ["_law_script"] (cT (K w.params) 1 jZ)) :
  PySem.W.WalkO q loose XP YP l.row.toRowW d [] (fun f vs=>PySem.call f vs) :=
 L2.walk_of (n:=63) (k:=7) (x:="_law_script") (CX:=fun _=>cP) (sp:=fun w=>cT (K w.params) 1 jZ) hn dC hdf ⟨rfl,by decide,by decide,rfl⟩ hY F (fun _ _ a ns hl _ hS=>C5 (hg ns hl) hS) fun _ _ _ _ _ z=>z
end LW
namespace LW
open PySem L2 DD TT
structure dZ where
 yscript : List Int
 yk : Int
noncomputable def lL : {f : ((List Int) × Int × Unit) -> Option (Int × ((List Int) × Int × Unit)) // JF ir f (Pc (rM rI) (Pc rI Pn)) rI (Pc (rM rI) (Pc rI Pn))}:=⟨_,by
 exact bQ (S:=dZ) (N:=2) (W:=[]) (c:=pI) (Γn:=[]) (ro:=rI) (Γp:=[some ⟨dZ.yscript,(rM rI)⟩,some ⟨dZ.yk,rI⟩]) (Γr:=[some ⟨dZ.yscript,(rM rI)⟩,some ⟨dZ.yk,rI⟩]) (init:=(fun p=>(⟨p.1,p.2.1⟩ : dZ))) (aw (get:=dZ.yscript) dC (fun _=>rfl) fun _=>(aw (get:=dZ.yk) dC (fun _=>rfl) fun _=>bg))
  (ap (di (Γ':=[some ⟨dZ.yscript,(rM rI)⟩,some ⟨dZ.yk,rI⟩]) (cg (cM m7 (aj (af 1 rfl)) (aj (gH fH (af 0 rfl))))) (bm (aj (al ee (af 0 rfl) (af 1 rfl)))) cj)
  (bm (aj (aE 0)))) (ao dC rfl (ao dC rfl aW))⟩
noncomputable def lg:=lL.1
theorem o6 : JF ir lg (Pc (rM rI) (Pc rI Pn)) rI (Pc (rM rI) (Pc rI Pn)):=lL.2
structure bF where
 ycell : Int
 ymany : Int
 ybase : Int
 yfound : List Int
 yleft : Int
 yk : Int
 ynumber : Int
noncomputable def om : {f : (Int × Int × Int × Unit) -> Option ((List Int) × (Int × Int × Int × Unit)) // JF jD f (Pc rI (Pc rI (Pc rI Pn))) (rL rI) (Pc rI (Pc rI (Pc rI Pn)))}:=⟨_,by
 exact bQ (S:=bF) (N:=7) (W:=[3,4,5,4,6,6]) (c:=t6) (Γn:=[]) (ro:=(rL rI)) (Γp:=[some ⟨bF.ycell,rI⟩,some ⟨bF.ymany,rI⟩,some ⟨bF.ybase,rI⟩]) (Γr:=[some ⟨bF.ycell,rI⟩,some ⟨bF.ymany,rI⟩,some ⟨bF.ybase,rI⟩,none,none,none,none]) (init:=(fun p=>(⟨p.1,p.2.1,p.2.2.1,[],0,0,0⟩ : bF))) (aw (get:=bF.ycell) dC (fun _=>rfl) fun _=>(aw (get:=bF.ymany) dC (fun _=>rfl) fun _=>(aw (get:=bF.ybase) dC (fun _=>rfl) fun _=>bg)))
  (ap (aN 3 (get:=bF.yfound) (put:=fun s v=>{s with yfound:=v}) (cv (cu (r:=rI))))
  (ap (aN 4 (get:=bF.yleft) (put:=fun s v=>{s with yleft:=v}) (aj (af 0 rfl)))
  (ap (dc (jT (aj (af 1 rfl))) Le.refl (cF 5 (get:=bF.yk) (put:=fun s v=>{s with yk:=v})) (di (Γ':=[some ⟨bF.ycell,rI⟩,some ⟨bF.ymany,rI⟩,some ⟨bF.ybase,rI⟩,some ⟨bF.yfound,(rL rI)⟩,some ⟨bF.yleft,rI⟩,some ⟨bF.yk,rI⟩,none]) (oR (cg (cM m7 (aj (gH Di (af 0 rfl))) (aj (al cr (aE 10) (aE 18))))) (oR (cg (cM eV (aj (af 4 rfl)) (aj (aE 0)))) (cg (cM eV (aj (af 4 rfl)) (aj (xR (aE 1))))))) (ap (de (kD 3 (get:=bF.yfound) (put:=fun s v=>{s with yfound:=v}) (al cr (af 4 rfl) (af 2 rfl)) rfl))
  (aN 4 (get:=bF.yleft) (put:=fun s v=>{s with yleft:=v}) (aj (al cr (af 4 rfl) (af 2 rfl))))) (ap (aN 6 (get:=bF.ynumber) (put:=fun s v=>{s with ynumber:=v}) (aj (al cr (al bI (al jw (al bI (af 0 rfl) (aE 1009)) (aE 69621)) (al jw (aE 7919) (af 5 rfl))) (aE 2147483629))))
  (ap (aN 6 (get:=bF.ynumber) (put:=fun s v=>{s with ynumber:=v}) (aj (al cr (al bI (al bI (al jw (af 6 rfl) (af 6 rfl)) (al jw (aE 17) (af 5 rfl))) (aE 5)) (aE 2147483629))))
  (de (kD 3 (get:=bF.yfound) (put:=fun s v=>{s with yfound:=v}) (al cr (al cr (al cr (al jw (af 6 rfl) (af 6 rfl)) (aE 2147483587)) (aE 64)) (af 2 rfl)) rfl))))))
  (bm (eF 3 rfl))))) (ao dC rfl (ao dC rfl (ao dC rfl aW)))⟩
noncomputable def nP:=om.1
theorem tG : JF jD nP (Pc rI (Pc rI (Pc rI Pn))) (rL rI) (Pc rI (Pc rI (Pc rI Pn))):=om.2
structure ba where
 ycell : Int
 yn : Int
 ydigits : List Int
 yopeners_here : List Int
 ydigit : Int
 yg : Int
noncomputable def lI : {f : (Int × Int × Unit) -> Option ((List Int) × (Int × Int × Unit)) // JF im f (Pc rI (Pc rI Pn)) (rL rI) (Pc rI (Pc rI Pn))}:=⟨_,by
 exact bQ (S:=ba) (N:=6) (W:=[2,3,4,5]) (c:=pE) (Γn:=[]) (ro:=(rL rI)) (Γp:=[some ⟨ba.ycell,rI⟩,some ⟨ba.yn,rI⟩]) (Γr:=[some ⟨ba.ycell,rI⟩,some ⟨ba.yn,rI⟩,none,none,none,none]) (init:=(fun p=>(⟨p.1,p.2.1,[],[],0,0⟩ : ba))) (aw (get:=ba.ycell) dC (fun _=>rfl) fun _=>(aw (get:=ba.yn) dC (fun _=>rfl) fun _=>bg))
  (ap (aN 2 (get:=ba.ydigits) (put:=fun s v=>{s with ydigits:=v}) (ay tG (aD 0 rfl (bx (aj (aE 12)) (bx (aj (aE 64)) aC))) (bD 0 rfl (br (br aB))) (bC 0 (bq (bq aA)))))
  (ap (aN 3 (get:=ba.yopeners_here) (put:=fun s v=>{s with yopeners_here:=v}) (cv (cu (r:=rI))))
  (ap (dc (cz (De (af 2 rfl) (lu (aE 2)) (lu (al bI (aE 2) (al cr (al ee (af 2 rfl) (aE 0)) (aE 11)))))) Le.refl (cF 4 (get:=ba.ydigit) (put:=fun s v=>{s with ydigit:=v})) (ap (aN 5 (get:=ba.yg) (put:=fun s v=>{s with yg:=v}) (aj (al jw (aE 2) (al cr (af 4 rfl) (al cr (aE 1) (al bI (af 1 rfl) (aE 1)))))))
  (di (Γ':=[some ⟨ba.ycell,rI⟩,some ⟨ba.yn,rI⟩,some ⟨ba.ydigits,(rL rI)⟩,some ⟨ba.yopeners_here,(rL rI)⟩,some ⟨ba.ydigit,rI⟩,some ⟨ba.yg,rI⟩]) (se (cg (cM m7 (aj (af 5 rfl)) (aj (aE 0)))) (cg (cM gJ (aj (al cr (al ee (af 2 rfl) (aE 1)) (aE 8))) (aj (aE 3))))) (de (kD 3 (get:=ba.yopeners_here) (put:=fun s v=>{s with yopeners_here:=v}) (af 5 rfl) rfl)) cj)))
  (bm (eF 3 rfl))))) (ao dC rfl (ao dC rfl aW))⟩
noncomputable def kW:=lI.1
theorem oW : JF im kW (Pc rI (Pc rI Pn)) (rL rI) (Pc rI (Pc rI Pn)):=lI.2
structure gG where
 xn : Int
noncomputable def kh : {f : (Int × Unit) -> Option (Int × (Int × Unit)) // JF gD f (Pc rI Pn) rI (Pc rI Pn)}:=⟨_,by
 exact bQ (S:=gG) (N:=1) (W:=[]) (c:=nG) (Γn:=[]) (ro:=rI) (Γp:=[some ⟨gG.xn,rI⟩]) (Γr:=[some ⟨gG.xn,rI⟩]) (init:=(fun p=>(⟨p.1⟩ : gG))) (aw (get:=gG.xn) dC (fun _=>rfl) fun _=>bg)
  (bm (aj (al bI (al cr (aE 1) (af 0 rfl)) (aE 1)))) (ao dC rfl aW)⟩
noncomputable def j7:=kh.1
theorem nz : JF gD j7 (Pc rI Pn) rI (Pc rI Pn):=kh.2
structure gj where
 xn : Int
noncomputable def mM : {f : (Int × Unit) -> Option ((List Int) × (Int × Unit)) // JF gf f (Pc rI Pn) (rL rI) (Pc rI Pn)}:=⟨_,by
 exact bQ (S:=gj) (N:=1) (W:=[]) (c:=mF) (Γn:=[]) (ro:=(rL rI)) (Γp:=[some ⟨gj.xn,rI⟩]) (Γr:=[some ⟨gj.xn,rI⟩]) (init:=(fun p=>(⟨p.1⟩ : gj))) (aw (get:=gj.xn) dC (fun _=>rfl) fun _=>bg)
  (bm (zr (ay nz (aD 0 rfl aC) (bD 0 rfl aB) (bC 0 aA)))) (ao dC rfl aW)⟩
noncomputable def fP:=mM.1
theorem mw : JF gf fP (Pc rI Pn) (rL rI) (Pc rI Pn):=mM.2
structure hX where
 xopeners : List Int
 xgroup : Int
noncomputable def qA : {f : ((List Int) × Int × Unit) -> Option (Bool × ((List Int) × Int × Unit)) // JF nc f (Pc (rM rI) (Pc rI Pn)) rB (Pc (rM rI) (Pc rI Pn))}:=⟨_,by
 exact bQ (S:=hX) (N:=2) (W:=[]) (c:=vx) (Γn:=[]) (ro:=rB) (Γp:=[some ⟨hX.xopeners,(rM rI)⟩,some ⟨hX.xgroup,rI⟩]) (Γr:=[some ⟨hX.xopeners,(rM rI)⟩,some ⟨hX.xgroup,rI⟩]) (init:=(fun p=>(⟨p.1,p.2.1⟩ : hX))) (aw (get:=hX.xopeners) dC (fun _=>rfl) fun _=>(aw (get:=hX.xgroup) dC (fun _=>rfl) fun _=>bg))
  (bm (oU xZ (dD (cz (bU 0 rfl)) Le.refl (eI 2 rfl) (fun x2=>dQ) (fun x2=>(aj (al gJ (al bI (af 2 rfl) (xS (af 1 rfl))) (aE 0))))))) (ao dC rfl (ao dC rfl aW))⟩
noncomputable def pW:=qA.1
theorem BB : JF nc pW (Pc (rM rI) (Pc rI Pn)) rB (Pc (rM rI) (Pc rI Pn)):=qA.2
structure d6 where
 xgroups : List Int
 xgroup : Int
noncomputable def pP : {f : ((List Int) × Int × Unit) -> Option (Bool × ((List Int) × Int × Unit)) // JF ja f (Pc (rM rI) (Pc rI Pn)) rB (Pc (rM rI) (Pc rI Pn))}:=⟨_,by
 exact bQ (S:=d6) (N:=2) (W:=[]) (c:=pJ) (Γn:=[]) (ro:=rB) (Γp:=[some ⟨d6.xgroups,(rM rI)⟩,some ⟨d6.xgroup,rI⟩]) (Γr:=[some ⟨d6.xgroups,(rM rI)⟩,some ⟨d6.xgroup,rI⟩]) (init:=(fun p=>(⟨p.1,p.2.1⟩ : d6))) (aw (get:=d6.xgroups) dC (fun _=>rfl) fun _=>(aw (get:=d6.xgroup) dC (fun _=>rfl) fun _=>bg))
  (bm (oU xZ (dD (cz (bU 0 rfl)) Le.refl (eI 2 rfl) (fun x4=>dQ) (fun x4=>(Df (Γ':=[some ⟨d6.xgroups,(rM rI)⟩,some ⟨d6.xgroup,rI⟩,some ⟨(fun _=>x4),rI⟩]) (aj (al eV (af 2 rfl) (af 1 rfl))) (aj (al gJ (al bI (af 2 rfl) (xS (af 1 rfl))) (aE 0)))))))) (ao dC rfl (ao dC rfl aW))⟩
noncomputable def vV:=pP.1
theorem wx : JF ja vV (Pc (rM rI) (Pc rI Pn)) rB (Pc (rM rI) (Pc rI Pn)):=pP.2
structure gv where
 xgroups : List Int
noncomputable def pO : {f : ((List Int) × Unit) -> Option ((List Int) × ((List Int) × Unit)) // JF iq f (Pc (rM rI) Pn) (rL rI) (Pc (rM rI) Pn)}:=⟨_,by
 exact bQ (S:=gv) (N:=1) (W:=[]) (c:=pH) (Γn:=[]) (ro:=(rL rI)) (Γp:=[some ⟨gv.xgroups,(rM rI)⟩]) (Γr:=[some ⟨gv.xgroups,(rM rI)⟩]) (init:=(fun p=>(⟨p.1⟩ : gv))) (aw (get:=gv.xgroups) dC (fun _=>rfl) fun _=>bg)
  (bm (dD (cz (bU 0 rfl)) Le.refl (eI 1 rfl) (fun x3=>(oQ (cg (ay wx (aD 0 rfl (aD 1 rfl aC)) (bE 0 rfl (bD 1 rfl aB)) (bM 0 (get:=gv.xgroups) (put:=fun s v=>{s with xgroups:=v}) (h:=bC 1 aA)))))) (fun x3=>(aj (af 1 rfl))))) (ao dC rfl aW)⟩
noncomputable def i3:=pO.1
theorem o5 : JF iq i3 (Pc (rM rI) Pn) (rL rI) (Pc (rM rI) Pn):=pO.2
structure cC where
 xn : Int
 xopeners : List Int
noncomputable def iw : {f : (Int × (List Int) × Unit) -> Option ((List Int) × (Int × (List Int) × Unit)) // JF fM f (Pc rI (Pc (rM rI) Pn)) (rL rI) (Pc rI (Pc (rM rI) Pn))}:=⟨_,by
 exact bQ (S:=cC) (N:=2) (W:=[]) (c:=j2) (Γn:=[]) (ro:=(rL rI)) (Γp:=[some ⟨cC.xn,rI⟩,some ⟨cC.xopeners,(rM rI)⟩]) (Γr:=[some ⟨cC.xn,rI⟩,some ⟨cC.xopeners,(rM rI)⟩]) (init:=(fun p=>(⟨p.1,p.2.1⟩ : cC))) (aw (get:=cC.xn) dC (fun _=>rfl) fun _=>(aw (get:=cC.xopeners) dC (fun _=>rfl) fun _=>bg))
  (bm (ay o5 (bx (dD (cz (ay mw (aD 0 rfl aC) (bD 0 rfl aB) (bC 0 aA))) Le.refl (eI 2 rfl) (fun x1=>(cg (ay BB (aD 1 rfl (aD 2 rfl aC)) (bE 1 rfl (bD 2 rfl aB)) (bM 1 (get:=cC.xopeners) (put:=fun s v=>{s with xopeners:=v}) (h:=bC 2 aA))))) (fun x1=>(aj (af 2 rfl)))) aC) (br aB) (bq aA))) (ao dC rfl (ao dC rfl aW))⟩
noncomputable def du:=iw.1
theorem oZ : JF fM du (Pc rI (Pc (rM rI) Pn)) (rL rI) (Pc rI (Pc (rM rI) Pn)):=iw.2
structure eR where
 xn : Int
 xgroup : Int
noncomputable def lH : {f : (Int × Int × Unit) -> Option ((List Int) × (Int × Int × Unit)) // JF il f (Pc rI (Pc rI Pn)) (rL rI) (Pc rI (Pc rI Pn))}:=⟨_,by
 exact bQ (S:=eR) (N:=2) (W:=[]) (c:=pD) (Γn:=[]) (ro:=(rL rI)) (Γp:=[some ⟨eR.xn,rI⟩,some ⟨eR.xgroup,rI⟩]) (Γr:=[some ⟨eR.xn,rI⟩,some ⟨eR.xgroup,rI⟩]) (init:=(fun p=>(⟨p.1,p.2.1⟩ : eR))) (aw (get:=eR.xn) dC (fun _=>rfl) fun _=>(aw (get:=eR.xgroup) dC (fun _=>rfl) fun _=>bg))
  (bm (dD (jT (aj (af 0 rfl))) Le.refl (eI 2 rfl) (fun x6=>(cg (cM eV (aj (al bI (af 1 rfl) (al cr (aE 1) (af 2 rfl)))) (aj (aE 0))))) (fun x6=>(aj (af 2 rfl))))) (ao dC rfl (ao dC rfl aW))⟩
noncomputable def kU:=lH.1
theorem oV : JF il kU (Pc rI (Pc rI Pn)) (rL rI) (Pc rI (Pc rI Pn)):=lH.2
structure bA where
 xn : Int
 xopeners : List Int
 xleast : List Int
 xkeys_without : List (List (List Int))
 xmany : Int
 xviews : List (List (List Int))
 xopener : Int
 xkeys : List Int
 xfresh : List Int
 xkey : Int
 xcoin : Int
noncomputable def iO : {f : (Int × (List Int) × Unit) -> Option ((Int × (List (List (List Int)))) × (Int × (List Int) × Unit)) // JF gc f (Pc rI (Pc (rM rI) Pn)) (am rI (rL (rL (rL rI)))) (Pc rI (Pc (rM rI) Pn))}:=⟨_,by
 exact bQ (S:=bA) (N:=11) (W:=[2,3,4,5,6,7,8,9,10,4]) (c:=qX) (Γn:=[]) (ro:=(am rI (rL (rL (rL rI))))) (Γp:=[some ⟨bA.xn,rI⟩,some ⟨bA.xopeners,(rM rI)⟩]) (Γr:=[some ⟨bA.xn,rI⟩,some ⟨bA.xopeners,(rM rI)⟩,none,none,none,none,none,none,none,none,none]) (init:=(fun p=>(⟨p.1,p.2.1,[],[],0,[],0,[],[],0,0⟩ : bA))) (aw (get:=bA.xn) dC (fun _=>rfl) fun _=>(aw (get:=bA.xopeners) dC (fun _=>rfl) fun _=>bg))
  (ap (aN 2 (get:=bA.xleast) (put:=fun s v=>{s with xleast:=v}) (ay oZ (aD 0 rfl (aD 1 rfl aC)) (bD 0 rfl (bE 1 rfl aB)) (bC 0 (bM 1 (get:=bA.xopeners) (put:=fun s v=>{s with xopeners:=v}) (h:=aA)))))
  (ap (aN 3 (get:=bA.xkeys_without) (put:=fun s v=>{s with xkeys_without:=v}) (dD (Aa (aj (aE 1)) (aj (af 0 rfl))) Le.refl (eI 11 rfl) (fun x5=>dQ) (fun x5=>(cv (cu (r:=(rL rI)))))))
  (ap (di (Γ':=[some ⟨bA.xn,rI⟩,some ⟨bA.xopeners,(rM rI)⟩,some ⟨bA.xleast,(rL rI)⟩,some ⟨bA.xkeys_without,(rL (rL (rL rI)))⟩,none,none,none,none,none,none,none]) (cg (aj (al gJ (af 2 rfl) (tq (jv (aE 0) qp))))) (bm (i7 (aj (aE 0)) (jy (cv (r:=(rL (rL rI))) (eK (cv (r:=(rL rI)) (eK (cv (cu (r:=rI))) cu)) cu)) (eF 3 rfl)))) cj)
  (ap (aN 4 (get:=bA.xmany) (put:=fun s v=>{s with xmany:=v}) (aj (aE 1)))
  (ap (aN 5 (get:=bA.xviews) (put:=fun s v=>{s with xviews:=v}) (jy (cv (r:=(rL (rL rI))) (eK (cv (r:=(rL rI)) (eK (cv (r:=rI) (eK (aj (aE 0)) cu)) cu)) cu)) (eF 3 rfl)))
  (ap (dc (cz (bU 2 rfl)) Le.refl (cF 6 (get:=bA.xopener) (put:=fun s v=>{s with xopener:=v})) (ap (aN 7 (get:=bA.xkeys) (put:=fun s v=>{s with xkeys:=v}) (ay oV (aD 0 rfl (aD 6 rfl aC)) (bD 0 rfl (bD 6 rfl aB)) (bC 0 (bC 6 aA))))
  (ap (aN 8 (get:=bA.xfresh) (put:=fun s v=>{s with xfresh:=v}) (xU (af 4 rfl) (al bI (al bI (af 4 rfl) (gH fH (af 7 rfl))) (aE 1))))
  (ap (dc (xT (bU 7 rfl) (bU 8 rfl)) Le.refl (Ab (cF 9 (get:=bA.xkey) (put:=fun s v=>{s with xkey:=v})) (cF 10 (get:=bA.xcoin) (put:=fun s v=>{s with xcoin:=v}))) (de (zx 5 (get:=bA.xviews) (put:=fun s v=>{s with xviews:=v}) (af 9 rfl) (af 10 rfl) rfl)))
  (ap (de (zu 5 (get:=bA.xviews) (put:=fun s v=>{s with xviews:=v}) (al ee (af 7 rfl) (xR (aE 1))) (u8 (cv (r:=rI) (eK (aj (aE 0)) cu)) (bU 8 rfl)) rfl))
  (By 4 (get:=bA.xmany) (put:=fun s v=>{s with xmany:=v}) bI (aj (gH fH (af 8 rfl))) rfl))))))
  (bm (i7 (aj (af 4 rfl)) (eF 5 rfl))))))))) (ao dC rfl (ao dC rfl aW))⟩
noncomputable def ef:=iO.1
theorem jV : JF gc ef (Pc rI (Pc (rM rI) Pn)) (am rI (rL (rL (rL rI)))) (Pc rI (Pc (rM rI) Pn)):=iO.2
structure kP where
 yheap_here : Int × (List (List (List Int)))
noncomputable def qE : {f : ((Int × (List (List (List Int)))) × Unit) -> Option ((Int × (List (List (List Int)))) × ((Int × (List (List (List Int)))) × Unit)) // JF kE f (Pc (am rI (rL (rL (rL rI)))) Pn) (am rI (rL (rL (rL rI)))) (Pc (am rI (rM (rM (rM rI)))) Pn)}:=⟨_,by
 exact bQ (S:=kP) (N:=1) (W:=[]) (c:=vB) (Γn:=[]) (ro:=(am rI (rL (rL (rL rI))))) (Γp:=[some ⟨kP.yheap_here,(am rI (rL (rL (rL rI))))⟩]) (Γr:=[some ⟨kP.yheap_here,(am rI (rM (rM (rM rI))))⟩]) (init:=(fun p=>(⟨p.1⟩ : kP))) (aw (get:=kP.yheap_here) dC (fun _=>rfl) fun _=>bg)
  (bm (i7 (aj (dB h7 (af 0 rfl))) (dD (cz (jx fw (bU 0 rfl))) Le.refl (eI 1 rfl) (fun x7=>dQ) (fun x7=>(dD (cz (bU 1 rfl)) Le.refl (eI 2 rfl) (fun x8=>dQ) (fun x8=>(tx (af 2 rfl)))))))) (ao dC rfl aW)⟩
noncomputable def pZ:=qE.1
theorem vc : JF kE pZ (Pc (am rI (rL (rL (rL rI)))) Pn) (am rI (rL (rL (rL rI)))) (Pc (am rI (rM (rM (rM rI)))) Pn):=qE.2
structure df where
 yone : Int × (List (List (List Int)))
 yother : Int × (List (List (List Int)))
 yviews : List (List (List Int))
 yname : Int
 yrow : List (List Int)
noncomputable def qF : {f : ((Int × (List (List (List Int)))) × (Int × (List (List (List Int)))) × Unit) -> Option ((Int × (List (List (List Int)))) × ((Int × (List (List (List Int)))) × (Int × (List (List (List Int)))) × Unit)) // JF kF f (Pc (am rI (rM (rM (rM rI)))) (Pc (am rI (rM (rM (rM rI)))) Pn)) (am rI (rL (rL (rL rI)))) (Pc (am rI (rM (rM (rM rI)))) (Pc (am rI (rM (rM (rM rI)))) Pn))}:=⟨_,by
 exact bQ (S:=df) (N:=5) (W:=[2,3,4]) (c:=vC) (Γn:=[]) (ro:=(am rI (rL (rL (rL rI))))) (Γp:=[some ⟨df.yone,(am rI (rM (rM (rM rI))))⟩,some ⟨df.yother,(am rI (rM (rM (rM rI))))⟩]) (Γr:=[some ⟨df.yone,(am rI (rM (rM (rM rI))))⟩,some ⟨df.yother,(am rI (rM (rM (rM rI))))⟩,none,none,none]) (init:=(fun p=>(⟨p.1,p.2.1,[],0,[]⟩ : df))) (aw (get:=df.yone) dC (fun _=>rfl) fun _=>(aw (get:=df.yother) dC (fun _=>rfl) fun _=>bg))
  (ap (aN 2 (get:=df.yviews) (put:=fun s v=>{s with yviews:=v}) (cv (cu (r:=(rL (rL rI))))))
  (ap (dc (jT (aj (gH fH (dB fw (af 0 rfl))))) Le.refl (cF 3 (get:=df.yname) (put:=fun s v=>{s with yname:=v})) (ap (aN 4 (get:=df.yrow) (put:=fun s v=>{s with yrow:=v}) (dD (cz (jU (jx fw (bU 0 rfl)) (aj (af 3 rfl)))) Le.refl (eI 5 rfl) (fun x9=>dQ) (fun x9=>(tx (af 5 rfl)))))
  (de (kC 2 (get:=df.yviews) (put:=fun s v=>{s with yviews:=v}) (jy (eF 4 rfl) (dD (cz (jU (jx fw (bU 1 rfl)) (aj (af 3 rfl)))) Le.refl (eI 5 rfl) (fun x10=>dQ) (fun x10=>(dD (cz (bU 5 rfl)) Le.refl (eI 6 rfl) (fun x11=>dQ) (fun x11=>(aj (al bI (af 6 rfl) (dB h7 (af 0 rfl))))))))) rfl rfl))))
  (ap (Bw 2 (get:=df.yviews) (put:=fun s v=>{s with yviews:=v}) (cv (r:=(rL rI)) (eK (u9 (al ee (al ee (af 2 rfl) (aE 0)) (aE 0)) (al ee (al ee (af 2 rfl) (aE 0)) (aE 1))) cu)) (aE 0) rfl)
  (bm (i7 (aj (al bI (dB h7 (af 0 rfl)) (dB h7 (af 1 rfl)))) (eF 2 rfl)))))) (ao dC rfl (ao dC rfl aW))⟩
noncomputable def p5:=qF.1
theorem vd : JF kF p5 (Pc (am rI (rM (rM (rM rI)))) (Pc (am rI (rM (rM (rM rI)))) Pn)) (am rI (rL (rL (rL rI)))) (Pc (am rI (rM (rM (rM rI)))) (Pc (am rI (rM (rM (rM rI)))) Pn)):=qF.2
structure cW where
 xviews : List (List Int)
 xmany : Int
noncomputable def iV : {f : ((List (List Int)) × Int × Unit) -> Option ((List (List Int)) × ((List (List Int)) × Int × Unit)) // JF fI f (Pc (rM (rM rI)) (Pc rI Pn)) (rL (rL rI)) (Pc (rM (rM rI)) (Pc rI Pn))}:=⟨_,by
 exact bQ (S:=cW) (N:=2) (W:=[]) (c:=lX) (Γn:=[]) (ro:=(rL (rL rI))) (Γp:=[some ⟨cW.xviews,(rM (rM rI))⟩,some ⟨cW.xmany,rI⟩]) (Γr:=[some ⟨cW.xviews,(rM (rM rI))⟩,some ⟨cW.xmany,rI⟩]) (init:=(fun p=>(⟨p.1,p.2.1⟩ : cW))) (aw (get:=cW.xviews) dC (fun _=>rfl) fun _=>(aw (get:=cW.xmany) dC (fun _=>rfl) fun _=>bg))
  (bm (dD (cz (bU 0 rfl)) Le.refl (eI 2 rfl) (fun x13=>dQ) (fun x13=>(dD (cz (bU 2 rfl)) Le.refl (eI 3 rfl) (fun x14=>dQ) (fun x14=>(aj (al bI (af 3 rfl) (af 1 rfl)))))))) (ao dC rfl (ao dC rfl aW))⟩
noncomputable def iR:=iV.1
theorem lS : JF fI iR (Pc (rM (rM rI)) (Pc rI Pn)) (rL (rL rI)) (Pc (rM (rM rI)) (Pc rI Pn)):=iV.2
structure fE where
 xone : Int × (List (List (List Int)))
 xother : Int × (List (List (List Int)))
 xviews : List (List (List Int))
noncomputable def oq : {f : ((Int × (List (List (List Int)))) × (Int × (List (List (List Int)))) × Unit) -> Option ((Int × (List (List (List Int)))) × ((Int × (List (List (List Int)))) × (Int × (List (List (List Int)))) × Unit)) // JF lA f (Pc (am rI (rM (rM (rM rI)))) (Pc (am rI (rM (rM (rM rI)))) Pn)) (am rI (rL (rL (rL rI)))) (Pc (am rI (rM (rM (rM rI)))) (Pc (am rI (rM (rM (rM rI)))) Pn))}:=⟨_,by
 exact bQ (S:=fE) (N:=3) (W:=[2]) (c:=t8) (Γn:=[]) (ro:=(am rI (rL (rL (rL rI))))) (Γp:=[some ⟨fE.xone,(am rI (rM (rM (rM rI))))⟩,some ⟨fE.xother,(am rI (rM (rM (rM rI))))⟩]) (Γr:=[some ⟨fE.xone,(am rI (rM (rM (rM rI))))⟩,some ⟨fE.xother,(am rI (rM (rM (rM rI))))⟩,none]) (init:=(fun p=>(⟨p.1,p.2.1,[]⟩ : fE))) (aw (get:=fE.xone) dC (fun _=>rfl) fun _=>(aw (get:=fE.xother) dC (fun _=>rfl) fun _=>bg))
  (ap (aN 2 (get:=fE.xviews) (put:=fun s v=>{s with xviews:=v}) (dD (xT (jx fw (bU 0 rfl)) (jx fw (bU 1 rfl))) Le.refl (FG 3 4 rfl rfl) (fun x12=>dQ) (fun x12=>(jy (ay lS (aD 3 rfl (bx (aj (aE 0)) aC)) (bE 3 rfl (br aB)) (qq 3 (bq aA))) (ay lS (aD 4 rfl (bx (aj (dB h7 (af 0 rfl))) aC)) (bE 4 rfl (br aB)) (qq 4 (bq aA)))))))
  (bm (i7 (aj (al bI (dB h7 (af 0 rfl)) (dB h7 (af 1 rfl)))) (eF 2 rfl)))) (ao dC rfl (ao dC rfl aW))⟩
noncomputable def nR:=oq.1
theorem zy : JF lA nR (Pc (am rI (rM (rM (rM rI)))) (Pc (am rI (rM (rM (rM rI)))) Pn)) (am rI (rL (rL (rL rI)))) (Pc (am rI (rM (rM (rM rI)))) (Pc (am rI (rM (rM (rM rI)))) Pn)):=oq.2
structure bW where
 xone : Int × (List (List (List Int)))
 xother : Int × (List (List (List Int)))
 xboth : Int × (List (List (List Int)))
 xasked : List (List Int)
noncomputable def jL : {f : ((Int × (List (List (List Int)))) × (Int × (List (List (List Int)))) × Unit) -> Option ((Int × (List (List (List Int)))) × ((Int × (List (List (List Int)))) × (Int × (List (List (List Int)))) × Unit)) // JF fh f (Pc (am rI (rM (rM (rM rI)))) (Pc (am rI (rM (rM (rM rI)))) Pn)) (am rI (rL (rL (rL rI)))) (Pc (am rI (rM (rM (rM rI)))) (Pc (am rI (rM (rM (rM rI)))) Pn))}:=⟨_,by
 exact bQ (S:=bW) (N:=4) (W:=[2,3]) (c:=mH) (Γn:=[]) (ro:=(am rI (rL (rL (rL rI))))) (Γp:=[some ⟨bW.xone,(am rI (rM (rM (rM rI))))⟩,some ⟨bW.xother,(am rI (rM (rM (rM rI))))⟩]) (Γr:=[some ⟨bW.xone,(am rI (rM (rM (rM rI))))⟩,some ⟨bW.xother,(am rI (rM (rM (rM rI))))⟩,none,none]) (init:=(fun p=>(⟨p.1,p.2.1,(0,[]),[]⟩ : bW))) (aw (get:=bW.xone) dC (fun _=>rfl) fun _=>(aw (get:=bW.xother) dC (fun _=>rfl) fun _=>bg))
  (ap (aN 2 (get:=bW.xboth) (put:=fun s v=>{s with xboth:=v}) (ay zy (aD 0 rfl (aD 1 rfl aC)) (bE 0 rfl (bE 1 rfl aB)) (bM 0 (get:=bW.xone) (put:=fun s v=>{s with xone:=v}) (h:=bM 1 (get:=bW.xother) (put:=fun s v=>{s with xother:=v}) (h:=aA)))))
  (ap (aN 3 (get:=bW.xasked) (put:=fun s v=>{s with xasked:=v}) (ED 2 (get:=bW.xboth) rfl))
  (bm (i7 (aj (dB h7 (af 2 rfl))) (jy (cv (r:=(rL (rL rI))) (eK (cv (r:=(rL rI)) (eK (u9 (al ee (af 3 rfl) (aE 0)) (al ee (af 3 rfl) (aE 1))) cu)) cu)) (Dd 2 (get:=bW.xboth) rfl)))))) (ao dC rfl (ao dC rfl aW))⟩
noncomputable def jf:=jL.1
theorem jz : JF fh jf (Pc (am rI (rM (rM (rM rI)))) (Pc (am rI (rM (rM (rM rI)))) Pn)) (am rI (rL (rL (rL rI)))) (Pc (am rI (rM (rM (rM rI)))) (Pc (am rI (rM (rM (rM rI)))) Pn)):=jL.2
structure kO where
 yview : List Int
noncomputable def qC : {f : ((List Int) × Unit) -> Option (Int × ((List Int) × Unit)) // JF ng f (Pc (rM rI) Pn) rI (Pc (rM rI) Pn)}:=⟨_,by
 exact bQ (S:=kO) (N:=1) (W:=[]) (c:=vz) (Γn:=[]) (ro:=rI) (Γp:=[some ⟨kO.yview,(rM rI)⟩]) (Γr:=[some ⟨kO.yview,(rM rI)⟩]) (init:=(fun p=>(⟨p.1⟩ : kO))) (aw (get:=kO.yview) dC (fun _=>rfl) fun _=>bg)
  (bm (oU xX (dD (cz (bU 0 rfl)) Le.refl (eI 1 rfl) (fun x16=>dQ) (fun x16=>(aj (al cr (aE 1) (af 1 rfl))))))) (ao dC rfl aW)⟩
noncomputable def pY:=qC.1
theorem BC : JF ng pY (Pc (rM rI) Pn) rI (Pc (rM rI) Pn):=qC.2
structure cI where
 yheap_here : Int × (List (List (List Int)))
 yg : Int
 yfound : List Int
 yname : Int
noncomputable def oj : {f : ((Int × (List (List (List Int)))) × Int × Unit) -> Option ((List Int) × ((Int × (List (List (List Int)))) × Int × Unit)) // JF gR f (Pc (am rI (rM (rM (rM rI)))) (Pc rI Pn)) (rL rI) (Pc (am rI (rM (rM (rM rI)))) (Pc rI Pn))}:=⟨_,by
 exact bQ (S:=cI) (N:=4) (W:=[2,3,2]) (c:=t4) (Γn:=[]) (ro:=(rL rI)) (Γp:=[some ⟨cI.yheap_here,(am rI (rM (rM (rM rI))))⟩,some ⟨cI.yg,rI⟩]) (Γr:=[some ⟨cI.yheap_here,(am rI (rM (rM (rM rI))))⟩,some ⟨cI.yg,rI⟩,none,none]) (init:=(fun p=>(⟨p.1,p.2.1,[],0⟩ : cI))) (aw (get:=cI.yheap_here) dC (fun _=>rfl) fun _=>(aw (get:=cI.yg) dC (fun _=>rfl) fun _=>bg))
  (ap (aN 2 (get:=cI.yfound) (put:=fun s v=>{s with yfound:=v}) (cv (cu (r:=rI))))
  (ap (dc (jT (aj (gH fH (dB fw (af 0 rfl))))) Le.refl (cF 3 (get:=cI.yname) (put:=fun s v=>{s with yname:=v})) (di (Γ':=[some ⟨cI.yheap_here,(am rI (rM (rM (rM rI))))⟩,some ⟨cI.yg,rI⟩,some ⟨cI.yfound,(rL rI)⟩,some ⟨cI.yname,rI⟩]) (cg (cM gJ (aj (al cr (al cr (af 1 rfl) (al cr (aE 1) (af 3 rfl))) (aE 2))) (aj (aE 1)))) (aN 2 (get:=cI.yfound) (put:=fun s v=>{s with yfound:=v}) (jy (eF 2 rfl) (dD (cz (jU (jx fw (bU 0 rfl)) (aj (af 3 rfl)))) Le.refl (eI 4 rfl) (fun x15=>dQ) (fun x15=>(ay BC (aD 4 rfl aC) (bE 4 rfl aB) (qq 4 aA)))))) cj))
  (bm (eF 2 rfl)))) (ao dC rfl (ao dC rfl aW))⟩
noncomputable def kY:=oj.1
theorem lw : JF gR kY (Pc (am rI (rM (rM (rM rI)))) (Pc rI Pn)) (rL rI) (Pc (am rI (rM (rM (rM rI)))) (Pc rI Pn)):=oj.2
structure ck where
 ymasks_here : List Int
 yrows : List Int
 ymask_here : Int
noncomputable def qB : {f : ((List Int) × Unit) -> Option (Int × ((List Int) × Unit)) // JF iA f (Pc (rM rI) Pn) rI (Pc (rM rI) Pn)}:=⟨_,by
 exact bQ (S:=ck) (N:=4) (W:=[1,2,3,2,3,2]) (c:=vy) (Γn:=[]) (ro:=rI) (Γp:=[some ⟨ck.ymasks_here,(rM rI)⟩]) (Γr:=[some ⟨ck.ymasks_here,(rM rI)⟩,none,none,none]) (init:=(fun p=>(⟨p.1,[],0⟩ : ck))) (aw (get:=ck.ymasks_here) dC (fun _=>rfl) fun _=>bg)
  (ap (aN 1 (get:=ck.yrows) (put:=fun s v=>{s with yrows:=v}) (cv (cu (r:=rI))))
  (ap (dc (cz (bU 0 rfl)) Le.refl (cF 2 (get:=ck.ymask_here) (put:=fun s v=>{s with ymask_here:=v})) (ap (Bx (i:=1) rfl (zo 1 3 (get:=ck.yrows) (put:=fun s v=>{s with yrows:=v}) rfl (fun x17 _=>(aN 2 (get:=ck.ymask_here) (put:=fun s v=>{s with ymask_here:=v}) (aj (sf xY (af 2 rfl) (al bI (af 2 rfl) (af 3 rfl)))) (hi:=by show 2 < 4; decide))) (hx:=by show 3 < 4; omega)))
  (di (Γ':=[some ⟨ck.ymasks_here,(rM rI)⟩,some ⟨ck.yrows,(rL rI)⟩,some ⟨ck.ymask_here,rI⟩,none]) (cg (cM m7 (aj (af 2 rfl)) (aj (aE 0)))) (de (kD 1 (get:=ck.yrows) (put:=fun s v=>{s with yrows:=v}) (af 2 rfl) rfl)) cj)))
  (bm (aj (gH fH (af 1 rfl)))))) (ao dC rfl aW)⟩
noncomputable def pX:=qB.1
theorem m8 : JF iA pX (Pc (rM rI) Pn) rI (Pc (rM rI) Pn):=qB.2
structure bi where
 yn : Int
 yheap_here : Int × (List (List (List Int)))
 yfound : List Int
 yg : Int
 ymine : List Int
noncomputable def lJ : {f : (Int × (Int × (List (List (List Int)))) × Unit) -> Option ((List Int) × (Int × (Int × (List (List (List Int)))) × Unit)) // JF io f (Pc rI (Pc (am rI (rM (rM (rM rI)))) Pn)) (rL rI) (Pc rI (Pc (am rI (rM (rM (rM rI)))) Pn))}:=⟨_,by
 exact bQ (S:=bi) (N:=5) (W:=[2,3,4]) (c:=pF) (Γn:=[]) (ro:=(rL rI)) (Γp:=[some ⟨bi.yn,rI⟩,some ⟨bi.yheap_here,(am rI (rM (rM (rM rI))))⟩]) (Γr:=[some ⟨bi.yn,rI⟩,some ⟨bi.yheap_here,(am rI (rM (rM (rM rI))))⟩,none,none,none]) (init:=(fun p=>(⟨p.1,p.2.1,[],0,[]⟩ : bi))) (aw (get:=bi.yn) dC (fun _=>rfl) fun _=>(aw (get:=bi.yheap_here) dC (fun _=>rfl) fun _=>bg))
  (ap (aN 2 (get:=bi.yfound) (put:=fun s v=>{s with yfound:=v}) (cv (cu (r:=rI))))
  (ap (dc (oT (aj (al cr (aE 1) (af 0 rfl)))) Le.refl (cF 3 (get:=bi.yg) (put:=fun s v=>{s with yg:=v})) (ap (aN 4 (get:=bi.ymine) (put:=fun s v=>{s with ymine:=v}) (ay lw (aD 1 rfl (aD 3 rfl aC)) (bE 1 rfl (bD 3 rfl aB)) (bM 1 (get:=bi.yheap_here) (put:=fun s v=>{s with yheap_here:=v}) (h:=bC 3 aA))))
  (di (Γ':=[some ⟨bi.yn,rI⟩,some ⟨bi.yheap_here,(am rI (rM (rM (rM rI))))⟩,some ⟨bi.yfound,(rL rI)⟩,some ⟨bi.yg,rI⟩,some ⟨bi.ymine,(rM rI)⟩]) (cg (cM gJ (ay m8 (bx (u8 (bU 4 rfl) (ay lw (aD 1 rfl (bx (aj (aE 1)) aC)) (bE 1 rfl (br aB)) (bM 1 (get:=bi.yheap_here) (put:=fun s v=>{s with yheap_here:=v}) (h:=bq aA)))) aC) (br aB) (bq aA)) (ay m8 (aD 4 rfl aC) (bE 4 rfl aB) (bM 4 (get:=bi.ymine) (put:=fun s v=>{s with ymine:=v}) (h:=aA))))) (de (kD 2 (get:=bi.yfound) (put:=fun s v=>{s with yfound:=v}) (af 3 rfl) rfl)) cj)))
  (bm (eF 2 rfl)))) (ao dC rfl (ao dC rfl aW))⟩
noncomputable def kZ:=lJ.1
theorem oY : JF io kZ (Pc rI (Pc (am rI (rM (rM (rM rI)))) Pn)) (rL rI) (Pc rI (Pc (am rI (rM (rM (rM rI)))) Pn)):=lJ.2
structure cB where
 xheap : Int × (List (List (List Int)))
 xg : Int
 xfound : List (List Int)
 xname : Int
noncomputable def lG : {f : ((Int × (List (List (List Int)))) × Int × Unit) -> Option ((List (List Int)) × ((Int × (List (List (List Int)))) × Int × Unit)) // JF i8 f (Pc (am rI (rM (rM (rM rI)))) (Pc rI Pn)) (rL (rM rI)) (Pc (am rI (rM (rM (rM rI)))) (Pc rI Pn))}:=⟨_,by
 exact bQ (S:=cB) (N:=4) (W:=[2,3]) (c:=pB) (Γn:=[]) (ro:=(rL (rM rI))) (Γp:=[some ⟨cB.xheap,(am rI (rM (rM (rM rI))))⟩,some ⟨cB.xg,rI⟩]) (Γr:=[some ⟨cB.xheap,(am rI (rM (rM (rM rI))))⟩,some ⟨cB.xg,rI⟩,none,none]) (init:=(fun p=>(⟨p.1,p.2.1,[],0⟩ : cB))) (aw (get:=cB.xheap) dC (fun _=>rfl) fun _=>(aw (get:=cB.xg) dC (fun _=>rfl) fun _=>bg))
  (ap (aN 2 (get:=cB.xfound) (put:=fun s v=>{s with xfound:=v}) (cv (cu (r:=(rM rI)))))
  (ap (dc (cz (ay oV (bx (aj (gH fH (dB fw (af 0 rfl)))) (aD 1 rfl aC)) (br (bD 1 rfl aB)) (bq (bC 1 aA)))) Le.refl (cF 3 (get:=cB.xname) (put:=fun s v=>{s with xname:=v})) (de (BA 2 (get:=cB.xfound) (put:=fun s v=>{s with xfound:=v}) (jU (jx fw (bU 0 rfl)) (aj (af 3 rfl))) rfl rfl)))
  (bm (eF 2 rfl)))) (ao dC rfl (ao dC rfl aW))⟩
noncomputable def kT:=lG.1
theorem wu : JF i8 kT (Pc (am rI (rM (rM (rM rI)))) (Pc rI Pn)) (rL (rM rI)) (Pc (am rI (rM (rM (rM rI)))) (Pc rI Pn)):=lG.2
structure iP where
 xview : List Int
noncomputable def mL : {f : ((List Int) × Unit) -> Option (Int × ((List Int) × Unit)) // JF jY f (Pc (rM rI) Pn) rI (Pc (rM rI) Pn)}:=⟨_,by
 exact bQ (S:=iP) (N:=1) (W:=[]) (c:=qZ) (Γn:=[]) (ro:=rI) (Γp:=[some ⟨iP.xview,(rM rI)⟩]) (Γr:=[some ⟨iP.xview,(rM rI)⟩]) (init:=(fun p=>(⟨p.1⟩ : iP))) (aw (get:=iP.xview) dC (fun _=>rfl) fun _=>bg)
  (bm (oU xX (dD (cz (bU 0 rfl)) Le.refl (eI 1 rfl) (fun x20=>dQ) (fun x20=>(aj (al cr (aE 1) (af 1 rfl))))))) (ao dC rfl aW)⟩
noncomputable def me:=mL.1
theorem yb : JF jY me (Pc (rM rI) Pn) rI (Pc (rM rI) Pn):=mL.2
structure av where
 xlines : List (Int × Int × Int)
 xmask : Int
 xmade : Int
 xlead : Int
 xother : Int
 xhow : Int
noncomputable def jI : {f : ((List (Int × Int × Int)) × Int × Int × Unit) -> Option ((Int × Int) × ((List (Int × Int × Int)) × Int × Int × Unit)) // JF ip f (Pc (rM (d7 rI rI rI)) (Pc rI (Pc rI Pn))) (am rI rI) (Pc (rM (d7 rI rI rI)) (Pc rI (Pc rI Pn)))}:=⟨_,by
 exact bQ (S:=av) (N:=6) (W:=[3,4,5,1,2]) (c:=jH) (Γn:=[]) (ro:=(am rI rI)) (Γp:=[some ⟨av.xlines,(rM (d7 rI rI rI))⟩,some ⟨av.xmask,rI⟩,some ⟨av.xmade,rI⟩]) (Γr:=[some ⟨av.xlines,(rM (d7 rI rI rI))⟩,none,none,none,none,none]) (init:=(fun p=>(⟨p.1,p.2.1,p.2.2.1,0,0,0⟩ : av))) (aw (get:=av.xlines) dC (fun _=>rfl) fun _=>(oS (get:=av.xmask) dC (fun _=>rfl) fun _=>(oS (get:=av.xmade) dC (fun _=>rfl) fun _=>bg)))
  (ap (dc (cz (bU 0 rfl)) Le.refl (wr (cF 3 (get:=av.xlead) (put:=fun s v=>{s with xlead:=v})) (cF 4 (get:=av.xother) (put:=fun s v=>{s with xother:=v})) (cF 5 (get:=av.xhow) (put:=fun s v=>{s with xhow:=v}))) (di (Γ':=[some ⟨av.xlines,(rM (d7 rI rI rI))⟩,some ⟨av.xmask,rI⟩,some ⟨av.xmade,rI⟩,some ⟨av.xlead,rI⟩,some ⟨av.xother,rI⟩,some ⟨av.xhow,rI⟩]) (cg (cM eV (aj (al bI (af 1 rfl) (af 3 rfl))) (aj (aE 0)))) (ap (aN 1 (get:=av.xmask) (put:=fun s v=>{s with xmask:=v}) (aj (al bI (af 1 rfl) (af 4 rfl))))
  (aN 2 (get:=av.xmade) (put:=fun s v=>{s with xmade:=v}) (aj (al bI (af 2 rfl) (af 5 rfl))))) cj))
  (bm (i7 (aj (af 1 rfl)) (aj (af 2 rfl))))) (ao dC rfl (m6 (r:=rI) (r':=rI) dC (m6 (r:=rI) (r':=rI) dC aW)))⟩
noncomputable def h8:=jI.1
structure aU where
 xlines : List (Int × Int × Int)
 xmask : Int
 xmade : Int
 xlead : Int
 xchanged : List (Int × Int × Int)
 xother : Int
 xthere : Int
 xhow : Int
noncomputable def kf : {f : ((List (Int × Int × Int)) × Int × Int × Unit) -> Option ((List (Int × Int × Int)) × ((List (Int × Int × Int)) × Int × Int × Unit)) // JF iF f (Pc (rM (d7 rI rI rI)) (Pc rI (Pc rI Pn))) (rL (d7 rI rI rI)) (Pc (rM (d7 rI rI rI)) (Pc rI (Pc rI Pn)))}:=⟨_,by
 exact bQ (S:=aU) (N:=8) (W:=[3,4,5,6,7]) (c:=nD) (Γn:=[]) (ro:=(rL (d7 rI rI rI))) (Γp:=[some ⟨aU.xlines,(rM (d7 rI rI rI))⟩,some ⟨aU.xmask,rI⟩,some ⟨aU.xmade,rI⟩]) (Γr:=[some ⟨aU.xlines,(rM (d7 rI rI rI))⟩,some ⟨aU.xmask,rI⟩,some ⟨aU.xmade,rI⟩,none,none,none,none,none]) (init:=(fun p=>(⟨p.1,p.2.1,p.2.2.1,0,[],0,0,0⟩ : aU))) (aw (get:=aU.xlines) dC (fun _=>rfl) fun _=>(aw (get:=aU.xmask) dC (fun _=>rfl) fun _=>(aw (get:=aU.xmade) dC (fun _=>rfl) fun _=>bg)))
  (ap (aN 3 (get:=aU.xlead) (put:=fun s v=>{s with xlead:=v}) (aj (al cr (aE 1) (al bI (Bz (af 1 rfl)) (aE 1)))))
  (ap (aN 4 (get:=aU.xchanged) (put:=fun s v=>{s with xchanged:=v}) (cv (cu (r:=(d7 rI rI rI)))))
  (ap (dc (cz (bU 0 rfl)) Le.refl (wr (cF 5 (get:=aU.xother) (put:=fun s v=>{s with xother:=v})) (cF 6 (get:=aU.xthere) (put:=fun s v=>{s with xthere:=v})) (cF 7 (get:=aU.xhow) (put:=fun s v=>{s with xhow:=v}))) (di (Γ':=[some ⟨aU.xlines,(rM (d7 rI rI rI))⟩,some ⟨aU.xmask,rI⟩,some ⟨aU.xmade,rI⟩,some ⟨aU.xlead,rI⟩,some ⟨aU.xchanged,(rL (d7 rI rI rI))⟩,some ⟨aU.xother,rI⟩,some ⟨aU.xthere,rI⟩,some ⟨aU.xhow,rI⟩]) (cg (cM eV (aj (al bI (af 6 rfl) (af 3 rfl))) (aj (aE 0)))) (de (kC 4 (get:=aU.xchanged) (put:=fun s v=>{s with xchanged:=v}) (wt (aj (af 5 rfl)) (aj (al bI (af 6 rfl) (af 1 rfl))) (aj (al bI (af 7 rfl) (af 2 rfl)))) rfl rfl)) (de (kC 4 (get:=aU.xchanged) (put:=fun s v=>{s with xchanged:=v}) (wt (aj (af 5 rfl)) (aj (af 6 rfl)) (aj (af 7 rfl))) rfl rfl))))
  (bm (jy (eF 4 rfl) (cv (r:=(d7 rI rI rI)) (eK (wt (aj (af 3 rfl)) (aj (af 1 rfl)) (aj (af 2 rfl))) cu))))))) (ao dC rfl (ao dC rfl (ao dC rfl aW)))⟩
noncomputable def j5:=kf.1
theorem uz : JF iF j5 (Pc (rM (d7 rI rI rI)) (Pc rI (Pc rI Pn))) (rL (d7 rI rI rI)) (Pc (rM (d7 rI rI rI)) (Pc rI (Pc rI Pn))):=kf.2
theorem qr : JF ip h8 (Pc (rM (d7 rI rI rI)) (Pc rI (Pc rI Pn))) (am rI rI) (Pc (rM (d7 rI rI rI)) (Pc rI (Pc rI Pn))):=by
 unfold h8 jI;exact bQ (S:=av) (N:=6) (W:=[3,4,5,1,2]) (c:=jH) (Γn:=[]) (ro:=(am rI rI)) (Γp:=[some ⟨av.xlines,(rM (d7 rI rI rI))⟩,some ⟨av.xmask,rI⟩,some ⟨av.xmade,rI⟩]) (Γr:=[some ⟨av.xlines,(rM (d7 rI rI rI))⟩,none,none,none,none,none]) (init:=(fun p=>(⟨p.1,p.2.1,p.2.2.1,0,0,0⟩ : av))) (aw (get:=av.xlines) dC (fun _=>rfl) fun _=>(oS (get:=av.xmask) dC (fun _=>rfl) fun _=>(oS (get:=av.xmade) dC (fun _=>rfl) fun _=>bg)))
  (ap (dc (cz (bU 0 rfl)) Le.refl (wr (cF 3 (get:=av.xlead) (put:=fun s v=>{s with xlead:=v})) (cF 4 (get:=av.xother) (put:=fun s v=>{s with xother:=v})) (cF 5 (get:=av.xhow) (put:=fun s v=>{s with xhow:=v}))) (di (Γ':=[some ⟨av.xlines,(rM (d7 rI rI rI))⟩,some ⟨av.xmask,rI⟩,some ⟨av.xmade,rI⟩,some ⟨av.xlead,rI⟩,some ⟨av.xother,rI⟩,some ⟨av.xhow,rI⟩]) (cg (cM eV (aj (al bI (af 1 rfl) (af 3 rfl))) (aj (aE 0)))) (ap (aN 1 (get:=av.xmask) (put:=fun s v=>{s with xmask:=v}) (aj (al bI (af 1 rfl) (af 4 rfl))))
  (aN 2 (get:=av.xmade) (put:=fun s v=>{s with xmade:=v}) (aj (al bI (af 2 rfl) (af 5 rfl))))) cj))
  (bm (i7 (aj (af 1 rfl)) (aj (af 2 rfl))))) (ao dC rfl (m6 (r:=rI) (r':=rI) dC (m6 (r:=rI) (r':=rI) dC aW)))
structure bj where
 xviews : List (List Int)
 xlines : List (Int × Int × Int)
 xplace : Int
 xview : List Int
 xleft : Int × Int
noncomputable def lK : {f : ((List (List Int)) × Unit) -> Option ((List (Int × Int × Int)) × ((List (List Int)) × Unit)) // JF i9 f (Pc (rM (rM rI)) Pn) (rM (d7 rI rI rI)) (Pc (rM (rM rI)) Pn)}:=⟨_,by
 exact bQ (S:=bj) (N:=5) (W:=[1,2,3,4,1]) (c:=pG) (Γn:=[]) (ro:=(rM (d7 rI rI rI))) (Γp:=[some ⟨bj.xviews,(rM (rM rI))⟩]) (Γr:=[some ⟨bj.xviews,(rM (rM rI))⟩,none,none,none,none]) (init:=(fun p=>(⟨p.1,[],0,[],(0,0)⟩ : bj))) (aw (get:=bj.xviews) dC (fun _=>rfl) fun _=>bg)
  (ap (aN 1 (get:=bj.xlines) (put:=fun s v=>{s with xlines:=v}) (cv (cu (r:=(d7 rI rI rI)))))
  (ap (dc (Γh:=[some ⟨bj.xviews,(rM (rM rI))⟩,some ⟨bj.xlines,(rM (d7 rI rI rI))⟩,none,none,none]) (EC 0 (bU 0 rfl)) (by repeat (first | exact Le.nil | refine Le.som inferInstance ?_ | refine Le.non ?_)) (Ab (cF 2 (get:=bj.xplace) (put:=fun s v=>{s with xplace:=v})) (cF 3 (get:=bj.xview) (put:=fun s v=>{s with xview:=v}))) (ap (aN 4 (get:=bj.xleft) (put:=fun s v=>{s with xleft:=v}) (ay qr (aD 1 rfl (bx (ay yb (aD 3 rfl aC) (bE 3 rfl aB) (bM 3 (get:=bj.xview) (put:=fun s v=>{s with xview:=v}) (h:=aA))) (bx (aj (al cr (aE 1) (af 2 rfl))) aC))) (bE 1 rfl (br (br aB))) (bM 1 (get:=bj.xlines) (put:=fun s v=>{s with xlines:=v}) (h:=bq (bq aA)))))
  (di (Γ':=[some ⟨bj.xviews,(rM (rM rI))⟩,some ⟨bj.xlines,(rM (d7 rI rI rI))⟩,some ⟨bj.xplace,rI⟩,some ⟨bj.xview,(rM rI)⟩,some ⟨bj.xleft,(am rI rI)⟩]) (cg (cM eV (aj (dB h7 (af 4 rfl))) (aj (aE 0)))) (aN 1 (get:=bj.xlines) (put:=fun s v=>{s with xlines:=v}) (ay uz (aD 1 rfl (bx (aj (dB h7 (af 4 rfl))) (bx (aj (dB fw (af 4 rfl))) aC))) (bE 1 rfl (br (br aB))) (bM 1 (get:=bj.xlines) (put:=fun s v=>{s with xlines:=v}) (h:=bq (bq aA))))) cj)))
  (bm (eF 1 rfl)))) (ao dC rfl aW)⟩
noncomputable def ld:=lK.1
theorem ww : JF i9 ld (Pc (rM (rM rI)) Pn) (rM (d7 rI rI rI)) (Pc (rM (rM rI)) Pn):=lK.2
structure hW where
 xviews : List (List Int)
noncomputable def mK : {f : ((List (List Int)) × Unit) -> Option (Int × ((List (List Int)) × Unit)) // JF jX f (Pc (rM (rM rI)) Pn) rI (Pc (rM (rM rI)) Pn)}:=⟨_,by
 exact bQ (S:=hW) (N:=1) (W:=[]) (c:=qY) (Γn:=[]) (ro:=rI) (Γp:=[some ⟨hW.xviews,(rM (rM rI))⟩]) (Γr:=[some ⟨hW.xviews,(rM (rM rI))⟩]) (init:=(fun p=>(⟨p.1⟩ : hW))) (aw (get:=hW.xviews) dC (fun _=>rfl) fun _=>bg)
  (bm (oU fH (ay ww (aD 0 rfl aC) (bE 0 rfl aB) (bM 0 (get:=hW.xviews) (put:=fun s v=>{s with xviews:=v}) (h:=aA))))) (ao dC rfl aW)⟩
noncomputable def md:=mK.1
theorem ya : JF jX md (Pc (rM (rM rI)) Pn) rI (Pc (rM (rM rI)) Pn):=mK.2
structure fj where
 xheap : Int × (List (List (List Int)))
noncomputable def jK : {f : ((Int × (List (List (List Int)))) × Unit) -> Option ((List Int) × ((Int × (List (List (List Int)))) × Unit)) // JF gg f (Pc (am rI (rM (rM (rM rI)))) Pn) (rL rI) (Pc (am rI (rM (rM (rM rI)))) Pn)}:=⟨_,by
 exact bQ (S:=fj) (N:=1) (W:=[]) (c:=mG) (Γn:=[]) (ro:=(rL rI)) (Γp:=[some ⟨fj.xheap,(am rI (rM (rM (rM rI))))⟩]) (Γr:=[some ⟨fj.xheap,(am rI (rM (rM (rM rI))))⟩]) (init:=(fun p=>(⟨p.1⟩ : fj))) (aw (get:=fj.xheap) dC (fun _=>rfl) fun _=>bg)
  (bm (dD (Aa (aj (aE 1)) (cM bI (ay nz (bx (aj (gH fH (dB fw (af 0 rfl)))) aC) (br aB) (bq aA)) (aj (aE 1)))) Le.refl (eI 1 rfl) (fun x19=>dQ) (fun x19=>(ay ya (bx (ay wu (aD 0 rfl (aD 1 rfl aC)) (bE 0 rfl (bD 1 rfl aB)) (bM 0 (get:=fj.xheap) (put:=fun s v=>{s with xheap:=v}) (h:=bC 1 aA))) aC) (br aB) (bq aA))))) (ao dC rfl aW)⟩
noncomputable def je:=jK.1
theorem mx : JF gg je (Pc (am rI (rM (rM (rM rI)))) Pn) (rL rI) (Pc (am rI (rM (rM (rM rI)))) Pn):=jK.2
structure cK where
 xtable : List Int
 xgroup : Int
 xalone : Int
noncomputable def jJ : {f : ((List Int) × Int × Unit) -> Option (Bool × ((List Int) × Int × Unit)) // JF iu f (Pc (rM rI) (Pc rI Pn)) rB (Pc (rM rI) (Pc rI Pn))}:=⟨_,by
 exact bQ (S:=cK) (N:=3) (W:=[2]) (c:=mE) (Γn:=[]) (ro:=rB) (Γp:=[some ⟨cK.xtable,(rM rI)⟩,some ⟨cK.xgroup,rI⟩]) (Γr:=[some ⟨cK.xtable,(rM rI)⟩,some ⟨cK.xgroup,rI⟩,none]) (init:=(fun p=>(⟨p.1,p.2.1,0⟩ : cK))) (aw (get:=cK.xtable) dC (fun _=>rfl) fun _=>(aw (get:=cK.xgroup) dC (fun _=>rfl) fun _=>bg))
  (ap (aN 2 (get:=cK.xalone) (put:=fun s v=>{s with xalone:=v}) (EE (r:=rI) (Γ':=[some ⟨cK.xtable,(rM rI)⟩,some ⟨cK.xgroup,rI⟩,none]) (cg (cM eV (aj (af 1 rfl)) (aj (aE 0)))) (aj (al ee (af 0 rfl) (al bI (af 1 rfl) (aE 1)))) (aj (aE 0))))
  (bm (aj (al gJ (al ee (af 0 rfl) (al bI (al bI (af 1 rfl) (aE 1)) (aE 1))) (af 2 rfl))))) (ao dC rfl (ao dC rfl aW))⟩
noncomputable def jd:=jJ.1
theorem tI : JF iu jd (Pc (rM rI) (Pc rI Pn)) rB (Pc (rM rI) (Pc rI Pn)):=jJ.2
structure dt where
 xheap : Int × (List (List (List Int)))
 xtable : List Int
noncomputable def kg : {f : ((Int × (List (List (List Int)))) × Unit) -> Option ((List Int) × ((Int × (List (List (List Int)))) × Unit)) // JF gC f (Pc (am rI (rM (rM (rM rI)))) Pn) (rL rI) (Pc (am rI (rM (rM (rM rI)))) Pn)}:=⟨_,by
 exact bQ (S:=dt) (N:=2) (W:=[1]) (c:=nE) (Γn:=[]) (ro:=(rL rI)) (Γp:=[some ⟨dt.xheap,(am rI (rM (rM (rM rI))))⟩]) (Γr:=[some ⟨dt.xheap,(am rI (rM (rM (rM rI))))⟩,none]) (init:=(fun p=>(⟨p.1,[]⟩ : dt))) (aw (get:=dt.xheap) dC (fun _=>rfl) fun _=>bg)
  (ap (aN 1 (get:=dt.xtable) (put:=fun s v=>{s with xtable:=v}) (ay mx (aD 0 rfl aC) (bE 0 rfl aB) (bM 0 (get:=dt.xheap) (put:=fun s v=>{s with xheap:=v}) (h:=aA))))
  (bm (ay o5 (bx (dD (Γh:=[some ⟨dt.xheap,(am rI (rM (rM (rM rI))))⟩,some ⟨dt.xtable,(rM rI)⟩]) (cz (ay mw (bx (aj (gH fH (dB fw (af 0 rfl)))) aC) (br aB) (bq aA))) (by repeat (first | exact Le.nil | refine Le.som inferInstance ?_ | refine Le.non ?_)) (eI 2 rfl) (fun x21=>(cg (ay tI (aD 1 rfl (aD 2 rfl aC)) (bE 1 rfl (bD 2 rfl aB)) (bM 1 (get:=dt.xtable) (put:=fun s v=>{s with xtable:=v}) (h:=bC 2 aA))))) (fun x21=>(aj (af 2 rfl)))) aC) (br aB) (bq aA)))) (ao dC rfl aW)⟩
noncomputable def j6:=kg.1
theorem ny : JF gC j6 (Pc (am rI (rM (rM (rM rI)))) Pn) (rL rI) (Pc (am rI (rM (rM (rM rI)))) Pn):=kg.2
structure bZ where
 yn : Int
 ygroups : List Int
 yfound : List Int
 yg : Int
 yless : List Int
noncomputable def uf : {f : (Int × (List Int) × Unit) -> Option ((List Int) × (Int × (List Int) × Unit)) // JF jC f (Pc rI (Pc (rL rI) Pn)) (rL rI) (Pc rI (Pc (rL rI) Pn))}:=⟨_,by
 exact bQ (S:=bZ) (N:=5) (W:=[2,3,4]) (c:=t5) (Γn:=[]) (ro:=(rL rI)) (Γp:=[some ⟨bZ.yn,rI⟩,some ⟨bZ.ygroups,(rL rI)⟩]) (Γr:=[some ⟨bZ.yn,rI⟩,some ⟨bZ.ygroups,(rL rI)⟩,none,none,none]) (init:=(fun p=>(⟨p.1,p.2.1,[],0,[]⟩ : bZ))) (aw (get:=bZ.yn) dC (fun _=>rfl) fun _=>(aw (get:=bZ.ygroups) dC (fun _=>rfl) fun _=>bg))
  (ap (aN 2 (get:=bZ.yfound) (put:=fun s v=>{s with yfound:=v}) (cv (cu (r:=rI))))
  (ap (dc (oT (aj (al cr (aE 1) (af 0 rfl)))) Le.refl (cF 3 (get:=bZ.yg) (put:=fun s v=>{s with yg:=v})) (di (Γ':=[some ⟨bZ.yn,rI⟩,some ⟨bZ.ygroups,(rL rI)⟩,some ⟨bZ.yfound,(rL rI)⟩,some ⟨bZ.yg,rI⟩,none]) (cg (aj (al wq (af 3 rfl) (af 1 rfl)))) (ap (aN 4 (get:=bZ.yless) (put:=fun s v=>{s with yless:=v}) (dD (oT (aj (af 3 rfl))) Le.refl (eI 5 rfl) (fun x22=>(oR (cg (aj (al wq (af 5 rfl) (af 1 rfl)))) (cg (cM gJ (aj (al bI (af 5 rfl) (af 3 rfl))) (aj (af 5 rfl)))))) (fun x22=>(aj (af 5 rfl)))))
  (di (Γ':=[some ⟨bZ.yn,rI⟩,some ⟨bZ.ygroups,(rL rI)⟩,some ⟨bZ.yfound,(rL rI)⟩,some ⟨bZ.yg,rI⟩,some ⟨bZ.yless,(rL rI)⟩]) (cg (aj (al gJ (af 4 rfl) (z9 (r:=rI))))) (de (kD 2 (get:=bZ.yfound) (put:=fun s v=>{s with yfound:=v}) (af 3 rfl) rfl)) cj)) cj))
  (bm (eF 2 rfl)))) (ao dC rfl (ao dC rfl aW))⟩
noncomputable def nO:=uf.1
theorem tF : JF jC nO (Pc rI (Pc (rL rI) Pn)) (rL rI) (Pc rI (Pc (rL rI) Pn)):=uf.2
structure ae where
 yn : Int
 yone : Int × (List (List (List Int)))
 yother : Int × (List (List (List Int)))
 ykept : List (Int × (List (List (List Int))))
 ydue : Int × (List (List (List Int)))
 yfirst : List Int
 ygroups : List Int
 ytime : Int
 ytold : Int × (List (List (List Int)))
 ytable_here : List Int
 yg : Int
 yalone : Int
noncomputable def oh : {f : (Int × (Int × (List (List (List Int)))) × (Int × (List (List (List Int)))) × Unit) -> Option (Bool × (Int × (Int × (List (List (List Int)))) × (Int × (List (List (List Int)))) × Unit)) // JF jA f (Pc rI (Pc (am rI (rL (rL (rL rI)))) (Pc (am rI (rL (rL (rL rI)))) Pn))) rB (Pc rI (Pc (am rI (rM (rM (rM rI)))) (Pc (am rI (rM (rM (rM rI)))) Pn)))}:=⟨_,by
 exact bQ (S:=ae) (N:=12) (W:=[3,4,5,6,7,8,9,10,11]) (c:=tZ) (Γn:=[]) (ro:=rB) (Γp:=[some ⟨ae.yn,rI⟩,some ⟨ae.yone,(am rI (rL (rL (rL rI))))⟩,some ⟨ae.yother,(am rI (rL (rL (rL rI))))⟩]) (Γr:=[some ⟨ae.yn,rI⟩,some ⟨ae.yone,(am rI (rM (rM (rM rI))))⟩,some ⟨ae.yother,(am rI (rM (rM (rM rI))))⟩,none,none,none,none,none,none,none,none,none]) (init:=(fun p=>(⟨p.1,p.2.1,p.2.2.1,[],(0,[]),[],[],0,(0,[]),[],0,0⟩ : ae))) (aw (get:=ae.yn) dC (fun _=>rfl) fun _=>(aw (get:=ae.yone) dC (fun _=>rfl) fun _=>(aw (get:=ae.yother) dC (fun _=>rfl) fun _=>bg)))
  (ap (aN 3 (get:=ae.ykept) (put:=fun s v=>{s with ykept:=v}) (cv (r:=(am rI (rL (rL (rL rI))))) (eK (ay vc (aD 1 rfl aC) (bE 1 rfl aB) (bM 1 (get:=ae.yone) (put:=fun s v=>{s with yone:=v}) (h:=aA))) (eK (ay vc (aD 2 rfl aC) (bE 2 rfl aB) (bM 2 (get:=ae.yother) (put:=fun s v=>{s with yother:=v}) (h:=aA))) cu))))
  (ap (aN 4 (get:=ae.ydue) (put:=fun s v=>{s with ydue:=v}) (ay vd (aD 1 rfl (aD 2 rfl aC)) (bE 1 rfl (bE 2 rfl aB)) (bM 1 (get:=ae.yone) (put:=fun s v=>{s with yone:=v}) (h:=bM 2 (get:=ae.yother) (put:=fun s v=>{s with yother:=v}) (h:=aA)))))
  (ap (di (Γ':=[some ⟨ae.yn,rI⟩,some ⟨ae.yone,(am rI (rM (rM (rM rI))))⟩,some ⟨ae.yother,(am rI (rM (rM (rM rI))))⟩,some ⟨ae.ykept,(rL (am rI (rL (rL (rL rI)))))⟩,some ⟨ae.ydue,(am rI (rL (rL (rL rI))))⟩,none,none,none,none,none,none,none]) (se (cg (cM eV (ay jz (bx (bU 1 rfl) (bx (bU 1 rfl) aC)) (br (br aB)) (bq (bq aA))) (ay vd (bx (bU 1 rfl) (bx (bU 1 rfl) aC)) (br (br aB)) (bq (bq aA))))) (cg (aj (al eV (tq (jv (af 1 rfl) (jv (af 2 rfl) qp))) (af 3 rfl))))) g9 cj)
  (ap (aN 5 (get:=ae.yfirst) (put:=fun s v=>{s with yfirst:=v}) (ay oY (aD 0 rfl (bx (jU (bU 3 rfl) (aj (aE 0))) aC)) (bD 0 rfl (br aB)) (bC 0 (bq aA))))
  (ap (aN 6 (get:=ae.ygroups) (put:=fun s v=>{s with ygroups:=v}) (dD (cz (ay oY (aD 0 rfl (bx (jU (bU 3 rfl) (aj (aE 1))) aC)) (bD 0 rfl (br aB)) (bC 0 (bq aA)))) Le.refl (eI 12 rfl) (fun x18=>(cg (aj (al wq (af 12 rfl) (af 5 rfl))))) (fun x18=>(aj (af 12 rfl)))))
  (ap (dc (jT (aj (aE 2))) Le.refl (cF 7 (get:=ae.ytime) (put:=fun s v=>{s with ytime:=v})) (ap (aN 8 (get:=ae.ytold) (put:=fun s v=>{s with ytold:=v}) (ay jz (aD 1 rfl (aD 2 rfl aC)) (bE 1 rfl (bE 2 rfl aB)) (bM 1 (get:=ae.yone) (put:=fun s v=>{s with yone:=v}) (h:=bM 2 (get:=ae.yother) (put:=fun s v=>{s with yother:=v}) (h:=aA)))))
  (ap (di (Γ':=[some ⟨ae.yn,rI⟩,some ⟨ae.yone,(am rI (rM (rM (rM rI))))⟩,some ⟨ae.yother,(am rI (rM (rM (rM rI))))⟩,some ⟨ae.ykept,(rM (am rI (rM (rM (rM rI)))))⟩,some ⟨ae.ydue,(am rI (rL (rL (rL rI))))⟩,some ⟨ae.yfirst,(rL rI)⟩,some ⟨ae.ygroups,(rL rI)⟩,some ⟨ae.ytime,rI⟩,some ⟨ae.ytold,(am rI (rL (rL (rL rI))))⟩,none,none,none]) (se (oQ (cg (aj (sf Dh (af 8 rfl) (EA "tuple"))))) (se (cg (aj (al eV (af 8 rfl) (af 4 rfl)))) (cg (aj (al eV (tq (jv (af 1 rfl) (jv (af 2 rfl) qp))) (af 3 rfl)))))) g9 cj)
  (ap (di (Γ':=[some ⟨ae.yn,rI⟩,some ⟨ae.yone,(am rI (rM (rM (rM rI))))⟩,some ⟨ae.yother,(am rI (rM (rM (rM rI))))⟩,some ⟨ae.ykept,(rM (am rI (rM (rM (rM rI)))))⟩,some ⟨ae.ydue,(am rI (rL (rL (rL rI))))⟩,some ⟨ae.yfirst,(rL rI)⟩,some ⟨ae.ygroups,(rL rI)⟩,some ⟨ae.ytime,rI⟩,some ⟨ae.ytold,(am rI (rL (rL (rL rI))))⟩,none,none,none]) (cg (cM eV (hJ 4 (get:=ae.ydue) (put:=fun s v=>{s with ydue:=v}) (hJ 3 (get:=ae.ykept) (put:=fun s v=>{s with ykept:=v}) (hJ 2 (get:=ae.yother) (put:=fun s v=>{s with yother:=v}) (hJ 1 (get:=ae.yone) (put:=fun s v=>{s with yone:=v}) (u7 (Γ2:=[some ⟨ae.yn,rI⟩,none,none,none,none,some ⟨ae.yfirst,(rL rI)⟩,some ⟨ae.ygroups,(rL rI)⟩,some ⟨ae.ytime,rI⟩,none,none,none,none]) 8 (get:=ae.ytold) (put:=fun s v=>{s with ytold:=v}) (ay ny (aD 8 rfl aC) (bE 8 rfl aB) (bM 8 (get:=ae.ytold) (put:=fun s v=>{s with ytold:=v}) (h:=aA))) (by repeat (first | exact Tw.nil | refine Tw.som inferInstance ?_ | refine Tw.non ?_)) rfl) rfl) rfl) rfl) rfl) (ay tF (aD 0 rfl (aD 6 rfl aC)) (bD 0 rfl (bE 6 rfl aB)) (bC 0 (bM 6 (get:=ae.ygroups) (put:=fun s v=>{s with ygroups:=v}) (h:=aA)))))) g9 cj)
  (ap (aN 9 (get:=ae.ytable_here) (put:=fun s v=>{s with ytable_here:=v}) (hJ 4 (get:=ae.ydue) (put:=fun s v=>{s with ydue:=v}) (hJ 3 (get:=ae.ykept) (put:=fun s v=>{s with ykept:=v}) (hJ 2 (get:=ae.yother) (put:=fun s v=>{s with yother:=v}) (hJ 1 (get:=ae.yone) (put:=fun s v=>{s with yone:=v}) (u7 (Γ2:=[some ⟨ae.yn,rI⟩,none,none,none,none,some ⟨ae.yfirst,(rL rI)⟩,some ⟨ae.ygroups,(rL rI)⟩,some ⟨ae.ytime,rI⟩,none,none,none,none]) 8 (get:=ae.ytold) (put:=fun s v=>{s with ytold:=v}) (ay mx (aD 8 rfl aC) (bE 8 rfl aB) (bM 8 (get:=ae.ytold) (put:=fun s v=>{s with ytold:=v}) (h:=aA))) (by repeat (first | exact Tw.nil | refine Tw.som inferInstance ?_ | refine Tw.non ?_)) rfl) rfl) rfl) rfl) rfl))
  (ap (dc (EB (aj (al cr (aE 1) (af 0 rfl)))) Le.refl (cF 10 (get:=ae.yg) (put:=fun s v=>{s with yg:=v})) (ap (aN 11 (get:=ae.yalone) (put:=fun s v=>{s with yalone:=v}) (cM bI (ay m8 (bx (ay lw (bx (jU (bU 3 rfl) (aj (aE 0))) (aD 10 rfl aC)) (br (bD 10 rfl aB)) (bq (bC 10 aA))) aC) (br aB) (bq aA)) (ay m8 (bx (ay lw (bx (jU (bU 3 rfl) (aj (aE 1))) (aD 10 rfl aC)) (br (bD 10 rfl aB)) (bq (bC 10 aA))) aC) (br aB) (bq aA))))
  (di (Γ':=[some ⟨ae.yn,rI⟩,some ⟨ae.yone,(am rI (rM (rM (rM rI))))⟩,some ⟨ae.yother,(am rI (rM (rM (rM rI))))⟩,some ⟨ae.ykept,(rM (am rI (rM (rM (rM rI)))))⟩,some ⟨ae.ydue,(am rI (rL (rL (rL rI))))⟩,some ⟨ae.yfirst,(rL rI)⟩,some ⟨ae.ygroups,(rL rI)⟩,some ⟨ae.ytime,rI⟩,some ⟨ae.ytold,(am rI (rL (rL (rL rI))))⟩,some ⟨ae.ytable_here,(rL rI)⟩,some ⟨ae.yg,rI⟩,some ⟨ae.yalone,rI⟩]) (cg (cM eV (aj (al ee (af 9 rfl) (al bI (af 10 rfl) (aE 1)))) (aj (af 11 rfl)))) g9 cj)))
  (ap (de (xW 8 (get:=ae.ytold) (put:=fun s v=>{s with ytold:=v}) (aE 77) rfl))
  (de (zt 8 (get:=ae.ytold) (put:=fun s v=>{s with ytold:=v}) rfl)))))))))
  (bm (aj (wn true))))))))) (ao dC rfl (ao dC rfl (ao dC rfl aW)))⟩
noncomputable def nM:=oh.1
theorem tD : JF jA nM (Pc rI (Pc (am rI (rL (rL (rL rI)))) (Pc (am rI (rL (rL (rL rI)))) Pn))) rB (Pc rI (Pc (am rI (rM (rM (rM rI)))) (Pc (am rI (rM (rM (rM rI)))) Pn))):=oh.2
structure kQ where
 ymask_here : Int
noncomputable def qG : {f : (Int × Unit) -> Option ((List Int) × (Int × Unit)) // JF kG f (Pc rI Pn) (rL rI) (Pc rI Pn)}:=⟨_,by
 exact bQ (S:=kQ) (N:=1) (W:=[]) (c:=vD) (Γn:=[]) (ro:=(rL rI)) (Γp:=[some ⟨kQ.ymask_here,rI⟩]) (Γr:=[some ⟨kQ.ymask_here,rI⟩]) (init:=(fun p=>(⟨p.1⟩ : kQ))) (aw (get:=kQ.ymask_here) dC (fun _=>rfl) fun _=>bg)
  (bm (dD (jT (aj (aE 41))) Le.refl (eI 1 rfl) (fun x23=>(cg (cM gJ (aj (al cr (al cr (af 0 rfl) (al cr (aE 1) (af 1 rfl))) (aE 2))) (aj (aE 1))))) (fun x23=>(aj (af 1 rfl))))) (ao dC rfl aW)⟩
noncomputable def p6:=qG.1
theorem ve : JF kG p6 (Pc rI Pn) (rL rI) (Pc rI Pn):=qG.2
structure bb where
 ycell : Int
 yn : Int
 ymost : Int
 ydigits : List Int
 ymany : Int
 yviews : List (List (List Int))
 yname : Int
 yrow : List (List Int)
 yj : Int
 ydigit : Int
 ymask_here : Int
noncomputable def qD : {f : (Int × Int × Int × Unit) -> Option ((Int × (List (List (List Int)))) × (Int × Int × Int × Unit)) // JF nh f (Pc rI (Pc rI (Pc rI Pn))) (am rI (rL (rL (rL rI)))) (Pc rI (Pc rI (Pc rI Pn)))}:=⟨_,by
 exact bQ (S:=bb) (N:=11) (W:=[3,4,5,6,7,8,9,10]) (c:=vA) (Γn:=[]) (ro:=(am rI (rL (rL (rL rI))))) (Γp:=[some ⟨bb.ycell,rI⟩,some ⟨bb.yn,rI⟩,some ⟨bb.ymost,rI⟩]) (Γr:=[some ⟨bb.ycell,rI⟩,some ⟨bb.yn,rI⟩,some ⟨bb.ymost,rI⟩,none,none,none,none,none,none,none,none]) (init:=(fun p=>(⟨p.1,p.2.1,p.2.2.1,[],0,[],0,[],0,0,0⟩ : bb))) (aw (get:=bb.ycell) dC (fun _=>rfl) fun _=>(aw (get:=bb.yn) dC (fun _=>rfl) fun _=>(aw (get:=bb.ymost) dC (fun _=>rfl) fun _=>bg)))
  (ap (aN 3 (get:=bb.ydigits) (put:=fun s v=>{s with ydigits:=v}) (ay tG (aD 0 rfl (bx (aj (aE 18)) (bx (aj (aE 65536)) aC))) (bD 0 rfl (br (br aB))) (bC 0 (bq (bq aA)))))
  (ap (aN 4 (get:=bb.ymany) (put:=fun s v=>{s with ymany:=v}) (aj (al cr (al ee (af 3 rfl) (aE 0)) (al bI (af 2 rfl) (aE 1)))))
  (ap (aN 5 (get:=bb.yviews) (put:=fun s v=>{s with yviews:=v}) (cv (cu (r:=(rL (rL rI))))))
  (ap (dc (jT (aj (af 1 rfl))) Le.refl (cF 6 (get:=bb.yname) (put:=fun s v=>{s with yname:=v})) (ap (aN 7 (get:=bb.yrow) (put:=fun s v=>{s with yrow:=v}) (cv (cu (r:=(rL rI)))))
  (ap (dc (jT (aj (al cr (al ee (af 3 rfl) (al bI (aE 1) (af 6 rfl))) (aE 4)))) Le.refl (cF 8 (get:=bb.yj) (put:=fun s v=>{s with yj:=v})) (ap (aN 9 (get:=bb.ydigit) (put:=fun s v=>{s with ydigit:=v}) (aj (al ee (af 3 rfl) (al bI (al bI (aE 5) (al jw (aE 3) (af 6 rfl))) (af 8 rfl)))))
  (ap (aN 10 (get:=bb.ymask_here) (put:=fun s v=>{s with ymask_here:=v}) (aj (al cr (af 9 rfl) (al cr (aE 1) (af 4 rfl)))))
  (ap (di (Γ':=[some ⟨bb.ycell,rI⟩,some ⟨bb.yn,rI⟩,some ⟨bb.ymost,rI⟩,some ⟨bb.ydigits,(rL rI)⟩,some ⟨bb.ymany,rI⟩,some ⟨bb.yviews,(rL (rL (rL rI)))⟩,some ⟨bb.yname,rI⟩,some ⟨bb.yrow,(rL (rL rI))⟩,some ⟨bb.yj,rI⟩,some ⟨bb.ydigit,rI⟩,some ⟨bb.ymask_here,rI⟩]) (cg (cM m7 (aj (af 4 rfl)) (aj (aE 16)))) g9 cj)
  (de (kC 7 (get:=bb.yrow) (put:=fun s v=>{s with yrow:=v}) (ay ve (aD 10 rfl aC) (bD 10 rfl aB) (bC 10 aA)) rfl rfl))))))
  (de (kC 5 (get:=bb.yviews) (put:=fun s v=>{s with yviews:=v}) (eF 7 rfl) rfl rfl)))))
  (bm (i7 (aj (af 4 rfl)) (eF 5 rfl))))))) (ao dC rfl (ao dC rfl (ao dC rfl aW)))⟩
noncomputable def mR:=qD.1
theorem BD : JF nh mR (Pc rI (Pc rI (Pc rI Pn))) (am rI (rL (rL (rL rI)))) (Pc rI (Pc rI (Pc rI Pn))):=qD.2
structure cJ where
 ycell : Int
 yn : Int
 yheap_here : Int × (List (List (List Int)))
noncomputable def oo : {f : (Int × Int × Unit) -> Option ((Int × (List (List (List Int)))) × (Int × Int × Unit)) // JF jE f (Pc rI (Pc rI Pn)) (am rI (rL (rL (rL rI)))) (Pc rI (Pc rI Pn))}:=⟨_,by
 exact bQ (S:=cJ) (N:=3) (W:=[2]) (c:=t7) (Γn:=[]) (ro:=(am rI (rL (rL (rL rI))))) (Γp:=[some ⟨cJ.ycell,rI⟩,some ⟨cJ.yn,rI⟩]) (Γr:=[some ⟨cJ.ycell,rI⟩,some ⟨cJ.yn,rI⟩,none]) (init:=(fun p=>(⟨p.1,p.2.1,(0,[])⟩ : cJ))) (aw (get:=cJ.ycell) dC (fun _=>rfl) fun _=>(aw (get:=cJ.yn) dC (fun _=>rfl) fun _=>bg))
  (ap (aN 2 (get:=cJ.yheap_here) (put:=fun s v=>{s with yheap_here:=v}) (ay BD (aD 0 rfl (aD 1 rfl (bx (aj (aE 6)) aC))) (bD 0 rfl (bD 1 rfl (br aB))) (bC 0 (bC 1 (bq aA)))))
  (ap (di (Γ':=[some ⟨cJ.ycell,rI⟩,some ⟨cJ.yn,rI⟩,some ⟨cJ.yheap_here,(am rI (rL (rL (rL rI))))⟩]) (cg (cM m7 (aj (gH fH (al ee (dB fw (af 2 rfl)) (aE 0)))) (aj (aE 1)))) (zp 2 1 (get:=cJ.yheap_here) (put:=fun s v=>{s with yheap_here:=v}) rfl) cj)
  (ap (di (Γ':=[some ⟨cJ.ycell,rI⟩,some ⟨cJ.yn,rI⟩,some ⟨cJ.yheap_here,(am rI (rL (rL (rL rI))))⟩]) (cg (aj (al gJ (al ee (dB fw (af 2 rfl)) (aE 0)) (z9 (r:=(rL rI)))))) (de (xV 2 (get:=cJ.yheap_here) (put:=fun s v=>{s with yheap_here:=v}) (ay ve (bx (aj (al cr (al cr (af 0 rfl) (aE 8)) (al cr (aE 1) (dB h7 (af 2 rfl))))) aC) (br aB) (bq aA)) rfl)) cj)
  (bm (eF 2 rfl))))) (ao dC rfl (ao dC rfl aW))⟩
noncomputable def nQ:=oo.1
theorem tH : JF jE nQ (Pc rI (Pc rI Pn)) (am rI (rL (rL (rL rI)))) (Pc rI (Pc rI Pn)):=oo.2
structure dU where
 yopeners_here : List Int
 yg : Int
 yopener : Int
noncomputable def oi : {f : ((List Int) × Int × Unit) -> Option (Bool × ((List Int) × Int × Unit)) // JF jB f (Pc (rM rI) (Pc rI Pn)) rB (Pc (rM rI) (Pc rI Pn))}:=⟨_,by
 exact bQ (S:=dU) (N:=3) (W:=[2]) (c:=t0) (Γn:=[]) (ro:=rB) (Γp:=[some ⟨dU.yopeners_here,(rM rI)⟩,some ⟨dU.yg,rI⟩]) (Γr:=[some ⟨dU.yopeners_here,(rM rI)⟩,some ⟨dU.yg,rI⟩,none]) (init:=(fun p=>(⟨p.1,p.2.1,0⟩ : dU))) (aw (get:=dU.yopeners_here) dC (fun _=>rfl) fun _=>(aw (get:=dU.yg) dC (fun _=>rfl) fun _=>bg))
  (ap (dc (cz (bU 0 rfl)) Le.refl (cF 2 (get:=dU.yopener) (put:=fun s v=>{s with yopener:=v})) (di (Γ':=[some ⟨dU.yopeners_here,(rM rI)⟩,some ⟨dU.yg,rI⟩,some ⟨dU.yopener,rI⟩]) (cg (cM gJ (aj (al bI (af 2 rfl) (af 1 rfl))) (aj (af 2 rfl)))) (bm (aj (wn true))) cj))
  (bm (aj (wn false)))) (ao dC rfl (ao dC rfl aW))⟩
noncomputable def nN:=oi.1
theorem tE : JF jB nN (Pc (rM rI) (Pc rI Pn)) rB (Pc (rM rI) (Pc rI Pn)):=oi.2
structure aY where
 yscript : List Int
 yk : Int
 ycell : Int
 ymore : Int
 yn : Int
 yone : List Int
 yother : List Int
 ysafe : Int × (List (List (List Int)))
 yboth_here : List Int
noncomputable def wH : {f : ((List Int) × Unit) -> Option (Bool × ((List Int) × Unit)) // JF jZ f (Pc (rM rI) Pn) rB (Pc (rM rI) Pn)}:=⟨_,by
 exact bQ (S:=aY) (N:=9) (W:=[1,2,3,4,5,6,7,8]) (c:=Al) (Γn:=[]) (ro:=rB) (Γp:=[some ⟨aY.yscript,(rM rI)⟩]) (Γr:=[some ⟨aY.yscript,(rM rI)⟩,none,none,none,none,none,none,none,none]) (init:=(fun p=>(⟨p.1,0,0,0,0,[],[],(0,[]),[]⟩ : aY))) (aw (get:=aY.yscript) dC (fun _=>rfl) fun _=>bg)
  (ap (dc (oT (aj (sf Dg (aE 2) (sf xY (aE 30) (al bI (gH fH (af 0 rfl)) (aE 1)))))) Le.refl (cF 1 (get:=aY.yk) (put:=fun s v=>{s with yk:=v})) (ap (aN 2 (get:=aY.ycell) (put:=fun s v=>{s with ycell:=v}) (ay o6 (aD 0 rfl (aD 1 rfl aC)) (bE 0 rfl (bD 1 rfl aB)) (bM 0 (get:=aY.yscript) (put:=fun s v=>{s with yscript:=v}) (h:=bC 1 aA))))
  (ap (aN 3 (get:=aY.ymore) (put:=fun s v=>{s with ymore:=v}) (ay o6 (aD 0 rfl (bx (aj (al bI (af 1 rfl) (aE 1))) aC)) (bE 0 rfl (br aB)) (bM 0 (get:=aY.yscript) (put:=fun s v=>{s with yscript:=v}) (h:=bq aA))))
  (ap (aN 4 (get:=aY.yn) (put:=fun s v=>{s with yn:=v}) (aj (al bI (aE 2) (al cr (af 2 rfl) (aE 3)))))
  (ap (aN 5 (get:=aY.yone) (put:=fun s v=>{s with yone:=v}) (Ac (ay oW (bx (aj (al cr (af 2 rfl) (aE 3))) (aD 4 rfl aC)) (br (bD 4 rfl aB)) (bq (bC 4 aA))) tu (lu (aE 6))))
  (ap (aN 6 (get:=aY.yother) (put:=fun s v=>{s with yother:=v}) (Ac (ay oW (aD 3 rfl (aD 4 rfl aC)) (bD 3 rfl (bD 4 rfl aB)) (bC 3 (bC 4 aA))) tu (lu (aE 6))))
  (ap (di (Γ':=[some ⟨aY.yscript,(rM rI)⟩,some ⟨aY.yk,rI⟩,some ⟨aY.ycell,rI⟩,some ⟨aY.ymore,rI⟩,some ⟨aY.yn,rI⟩,some ⟨aY.yone,(rM rI)⟩,some ⟨aY.yother,(rM rI)⟩,none,none]) (oQ (cg (ay tD (aD 4 rfl (bx (ay jV (aD 4 rfl (aD 5 rfl aC)) (bD 4 rfl (bE 5 rfl aB)) (bC 4 (bM 5 (get:=aY.yone) (put:=fun s v=>{s with yone:=v}) (h:=aA)))) (bx (ay jV (aD 4 rfl (aD 6 rfl aC)) (bD 4 rfl (bE 6 rfl aB)) (bC 4 (bM 6 (get:=aY.yother) (put:=fun s v=>{s with yother:=v}) (h:=aA)))) aC))) (bD 4 rfl (br (br aB))) (bC 4 (bq (bq aA)))))) g9 cj)
  (ap (di (Γ':=[some ⟨aY.yscript,(rM rI)⟩,some ⟨aY.yk,rI⟩,some ⟨aY.ycell,rI⟩,some ⟨aY.ymore,rI⟩,some ⟨aY.yn,rI⟩,some ⟨aY.yone,(rM rI)⟩,some ⟨aY.yother,(rM rI)⟩,none,none]) (oQ (cg (ay tD (aD 4 rfl (bx (ay tH (bx (aj (al cr (af 2 rfl) (aE 3))) (aD 4 rfl aC)) (br (bD 4 rfl aB)) (bq (bC 4 aA))) (bx (ay tH (aD 3 rfl (aD 4 rfl aC)) (bD 3 rfl (bD 4 rfl aB)) (bC 3 (bC 4 aA))) aC))) (bD 4 rfl (br (br aB))) (bC 4 (bq (bq aA)))))) g9 cj)
  (ap (aN 7 (get:=aY.ysafe) (put:=fun s v=>{s with ysafe:=v}) (ay jz (bx (ay jV (aD 4 rfl (aD 5 rfl aC)) (bD 4 rfl (bE 5 rfl aB)) (bC 4 (bM 5 (get:=aY.yone) (put:=fun s v=>{s with yone:=v}) (h:=aA)))) (bx (ay jV (aD 4 rfl (aD 6 rfl aC)) (bD 4 rfl (bE 6 rfl aB)) (bC 4 (bM 6 (get:=aY.yother) (put:=fun s v=>{s with yother:=v}) (h:=aA)))) aC)) (br (br aB)) (bq (bq aA))))
  (ap (aN 8 (get:=aY.yboth_here) (put:=fun s v=>{s with yboth_here:=v}) (dD (oT (aj (al cr (aE 1) (af 4 rfl)))) Le.refl (eI 9 rfl) (fun x24=>(oR (cg (ay tE (aD 5 rfl (aD 9 rfl aC)) (bE 5 rfl (bD 9 rfl aB)) (bM 5 (get:=aY.yone) (put:=fun s v=>{s with yone:=v}) (h:=bC 9 aA)))) (cg (ay tE (aD 6 rfl (aD 9 rfl aC)) (bE 6 rfl (bD 9 rfl aB)) (bM 6 (get:=aY.yother) (put:=fun s v=>{s with yother:=v}) (h:=bC 9 aA)))))) (fun x24=>(aj (af 9 rfl)))))
  (di (Γ':=[some ⟨aY.yscript,(rM rI)⟩,some ⟨aY.yk,rI⟩,some ⟨aY.ycell,rI⟩,some ⟨aY.ymore,rI⟩,some ⟨aY.yn,rI⟩,some ⟨aY.yone,(rM rI)⟩,some ⟨aY.yother,(rM rI)⟩,some ⟨aY.ysafe,(am rI (rM (rM (rM rI))))⟩,some ⟨aY.yboth_here,(rL rI)⟩]) (cg (cM eV (ay ny (aD 7 rfl aC) (bE 7 rfl aB) (bM 7 (get:=aY.ysafe) (put:=fun s v=>{s with ysafe:=v}) (h:=aA))) (ay tF (aD 4 rfl (aD 8 rfl aC)) (bD 4 rfl (bE 8 rfl aB)) (bC 4 (bM 8 (get:=aY.yboth_here) (put:=fun s v=>{s with yboth_here:=v}) (h:=aA)))))) g9 cj)))))))))))
  (bm (aj (wn true)))) (ao dC rfl aW)⟩
noncomputable def vU:=wH.1
theorem EF : JF jZ vU (Pc (rM rI) Pn) rB (Pc (rM rI) Pn):=wH.2
end LW
namespace LW
open PySem L2 DD TT RK
theorem gU {n x : Int} (h : x ∈ rng 0 n) : ∃ k : Nat,x = (k : Int) /\ (k : Int) < n:=by
 unfold rng at h;obtain ⟨k,hk,rfl⟩:=List.mem_map.mp h;rw [List.mem_range] at hk;exact ⟨k,by omega,by omega⟩
theorem fW (n : Int) : (rng 0 n).length = n.toNat:=by simp [rng]
theorem jp {n k : Int} {j : Nat} (h : (rng 0 n)[j]? = some k) : k = (j : Int) /\ (j : Int) < n:=by
 unfold rng at h;rw [List.getElem?_map] at h;rcases hk : (List.range (n - 0).toNat)[j]? with _ | i
 ·rw [hk] at h; cases h
 ·rw [hk] at h
  have hl:=(List.getElem?_eq_some_iff.mp hk).1;have hj:=(List.getElem?_eq_some_iff.mp hk).2;simp only [List.length_range] at hl;simp only [List.getElem_range] at hj;subst hj;simp only [map_some,Option.some.injEq] at h;omega
theorem fF {x : Int} (h0 : 0 <= x) (h1 : x <= 1000) : decide (0 <= x /\ x <= 1000000 /\ Int.natAbs 1 < 2 ^ 64) = true:=decide_eq_true ⟨h0,by omega,by decide⟩
theorem d2 : decide ((0 : Int) < 2) = true:=by decide
theorem eG {S ρ : Type} {f g : S -> Option (TR S ρ)} {s s1 : S} (Q : Option (TR S ρ) -> Prop) (h1 : f s = some (TR.nx s1)) (h2 : Q (g s1)) : Q (TT.tSeq f g s):=by
 unfold TT.tSeq; rw [h1]; exact h2
theorem Ca {S ρ : Type} {f g : S -> Option (TR S ρ)} {s : S} {P : S -> Prop} (Q : Option (TR S ρ) -> Prop) (h1 : ∃ s1,f s = some (TR.nx s1) /\ P s1) (h2 : ∀ s1,P s1 -> Q (g s1)) : Q (TT.tSeq f g s):=by
 obtain ⟨s1,e,p⟩:=h1;exact eG Q e (h2 s1 p)
theorem eS {S α ρ γ γ' : Type} {put : S -> α -> S} {b : S -> Option (TR S ρ)} {xs : List α} {s : S} {k : TR S ρ -> Option γ'} {k2 : γ' -> Option γ} {P : S -> Prop} (Q : Option γ -> Prop) (h : ∃ s',dI put b xs s = some (.nx s') /\ P s') (hk : ∀ s',P s' -> Q ((k (.nx s')).bind k2)) : Q (((dI put b xs s).bind k).bind k2):=by
 obtain ⟨a,e,p⟩:=h;rw [e]; exact hk a p
noncomputable def e3 (l : L3) : Int × Int × Int:=(((2 ^ l.1 : Nat) : Int),(l.2.1 : Int),(l.2.2 : Int))
noncomputable def oP (c : Int × Int) (x : Int × Int × Int) : Int × Int:=if (!(Builtin.bitAnd c.1 x.1 == 0)) = true then (Builtin.bitXor c.1 x.2.1,Builtin.bitXor c.2 x.2.2) else c
theorem xP : ∀ (ls : List L3) (x : Nat × Nat),(ls.map e3).foldl oP ((x.1 : Int),(x.2 : Int)) = (((eZ ls x).1 : Int),((eZ ls x).2 : Int)):=by
 intro ls
 induction ls with
 | nil=>intro x; rfl
 | cons l ls ih =>
  intro x;simp only [List.map_cons,List.foldl_cons,eZ] at ih ⊢;have e : oP ((x.1 : Int),(x.2 : Int)) (e3 l) = (((if x.1.testBit l.1 = true then (x.1 ^^^ l.2.1,x.2 ^^^ l.2.2) else x).1 : Int),((if x.1.testBit l.1 = true then (x.1 ^^^ l.2.1,x.2 ^^^ l.2.2) else x).2 : Int)):=by
   unfold oP e3;rw [qm];by_cases h : x.1.testBit l.1 = true
   ·simp only [if_pos h,oa]
   ·simp only [if_neg h]
  rw [e];exact ih _
theorem C2 (ls : List L3) (m q : Nat) : h8 (ls.map e3,(m : Int),(q : Int),()) = some ((((eZ ls (m,q)).1 : Int),((eZ ls (m,q)).2 : Int)),ls.map e3,(m : Int),(q : Int),()):=by
 have h:=xP ls (m,q);unfold h8 jI;simp only [TT.tSeq,bind_some,map_some];rw [Option.bind_assoc];refine jS (S:=av) (P:=fun s=>s.xlines = ls.map e3 /\ (s.xmask,s.xmade) = (((eZ ls (m,q)).1 : Int),((eZ ls (m,q)).2 : Int))) ?_ ?_
 ·rw [<- h]
  obtain ⟨s',h1,h2,h3⟩:=qT (S:=av) (ρ:=Int × Int) (v:=fun s=>(s.xmask,s.xmade)) (f:=oP) (I:=fun s=>s.xlines = ls.map e3) (J:=fun _=>True) (xs:=ls.map e3) (s:=⟨ls.map e3,(m : Int),(q : Int),0,0,0⟩)
   (put:=fun s v=>{ xlines:=s.xlines,xmask:=s.xmask,xmade:=s.xmade,xlead:=v.fst,xother:=v.snd.fst,xhow:=v.snd.snd })
   (b:=fun s=>(Option.map (fun v=>(v,s)) (if (Py.ok TT.rI (Builtin.bitAnd s.xmask s.xlead) && Py.ok TT.rI 0 && decide (min (Py.k TT.rI) (Py.k TT.rI) <= 50)) = true then some !Builtin.bitAnd s.xmask s.xlead == 0 else none)).bind fun p=>if p.fst = true then some (TR.nx { xlines:=p.snd.xlines,xmask:=Builtin.bitXor p.snd.xmask p.snd.xother,xmade:=Builtin.bitXor p.snd.xmade p.snd.xhow,xlead:=p.snd.xlead,xother:=p.snd.xother,xhow:=p.snd.xhow }) else some (TR.nx p.snd))
   (fun s x _ hi _=>by
    dsimp only;rw [aF iW];simp only [map_some,bind_some];unfold oP;cases hb : (!Builtin.bitAnd s.xmask x.1 == 0)
    ·simp only [Bool.false_eq_true,if_false]
     exact ⟨_,rfl,hi,rfl⟩
    ·simp only [if_true]
     exact ⟨_,rfl,hi,rfl⟩) (fun _ _ _ _=>trivial) rfl trivial
  exact ⟨s',h1,h2,h3⟩
 ·intro s' hs
  obtain ⟨a1,a2,a3,a4,a5,a6⟩:=s';obtain ⟨f1,f2⟩:=hs;dsimp only at f1 f2;subst f1;simp only [bind_some,f2]
theorem Dq (m q : Nat) (l : L3) : e3 (ke m q l) = if (!(Builtin.bitAnd (e3 l).2.1 ((2 ^ m.log2 : Nat) : Int) == 0)) = true then ((e3 l).1,Builtin.bitXor (e3 l).2.1 (m : Int),Builtin.bitXor (e3 l).2.2 (q : Int)) else e3 l:=by
 unfold e3;rw [qm];unfold ke;by_cases h : l.2.1.testBit m.log2 = true
 ·simp only [if_pos h,oa]
 ·simp only [if_neg h]
theorem BZ {ls : List L3} (hl : ls.length <= 900) {m q : Nat} (h0 : m ≠ 0) (hm : m.log2 <= 900) : j5 (ls.map e3,(m : Int),(q : Int),()) = some ((iZ ls m q).map e3,ls.map e3,(m : Int),(q : Int),()):=by
 have hz : ej ([] : List (Int × Int × Int)).length = true:=cS (by simp);have h1 : ∀ x : Int × Int × Int,ej ([x] : List (Int × Int × Int)).length = true:=fun x=>cS (by simp)
 unfold j5 kf;simp only [TT.tSeq,bind_some,map_some];rw [zP h0,aF (fF oM oM),Int.toNat_natCast,gq];simp only [bind_some,map_some,aF hz];rw [Option.bind_assoc];refine jS (S:=aU) (P:=fun s=>s.xlines = ls.map e3 /\ s.xmask = (m : Int) /\ s.xmade = (q : Int) /\ s.xlead = ((2 ^ m.log2 : Nat) : Int) /\ s.xchanged = (ls.map (ke m q)).map e3) ?_ ?_
 ·refine dA (S:=aU) (fun j s=>s.xlines = ls.map e3 /\ s.xmask = (m : Int) /\ s.xmade = (q : Int) /\ s.xlead = ((2 ^ m.log2 : Nat) : Int) /\ s.xchanged = ((ls.take j).map (ke m q)).map e3) ⟨rfl,rfl,rfl,rfl,rfl⟩ ?_ (fun s h=>⟨h.1,h.2.1,h.2.2.1,h.2.2.2.1,by rw [h.2.2.2.2,List.take_of_length_le (by simp)]⟩)
  intro j s x hx hi;obtain ⟨a1,a2,a3,a4,a5,a6,a7,a8⟩:=s;obtain ⟨f1,f2,f3,f4,f5⟩:=hi;dsimp only at f1 f2 f3 f4 f5;cases f1.symm; cases f2.symm; cases f3.symm; cases f4.symm;rw [List.getElem?_map] at hx;rcases hk : ls[j]? with _ | l
  ·rw [hk] at hx; cases hx
  ·rw [hk] at hx
   simp only [map_some,Option.some.injEq] at hx;subst hx;have hjl:=(List.getElem?_eq_some_iff.mp hk).1;have ht : ((ls.take (j + 1)).map (ke m q)).map e3 = a5 ++ [e3 (ke m q l)]:=by
    rw [f5,List.take_succ,hk]; simp
   have hlen : a5.length <= 1000:=by rw [f5]; simp; omega
   have ec:=Dq m q l;dsimp only;rw [aF iW];simp only [map_some,bind_some];cases hb : (!Builtin.bitAnd (e3 l).2.1 ((2 ^ m.log2 : Nat) : Int) == 0)
   ·rw [hb] at ec
    simp only [Bool.false_eq_true,if_false] at ec ⊢;rw [aF (jR hlen)];exact ⟨_,rfl,rfl,rfl,rfl,rfl,by rw [ht,ec]⟩
   ·rw [hb] at ec
    simp only [if_true] at ec ⊢;rw [aF (jR hlen)];exact ⟨_,rfl,rfl,rfl,rfl,rfl,by rw [ht,ec]⟩
 ·intro s' hs
  obtain ⟨a1,a2,a3,a4,a5,a6,a7,a8⟩:=s';obtain ⟨f1,f2,f3,f4,f5⟩:=hs;dsimp only at f1 f2 f3 f4 f5;subst f1; subst f2; subst f3; subst f4; subst f5;simp only [bind_some,aF (h1 _),map_some];rw [aF (cS (by simp; omega))];simp only [bind_some,map_some];congr 1;unfold iZ;rw [List.map_append];rfl
noncomputable def mk (v : List Int) : Nat:=(v.map fun c=>2 ^ c.toNat).sum
theorem nY : ∀ v,mZ v = (mk v : Int):=by
 intro v
 induction v with
 | nil=>rfl
 | cons c v ih =>
  have e1 : mZ (c :: v) = 1 * 2 ^ c.toNat + mZ v:=by simp only [mZ,List.map_cons,List.sum_cons]
  have e2 : mk (c :: v) = 2 ^ c.toNat + mk v:=by simp only [mk,List.map_cons,List.sum_cons]
  rw [e1,e2,ih,gq,Int.natCast_add]
noncomputable def VO (B : Nat) (v : List Int) : Prop:=v.length <= 1000 /\ (∀ c ∈ v,0 <= c /\ c <= 1000) /\ mk v < 2 ^ B
theorem C1 {B : Nat} {v : List Int} (h : VO B v) : me (v,()) = some ((mk v : Int),v,()):=by
 obtain ⟨hl,hv,_⟩:=h;unfold me mL;simp only [TT.tSeq,bind_some,map_some];rw [aF (cS hl),fg (f:=fun c=>(1 : Int) * 2 ^ c.toNat) (fun _ _=>rfl) (fun c hc=>by rw [aF (fF (hv c hc).1 (hv c hc).2)]; rfl)];simp only [bind_some,if_true,map_some];have e : (v.map fun c=>(1 : Int) * 2 ^ c.toNat).sum = (mk v : Int):=nY v;rw [e]
theorem uy : ∀ (ms : List Nat) (ls : List L3) (n m : Nat),eB ls n (ms ++ [m]) = fK (eB ls n ms) m (2 ^ (n + ms.length)):=by
 intro ms
 induction ms with
 | nil=>intro ls n m; rfl
 | cons a ms ih=>intro ls n m; simp only [List.cons_append,eB,ih,List.length_cons]; congr 2; omega
theorem xO {B : Nat} : ∀ (ms : List Nat) (ls : List L3) (n : Nat),Bd B ls -> (∀ m ∈ ms,m < 2 ^ B) -> Bd B (eB ls n ms) /\ (eB ls n ms).length <= ls.length + ms.length:=by
 intro ms
 induction ms with
 | nil=>intro ls n h _; exact ⟨h,by simp [eB]⟩
 | cons m ms ih =>
  intro ls n h hm;have h1:=ih (fK ls m (2 ^ n)) (n + 1) (yM h (hm m (by simp))) fun x hx=>hm x (by simp [hx])
  have h2:=wU ls m (2 ^ n);refine ⟨h1.1,?_⟩;simp only [eB,List.length_cons];omega
theorem BP {α : Type} : ∀ (xs : List α) (n j : Nat),(pf n xs)[j]? = (xs[j]?).map fun x=>(((n + j : Nat) : Int),x):=by
 intro xs
 induction xs with
 | nil=>intro n j; simp [pf]
 | cons x xs ih =>
  intro n j;cases j with
  | zero=>simp [pf]
  | succ j=>simp only [pf,List.getElem?_cons_succ,ih]; rw [show n + 1 + j = n + (j + 1) by omega]
noncomputable def GK (vs : List (List Int)) (ls : List L3) (o : Option (TR bj (List (Int × Int × Int)))) : Prop:=∃ s : bj,o = some (TR.nx s) /\ s.xviews = vs /\ s.xlines = ls.map e3
theorem Bt {B : Nat} (hB : B <= 900) {vs : List (List Int)} (hl : vs.length <= 800) (hv : ∀ v ∈ vs,VO B v) : ld (vs,()) = some ((eB [] 0 (vs.map mk)).map e3,vs,()):=by
 have hz : ej ([] : List (Int × Int × Int)).length = true:=cS (by simp);have hms : ∀ m ∈ vs.map mk,m < 2 ^ B:=fun m hm=>by obtain ⟨v,h,rfl⟩:=List.mem_map.mp hm; exact (hv v h).2.2
 unfold ld lK;simp only [TT.tSeq,bind_some,map_some,aF hz];rw [Option.bind_assoc];refine jS (S:=bj) (P:=fun s=>s.xviews = vs /\ s.xlines = (eB [] 0 (vs.map mk)).map e3) ?_ ?_
 ·refine dA (S:=bj) (fun j s=>s.xviews = vs /\ s.xlines = (eB [] 0 ((vs.map mk).take j)).map e3) ⟨rfl,rfl⟩ ?_ (fun s h=>⟨h.1,by rw [h.2,List.take_of_length_le (by rw [vk]; simp)]⟩)
  intro j s x hx hi;obtain ⟨a1,a2,a3,a4,a5⟩:=s;obtain ⟨f1,f2⟩:=hi;dsimp only at f1 f2;cases f1.symm; cases f2.symm;rw [BP] at hx;rcases hk : vs[j]? with _ | v
  ·rw [hk] at hx; cases hx
  ·rw [hk] at hx
   simp only [map_some,Option.some.injEq,Nat.zero_add] at hx;subst hx;have hjl:=(List.getElem?_eq_some_iff.mp hk).1;have hvo:=hv v (List.mem_of_getElem? hk);have hk2 : (vs.map mk)[j]? = some (mk v):=by rw [List.getElem?_map,hk]; rfl
   have hlt : ((vs.map mk).take j).length = j:=by simp; omega
   have et : (vs.map mk).take (j + 1) = (vs.map mk).take j ++ [mk v]:=by rw [List.take_succ,hk2]; rfl
   have ok:=xO (B:=B) ((vs.map mk).take j) [] 0 (fun l h=>by cases h) (fun m hm=>hms m (List.mem_of_mem_take hm));rw [et,uy,hlt,Nat.zero_add];generalize eB [] 0 ((vs.map mk).take j) = ls at ok ⊢;have hll : ls.length <= 800:=by have:=ok.2; simp only [List.length_nil] at this; omega
   show GK vs (fK ls (mk v) (2 ^ j)) _;refine eG _ (s1:=⟨vs,ls.map e3,(j : Int),v,(((eZ ls (mk v,2 ^ j)).1 : Int),((eZ ls (mk v,2 ^ j)).2 : Int))⟩) (by
    dsimp only;rw [C1 hvo];simp only [map_some,bind_some];rw [aF (fF oM oM),Int.toNat_natCast,gq];simp only [map_some,bind_some];rw [C2];rfl) ?_
   dsimp only;rw [aF iW];simp only [map_some,bind_some];have hbd:=u0 ok.1 (x:=(mk v,2 ^ j)) hvo.2.2;by_cases h0 : (eZ ls (mk v,2 ^ j)).1 = 0
   ·have es : fK ls (mk v) (2 ^ j) = ls:=by unfold fK; rw [if_neg (by simpa using h0)]
    rw [h0,es];exact ⟨_,rfl,rfl,rfl⟩
   ·have es : fK ls (mk v) (2 ^ j) = iZ ls (eZ ls (mk v,2 ^ j)).1 (eZ ls (mk v,2 ^ j)).2:=by unfold fK; rw [if_pos h0]
    have en : (!(((eZ ls (mk v,2 ^ j)).1 : Int) == 0)) = true:=by
     rw [Bool.not_eq_true',beq_eq_false_iff_ne]; omega
    have hlg:=log2_lt h0 hbd;rw [es,en,if_pos rfl,BZ oM h0 oM];exact ⟨_,rfl,rfl,rfl⟩
 ·intro s' hs
  obtain ⟨a1,a2,a3,a4,a5⟩:=s';obtain ⟨f1,f2⟩:=hs;dsimp only at f1 f2;subst f1; subst f2;rfl
theorem Ci {B : Nat} (hB : B <= 900) {vs : List (List Int)} (hl : vs.length <= 800) (hv : ∀ v ∈ vs,VO B v) : md (vs,()) = some (((rk (vs.map mk) : Nat) : Int),vs,()):=by
 unfold md mK;simp only [Bt hB hl hv,bind_some,map_some,List.length_map,wl]
theorem wk {S ρ α : Type} {f : α -> S -> S} : ∀ (xs : List α) (s : S),fQ (ρ:=ρ) (fun x s=>some (TR.nx (f x s))) xs s = some (TR.nx (xs.foldl (fun s x=>f x s) s)):=by
 intro xs
 induction xs with
 | nil=>intro s; rfl
 | cons x xs ih=>intro s; simp only [fQ,bind_some,ih,List.foldl_cons]
theorem wm : ∀ (rows : List Nat) (m : Nat),(rows.map fun (r : Nat)=>(r : Int)).foldl (fun (c r : Int)=>if Builtin.bitXor c r < c then Builtin.bitXor c r else c) (m : Int) = (ce rows m : Int):=by
 intro rows
 induction rows with
 | nil=>intro m; rfl
 | cons r rows ih =>
  intro m;simp only [List.map_cons,List.foldl_cons,ce] at ih ⊢;rw [oa];by_cases h : m ^^^ r < m
  ·rw [if_pos oM,Nat.min_eq_right oM]; exact ih _
  ·rw [if_neg oM,Nat.min_eq_left oM]; exact ih _
noncomputable def GL (ms : List Int) (rows : List Nat) (o : Option (TR ck Int)) : Prop:=∃ s : ck,o = some (TR.nx s) /\ s.ymasks_here = ms /\ s.yrows = rows.map fun (r : Nat)=>(r : Int)
theorem xL : ∀ (ms rows : List Nat),(ms.foldl ci rows).length <= rows.length + ms.length:=by
 intro ms
 induction ms with
 | nil=>intro rows; simp
 | cons m ms ih =>
  intro rows;have h:=ih (ci rows m);have : (ci rows m).length <= rows.length + 1:=by unfold ci; split <;> simp
  simp only [List.foldl_cons,List.length_cons];omega
theorem m5 {ms : List Nat} (hl : ms.length <= 900) : pX (ms.map fun (m : Nat)=>(m : Int),()) = some (((rk ms : Nat) : Int),ms.map fun (m : Nat)=>(m : Int),()):=by
 have hz : ej ([] : List Int).length = true:=cS (by simp);unfold pX qB;simp only [TT.tSeq,bind_some,map_some,aF hz];rw [Option.bind_assoc];refine jS (S:=ck) (P:=fun s=>s.ymasks_here = (ms.map fun (m : Nat)=>(m : Int)) /\ s.yrows = (ms.foldl ci []).map fun (r : Nat)=>(r : Int)) ?_ ?_
 ·refine dA (S:=ck) (fun j s=>s.ymasks_here = (ms.map fun (m : Nat)=>(m : Int)) /\ s.yrows = ((ms.take j).foldl ci []).map fun (r : Nat)=>(r : Int)) ⟨rfl,rfl⟩ ?_ (fun s h=>⟨h.1,by rw [h.2,List.take_of_length_le (by simp)]⟩)
  intro j s x hx hi;obtain ⟨a1,a2,a3⟩:=s;obtain ⟨f1,f2⟩:=hi;dsimp only at f1 f2;cases f1.symm; cases f2.symm;rw [List.getElem?_map] at hx;rcases hk : ms[j]? with _ | m
  ·rw [hk] at hx; cases hx
  ·rw [hk] at hx
   simp only [map_some,Option.some.injEq] at hx;subst hx;have hjl:=(List.getElem?_eq_some_iff.mp hk).1;have et : (ms.take (j + 1)).foldl ci [] = ci ((ms.take j).foldl ci []) m:=by rw [List.take_succ,hk]; simp
   have hlen:=xL (ms.take j) [];have hlt : (ms.take j).length = j:=by simp; omega
   rw [hlt] at hlen;rw [et];generalize (ms.take j).foldl ci [] = rows at hlen ⊢;show GL _ (ci rows m) _;refine eG _ (s1:=⟨ms.map fun (m : Nat)=>(m : Int),rows.map fun (r : Nat)=>(r : Int),(ce rows m : Int)⟩) (by
    dsimp only;rw [wk (f:=fun x9 (s : ck)=>(⟨s.ymasks_here,s.yrows,if Builtin.bitXor s.ymask_here x9 < s.ymask_here then Builtin.bitXor s.ymask_here x9 else s.ymask_here⟩ : ck))];simp only [map_some,TR.upd];have key : ∀ (xs : List Int) (s : ck),xs.foldl (fun (s : ck) x9=>(⟨s.ymasks_here,s.yrows,if Builtin.bitXor s.ymask_here x9 < s.ymask_here then Builtin.bitXor s.ymask_here x9 else s.ymask_here⟩ : ck)) s = ⟨s.ymasks_here,s.yrows,xs.foldl (fun c r=>if Builtin.bitXor c r < c then Builtin.bitXor c r else c) s.ymask_here⟩:=by
     intro xs
     induction xs with
     | nil=>intro s; rfl
     | cons x xs ih=>intro s; simp only [List.foldl_cons,ih]
    rw [key];dsimp only;rw [wm]) ?_
   dsimp only;by_cases h0 : ce rows m > 0
   ·have es : ci rows m = rows ++ [ce rows m]:=by unfold ci; rw [if_pos h0]
    rw [show decide ((0 : Int) < (ce rows m : Int)) = true from decide_eq_true oM,if_pos rfl,es];rw [aF (jR (by simp at hlen ⊢; omega))];exact ⟨_,rfl,rfl,by simp⟩
   ·have es : ci rows m = rows:=by unfold ci; rw [if_neg h0]
    rw [show decide ((0 : Int) < (ce rows m : Int)) = false from decide_eq_false oM,es];exact ⟨_,rfl,rfl,rfl⟩
 ·intro s' hs
  obtain ⟨a1,a2,a3⟩:=s';obtain ⟨f1,f2⟩:=hs;dsimp only at f1 f2;subst f1; subst f2;simp only [bind_some,List.length_map,nZ];rfl
theorem Ev (q : Int -> Bool) (n : Nat) : mk ((rng 0 n).filter q) = S2 (fun k=>q (k : Int)) n:=by
 have h:=Bm q n;rw [nY] at h;omega
noncomputable def gb (g : Nat) (k : Int) : Bool:=g.testBit k.toNat
theorem Bg {n : Nat} (hn : n <= 900) (g : Nat) : kU ((n : Int),(g : Int),()) = some ((rng 0 n).filter (gb g),(n : Int),(g : Int),()):=by
 unfold kU lH;simp only [TT.tSeq,bind_some,map_some,aF (nr (z:=(n : Int)) oM oM)];rw [aF (cS (by rw [fW]; omega)),gZ (p:=gb g) (f:=fun x=>x) (fun x hx=>by
  obtain ⟨k,rfl,hk⟩:=gU hx;rw [aF (fF oM oM)];simp only [bind_some,Int.toNat_natCast,map_some,aF iW];rw [gq,qm];rfl) (fun x _ _=>rfl)]
 simp only [List.map_id',map_some,bind_some]
structure WG (B n : Nat) (h : Int × List (List (List Int))) : Prop where
 hB : B <= 900
 len : h.2.length = n
 n4 : 1 <= n /\ n <= 4
 row : ∀ r ∈ h.2,r.length <= 20 /\ ∀ v ∈ r,VO B v
noncomputable def cL (h : Int × List (List (List Int))) (k : Int) : List (List Int):=h.2.getD k.toNat []
theorem WG.at {B n : Nat} {h : Int × List (List (List Int))} (w : WG B n h) {k : Nat} (hk : k < n) : atI h.2 (k : Int) = some (cL h k) /\ (cL h k).length <= 20 /\ ∀ v ∈ cL h k,VO B v:=by
 have hl:=w.len;have hk2 : k < h.2.length:=by omega
 have e : cL h k = h.2[k]:=by simp [cL,List.getD,hk2]
 rw [e];exact ⟨iN hk2,w.row _ (List.getElem_mem hk2)⟩
noncomputable def VW (h : Int × List (List (List Int))) (n : Nat) (g : Nat) : List (List Int):=((rng 0 n).filter (gb g)).flatMap (cL h)
theorem pM {B n : Nat} {h : Int × List (List (List Int))} (w : WG B n h) {g : Nat} : ∀ v ∈ VW h n g,VO B v:=by
 intro v hv;obtain ⟨k,hk,hv⟩:=List.mem_flatMap.mp hv;obtain ⟨j,rfl,hj⟩:=gU (List.mem_filter.mp hk).1;exact (w.at oM).2.2 v hv
theorem wT {α β : Type} {xs : List α} {f : α -> List β} {j : Nat} {x : α} (h : xs[j]? = some x) : (xs.take (j + 1)).flatMap f = (xs.take j).flatMap f ++ f x:=by
 rw [List.take_succ,h,List.flatMap_append];simp
theorem uF {B n : Nat} {h : Int × List (List (List Int))} (w : WG B n h) (g : Nat) : kT (h,(g : Int),()) = some (VW h n g,h,(g : Int),()) /\ (VW h n g).length <= 80:=by
 have h0 : ej ([] : List (List Int)).length = true:=cS (by simp);have h4:=w.n4;have hxl : ((rng 0 n).filter (gb g)).length <= 4:=by
  have:=List.length_filter_le (gb g) (rng 0 n)
  rw [fW] at this;omega
 have hn:=Bg (n:=n) oM g;have key : ∃ s' : cB,dI (ρ:=List (List Int)) (fun (s : cB) v=>{ xheap:=s.xheap,xg:=s.xg,xfound:=s.xfound,xname:=v }) (fun s=>Option.map (fun p=>TR.nx p.snd) ((Option.map (fun v=>(v,s)) (atI s.xheap.snd s.xname)).bind fun p=>if ej (p.snd.xfound.length + p.fst.length) = true then some ((),{ xheap:=p.snd.xheap,xg:=p.snd.xg,xfound:=p.snd.xfound ++ p.fst,xname:=p.snd.xname }) else none)) ((rng 0 n).filter (gb g)) { xheap:=h,xg:=(g : Int),xfound:=[],xname:=0 } = some (TR.nx s') /\ s'.xheap = h /\ s'.xg = (g : Int) /\ s'.xfound = VW h n g /\ s'.xfound.length <= 80:=by
  refine dA (S:=cB) (fun j s=>s.xheap = h /\ s.xg = (g : Int) /\ s.xfound = (((rng 0 n).filter (gb g)).take j).flatMap (cL h) /\ s.xfound.length <= 20 * j) ⟨rfl,rfl,rfl,Nat.le_refl _⟩ ?_ (fun s q=>⟨q.1,q.2.1,by rw [q.2.2.1,List.take_length]; rfl,by have:=q.2.2.2; omega⟩);intro j s x hx hi;obtain ⟨a1,a2,a3,a4⟩:=s;obtain ⟨e1,e2,e3,e4⟩:=hi;dsimp only at e1 e2 e3 e4;subst e1; subst e2;have hj:=(List.getElem?_eq_some_iff.mp hx).1;obtain ⟨k,rfl,hk⟩:=gU (List.mem_filter.mp (List.mem_of_getElem? hx)).1;obtain ⟨q1,q2,q3⟩:=w.at (k:=k) oM;dsimp only;rw [q1];simp only [map_some,bind_some];rw [aF (cS oM)];exact ⟨_,rfl,rfl,rfl,by rw [wT hx,<- e3],by simp; omega⟩
 obtain ⟨s',e,p1,p2,p3,p4⟩:=key;obtain ⟨b1,b2,b3,b4⟩:=s';dsimp only at p1 p2 p3 p4;subst p1; subst p2; subst p3;refine ⟨?_,p4⟩;unfold kT lG;simp only [TT.tSeq,bind_some,map_some,aF h0];rw [w.len,hn];simp only [map_some,bind_some];rw [e];rfl
noncomputable def rg (h : Int × List (List (List Int))) (n g : Nat) : Nat:=rk ((VW h n g).map mk)
noncomputable def j4 (h : Int × List (List (List Int))) (n : Nat) : List Int:=(rng 1 ((2 ^ n : Nat) : Int)).map fun g=>((rg h n g.toNat : Nat) : Int)
theorem Dv {n : Nat} (hn : n <= 900) : j7 ((n : Int),()) = some (((2 ^ n : Nat) : Int) - 1,(n : Int),()):=by
 unfold j7 kh;simp only [TT.tSeq,bind_some,map_some];rw [aF (fF oM oM),Int.toNat_natCast,gq];rfl
theorem yT {N : Nat} {x : Int} (h : x ∈ rng 1 (N : Int)) : ∃ k : Nat,x = (k : Int) /\ 1 <= k /\ k < N:=by
 unfold rng at h;obtain ⟨k,hk,rfl⟩:=List.mem_map.mp h;rw [List.mem_range] at hk;exact ⟨k + 1,by omega,by omega,by omega⟩
theorem sD (N : Nat) : (rng 1 (N : Int)).length = N - 1:=by simp [rng]
theorem v4 {n : Nat} (h : n <= 4) : 1 <= 2 ^ n /\ 2 ^ n <= 16:=⟨Nat.pow_pos dC,show 2 ^ n <= 2 ^ 4 from Nat.pow_le_pow_right dC h⟩
theorem uH {B n : Nat} {h : Int × List (List (List Int))} (w : WG B n h) : je (h,()) = some (j4 h n,h,()):=by
 have h4:=w.n4;have hp:=v4 h4.2;have hB:=w.hB;unfold je jK;simp only [TT.tSeq,bind_some,map_some];rw [w.len,Dv oM];simp only [bind_some,map_some,Int.sub_add_cancel];rw [aF (show (jo 1 && jo ((2 ^ n : Nat) : Int)) = true by rw [nr (z:=1) oM oM,nr oM oM]; rfl)];simp only [bind_some];rw [aF (cS (by rw [sD]; omega)),fg (f:=fun g=>((rg h n g.toNat : Nat) : Int)) (fun _ _=>rfl) (fun g hg=>by
  obtain ⟨k,rfl,_,_⟩:=yT hg;obtain ⟨q1,q2⟩:=uF w k;dsimp only;rw [q1];simp only [bind_some,map_some];rw [Ci hB oM (pM w)];rfl)]
 simp only [map_some,bind_some];rfl
end LW
namespace LW
open PySem L2 DD TT
theorem Gy : decide ((0 : Int) <= 18 /\ (18 : Int) <= 1000000 /\ Int.natAbs 10 < 2 ^ 64) = true:=by decide
noncomputable def Drw (b : Int) (fs : List Int) : Prop:=∀ d ∈ fs,0 <= d /\ d < b
theorem Drw.snoc {b x : Int} {fs : List Int} (h : Drw b fs) (h0 : 0 <= x) (h1 : x < b) : Drw b (fs ++ [x]):=by
 intro d hd;rw [List.mem_append,List.mem_singleton] at hd;rcases hd with hd | rfl
 ·exact h d hd
 ·exact ⟨h0,h1⟩
theorem vo (c : Int) {n b : Int} (hn : 0 <= n /\ n <= 100) (hb : 1 <= b /\ b <= 1000000) : ∃ ds : List Int,nP (c,n,b,()) = some (ds,c,n,b,()) /\ ds.length = n.toNat /\ Drw b ds:=by
 have h0 : ej ([] : List Int).length = true:=cS (by simp);have db : decide (0 < b) = true:=decide_eq_true oM;have fb : ∀ x,mB x b = true:=fun x=>tQ (by
  refine decide_eq_true ⟨by omega,?_⟩;have h1 : b.natAbs < 2 ^ 64:=by omega
  have h2:=(Nat.log2_lt (n:=b.natAbs) (k:=64) oM).mpr h1;omega)
 have f64 : ∀ x,mB x 64 = true:=fun x=>tQ (by decide +kernel)
 have d5 : decide ((0 : Int) < 2147483629) = true:=by decide
 have d3 : decide ((0 : Int) < 2147483587) = true:=by decide
 have m1 : ∀ q : Int,ju q 69621 = true:=fun q=>qk oM
 have m2 : ∀ q : Int,ju 7919 q = true:=fun q=>qk oM
 have m3 : ∀ q : Int,ju 17 q = true:=fun q=>qk oM
 have m4 : ∀ q : Int,ju (q % 2147483629) (q % 2147483629) = true:=fun q=>qk oM
 have z0 : ∀ q : Int,0 <= q % b:=fun q=>Int.emod_nonneg q oM
 have z1 : ∀ q : Int,q % b < b:=fun q=>Int.emod_lt_of_pos q oM
 unfold nP om;simp only [TT.tSeq,bind_some,map_some,aF h0,aF (nr (z:=n) oM oM),Option.bind_assoc];refine wj (S:=bF) (P:=fun s=>s.ycell = c /\ s.ymany = n /\ s.ybase = b /\ s.yfound.length = n.toNat /\ Drw b s.yfound) (fun o=>∃ ds : List Int,o = some (ds,c,n,b,()) /\ ds.length = n.toNat /\ Drw b ds) ?_ fun s' h=>?_
 ·refine dA (S:=bF) (fun k s=>s.ycell = c /\ s.ymany = n /\ s.ybase = b /\ s.yfound.length = k /\ Drw b s.yfound) ⟨rfl,rfl,rfl,rfl,fun d hd=>by cases hd⟩ ?_ (fun s' h=>⟨h.1,h.2.1,h.2.2.1,by rw [h.2.2.2.1]; simp [rng],h.2.2.2.2⟩)
  intro k s x hx hi;obtain ⟨a1,a2,a3,fs,lf,k0,nb⟩:=s;obtain ⟨e1,e2,e3,hlen,hd⟩:=hi;obtain ⟨hx,hk⟩:=jp hx;dsimp only at e1 e2 e3 hlen hd;cases e1.symm; cases e2.symm; cases e3.symm;simp only [TT.tSeq,bind_some,map_some,aF Gy,aF iW];cases hA : decide ((10 : Int) ^ Int.toNat 18 <= if c < 0 then -c else c)
  ·simp only [Bool.false_eq_true,if_false,bind_some,map_some,aF (m1 _),aF (m2 _),aF (m3 _),aF (m4 _),aF d5,aF d3,aF (f64 _),aF db,aF (jR (n:=fs.length) oM)]
   exact ⟨_,rfl,rfl,rfl,rfl,by simp [hlen],hd.snoc (z0 _) (z1 _)⟩
  ·simp only [if_true,bind_some,map_some]
   cases hB : !(lf == 0)
   ·simp only [Bool.false_eq_true,if_false,bind_some,map_some,aF (m1 _),aF (m2 _),aF (m3 _),aF (m4 _),aF d5,aF d3,aF (f64 _),aF db,aF (jR (n:=fs.length) oM)]
    exact ⟨_,rfl,rfl,rfl,rfl,by simp [hlen],hd.snoc (z0 _) (z1 _)⟩
   ·simp only [if_true,bind_some,map_some]
    cases hC : !(lf == -1)
    ·simp only [Bool.false_eq_true,if_false,bind_some,map_some,aF (m1 _),aF (m2 _),aF (m3 _),aF (m4 _),aF d5,aF d3,aF (f64 _),aF db,aF (jR (n:=fs.length) oM)]
     exact ⟨_,rfl,rfl,rfl,rfl,by simp [hlen],hd.snoc (z0 _) (z1 _)⟩
    ·simp only [if_true,bind_some,map_some,aF db,aF (fb _),aF (jR (n:=fs.length) oM)]
     exact ⟨_,rfl,rfl,rfl,rfl,by simp [hlen],hd.snoc (z0 _) (z1 _)⟩
 ·exact ⟨s'.yfound,by simp only [bind_some,h.1,h.2.1,h.2.2.1],h.2.2.2.1,h.2.2.2.2⟩
end LW
namespace LW
open PySem L2 DD TT RK
theorem yi {y : Int} {k : Nat} (h : k <= 1000) : mB y (1 * 2 ^ k) = true:=tQ (by
 refine decide_eq_true ⟨by rw [Int.one_mul]; exact Int.pow_pos dC,?_⟩;rw [Int.one_mul,show ((2 : Int) ^ k).natAbs = 2 ^ k by simp [Int.natAbs_pow],Nat.log2_two_pow];omega)
theorem Gu : jo 41 = true:=nr oM oM
theorem yx (m : Int) : p6 (m,()) = some (lF m,m,()):=by
 unfold p6 qG;simp only [TT.tSeq,bind_some,map_some,aF Gu];rw [aF (cS (by rw [fW]; decide)),gZ (p:=bt m) (f:=fun x=>x) (fun x hx=>by
  obtain ⟨k,rfl,hk⟩:=gU hx;rw [aF (fF oM oM)];simp only [bind_some,Int.toNat_natCast];rw [aF (yi oM)];simp only [bind_some,aF d2,map_some,aF iW];rfl) (fun x _ _=>rfl)]
 simp only [List.map_id',map_some,bind_some];rfl
theorem Bs {B : Nat} {v : List Int} (h : VO B v) : pY (v,()) = some ((mk v : Int),v,()):=by
 obtain ⟨hl,hv,_⟩:=h;unfold pY qC;simp only [TT.tSeq,bind_some,map_some];rw [aF (cS hl),fg (f:=fun c=>(1 : Int) * 2 ^ c.toNat) (fun _ _=>rfl) (fun c hc=>by rw [aF (fF (hv c hc).1 (hv c hc).2)]; rfl)];simp only [bind_some,if_true,map_some];have e : (v.map fun c=>(1 : Int) * 2 ^ c.toNat).sum = (mk v : Int):=nY v;rw [e]
theorem uE {m M : Nat} (hM : M <= 41) (hm : m < 2 ^ M) : VO M (lF m):=by
 refine ⟨?_,?_,?_⟩
 ·have:=List.length_filter_le (bt m) (rng 0 41)
  rw [fW] at this;unfold lF;exact Nat.le_trans this dC
 ·intro c hc
  obtain ⟨k,rfl,hk⟩:=gU (List.mem_filter.mp hc).1;omega
 ·have e : mk (lF m) = m:=by
   have h1:=Ev (bt m) 41;have h2 : lF (m : Int) = (rng 0 ((41 : Nat) : Int)).filter (bt m):=rfl;rw [h2,h1];apply Nat.eq_of_testBit_eq;intro j;rw [DC,yt];by_cases h : j < 41
   ·simp [h]
   ·rw [Nat.testBit_lt_two_pow (Nat.lt_of_lt_of_le hm (Nat.pow_le_pow_right dC oM))]
    simp
  rw [e]; exact hm
theorem yp (ns : List Int) {k : Int} (hk : 0 <= k) : ∃ v,lg (ns,k,()) = some (v,ns,k,()):=by
 unfold lg lL;simp only [TT.tSeq,bind_some,map_some];cases hd : decide (k < (ns.length : Int))
 ·simp only [Bool.false_eq_true,if_false,bind_some]
  exact ⟨_,rfl⟩
 ·have h1:=of_decide_eq_true hd
  obtain ⟨j,rfl⟩ : ∃ j : Nat,k = (j : Int):=⟨k.toNat,by omega⟩;simp only [if_true,iN (show j < ns.length by omega),map_some,bind_some];exact ⟨_,rfl⟩
noncomputable def HOk (c : Int) (n mo : Nat) (ds : List Int) (M : Nat) (s : bb) : Prop:=s.ycell = c /\ s.yn = (n : Int) /\ s.ymost = (mo : Int) /\ s.ydigits = ds /\ s.ymany = (M : Int)
noncomputable def GM (c : Int) (n mo : Nat) (ds : List Int) (M j : Nat) (o : Option (TR bb (Int × List (List (List Int))))) : Prop:=∃ s : bb,o = some (TR.nx s) /\ HOk c n mo ds M s /\ s.yviews.length = j /\ ∀ r ∈ s.yviews,r.length <= 3 /\ ∀ v ∈ r,VO M v
theorem Dl (c : Int) {n mo : Nat} (hn : 1 <= n /\ n <= 4) (hmo : mo <= 12) : ∃ h M,mR (c,(n : Int),(mo : Int),()) = some (h,c,(n : Int),(mo : Int),()) /\ h.1 = ((M : Nat) : Int) /\ M <= mo /\ WG M n h /\ ∀ r ∈ h.2,r.length <= 3:=by
 obtain ⟨ds,hds,hl,hdr⟩:=vo c (n:=18) (b:=65536) oM oM;have hl : ds.length = 18:=hl;have h0 : ej ([] : List (List (List Int))).length = true:=cS (by simp);have h1 : ej ([] : List (List Int)).length = true:=cS (by simp);have at_ : ∀ k : Nat,k < 18 -> ∃ d : Nat,atI ds (k : Int) = some (d : Int):=fun k hk=>by
  have h:=hdr _ (List.getElem_mem (show k < ds.length by omega));exact ⟨(ds[k]'(by omega)).toNat,by rw [iN oM]; congr 1; omega⟩
 obtain ⟨d0,e0⟩:=at_ 0 oM;have e0 : atI ds 0 = some (d0 : Int):=e0;have d13 : decide ((0 : Int) < (mo : Int) + 1) = true:=decide_eq_true oM;have d4 : decide ((0 : Int) < 4) = true:=by decide
 have z0:=Int.emod_nonneg (d0 : Int) (show (mo : Int) + 1 ≠ 0 by omega);have z1:=Int.emod_lt_of_pos (d0 : Int) (show (0 : Int) < (mo : Int) + 1 by omega);obtain ⟨M,hM⟩ : ∃ M : Nat,(d0 : Int) % ((mo : Int) + 1) = (M : Int):=⟨((d0 : Int) % ((mo : Int) + 1)).toNat,by omega⟩;rw [hM] at z0 z1;have hM12 : M <= 12:=by omega
 have d16 : decide ((16 : Int) < (M : Int)) = false:=decide_eq_false oM;have dp : decide ((0 : Int) < 1 * 2 ^ M) = true:=decide_eq_true (by rw [Int.one_mul]; exact Int.pow_pos dC);unfold mR qD;simp only [TT.tSeq,hds,bind_some,map_some,e0,aF d13,hM,aF h0,aF (nr (z:=(n : Int)) oM oM)];refine eS (S:=bb) (P:=fun s=>HOk c n mo ds M s /\ s.yviews.length = n /\ ∀ r ∈ s.yviews,r.length <= 3 /\ ∀ v ∈ r,VO M v) (fun o=>∃ h M,o = some (h,c,(n : Int),(mo : Int),()) /\ h.1 = ((M : Nat) : Int) /\ M <= mo /\ WG M n h /\ ∀ r ∈ h.2,r.length <= 3) ?_ ?_
 ·refine dA (S:=bb) (fun j s=>HOk c n mo ds M s /\ s.yviews.length = j /\ ∀ r ∈ s.yviews,r.length <= 3 /\ ∀ v ∈ r,VO M v) ⟨⟨rfl,rfl,rfl,rfl,rfl⟩,rfl,fun r hr=>by cases hr⟩ ?_ (fun s q=>⟨q.1,by rw [q.2.1,fW]; omega,q.2.2⟩)
  intro j s x hx hi;obtain ⟨a1,a2,a3,a4,a5,vs,a7,a8,a9,a10,a11⟩:=s;obtain ⟨⟨f1,f2,f3,f4,f5⟩,f6,f7⟩:=hi;dsimp only at f1 f2 f3 f4 f5 f6 f7;cases f1.symm; cases f2.symm; cases f3.symm; cases f4.symm; cases f5.symm;obtain ⟨rfl,hj⟩:=jp hx;show GM c n mo ds M (j + 1) _;refine eG _ (by simp only [aF h1,map_some]; rfl) ?_;obtain ⟨dr,er⟩:=at_ (1 + j) oM;rw [show ((1 + j : Nat) : Int) = 1 + (j : Int) by omega] at er;refine Ca (S:=bb) (P:=fun s=>HOk c n mo ds M s /\ s.yviews = vs /\ s.yrow.length <= 3 /\ ∀ v ∈ s.yrow,VO M v) _ (by
   simp only [er,bind_some,aF d4,map_some];rw [aF (nr oM oM)];simp only [bind_some];refine dA (S:=bb) (fun i s=>HOk c n mo ds M s /\ s.yviews = vs /\ s.yname = (j : Int) /\ s.yrow.length = i /\ ∀ v ∈ s.yrow,VO M v) ⟨⟨rfl,rfl,rfl,rfl,rfl⟩,rfl,rfl,rfl,fun r hr=>by cases hr⟩ ?_ (fun s q=>⟨q.1,q.2.1,by rw [q.2.2.2.1,fW]; omega,q.2.2.2.2⟩);intro i s y hy hi;obtain ⟨a1,a2,a3,a4,a5,a6,a7,row,a9,a10,a11⟩:=s;obtain ⟨⟨f1,f2,f3,f4,f5⟩,f8,f9,f10,f11⟩:=hi;dsimp only at f1 f2 f3 f4 f5 f8 f9 f10 f11;cases f1.symm; cases f2.symm; cases f3.symm; cases f4.symm; cases f5.symm; cases f8.symm; cases f9.symm;obtain ⟨rfl,hi3⟩:=jp hy;obtain ⟨dd,ed⟩:=at_ (5 + 3 * j + i) oM;rw [show ((5 + 3 * j + i : Nat) : Int) = 5 + 3 * (j : Int) + (i : Int) by omega] at ed;have hv : VO M (lF ((dd : Int) % (1 * 2 ^ M))):=by
    have e : (dd : Int) % (1 * 2 ^ M) = ((dd % 2 ^ M : Nat) : Int):=by rw [gq]; rfl
    rw [e];exact uE oM (Nat.mod_lt _ (Nat.pow_pos dC))
   simp only [TT.tSeq,aF (show ju 3 (j : Int) = true from qk oM),bind_some,map_some,ed,aF (fF (x:=(M : Int)) oM oM),Int.toNat_natCast,aF dp,d16,Bool.false_eq_true,if_false,yx,aF (jR (n:=row.length) oM)];refine ⟨_,rfl,⟨rfl,rfl,rfl,rfl,rfl⟩,rfl,rfl,by simp [f10],?_⟩;intro v hv2;rw [List.mem_append,List.mem_singleton] at hv2;rcases hv2 with hv2 | rfl
   ·exact f11 v hv2
   ·exact hv) ?_
  intro s hs;obtain ⟨a1,a2,a3,a4,a5,a6,a7,row,a9,a10,a11⟩:=s;obtain ⟨⟨f1,f2,f3,f4,f5⟩,f8,f9,f10⟩:=hs;dsimp only at f1 f2 f3 f4 f5 f8 f9 f10;cases f1.symm; cases f2.symm; cases f3.symm; cases f4.symm; cases f5.symm; cases f8.symm;refine ⟨_,(by rw [aF (jR (show vs.length <= 1000 by omega))]; rfl),⟨rfl,rfl,rfl,rfl,rfl⟩,by simp [f6],?_⟩;intro r hr;dsimp only at hr;rw [List.mem_append,List.mem_singleton] at hr;rcases hr with hr | rfl
  ·exact f7 r hr
  ·exact ⟨f9,f10⟩
 ·intro s' hs
  obtain ⟨a1,a2,a3,a4,a5,a6,a7,row,a9,a10,a11⟩:=s';obtain ⟨⟨f1,f2,f3,f4,f5⟩,f6,f7⟩:=hs;dsimp only at f1 f2 f3 f4 f5 f6 f7;subst f1; subst f2; subst f3; subst f5;exact ⟨_,M,rfl,rfl,by omega,⟨by omega,f6,hn,fun r hr=>⟨by have:=(f7 r hr).1; omega,(f7 r hr).2⟩⟩,fun r hr=>(f7 r hr).1⟩
theorem yo {B n : Nat} {h : Int × List (List (List Int))} (w : WG B n h) : pZ (h,()) = some (h,h,()):=by
 unfold pZ qE;simp only [TT.tSeq,bind_some,map_some];have hl:=w.len;have h4:=w.n4;rw [aF (cS oM),fg (f:=fun x=>x) (fun _ _=>rfl) (fun r hr=>by
  rw [aF (cS (Nat.le_trans (w.row r hr).1 dC)),fg (f:=fun x=>x) (fun _ _=>rfl) (fun _ _=>rfl)];simp only [bind_some,if_true,List.map_id'])]
 simp only [List.map_id',map_some,bind_some]
noncomputable def MI (ms : List Nat) : List Int:=ms.map fun (m : Nat)=>(m : Int)
noncomputable def MW (h : Int × List (List (List Int))) (n g : Nat) : List Nat:=(VW h n g).map mk
theorem mY {B n : Nat} {h : Int × List (List (List Int))} (w : WG B n h) (g : Nat) : kY (h,(g : Int),()) = some (MI (MW h n g),h,(g : Int),()):=by
 have h0 : ej ([] : List Int).length = true:=cS (by simp);have h4:=w.n4;have hl:=w.len;unfold kY oj;simp only [TT.tSeq,bind_some,map_some,aF h0];rw [aF (nr oM oM)];simp only [bind_some];refine eS (S:=cI) (P:=fun s=>s.yheap_here = h /\ s.yg = (g : Int) /\ s.yfound = MI (MW h n g)) (fun o=>o = some (MI (MW h n g),h,(g : Int),())) ?_ fun s' h'=>?_
 ·rw [hl]
  refine dA (S:=cI) (fun j s=>s.yheap_here = h /\ s.yg = (g : Int) /\ s.yfound = ((((rng 0 n).take j).filter (gb g)).flatMap fun k=>MI ((cL h k).map mk)) /\ s.yfound.length <= 20 * j) ⟨rfl,rfl,rfl,Nat.le_refl _⟩ ?_ (fun s q=>⟨q.1,q.2.1,by rw [q.2.2.1,List.take_length]; unfold MW VW MI; rw [List.map_flatMap,List.map_flatMap]⟩);intro j s x hx hi;obtain ⟨a1,a2,a3,a4⟩:=s;obtain ⟨e1,e2,e3,e4⟩:=hi;dsimp only at e1 e2 e3 e4;cases e1.symm; cases e2.symm;have hj:=(List.getElem?_eq_some_iff.mp hx).1;rw [fW] at hj;obtain ⟨rfl,hk⟩:=jp hx;obtain ⟨q1,q2,q3⟩:=w.at (k:=j) oM;have et : (((rng 0 n).take (j + 1)).filter (gb g)).flatMap (fun k=>MI ((cL h k).map mk)) = a3 ++ (if gb g j = true then MI ((cL h j).map mk) else []):=by
   rw [List.take_succ,hx,List.filter_append,List.flatMap_append,<- e3];congr 1;simp only [Option.toList_some,List.filter_cons,List.filter_nil];cases gb g j <;> simp
  dsimp only;rw [aF (fF oM oM)];simp only [bind_some,Int.toNat_natCast];rw [aF (yi oM)];simp only [bind_some,aF d2,map_some,aF iW];have eb : ((g : Int) / (1 * 2 ^ j) % 2 == 1) = gb g j:=by
   have:=yt g j
   unfold bt at this;rw [Int.toNat_natCast] at this;rw [this]; rfl
  rw [eb];cases hb : gb g j
  ·rw [hb] at et
   simp only [Bool.false_eq_true,if_false] at et ⊢;exact ⟨_,rfl,rfl,rfl,by rw [et]; simp,by dsimp only; omega⟩
  ·rw [hb] at et
   simp only [if_true] at et ⊢;rw [q1];simp only [map_some,bind_some];rw [aF (cS oM),fg (f:=fun v=>((mk v : Nat) : Int)) (fun _ _=>rfl) (fun v hv=>by rw [Bs (q3 v hv)]; rfl)];simp only [bind_some];rw [aF (cS (by rw [List.length_map]; omega))];exact ⟨_,rfl,rfl,rfl,by rw [et]; unfold MI; rw [List.map_map]; rfl,by simp; omega⟩
 ·obtain ⟨b1,b2,b3,b4⟩:=s'
  obtain ⟨p1,p2,p3⟩:=h';dsimp only at p1 p2 p3;subst p1; subst p2; subst p3;rfl
theorem E9 (xs : List Int) : iM (fun a b=>a == b) xs xs = true:=iB (fun a=>by simp) xs
theorem Dp (xs : List (List (List Int))) : iM (iM (iM fun a b=>a == b)) xs xs = true:=iB (fun a=>iB (fun a=>iB (fun a=>by simp) a) a) xs
theorem qj (a : Int × List (List (List Int))) : Py.ok (am rI (rM (rM (rM rI)))) a = true:=by
 show (true && a.2.all fun x=>x.all fun y=>y.all fun _=>true) = true;simp
theorem Gz {a b : Int × List (List (List Int))} : (Py.ok (am rI (rM (rM (rM rI)))) a && Py.ok (am rI (rM (rM (rM rI)))) b && decide (min (Py.k (am rI (rM (rM (rM rI))))) (Py.k (am rI (rM (rM (rM rI))))) <= 50)) = true:=by
 rw [qj,qj]; rfl
noncomputable abbrev Hh:=Int × List (List (List Int))
noncomputable def fY (m : Int) (vs : List (List Int)) : List (List Int):=vs.map fun v=>v.map fun c=>c + m
theorem FC (vs : List (List Int)) : fY 0 vs = vs:=by
 unfold fY;have : (fun v : List Int=>v.map fun c=>c + 0) = id:=by funext v; simp
 rw [this,List.map_id]
theorem uY {vs : List (List Int)} {m : Int} (hl : vs.length <= 1000) (hv : ∀ v ∈ vs,v.length <= 1000) : iR (vs,m,()) = some (fY m vs,vs,m,()):=by
 unfold iR iV;simp only [TT.tSeq,bind_some,map_some,aF (cS hl)];have h:=fg (S:=cW) (s:={ xviews:=vs,xmany:=m }) (ft:=fun _ s=>some (true,s)) (fe:=fun x9 s=>if ej x9.length = true then TT.tLc (fun x10 s=>some (true,s)) (fun x10 s=>some (x10 + s.xmany,s)) x9 s else none) (f:=fun (v : List Int)=>v.map fun c=>c + m) (xs:=vs) (fun _ _=>rfl) (fun v hh=>by
  rw [aF (cS (hv v hh))];exact fg (f:=fun c=>c + m) (fun _ _=>rfl) (fun _ _=>rfl))
 rw [h];rfl
noncomputable def fJ (a b : Hh) : Hh:=(a.1 + b.1,(a.2.zip b.2).map fun z=>z.1 ++ fY a.1 z.2)
structure Sm (h : Hh) : Prop where
 n : h.2.length <= 4
 r : ∀ x ∈ h.2,x.length <= 20 /\ ∀ v ∈ x,v.length <= 1000
theorem WG.sm {B n : Nat} {h : Hh} (w : WG B n h) : Sm h:=⟨by have:=w.len; have:=w.n4; omega,fun x hx=>⟨(w.row x hx).1,fun v hv=>((w.row x hx).2 v hv).1⟩⟩
theorem zR {a b : Hh} (ha : Sm a) (hb : Sm b) : nR (a,b,()) = some (fJ a b,a,b,()):=by
 unfold nR oq;have hz : (a.2.zip b.2).length <= 1000:=by have:=ha.n; simp only [List.length_zip]; omega
 simp only [TT.tSeq,bind_some,map_some,aF (cS hz)];rw [fg (f:=fun (z : List (List Int) × List (List Int))=>z.1 ++ fY a.1 z.2) (fun _ _=>rfl) (fun z hzm=>by
  obtain ⟨z1,z2⟩:=z;obtain ⟨m1,m2⟩:=List.of_mem_zip hzm;have q1:=ha.r z1 m1;have q2:=hb.r z2 m2;have e1:=uY (vs:=z1) (m:=0) oM q1.2;have e2:=uY (vs:=z2) (m:=a.1) oM q2.2;dsimp only;simp only [e1,e2,map_some,bind_some,FC];rw [aF (cS (by unfold fY; rw [List.length_map]; omega))])]
 simp only [map_some,bind_some];rfl
theorem oK {M : Nat} : ∀ {v : List Int},(∀ c ∈ v,0 <= c) -> mk (v.map fun c=>c + (M : Int)) = up M (mk v):=by
 intro v
 induction v with
 | nil=>intro _; simp [mk,up]
 | cons c v ih =>
  intro h;have h0:=h c (by simp);have ih':=ih fun d hd=>h d (by simp [hd])
  unfold mk up at ih' ⊢;simp only [List.map_cons,List.sum_cons];rw [ih',Nat.add_mul,show (c + (M : Int)).toNat = c.toNat + M by omega,Nat.pow_add]
theorem tO {α β : Type} (f g : α -> List β) : ∀ l : List α,(l.flatMap fun x=>f x ++ g x).Perm (l.flatMap f ++ l.flatMap g):=by
 intro l
 induction l with
 | nil=>exact .nil
 | cons x l ih =>
  simp only [List.flatMap_cons];refine ((ih.append_left _)).trans ?_;rw [List.append_assoc,List.append_assoc];refine List.Perm.append_left _ ?_;rw [<- List.append_assoc,<- List.append_assoc];exact List.perm_append_comm.append_right _
theorem qN {a b : Hh} {n : Nat} (ha : a.2.length = n) (hb : b.2.length = n) {k : Nat} (hk : k < n) : cL (fJ a b) (k : Int) = cL a (k : Int) ++ fY a.1 (cL b (k : Int)):=by
 unfold cL fJ;simp only [Int.toNat_natCast];have h1 : k < a.2.length:=by omega
 have h2 : k < b.2.length:=by omega
 have hz : (a.2.zip b.2)[k]? = some (a.2[k],b.2[k]):=List.getElem?_zip_eq_some.mpr ⟨List.getElem?_eq_getElem h1,List.getElem?_eq_getElem h2⟩;simp [List.getD,hz,h1,h2]
theorem Ch {Ma Mb n : Nat} {a b : Hh} (wa : WG Ma n a) (wb : WG Mb n b) (h1 : a.1 = (Ma : Int)) (g : Nat) : rg (fJ a b) n g = rg a n g + rg b n g:=by
 have hA : ∀ x ∈ (VW a n g).map mk,x < 2 ^ Ma:=fun x hx=>by
  obtain ⟨v,hv,rfl⟩:=List.mem_map.mp hx;exact (pM wa v hv).2.2
 unfold rg;rw [<- Ce (M:=Ma) (bs:=(VW b n g).map mk) hA];apply uK;have e1 : VW (fJ a b) n g = ((rng 0 n).filter (gb g)).flatMap fun k=>cL a k ++ fY a.1 (cL b k):=by
  unfold VW;rw [List.flatMap_def,List.flatMap_def];congr 1;apply List.map_congr_left;intro x hx;obtain ⟨k,rfl,hk⟩:=gU (List.mem_filter.mp hx).1;exact qN wa.len wb.len oM
 rw [e1];have p1:=(tO (cL a) (fun k=>fY a.1 (cL b k)) ((rng 0 n).filter (gb g))).map mk;refine p1.trans ?_;rw [List.map_append];refine List.Perm.append_left _ (List.Perm.of_eq ?_);have e2 : (((rng 0 n).filter (gb g)).flatMap fun k=>fY a.1 (cL b k)) = fY a.1 (VW b n g):=by
  unfold VW fY;rw [List.map_flatMap]
 rw [e2];unfold fY;rw [List.map_map,List.map_map];apply List.map_congr_left;intro v hv;simp only [Function.comp];rw [h1];exact oK fun c hc=>((pM wb v hv).2.1 c hc).1
theorem B1 {Ma Mb : Nat} (hM : Ma + Mb <= 100) {v : List Int} (h : VO Mb v) (hc : ∀ c ∈ v,c <= 900) : VO (Ma + Mb) (v.map fun c=>c + (Ma : Int)):=by
 obtain ⟨h1,h2,h3⟩:=h;refine ⟨by rw [List.length_map]; exact h1,fun c hcm=>?_,?_⟩
 ·obtain ⟨d,hd,rfl⟩:=List.mem_map.mp hcm
  have:=h2 d hd
  have:=hc d hd
  omega
 ·rw [oK fun c hc=>(h2 c hc).1]
  unfold up;rw [Nat.pow_add,Nat.mul_comm];exact Nat.mul_lt_mul_of_pos_left h3 (Nat.pow_pos dC)
theorem vw {B : Nat} {v : List Int} (h : VO B v) : ∀ c ∈ v,c < (B : Int):=fun c hc=>by
 have h1 : ∀ {l : List Int},c ∈ l -> 2 ^ c.toNat <= mk l:=by
  intro l
  induction l with
  | nil=>intro h; cases h
  | cons d l ih =>
   intro h;unfold mk at ih ⊢;simp only [List.map_cons,List.sum_cons];rcases List.mem_cons.mp h with rfl | h
   ·exact Nat.le_add_right _ _
   ·exact Nat.le_trans (ih h) (Nat.le_add_left _ _)
 have h2 : 2 ^ c.toNat < 2 ^ B:=Nat.lt_of_le_of_lt (h1 hc) h.2.2;have h3 : c.toNat < B:=(Nat.pow_lt_pow_iff_right dC).mp h2
 have:=(h.2.1 c hc).1
 omega
theorem AD {A B : Nat} (hAB : A <= B) {v : List Int} (h : VO A v) : VO B v:=⟨h.1,h.2.1,Nat.lt_of_lt_of_le h.2.2 (Nat.pow_le_pow_right dC hAB)⟩
theorem B0 {Ma Mb n p q : Nat} {a b : Hh} (wa : WG Ma n a) (wb : WG Mb n b) (h1 : a.1 = (Ma : Int)) (hM : Ma + Mb <= 100) (ra : ∀ r ∈ a.2,r.length <= p) (rb : ∀ r ∈ b.2,r.length <= q) (hpq : p + q <= 20) : WG (Ma + Mb) n (fJ a b) /\ (∀ r ∈ (fJ a b).2,r.length <= p + q):=by
 have hr : ∀ r ∈ (fJ a b).2,r.length <= p + q:=fun r hr=>by
  obtain ⟨⟨z1,z2⟩,hz,rfl⟩:=List.mem_map.mp hr;obtain ⟨m1,m2⟩:=List.of_mem_zip hz
  have:=ra z1 m1
  have:=rb z2 m2
  simp only [List.length_append,fY,List.length_map]; omega
 refine ⟨⟨by omega,by have:=wa.len; have:=wb.len; simp only [fJ,List.length_map,List.length_zip]; omega,wa.n4,fun r hrm=>⟨by have:=hr r hrm; omega,?_⟩⟩,hr⟩;obtain ⟨⟨z1,z2⟩,hz,rfl⟩:=List.mem_map.mp hrm;obtain ⟨m1,m2⟩:=List.of_mem_zip hz;intro v hv;rcases List.mem_append.mp hv with hv | hv
 ·exact AD oM ((wa.row z1 m1).2 v hv)
 ·unfold fY at hv
  obtain ⟨u,hu,rfl⟩:=List.mem_map.mp hv;have hvo:=(wb.row z2 m2).2 u hu;rw [h1];exact B1 hM hvo fun c hc=>by have:=vw hvo c hc; omega
noncomputable def li : List Int -> List (List Int)
 | []=>[[]]
 | x :: xs=>li xs ++ (li xs).map (x :: ·)
theorem nq (p : Int -> Bool) : ∀ xs,xs.filter p ∈ li xs:=by
 intro xs
 induction xs with
 | nil=>simp [li]
 | cons x xs ih =>
  simp only [li,List.mem_append,List.mem_map,List.filter_cons];cases p x
  ·exact .inl ih
  ·exact .inr ⟨_,ih,rfl⟩
noncomputable def ev (n : Nat) : List Int:=two ((2 ^ n : Nat) : Int)
noncomputable def lst (gs : List Int) : List Int:=((i3 (gs,())).map (·.1)).getD []
noncomputable def Ah (n : Nat) : Bool:=(li (ev n)).all fun gs=>decide (i3 (gs,()) = some (lst gs,gs,())) && (decide (nO ((n : Int),gs,()) = some (lst gs,(n : Int),gs,())) && decide ((lst gs).length <= 100))
theorem FQ : Ah 2 = true:=by decide +kernel
theorem FP : Ah 3 = true:=by decide +kernel
theorem FO : Ah 4 = true:=by decide +kernel
theorem FF : fP (2,()) = some (ev 2,2,()):=by decide +kernel
theorem Dc : fP (3,()) = some (ev 3,3,()):=by decide +kernel
theorem FE : fP (4,()) = some (ev 4,4,()):=by decide +kernel
theorem least_of {n : Nat} (hn : 2 <= n /\ n <= 4) (p : Int -> Bool) : i3 ((ev n).filter p,()) = some (lst ((ev n).filter p),(ev n).filter p,()) /\ nO ((n : Int),(ev n).filter p,()) = some (lst ((ev n).filter p),(n : Int),(ev n).filter p,()) /\ (lst ((ev n).filter p)).length <= 100:=by
 have hk : Ah n = true:=by
  have : n = 2 \/ n = 3 \/ n = 4:=by omega
  rcases this with rfl | rfl | rfl
  ·exact FQ
  ·exact FP
  ·exact FO
 have h:=List.all_eq_true.mp hk _ (nq p (ev n));simp only [Bool.and_eq_true,decide_eq_true_eq] at h;exact h
theorem z6 {n : Nat} (hn : 2 <= n /\ n <= 4) : fP ((n : Int),()) = some (ev n,(n : Int),()):=by
 have : n = 2 \/ n = 3 \/ n = 4:=by omega
 rcases this with rfl | rfl | rfl
 ·exact FF
 ·exact Dc
 ·exact FE
theorem tR {n : Nat} {x : Int} (h : x ∈ ev n) : ∃ k : Nat,x = ((2 * k : Nat) : Int) /\ 2 * k < 2 ^ n + 1:=by
 unfold ev two at h;obtain ⟨k,hk,rfl⟩:=List.mem_map.mp h;rw [List.mem_range,Int.toNat_natCast] at hk;exact ⟨k,by omega,by omega⟩
theorem Af {n : Nat} (hn : 1 <= n) {x : Int} (h : x ∈ ev n) : ∃ k : Nat,x = ((2 * k : Nat) : Int) /\ 2 * k + 1 < 2 ^ n:=by
 obtain ⟨k,e,hk⟩:=tR h;obtain ⟨m,rfl⟩ : ∃ m,n = m + 1:=⟨n - 1,by omega⟩;rw [Nat.pow_succ] at hk ⊢;unfold ev two at h;obtain ⟨j,hj,e2⟩:=List.mem_map.mp h;rw [List.mem_range,Int.toNat_natCast,Nat.pow_succ] at hj;exact ⟨k,e,by omega⟩
noncomputable def kn (h : Int × List (List (List Int))) (n : Nat) (x : Int) : Bool:=rg h n (x.toNat + 1) == rg h n x.toNat
theorem BX {h : Int × List (List (List Int))} {n : Nat} (hn : 1 <= n) (k : Nat) : (VW h n (2 * k + 1)).Perm (VW h n (2 * k) ++ VW h n 1):=by
 obtain ⟨m,rfl⟩ : ∃ m,n = m + 1:=⟨n - 1,by omega⟩;have e : rng 0 ((m + 1 : Nat) : Int) = 0 :: (List.range m).map fun (j : Nat)=>((j + 1 : Nat) : Int):=by
  unfold rng;rw [Int.sub_zero,Int.toNat_natCast,List.range_succ_eq_map,List.map_cons,List.map_map];congr 1;apply List.map_congr_left;intro j _;simp only [Function.comp]; omega
 have hb : ∀ x ∈ (List.range m).map fun (j : Nat)=>((j + 1 : Nat) : Int),gb (2 * k + 1) x = gb (2 * k) x /\ gb 1 x = false:=by
  intro x hx;obtain ⟨j,_,rfl⟩:=List.mem_map.mp hx;unfold gb;rw [Int.toNat_natCast,Nat.testBit_succ,Nat.testBit_succ,Nat.testBit_succ];constructor
  ·congr 1; omega
  ·simp
 have h1 : ((rng 0 ((m + 1 : Nat) : Int)).filter (gb (2 * k + 1))) = 0 :: ((List.range m).map fun (j : Nat)=>((j + 1 : Nat) : Int)).filter (gb (2 * k)):=by
  rw [e,List.filter_cons,show gb (2 * k + 1) 0 = true by unfold gb; simp,if_pos rfl];congr 1;exact List.filter_congr fun x hx=>(hb x hx).1
 have h2 : ((rng 0 ((m + 1 : Nat) : Int)).filter (gb (2 * k))) = ((List.range m).map fun (j : Nat)=>((j + 1 : Nat) : Int)).filter (gb (2 * k)):=by
  rw [e,List.filter_cons,show gb (2 * k) 0 = false by unfold gb; simp];rfl
 have h3 : ((rng 0 ((m + 1 : Nat) : Int)).filter (gb 1)) = [0]:=by
  rw [e,List.filter_cons,show gb 1 0 = true by unfold gb; simp,if_pos rfl];congr 1;rw [List.filter_eq_nil_iff];intro x hx;rw [(hb x hx).2]; simp
 unfold VW;rw [h1,h2,h3,List.flatMap_cons,List.flatMap_cons,List.flatMap_nil,List.append_nil];exact List.perm_append_comm
theorem uM {h : Int × List (List (List Int))} {n : Nat} (hn : 1 <= n) (k : Nat) : rk (MW h n (2 * k) ++ MW h n 1) = rg h n (2 * k + 1):=by
 unfold rg MW;rw [<- List.map_append];exact (uK ((BX hn k).map mk)).symm
theorem Gp (h : Int × List (List (List Int))) (n : Nat) : rg h n 0 = 0:=by
 have : (rng 0 (n : Int)).filter (gb 0) = []:=by
  rw [List.filter_eq_nil_iff];intro x _;unfold gb;simp
 unfold rg VW;rw [this];rfl
theorem sv {h : Int × List (List (List Int))} {n g : Nat} (h1 : 1 <= g) (h2 : g < 2 ^ n) : atI (j4 h n) ((g : Int) - 1) = some ((rg h n g : Nat) : Int):=by
 have hl : (j4 h n).length = 2 ^ n - 1:=by unfold j4; rw [List.length_map,sD]
 obtain ⟨j,rfl⟩ : ∃ j,g = j + 1:=⟨g - 1,by omega⟩;rw [show ((j + 1 : Nat) : Int) - 1 = (j : Int) by omega,iN oM];unfold j4 rng;simp only [List.getElem_map,List.getElem_range];congr 3;omega
theorem Bu {h : Int × List (List (List Int))} {n : Nat} {x : Int} (hx : ∃ k : Nat,x = ((2 * k : Nat) : Int) /\ 2 * k + 1 < 2 ^ n) : jd (j4 h n,x,()) = some (kn h n x,j4 h n,x,()):=by
 obtain ⟨k,rfl,hk⟩:=hx;have ho : Builtin.bitOr ((2 * k : Nat) : Int) 1 - 1 = ((2 * k + 1 : Nat) : Int) - 1:=by
  rw [show (1 : Int) = ((1 : Nat) : Int) from rfl,vE];have : 2 * k ||| 1 = 2 * k + 1:=by
   apply Nat.eq_of_testBit_eq;intro i;rw [Nat.testBit_or];cases i with
   | zero=>simp
   | succ i =>
    rw [Nat.testBit_succ,Nat.testBit_succ,Nat.testBit_succ,show (2 * k + 1) / 2 = 2 * k / 2 by omega];simp
  rw [this]
 have e1 : atI (j4 h n) (Builtin.bitOr ((2 * k : Nat) : Int) 1 - 1) = some ((rg h n (2 * k + 1) : Nat) : Int):=by
  rw [ho]; exact sv oM hk
 have ek : ∀ a b : Nat,(((a : Nat) : Int) == ((b : Nat) : Int)) = (a == b):=fun a b=>by
  rw [Bool.eq_iff_iff,beq_iff_eq,beq_iff_eq]; omega
 unfold jd jJ;simp only [TT.tSeq,bind_some,map_some,aF iW];by_cases h0 : k = 0
 ·subst h0
  rw [show (!(((2 * 0 : Nat) : Int) == 0)) = false from rfl];have e9 : (((rg h n (2 * 0 + 1) : Nat) : Int) == 0) = kn h n ((2 * 0 : Nat) : Int):=by
   unfold kn;rw [show (((2 * 0 : Nat) : Int)).toNat = 0 from rfl,Gp];exact ek (rg h n 1) 0
  simp only [Bool.false_eq_true,if_false,bind_some,map_some,e1,aF iW,e9]
 ·rw [show (!(((2 * k : Nat) : Int) == 0)) = true by rw [Bool.not_eq_true',beq_eq_false_iff_ne]; omega]
  simp only [if_true,sv (h:=h) (show 1 <= 2 * k by omega) (show 2 * k < 2 ^ n by omega),bind_some,map_some,e1,aF iW,ek];unfold kn;rw [Int.toNat_natCast]
theorem mC (n : Nat) (hn : n <= 4) : (ev n).length <= 100:=by
 have:=v4 hn
 unfold ev two;rw [List.length_map,List.length_range,Int.toNat_natCast];omega
theorem sS {B n : Nat} {h : Int × List (List (List Int))} (w : WG B n h) (hn : 2 <= n /\ n <= 4) : j6 (h,()) = some (lst ((ev n).filter (kn h n)),h,()):=by
 have et:=uH w;have hl:=mC n hn.2;unfold j6 kg;simp only [TT.tSeq,et,bind_some,map_some,w.len,z6 hn];rw [aF (cS oM),gZ (p:=kn h n) (f:=fun x=>x) (fun x hx=>by
  dsimp only;rw [Bu (Af oM hx)];rfl) (fun x _ _=>rfl)]
 simp only [List.map_id',bind_some,map_some,(least_of hn (kn h n)).1]
end LW
namespace LW
open PySem L2 DD TT
structure Lk (M n : Nat) (v : List Int) (rows : List (List (List Int))) (h : Hh) : Prop where
 eq : h = ((M : Int),[v] :: rows)
 wg : WG M n h
 m : M <= 6
 few : ∀ r ∈ h.2,r.length <= 9
noncomputable def uJ (a b : Hh) : List (List (List Int)):=(a.2.tail.zip b.2.tail).map fun z=>z.1 ++ fY a.1 z.2
noncomputable def e7 (a : Hh) : List Int:=(a.2.headD []).headD []
noncomputable def fu (a b : Hh) : Hh:=(a.1 + b.1,[e7 a ++ (e7 b).map fun c=>c + a.1] :: uJ a b)
section
variable {Ma Mb n : Nat} {va vb : List Int} {ra rb : List (List (List Int))} {a b : Hh}
theorem pL (ha : Lk Ma n va ra a) (hb : Lk Mb n vb rb b) : fJ a b = (a.1 + b.1,[e7 a,(e7 b).map fun c=>c + a.1] :: uJ a b):=by
 rw [ha.eq,hb.eq]; rfl
theorem Lk.v (ha : Lk Ma n va ra a) : VO Ma (e7 a):=by
 have:=ha.wg.row [va] (by rw [ha.eq]; simp)
 rw [ha.eq];exact this.2 va (by simp)
theorem C3 : ∀ v : List Int,v.length <= mk v:=by
 intro v;unfold mk
 induction v with
 | nil=>exact Nat.le_refl _
 | cons c v ih =>
  simp only [List.length_cons,List.map_cons,List.sum_cons];have : 1 <= 2 ^ c.toNat:=Nat.pow_pos dC;omega
theorem kA (ha : Lk Ma n va ra a) : (e7 a).length <= 64:=by
 have h1:=C3 (e7 a);have h2:=ha.v.2.2;have h3 : 2 ^ Ma <= 2 ^ 6:=Nat.pow_le_pow_right dC ha.m;omega
theorem EY {v : List Int} : ej [v].length = true:=cS (by simp)
theorem Gn {v : List (List Int)} : ej [v].length = true:=cS (by simp)
theorem AJ (ha : Lk Ma n va ra a) : (uJ a b).length <= 3:=by
 have h1:=ha.wg.len;have h2:=ha.wg.n4;unfold uJ;rw [List.length_map,List.length_zip,List.length_tail];omega
theorem qb (ha : Lk Ma n va ra a) (hb : Lk Mb n vb rb b) : jf (a,b,()) = some (fu a b,a,b,()):=by
 have l1:=ha.v.1;have l2:=hb.v.1;have hl:=AJ (b:=b) ha;have i0 : ∀ x y : List Int,atI [x,y] 0 = some x:=fun _ _=>rfl
 have i1 : ∀ x y : List Int,atI [x,y] 1 = some y:=fun _ _=>rfl
 unfold jf jL;simp only [TT.tSeq,bind_some,map_some,zR ha.wg.sm hb.wg.sm,pL ha hb,i0,i1];rw [aF (cS (n:=(e7 a).length + _) (by rw [List.length_map]; have:=kA ha; have:=kA hb; omega))];simp only [bind_some,map_some,aF EY,aF Gn,List.tail_cons];have hz : ej (([[e7 a ++ (e7 b).map fun c=>c + a.1]] : List (List (List Int))).length + (uJ a b).length) = true:=cS (by simp; omega);simp only [hz,if_true];rfl
end
end LW
namespace LW
open PySem L2 DD TT RK
theorem xJ (u w : List Int) : mk (u ++ w) = mk u + mk w:=by unfold mk; rw [List.map_append,List.sum_append]
theorem Dx {M x y : Nat} (h : x < 2 ^ M) : x + up M y = x ^^^ up M y:=by
 apply Nat.eq_of_testBit_eq;intro i;rw [Nat.testBit_xor,wO];unfold up;rw [Nat.add_comm,Nat.mul_comm,Nat.testBit_two_pow_mul_add _ h];by_cases hi : i < M
 ·rw [if_pos hi,decide_eq_false oM]; simp
 ·have : x.testBit i = false:=Nat.testBit_lt_two_pow (Nat.lt_of_lt_of_le h (Nat.pow_le_pow_right dC oM))
  rw [if_neg hi,decide_eq_true oM,this]; simp
section
variable {Ma Mb n : Nat} {va vb : List Int} {ra rb : List (List (List Int))} {a b : Hh}
theorem Lk.one (ha : Lk Ma n va ra a) : a.1 = (Ma : Int):=by rw [ha.eq]
theorem Bk (ha : Lk Ma n va ra a) (hb : Lk Mb n vb rb b) : mk (e7 a ++ (e7 b).map fun c=>c + a.1) = mk (e7 a) ^^^ up Ma (mk (e7 b)):=by
 rw [xJ,ha.one,oK (fun c hc=>(hb.v.2.1 c hc).1),Dx ha.v.2.2]
theorem uD (ha : Lk Ma n va ra a) (hb : Lk Mb n vb rb b) : VO (Ma + Mb) (e7 a ++ (e7 b).map fun c=>c + a.1):=by
 have h1:=kA ha;have h2:=kA hb;have m1:=ha.m;have m2:=hb.m;refine ⟨by rw [List.length_append,List.length_map]; omega,fun c hc=>?_,?_⟩
 ·rcases List.mem_append.mp hc with hc | hc
  ·exact ha.v.2.1 c hc
  ·obtain ⟨d,hd,rfl⟩:=List.mem_map.mp hc
   have:=vw hb.v d hd
   have:=(hb.v.2.1 d hd).1
   rw [ha.one]; omega
 ·rw [xJ,ha.one,oK (fun c hc=>(hb.v.2.1 c hc).1)]
  unfold up;have q1:=ha.v.2.2;have q2:=hb.v.2.2;have q3 : (mk (e7 b) + 1) * 2 ^ Ma <= 2 ^ Mb * 2 ^ Ma:=Nat.mul_le_mul_right _ q2;rw [Nat.pow_add,Nat.mul_comm (2 ^ Ma)];rw [Nat.add_mul] at q3;omega
theorem wL (ha : Lk Ma n va ra a) (hb : Lk Mb n vb rb b) : WG (Ma + Mb) n (fu a b):=by
 have m1:=ha.m;have m2:=hb.m;obtain ⟨w,_⟩:=B0 ha.wg hb.wg ha.one oM ha.few hb.few oM;rw [pL ha hb] at w;refine ⟨w.hB,by have:=w.len; simpa [fu] using this,w.n4,fun r hr=>?_⟩;rcases List.mem_cons.mp hr with rfl | hr
 ·exact ⟨by simp,fun v hv=>by rw [List.mem_singleton.mp hv]; exact uD ha hb⟩
 ·exact w.row r (List.mem_cons_of_mem _ hr)
theorem vG (ha : Lk Ma n va ra a) (hb : Lk Mb n vb rb b) (k : Nat) : VW (fu a b) n (2 * k) = VW (fJ a b) n (2 * k):=by
 unfold VW;rw [List.flatMap_def,List.flatMap_def];congr 1;apply List.map_congr_left;intro x hx;obtain ⟨j,rfl,hj⟩:=gU (List.mem_filter.mp hx).1;have hg : gb (2 * k) (j : Int) = true:=(List.mem_filter.mp hx).2;cases j with
 | zero=>simp [gb] at hg
 | succ j =>
  rw [pL ha hb];simp [cL,fu]
theorem y1 (ha : Lk Ma n va ra a) (hb : Lk Mb n vb rb b) (g : Nat) : (MW (fJ a b) n g).Perm (MW a n g ++ (MW b n g).map (up Ma)):=by
 unfold MW;have e1 : VW (fJ a b) n g = ((rng 0 n).filter (gb g)).flatMap fun k=>cL a k ++ fY a.1 (cL b k):=by
  unfold VW;rw [List.flatMap_def,List.flatMap_def];congr 1;apply List.map_congr_left;intro x hx;obtain ⟨k,rfl,hk⟩:=gU (List.mem_filter.mp hx).1;exact qN ha.wg.len hb.wg.len oM
 rw [e1];have p1:=(tO (cL a) (fun k=>fY a.1 (cL b k)) ((rng 0 n).filter (gb g))).map mk;refine p1.trans ?_;rw [List.map_append];refine List.Perm.append_left _ (List.Perm.of_eq ?_);have e2 : (((rng 0 n).filter (gb g)).flatMap fun k=>fY a.1 (cL b k)) = fY a.1 (VW b n g):=by
  unfold VW fY;rw [List.map_flatMap]
 rw [e2];unfold fY;rw [List.map_map,List.map_map];apply List.map_congr_left;intro v hv;simp only [Function.comp];rw [ha.one];exact oK fun c hc=>((pM hb.wg v hv).2.1 c hc).1
theorem AK (ha : Lk Ma n va ra a) (hb : Lk Mb n vb rb b) (k : Nat) : rg (fu a b) n (2 * k) = rg a n (2 * k) + rg b n (2 * k):=by
 rw [<- Ch ha.wg hb.wg ha.one];unfold rg;rw [vG ha hb]
theorem Dy {h : Hh} {n : Nat} (hn : 2 <= n /\ n <= 4) : VW h n 1 = cL h 0:=by
 have : n = 2 \/ n = 3 \/ n = 4:=by omega
 have e : (rng 0 (n : Int)).filter (gb 1) = [0]:=by rcases this with rfl | rfl | rfl <;> decide +kernel
 unfold VW;rw [e];simp
theorem Cf {as : List Nat} {x : Nat} : rk (as ++ [x]) = rk as ↔ x ∈ ak as:=by
 constructor
 ·intro h
  rw [sE] at h;by_cases hx : x ∈ ak as
  ·exact hx
  ·simp [gr,hx] at h
 ·intro h
  exact Cg fun b hb=>by rw [List.mem_singleton.mp hb]; exact h
theorem tp {M : Nat} {v : List Int} {rows : List (List (List Int))} {h : Hh} (e : h.2 = [v] :: rows) (hn : 2 <= n /\ n <= 4) (k : Nat) : kn h n ((2 * k : Nat) : Int) = true ↔ mk v ∈ ak (MW h n (2 * k)):=by
 unfold kn;rw [Int.toNat_natCast,<- uM oM,beq_iff_eq];have e1 : MW h n 1 = [mk v]:=by
  unfold MW;rw [Dy hn];simp [cL,e]
 rw [e1];exact Cf
theorem xQ (hn : 2 <= n /\ n <= 4) (ha : Lk Ma n va ra a) (hb : Lk Mb n vb rb b) (k : Nat) : kn (fu a b) n ((2 * k : Nat) : Int) = (kn a n ((2 * k : Nat) : Int) && kn b n ((2 * k : Nat) : Int)):=by
 have ea : e7 a = va:=by rw [ha.eq]; rfl
 have eb : e7 b = vb:=by rw [hb.eq]; rfl
 rw [Bool.eq_iff_iff,Bool.and_eq_true,tp (M:=Ma) (v:=e7 a ++ (e7 b).map fun c=>c + a.1) (rows:=uJ a b) rfl hn,tp (M:=Ma) (v:=va) (rows:=ra) (by rw [ha.eq]) hn,tp (M:=Mb) (v:=vb) (rows:=rb) (by rw [hb.eq]) hn,Bk ha hb];have hM : MW (fu a b) n (2 * k) = MW (fJ a b) n (2 * k):=by unfold MW; rw [vG ha hb]
 have hA : ∀ x ∈ MW a n (2 * k),x < 2 ^ Ma:=fun x hx=>by
  obtain ⟨v,hv,rfl⟩:=List.mem_map.mp hx;exact (pM ha.wg v hv).2.2
 have hp:=y1 ha hb (2 * k);rw [hM];have hs : (mk (e7 a) ^^^ up Ma (mk (e7 b)) ∈ ak (MW (fJ a b) n (2 * k))) ↔ (mk (e7 a) ^^^ up Ma (mk (e7 b)) ∈ ak (MW a n (2 * k) ++ (MW b n (2 * k)).map (up Ma))) :=
  ⟨fun h=>fm (fun r hr=>hp.mem_iff.mp hr) h,fun h=>fm (fun r hr=>hp.mem_iff.mpr hr) h⟩
 rw [hs,sw,ea,eb];constructor
 ·rintro ⟨x,y,hx,hy,e⟩
  obtain ⟨rfl,rfl⟩:=tf (by have:=ha.v.2.2; rw [ea] at this; exact this) (qL hA hx) e;exact ⟨hx,hy⟩
 ·rintro ⟨h1,h2⟩
  exact ⟨_,_,h1,h2,rfl⟩
end
theorem u5 {Ma Mb n : Nat} {va vb : List Int} {ra rb : List (List (List Int))} {a b : Hh} (la : Lk Ma n va ra a) (lb : Lk Mb n vb rb b) : p5 (a,b,()) = some (fu a b,a,b,()):=by
 have ha:=la.wg.sm;have hb:=lb.wg.sm;have hl : a.2.length = b.2.length:=by rw [la.wg.len,lb.wg.len]
 have s0 : ej ([] : List (List (List Int))).length = true:=cS (by simp);have hn:=ha.n;unfold p5 qF;simp only [TT.tSeq,bind_some,map_some,aF s0,aF (nr (z:=(a.2.length : Int)) oM oM)];refine eS (S:=df) (P:=fun s=>s.yone = a /\ s.yother = b /\ s.yviews = (fJ a b).2) (fun o=>o = some (fu a b,a,b,())) ?_ ?_
 ·refine dA (S:=df) (fun k s=>s.yone = a /\ s.yother = b /\ s.yviews = (fJ a b).2.take k) ⟨rfl,rfl,rfl⟩ ?_ (fun s h=>⟨h.1,h.2.1,by
   rw [h.2.2,List.take_of_length_le];simp only [fJ,List.length_map,List.length_zip,fW]; omega⟩)
  intro k s x hx hs;obtain ⟨a1,a2,a3,a4,a5⟩:=s;obtain ⟨g1,g2,g3⟩:=hs;dsimp only at g1 g2 g3;subst g1; subst g2; subst g3;obtain ⟨rfl,hk⟩:=jp hx;have hk1 : k < a1.2.length:=by omega
  have hk2 : k < a2.2.length:=by omega
  have q1:=ha.r _ (List.getElem_mem hk1);have q2:=hb.r _ (List.getElem_mem hk2);dsimp only;refine eG (S:=df) (fun o=>∃ s',o = some (TR.nx s') /\ s'.yone = a1 /\ s'.yother = a2 /\ s'.yviews = (fJ a1 a2).2.take (k + 1)) (s1:={ yone:=a1,yother:=a2,yviews:=(fJ a1 a2).2.take k,yname:=(k : Int),yrow:=a1.2[k] }) (by
   simp only [iN hk1,map_some,bind_some];rw [aF (cS oM),fg (f:=fun v=>v) (fun _ _=>rfl) (fun _ _=>rfl)];simp) ?_
  simp only [iN hk2,map_some,bind_some];rw [aF (cS oM)];have hm:=fg (S:=df) (s:={ yone:=a1,yother:=a2,yviews:=(fJ a1 a2).2.take k,yname:=(k : Int),yrow:=a1.2[k] }) (ft:=fun _ s=>some (true,s)) (fe:=fun x5 s=>if ej x5.length = true then TT.tLc (fun x6 s=>some (true,s)) (fun x6 s=>some (x6 + s.yone.fst,s)) x5 s else none) (f:=fun (v : List Int)=>v.map fun c=>c + a1.1) (xs:=a2.2[k]) (fun _ _=>rfl) (fun v hv=>by
   rw [aF (cS (q2.2 v hv))];exact fg (f:=fun c=>c + a1.1) (fun _ _=>rfl) (fun _ _=>rfl))
  rw [hm];simp only [bind_some];rw [aF (cS (by rw [List.length_map]; omega))];simp only [bind_some];rw [aF (jR (by simp only [fJ,List.length_take,List.length_map,List.length_zip]; omega))];refine ⟨_,rfl,rfl,rfl,?_⟩;have hk3 : k < (fJ a1 a2).2.length:=by simp only [fJ,List.length_map,List.length_zip]; omega
  rw [List.take_succ,List.getElem?_eq_getElem hk3];simp [fJ,fY]
 ·rintro ⟨a1,a2,a3,a4,a5⟩ ⟨g1,g2,g3⟩
  dsimp only at g1 g2 g3;subst g1; subst g2; subst g3;have i0 : ∀ x y : List Int,atI [x,y] 0 = some x:=fun _ _=>rfl
  have i1 : ∀ x y : List Int,atI [x,y] 1 = some y:=fun _ _=>rfl
  have j0 : ∀ (x : List (List Int)) (l : List (List (List Int))),atI (x :: l) 0 = some x:=fun x l=>by
   rw [show (0 : Int) = ((0 : Nat) : Int) from rfl]; exact L2.atI_nat (by simp)
  have k0 : ∀ (x : List (List Int)) (l : List (List (List Int))),ixN (x :: l).length 0 = some 0:=fun x l=>by unfold ixN; simp
  rw [pL la lb];simp only [j0,i0,i1,bind_some];have hz : ej ((e7 a1).length + ((e7 a2).map fun c=>c + a1.1).length) = true:=cS (by rw [List.length_map]; have:=kA la; have:=kA lb; omega);simp only [hz,if_true,bind_some,aF EY,k0,map_some,List.set_cons_zero];rfl
theorem Go {a b : Nat} : (((a : Nat) : Int) == ((b : Nat) : Int)) = (a == b):=by
 rw [Bool.eq_iff_iff,beq_iff_eq,beq_iff_eq]; omega
theorem Cu {n : Nat} (hn : n <= 4) : su ((2 ^ n : Nat) : Int) = true:=by
 have:=v4 hn
 unfold su;exact decide_eq_true oM
theorem vW {n : Nat} (hn : n <= 4) : (if decide (0 <= (n : Int) /\ (n : Int) <= 1000000 /\ Int.natAbs 1 < 2 ^ 64) = true then some ((1 : Int) * 2 ^ (n : Int).toNat) else none) = some ((2 ^ n : Nat) : Int):=by
 rw [if_pos (fF oM oM),Int.toNat_natCast,gq]
theorem pS {B n : Nat} {h : Hh} (w : WG B n h) (g : Nat) : (MW h n g).length <= 80:=by unfold MW; rw [List.length_map]; exact (uF w g).2
theorem qU {B n : Nat} {h : Hh} (w : WG B n h) (hn : 2 <= n /\ n <= 4) : kZ ((n : Int),h,()) = some ((ev n).filter (kn h n),(n : Int),h,()):=by
 have s0 : ej ([] : List Int).length = true:=cS (by simp);unfold kZ lJ;simp only [TT.tSeq,bind_some,map_some,aF s0,vW hn.2,aF (Cu hn.2)];refine eS (S:=bi) (P:=fun s=>s.yn = (n : Int) /\ s.yheap_here = h /\ s.yfound = (ev n).filter (kn h n)) (fun o=>o = some ((ev n).filter (kn h n),(n : Int),h,())) ?_ ?_
 ·refine dA (S:=bi) (fun k s=>s.yn = (n : Int) /\ s.yheap_here = h /\ s.yfound = ((ev n).take k).filter (kn h n)) ⟨rfl,rfl,rfl⟩ ?_ (fun s hs=>⟨hs.1,hs.2.1,by rw [hs.2.2]; unfold ev; rw [List.take_length]⟩)
  intro k s x hx hs;obtain ⟨a1,a2,a3,a4,a5⟩:=s;obtain ⟨g1,g2,g3⟩:=hs;dsimp only at g1 g2 g3;subst g1; subst g2; subst g3;have hx' : (ev n)[k]? = some x:=hx;obtain ⟨j,rfl,hj⟩:=Af oM (List.mem_of_getElem? hx');have m1:=mY w (2 * j);have m2:=mY w 1;have l1:=pS w (2 * j);have l2:=pS w 1;have e2 : MI (MW a2 n (2 * j)) ++ MI (MW a2 n 1) = MI (MW a2 n (2 * j) ++ MW a2 n 1):=by unfold MI; rw [List.map_append]
  have r1:=m5 (ms:=MW a2 n (2 * j) ++ MW a2 n 1) (by rw [List.length_append]; omega);have r2:=m5 (ms:=MW a2 n (2 * j)) oM;have hz : ej ((MI (MW a2 n (2 * j))).length + (MI (MW a2 n 1)).length) = true:=cS (by unfold MI; rw [List.length_map,List.length_map]; omega);have hkn : (rk (MW a2 n (2 * j) ++ MW a2 n 1) == rk (MW a2 n (2 * j))) = kn a2 n ((2 * j : Nat) : Int):=by
   unfold kn; rw [uM oM,Int.toNat_natCast]; rfl
  show ∃ s' : bi,_ = some (TR.nx s') /\ s'.yn = (n : Int) /\ s'.yheap_here = a2 /\ s'.yfound = ((ev n).take (k + 1)).filter (kn a2 n);rw [List.take_succ,hx',List.filter_append];refine eG (S:=bi) (fun o=>∃ s',o = some (TR.nx s') /\ s'.yn = (n : Int) /\ s'.yheap_here = a2 /\ s'.yfound = ((ev n).take k).filter (kn a2 n) ++ (some ((2 * j : Nat) : Int)).toList.filter (kn a2 n)) (by simp only [m1,map_some]; rfl) ?_;have m2' : kY (a2,1,()) = some (MI (MW a2 n 1),a2,1,()):=m2;simp only [m2',map_some,bind_some,hz,if_true,e2];unfold MI;simp only [r1,r2,map_some,bind_some,aF iW,Go,hkn];cases hk : kn a2 n ((2 * j : Nat) : Int)
  ·simp only [Bool.false_eq_true,if_false]
   exact ⟨_,rfl,rfl,rfl,by rw [Option.toList_some,List.filter_cons_of_neg (by rw [hk]; decide),List.filter_nil,List.append_nil]⟩
  ·simp only [if_true]
   have hle : (((ev n).take k).filter (kn a2 n)).length <= 100:=by
    have q1:=List.length_filter_le (kn a2 n) ((ev n).take k);have q2:=mC n hn.2;rw [List.length_take] at q1;omega
   rw [aF (jR oM)];exact ⟨_,rfl,rfl,rfl,by rw [Option.toList_some,List.filter_cons_of_pos hk,List.filter_nil]⟩
 ·rintro ⟨a1,a2,a3,a4,a5⟩ ⟨g1,g2,g3⟩
  dsimp only at g1 g2 g3;subst g1; subst g2; subst g3;rfl
theorem Fx (a : Hh) : Py.ok (am TT.rI (rL (rL (rL TT.rI)))) a = true:=qj a
theorem CY {a b : Hh} : (Py.ok (am TT.rI (rL (rL (rL TT.rI)))) a && Py.ok (am TT.rI (rL (rL (rL TT.rI)))) b && decide (min (Py.k (am TT.rI (rL (rL (rL TT.rI))))) (Py.k (am TT.rI (rL (rL (rL TT.rI))))) <= 50)) = true:=Gz
theorem Fw {a b : List Hh} : (Py.ok (rL (am TT.rI (TT.rM (TT.rM (TT.rM TT.rI))))) a && Py.ok (rL (am TT.rI (rL (rL (rL TT.rI))))) b && decide (min (Py.k (rL (am TT.rI (TT.rM (TT.rM (TT.rM TT.rI)))))) (Py.k (rL (am TT.rI (rL (rL (rL TT.rI)))))) <= 50)) = true:=by
 have h1 : ∀ l : List Hh,Py.ok (rL (am TT.rI (TT.rM (TT.rM (TT.rM TT.rI))))) l = true:=fun l=>List.all_eq_true.mpr fun x _=>qj x
 have h2 : ∀ l : List Hh,Py.ok (rL (am TT.rI (rL (rL (rL TT.rI))))) l = true:=fun l=>List.all_eq_true.mpr fun x _=>Fx x
 rw [h1,h2]; rfl
theorem Fv {a b : List Hh} : (Py.ok (rL (am TT.rI (TT.rM (TT.rM (TT.rM TT.rI))))) a && Py.ok (TT.rM (am TT.rI (TT.rM (TT.rM (TT.rM TT.rI))))) b && decide (min (Py.k (rL (am TT.rI (TT.rM (TT.rM (TT.rM TT.rI)))))) (Py.k (TT.rM (am TT.rI (TT.rM (TT.rM (TT.rM TT.rI)))))) <= 50)) = true:=by
 have h1 : ∀ l : List Hh,Py.ok (rL (am TT.rI (TT.rM (TT.rM (TT.rM TT.rI))))) l = true:=fun l=>List.all_eq_true.mpr fun x _=>qj x
 have h2 : ∀ l : List Hh,Py.ok (TT.rM (am TT.rI (TT.rM (TT.rM (TT.rM TT.rI))))) l = true:=fun l=>List.all_eq_true.mpr fun x _=>qj x
 rw [h1,h2]; rfl
theorem Do (xs : List Hh) : iM (fun (a b : Hh)=>a.1 == b.1 && iM (iM (iM fun a b=>a == b)) a.2 b.2) xs xs = true:=iB (fun a=>by rw [Dp]; simp) xs
theorem EX {x y : Hh} : ej [x,y].length = true:=cS (by simp)
theorem BL {gs : List Int} {g : Int} : yd (fun a=>Py.ok TT.rI a && Py.ok TT.rI g && decide (min (Py.k TT.rI) (Py.k TT.rI) <= 50)) (fun a=>a == g) gs = some (gs.any fun a=>a == g):=by
 unfold yd;exact if_pos (List.all_eq_true.mpr fun a _=>rfl)
theorem zI {l : List Int} {p q : Int -> Bool} : (l.filter q).filter (fun x=>(l.filter p).any fun a=>a == x) = l.filter fun x=>p x && q x:=by
 rw [List.filter_filter];apply List.filter_congr;intro x hx;congr 1;rw [Bool.eq_iff_iff,List.any_eq_true];constructor
 ·rintro ⟨y,hy,e⟩
  rw [<- eq_of_beq e]; exact (List.mem_filter.mp hy).2
 ·intro h
  exact ⟨x,List.mem_filter.mpr ⟨hx,h⟩,by simp⟩
theorem B7 {N : Nat} {j : Nat} {x : Int} (h : (B6 (N : Int))[j]? = some x) : x = ((2 * (j + 1) : Nat) : Int) /\ 2 * (j + 1) < N:=by
 unfold B6 at h;rw [List.getElem?_map,Int.toNat_natCast] at h;rcases hk : (List.range ((N - 1) / 2))[j]? with _ | i
 ·rw [hk] at h; cases h
 ·rw [hk] at h
  have h1:=(List.getElem?_eq_some_iff.mp hk).1;have h2:=(List.getElem?_eq_some_iff.mp hk).2;simp only [List.getElem_range] at h2;simp only [List.length_range] at h1;subst h2;have h3 : (2 : Int) + (j : Int) * 2 = x:=Option.some.inj h;exact ⟨by omega,by omega⟩
structure RS (n : Nat) (a b : Hh) (s : ae) : Prop where
 h1 : s.yn = (n : Int)
 h2 : s.yone = a
 h3 : s.yother = b
 h4 : s.ykept = [a,b]
 h5 : s.ydue = fu a b
 h6 : s.ygroups = (ev n).filter (kn (fu a b) n)
theorem uL {Ma Mb n : Nat} {va vb : List Int} {ra rb : List (List (List Int))} {a b : Hh} (hn : 2 <= n /\ n <= 4) (la : Lk Ma n va ra a) (lb : Lk Mb n vb rb b) : nM ((n : Int),a,b,()) = some (true,(n : Int),a,b,()):=by
 have r2 : jo 2 = true:=nr oM oM;have it : n5 "tuple" "tuple" = some true:=rfl;have i0 : ∀ x y : Hh,atI [x,y] 0 = some x:=fun _ _=>rfl
 have i1 : ∀ x y : Hh,atI [x,y] 1 = some y:=fun _ _=>rfl
 have wb:=wL la lb;have hop:=sS wb hn;have hle:=(least_of hn (kn (fu a b) n)).2.1;have htb:=uH wb;have hkn : (ev n).filter (kn (fu a b) n) = (ev n).filter fun x=>kn a n x && kn b n x:=by
  apply List.filter_congr;intro x hx;obtain ⟨k,rfl,_⟩:=tR hx;exact xQ hn la lb k
 unfold nM oh;simp only [TT.tSeq,bind_some,map_some,yo la.wg,yo lb.wg,aF EX,u5 la lb,qb la la,u5 la la,aF CY,Dp,beq_self_eq_true,Bool.and_self,Bool.not_true,Bool.false_eq_true,if_false,aF Fw,Do,i0,i1,qU la.wg hn,qU lb.wg hn];have hz : ej ((ev n).filter (kn b n)).length = true:=cS (by have:=List.length_filter_le (kn b n) (ev n); have:=mC n hn.2; omega);simp only [hz,if_true];rw [gZ (p:=fun x=>((ev n).filter (kn a n)).any fun a=>a == x) (f:=fun x=>x) (fun x _=>by simp only [BL,map_some]) (fun _ _ _=>rfl)];simp only [List.map_id',map_some,bind_some,zI,<- hkn,aF r2];refine eS (S:=ae) (P:=fun s=>RS n a b s) (fun o=>o = some (true,(n : Int),a,b,())) ?_ ?_
 ·refine dA (S:=ae) (fun _ s=>RS n a b s) ⟨rfl,rfl,rfl,rfl,rfl,rfl⟩ ?_ (fun _ h=>h)
  intro k s x hx hs;clear hx;obtain ⟨a1,a2,a3,a4,a5,a6,a7,a8,a9,a10,a11,a12⟩:=s;obtain ⟨g1,g2,g3,g4,g5,g6⟩:=hs;dsimp only at g1 g2 g3 g4 g5 g6;cases g1.symm; cases g2.symm; cases g3.symm; cases g4.symm; cases g5.symm; cases g6.symm;refine eG (S:=ae) (fun o=>∃ s',o = some (TR.nx s') /\ RS n a b s') (by simp only [qb la lb,map_some]; rfl) ?_;refine eG (S:=ae) (fun o=>∃ s',o = some (TR.nx s') /\ RS n a b s') (by simp only [it,aF CY,Dp,beq_self_eq_true,Bool.and_self,Bool.not_true,Bool.false_eq_true,if_false,map_some,bind_some,aF EX,aF Fv,Do]; rfl) ?_;refine eG (S:=ae) (fun o=>∃ s',o = some (TR.nx s') /\ RS n a b s') (by simp only [hop,hle,aF CW,E9,Bool.not_true,Bool.false_eq_true,if_false,map_some,bind_some]; rfl) ?_;refine eG (S:=ae) (fun o=>∃ s',o = some (TR.nx s') /\ RS n a b s') (by simp only [htb,map_some]; rfl) ?_;refine Ca (S:=ae) (P:=fun s=>RS n a b s /\ s.ytold = fu a b) (fun o=>∃ s',o = some (TR.nx s') /\ RS n a b s') (by
   simp only [vW hn.2,map_some,bind_some,aF (Cu hn.2)];refine dA (S:=ae) (fun _ s=>RS n a b s /\ s.ytold = fu a b /\ s.ytable_here = j4 (fu a b) n) ⟨⟨rfl,rfl,rfl,rfl,rfl,rfl⟩,rfl,rfl⟩ ?_ (fun _ h=>⟨h.1,h.2.1⟩);intro j s x hx hs;obtain ⟨b1,b2,b3,b4,b5,b6,b7,b8,b9,b10,b11,b12⟩:=s;obtain ⟨⟨g1,g2,g3,g4,g5,g6⟩,g7,g8⟩:=hs;dsimp only at g1 g2 g3 g4 g5 g6 g7 g8;cases g1.symm; cases g2.symm; cases g3.symm; cases g4.symm; cases g5.symm; cases g6.symm; cases g7.symm; cases g8.symm;obtain ⟨rfl,hj⟩:=B7 hx;have l1:=pS la.wg (2 * (j + 1));have l2:=pS lb.wg (2 * (j + 1));have q1:=m5 (ms:=MW a n (2 * (j + 1))) oM;have q2:=m5 (ms:=MW b n (2 * (j + 1))) oM;have ht:=sv (h:=fu a b) (n:=n) (g:=2 * (j + 1)) oM hj;refine eG (S:=ae) (fun o=>∃ s',o = some (TR.nx s') /\ RS n a b s' /\ s'.ytold = fu a b /\ s'.ytable_here = j4 (fu a b) n) (by
    simp only [i0,i1,map_some,bind_some,mY la.wg,mY lb.wg,MI,q1,q2];rfl) ?_
   dsimp only;rw [ht];simp only [map_some,bind_some,aF iW];rw [show ((((rg (fu a b) n (2 * (j + 1)) : Nat) : Int) == ((rk (MW a n (2 * (j + 1))) : Nat) : Int) + ((rk (MW b n (2 * (j + 1))) : Nat) : Int))) = true by
    rw [AK la lb,beq_iff_eq]; unfold rg MW; omega]
   exact ⟨_,rfl,⟨rfl,rfl,rfl,rfl,rfl,rfl⟩,rfl,rfl⟩) ?_
  rintro s ⟨hs,ht⟩;obtain ⟨b1,b2,b3,b4,b5,b6,b7,b8,b9,b10,b11,b12⟩:=s;obtain ⟨g1,g2,g3,g4,g5,g6⟩:=hs;dsimp only at g1 g2 g3 g4 g5 g6 ht;cases g1.symm; cases g2.symm; cases g3.symm; cases g4.symm; cases g5.symm; cases g6.symm; cases ht.symm;have hw:=(uD la lb).1;refine eG (S:=ae) (fun o=>∃ s',o = some (TR.nx s') /\ RS n a b s') (by
   simp only [fu];rw [aF (jR hw)];rfl) ?_
  exact ⟨_,rfl,⟨rfl,rfl,rfl,rfl,rfl,rfl⟩⟩
 ·rintro s hs
  simp only [bind_some,hs.h1,hs.h2,hs.h3]
noncomputable def rC (n : Nat) : List (List Int):=match n with
 | 2=>[[],[0],[2]]
 | 3=>[[],[0],[2],[4],[6],[2,4]]
 | _=>[[],[0],[2],[4],[6],[8],[10],[12],[14],[2,4],[2,8],[2,12],[4,8],[4,10],[6,8],[6,10],[6,12],[10,12],[2,4,8],[6,10,12]]
noncomputable def uI (n : Int) (K : List Int) : Hh:=((ef (n,K,())).map (·.1)).getD (0,[])
theorem DY {os K : List Int} (hK : K ∈ rC 2) (h : du (2,os,()) = some (K,2,os,())) : ef (2,os,()) = some (uI 2 K,2,os,()):=by
 unfold ef iO;simp only [TT.tSeq,bind_some,map_some,h];simp only [rC,List.mem_cons,List.not_mem_nil,or_false] at hK;rcases hK with rfl | rfl | rfl <;> kernel_rfl
theorem DX {os K : List Int} (hK : K ∈ rC 3) (h : du (3,os,()) = some (K,3,os,())) : ef (3,os,()) = some (uI 3 K,3,os,()):=by
 unfold ef iO;simp only [TT.tSeq,bind_some,map_some,h];simp only [rC,List.mem_cons,List.not_mem_nil,or_false] at hK;rcases hK with rfl | rfl | rfl | rfl | rfl | rfl <;> kernel_rfl
theorem DW {os K : List Int} (hK : K ∈ rC 4) (h : du (4,os,()) = some (K,4,os,())) : ef (4,os,()) = some (uI 4 K,4,os,()):=by
 unfold ef iO;simp only [TT.tSeq,bind_some,map_some,h];simp only [rC,List.mem_cons,List.not_mem_nil,or_false] at hK;rcases hK with rfl | rfl | rfl | rfl | rfl | rfl | rfl | rfl | rfl | rfl | rfl | rfl | rfl | rfl | rfl | rfl | rfl | rfl | rfl | rfl <;> kernel_rfl
theorem Cc {n : Nat} (hn : 2 <= n /\ n <= 4) {os K : List Int} (hK : K ∈ rC n) (h : du ((n : Int),os,()) = some (K,(n : Int),os,())) : ef ((n : Int),os,()) = some (uI (n : Int) K,(n : Int),os,()):=by
 have : n = 2 \/ n = 3 \/ n = 4:=by omega
 rcases this with rfl | rfl | rfl
 ·exact DY hK h
 ·exact DX hK h
 ·exact DW hK h
noncomputable def lN (os : List Int) (g : Int) : Bool:=os.any fun o=>Builtin.bitAnd o g == o
noncomputable def mq (os : List Int) (g : Int) : Bool:=os.any fun o=>Builtin.bitAnd o (Builtin.bitNot g) == 0
theorem Bc {os : List Int} (g : Int) (h : os.length <= 1000) : pW (os,g,()) = some (mq os g,os,g,()):=by
 unfold pW qA;simp only [TT.tSeq,bind_some,map_some];rw [aF (cS h),fg (f:=fun x=>Builtin.bitAnd x (Builtin.bitNot g) == 0) (fun x _=>rfl) (fun x _=>by rw [aF iW]; rfl)];simp only [bind_some,map_some,List.any_map];rfl
theorem zm {S : Type} {put : S -> Int -> S} {fb : S -> Option (TR S Bool)} {p : Int -> Bool} {I : S -> Prop} (hb : ∀ s x,I s -> (p x = true -> ∃ s',fb (put s x) = some (.rt true s') /\ I s') /\ (p x = false -> ∃ s',fb (put s x) = some (.nx s') /\ I s')) :
  ∀ (xs : List Int) (s : S),I s -> (xs.any p = true -> ∃ s',dI put fb xs s = some (.rt true s') /\ I s') /\ (xs.any p = false -> ∃ s',dI put fb xs s = some (.nx s') /\ I s'):=by
 intro xs
 induction xs with
 | nil=>exact fun s h=>⟨fun e=>(nomatch e),fun _=>⟨s,rfl,h⟩⟩
 | cons x xs ih =>
  intro s h;obtain ⟨h1,h2⟩:=hb s x h;cases hp : p x
  ·obtain ⟨s',e,i⟩:=h2 hp
   simp only [List.any_cons,hp,Bool.false_or,dI,e,bind_some];exact ih s' i
  ·obtain ⟨s',e,i⟩:=h1 hp
   simp only [List.any_cons,hp,Bool.true_or,dI,e,bind_some];exact ⟨fun _=>⟨s',rfl,i⟩,fun e=>(nomatch e)⟩
theorem zS {S γ γ' : Type} {put : S -> Int -> S} {fb : S -> Option (TR S Bool)} {xs : List Int} {s : S} {k : TR S Bool -> Option γ'} {k2 : γ' -> Option γ} {p : Int -> Bool} {I : S -> Prop} (Q : Option γ -> Prop) (hb : ∀ s x,I s -> (p x = true -> ∃ s',fb (put s x) = some (.rt true s') /\ I s') /\ (p x = false -> ∃ s',fb (put s x) = some (.nx s') /\ I s')) (h0 : I s)
  (h1 : ∀ s',xs.any p = true -> I s' -> Q ((k (.rt true s')).bind k2)) (h2 : ∀ s',xs.any p = false -> I s' -> Q ((k (.nx s')).bind k2)) : Q (((dI put fb xs s).bind k).bind k2):=by
 obtain ⟨k1,k3⟩:=zm hb xs s h0;cases hq : xs.any p
 ·obtain ⟨s',e,i⟩:=k3 hq; rw [e]; exact h2 s' hq i
 ·obtain ⟨s',e,i⟩:=k1 hq; rw [e]; exact h1 s' hq i
theorem zl (os : List Int) (g : Int) : nN (os,g,()) = some (lN os g,os,g,()):=by
 unfold nN oi;simp only [TT.tSeq,bind_some,map_some];refine zS (S:=dU) (p:=fun o=>Builtin.bitAnd o g == o) (I:=fun s=>s.yopeners_here = os /\ s.yg = g) (fun o=>o = some (lN os g,os,g,())) ?_ ⟨rfl,rfl⟩ ?_ ?_
 ·rintro ⟨b1,b2,b3⟩ x ⟨e1,e2⟩
  dsimp only at e1 e2;subst e1; subst e2;refine ⟨fun e=>?_,fun e=>?_⟩
  ·simp only [aF iW,e,map_some,bind_some,if_true]
   exact ⟨_,rfl,rfl,rfl⟩
  ·simp only [aF iW,e,map_some,bind_some,Bool.false_eq_true,if_false]
   exact ⟨_,rfl,rfl,rfl⟩
 ·rintro s hq ⟨i1,i2⟩
  simp only [bind_some,i1,i2];unfold lN; rw [hq]
 ·rintro s hq ⟨i1,i2⟩
  simp only [bind_some,i1,i2];unfold lN; rw [hq]
noncomputable def has (l : List Int) (g : Int) : Bool:=l.any fun a=>a == g
theorem lz {l : List Int} {p : Int -> Bool} {g : Int} (h : g ∈ l) : has (l.filter p) g = p g:=by
 unfold has;rw [Bool.eq_iff_iff,List.any_eq_true];constructor
 ·rintro ⟨y,hy,e⟩; rw [<- eq_of_beq e]; exact (List.mem_filter.mp hy).2
 ·intro hp; exact ⟨g,List.mem_filter.mpr ⟨h,hp⟩,by simp⟩
noncomputable def B2 (n : Nat) (L : List Int) : Bool:=(ev n).all fun g=>(ev n).all fun g'=>!(has L g && (Builtin.bitAnd g g' == g)) || has L g'
noncomputable def EV (M : Nat) (v : List Int) : Bool:=decide (v.length <= 1000) && (v.all (fun c=>decide (0 <= c /\ c <= 1000)) && decide (mk v < 2 ^ M))
noncomputable def zN (n : Nat) (h : Hh) : Bool:=match h.2 with
 | [_] :: _=>decide (h.1 = (h.1.toNat : Int)) && (decide (h.1.toNat <= 6) && (decide (h.2.length = n) && h.2.all fun r=>decide (r.length <= 9) && r.all (EV h.1.toNat)))
 | _=>false
noncomputable def Ai (n : Nat) : Bool:=(li (ev n)).all fun L=>!(B2 n L) || ((rC n).contains (lst L) && (zN n (uI (n : Int) (lst L)) && (ev n).all fun g=>kn (uI (n : Int) (lst L)) n g == has L g))
theorem FU : Ai 2 = true:=by decide +kernel
theorem FS : Ai 3 = true:=by decide +kernel
theorem FR : Ai 4 = true:=by decide +kernel
noncomputable def Aj (n : Nat) : Bool:=(ev n).all fun o=>(ev n).all fun g=>((Builtin.bitAnd o g == o) == (Builtin.bitAnd o (Builtin.bitNot g) == 0)) && (ev n).all fun g'=>!((Builtin.bitAnd o (Builtin.bitNot g) == 0) && (Builtin.bitAnd g g' == g)) || (Builtin.bitAnd o (Builtin.bitNot g') == 0)
theorem FX : Aj 2 = true:=by decide +kernel
theorem FW : Aj 3 = true:=by decide +kernel
theorem FV : Aj 4 = true:=by decide +kernel
theorem Ey {n : Nat} (hn : 2 <= n /\ n <= 4) {h : Hh} (c : zN n h = true) : ∃ M v rows,Lk M n v rows h:=by
 unfold zN at c;split at c
 ·rename_i v rows e
  simp only [Bool.and_eq_true,decide_eq_true_eq,List.all_eq_true,EV] at c;obtain ⟨c1,c2,c3,c4⟩:=c;refine ⟨h.1.toNat,v,rows,?_,⟨by omega,c3,by omega,fun r hr=>⟨by have:=(c4 r hr).1; omega,fun w hw=>?_⟩⟩,c2,fun r hr=>(c4 r hr).1⟩
  ·obtain ⟨a,b⟩:=h
   dsimp only at e c1;subst e;rw [<- c1]
  ·obtain ⟨q1,q2,q3⟩:=(c4 r hr).2 w hw
   exact ⟨q1,q2,q3⟩
 ·cases c
theorem wY {n : Nat} (hn : 2 <= n /\ n <= 4) {os : List Int} (ho : ∀ o ∈ os,o ∈ ev n) (hl : os.length <= 100) :
  ∃ h M v rows,ef ((n : Int),os,()) = some (h,(n : Int),os,()) /\ Lk M n v rows h /\ ∀ g ∈ ev n,kn h n g = lN os g:=by
 have hO : Aj n = true:=by
  have : n = 2 \/ n = 3 \/ n = 4:=by omega
  rcases this with rfl | rfl | rfl
  ·exact FX
  ·exact FW
  ·exact FV
 have hS : Ai n = true:=by
  have : n = 2 \/ n = 3 \/ n = 4:=by omega
  rcases this with rfl | rfl | rfl
  ·exact FU
  ·exact FS
  ·exact FR
 have o1 : ∀ o ∈ ev n,∀ g ∈ ev n,(Builtin.bitAnd o g == o) = (Builtin.bitAnd o (Builtin.bitNot g) == 0):=fun o h1 g h2=>by
  have:=List.all_eq_true.mp (List.all_eq_true.mp hO o h1) g h2
  rw [Bool.and_eq_true] at this;exact eq_of_beq this.1
 have o2 : ∀ o ∈ ev n,∀ g ∈ ev n,∀ g' ∈ ev n,(Builtin.bitAnd o (Builtin.bitNot g) == 0) = true -> (Builtin.bitAnd g g' == g) = true -> (Builtin.bitAnd o (Builtin.bitNot g') == 0) = true:=fun o h1 g h2 g' h3 e1 e2=>by
  have:=List.all_eq_true.mp (List.all_eq_true.mp hO o h1) g h2
  rw [Bool.and_eq_true] at this
  have:=List.all_eq_true.mp this.2 g' h3
  rw [e1,e2] at this;simpa using this
 have hPL : ∀ g ∈ ev n,mq os g = lN os g:=fun g hg=>by
  unfold mq lN;rw [Bool.eq_iff_iff,List.any_eq_true,List.any_eq_true];constructor
  ·rintro ⟨o,h1,h2⟩; exact ⟨o,h1,by rw [o1 o (ho o h1) g hg]; exact h2⟩
  ·rintro ⟨o,h1,h2⟩; exact ⟨o,h1,by rw [<- o1 o (ho o h1) g hg]; exact h2⟩
 have hup : B2 n ((ev n).filter (mq os)) = true:=by
  unfold B2;refine List.all_eq_true.mpr fun g hg=>List.all_eq_true.mpr fun g' hg'=>?_
  rw [lz hg,lz hg'];cases h1 : mq os g
  ·rfl
  ·cases h2 : Builtin.bitAnd g g' == g
   ·rfl
   ·have : mq os g' = true:=by
     unfold mq at h1 ⊢;obtain ⟨o,q1,q2⟩:=List.any_eq_true.mp h1;exact List.any_eq_true.mpr ⟨o,q1,o2 o (ho o q1) g hg g' hg' q2 h2⟩
    rw [this]; rfl
 have hc:=List.all_eq_true.mp hS _ (nq (mq os) (ev n));rw [hup] at hc;simp only [Bool.not_true,Bool.false_or,Bool.and_eq_true,List.all_eq_true] at hc;obtain ⟨c1,c2,c3⟩:=hc;obtain ⟨M,v,rows,lk⟩:=Ey hn c2;have hlo : du ((n : Int),os,()) = some (lst ((ev n).filter (mq os)),(n : Int),os,()):=by
  unfold du iw;simp only [TT.tSeq,bind_some,map_some,z6 hn,aF (cS (n:=(ev n).length) (by have:=mC n hn.2; omega))];rw [gZ (p:=mq os) (f:=fun x=>x) (fun x _=>by simp only [Bc x (show os.length <= 1000 by omega),map_some]) (fun _ _ _=>rfl)];simp only [List.map_id',map_some,bind_some,(least_of hn (mq os)).1]
 refine ⟨_,M,v,rows,Cc hn (by simpa using c1) hlo,lk,fun g hg=>?_⟩;rw [eq_of_beq (c3 g hg),lz hg,hPL g hg]
theorem BR {v : List Int} {l : List (List Int)} : bY (v :: l) none (some 1) = [v]:=by
 unfold bY;rw [HT.sIx_none,show HT.sIx (v :: l).length (v :: l).length (some 1) = 1 by rw [show (1 : Int) = ((1 : Nat) : Int) from rfl,HT.sIx_nat]; simp];rfl
theorem CV {a b : List (List Int)} : (Py.ok (rL (rL TT.rI)) a && Py.ok (rL (rL TT.rI)) b && decide (min (Py.k (rL (rL TT.rI))) (Py.k (rL (rL TT.rI))) <= 50)) = true:=by
 have h1 : ∀ l : List (List Int),Py.ok (rL (rL TT.rI)) l = true:=fun l=>List.all_eq_true.mpr fun x _=>List.all_eq_true.mpr fun _ _=>rfl
 rw [h1,h1]; rfl
theorem j0 (x : List (List Int)) (l : List (List (List Int))) : atI (x :: l) 0 = some x:=by
 rw [show (0 : Int) = ((0 : Nat) : Int) from rfl]; exact L2.atI_nat (by simp)
theorem vp (c : Int) {n : Nat} (hn : 2 <= n /\ n <= 4) : ∃ h M v rows,nQ (c,(n : Int),()) = some (h,c,(n : Int),()) /\ Lk M n v rows h:=by
 obtain ⟨h,M,eh,h1,hM,w,hr⟩:=Dl c (n:=n) (mo:=6) oM oM;have eh : mR (c,(n : Int),6,()) = some (h,c,(n : Int),6,()):=eh;obtain ⟨a,vs⟩:=h;dsimp only at h1;subst h1;have hl:=w.len;dsimp only at hl;cases vs with
 | nil=>simp at hl; omega
 | cons row rows =>
  have f8 : mB c 8 = true:=tQ (by decide +kernel);have lkOf : ∀ v,VO M v -> Lk M n v rows ((M : Int),[v] :: rows):=fun v hv=>⟨rfl,⟨w.hB,by simpa using w.len,w.n4,fun r hr'=>by
   rcases List.mem_cons.mp hr' with rfl | hr'
   ·exact ⟨by simp,fun u hu=>by rw [List.mem_singleton.mp hu]; exact hv⟩
   ·exact w.row r (List.mem_cons_of_mem _ hr')⟩,hM,fun r hr'=>by
   rcases List.mem_cons.mp hr' with rfl | hr'
   ·simp
   ·have:=hr r (List.mem_cons_of_mem _ hr'); omega⟩
  have hv : ∀ v ∈ row,VO M v:=(w.row row (by simp)).2;unfold nQ oo;simp only [TT.tSeq,bind_some,map_some,eh,j0];cases row with
  | nil =>
   obtain ⟨m,hm⟩ : ∃ m : Nat,c / 8 % (1 * 2 ^ (M : Int).toNat) = (m : Int) /\ m < 2 ^ M:=by
    rw [Int.toNat_natCast,gq];have p0 : 0 < 2 ^ M:=Nat.pow_pos dC;have z0:=Int.emod_nonneg (c / 8) (show ((2 ^ M : Nat) : Int) ≠ 0 by omega);have z1:=Int.emod_lt_of_pos (c / 8) (show (0 : Int) < ((2 ^ M : Nat) : Int) by omega);exact ⟨(c / 8 % ((2 ^ M : Nat) : Int)).toNat,by omega,by omega⟩
   have dp : decide ((0 : Int) < 1 * 2 ^ (M : Int).toNat) = true:=decide_eq_true (by rw [Int.one_mul]; exact Int.pow_pos dC);simp only [List.length_nil,show decide ((1 : Int) < ((0 : Nat) : Int)) = false from rfl,Bool.false_eq_true,if_false,bind_some,j0,aF CV,iM,if_true,map_some,aF f8,aF (fF (x:=(M : Int)) oM oM),aF dp,hm.1,yx];rw [aF (jR (n:=0) oM)];exact ⟨_,M,lF m,rows,rfl,lkOf _ (uE oM hm.2)⟩
  | cons v eH =>
   have hv0:=hv v (by simp);cases eH with
   | nil =>
    simp only [List.length_cons,List.length_nil,show decide ((1 : Int) < ((0 + 1 : Nat) : Int)) = false from rfl,Bool.false_eq_true,if_false,bind_some,j0,aF CV,iM,map_some];exact ⟨_,M,v,rows,rfl,lkOf v hv0⟩
   | cons u eH =>
    have hd : decide ((1 : Int) < (((u :: eH).length + 1 : Nat) : Int)) = true:=decide_eq_true (by simp only [List.length_cons]; omega);simp only [List.length_cons] at hd ⊢;simp only [hd,if_true,bind_some,BR,j0,aF CV,iM,Bool.false_eq_true,if_false,map_some];exact ⟨_,M,v,rows,rfl,lkOf v hv0⟩
theorem EQ {n k : Nat} (hn : 1 <= n) (h : k < 2 ^ (n - 1)) : ((2 * k : Nat) : Int) ∈ ev n:=by
 unfold ev two;refine List.mem_map.mpr ⟨k,?_,by omega⟩;rw [List.mem_range,Int.toNat_natCast];have : 2 ^ n = 2 * 2 ^ (n - 1):=by rw [<- Nat.pow_succ']; congr 1; omega
 omega
theorem qP (c : Int) {n : Nat} (hn : 2 <= n /\ n <= 4) : ∃ os : List Int,kW (c,(n : Int),()) = some (os,c,(n : Int),()) /\ os.length <= 12 /\ ∀ o ∈ os,o ∈ ev n:=by
 obtain ⟨ds,hds,hl,hdr⟩:=vo c (n:=12) (b:=64) oM oM;have hl : ds.length = 12:=hl;have s0 : ej ([] : List Int).length = true:=cS (by simp);have d11 : decide ((0 : Int) < 11) = true:=by decide
 have d8 : decide ((0 : Int) < 8) = true:=by decide
 have a0 : atI ds 0 = some (ds[0]'(by omega)):=iN (j:=0) oM;have a1 : atI ds 1 = some (ds[1]'(by omega)):=iN (j:=1) oM;unfold kW lI;simp only [TT.tSeq,bind_some,map_some,hds,aF s0,a0,aF d11];have hcut : (bY ds (some 2) (some (2 + (ds[0]'(by omega)) % 11))).length <= 12:=by
  unfold bY;rw [List.length_take,List.length_drop];omega
 have hmem : ∀ x ∈ bY ds (some 2) (some (2 + (ds[0]'(by omega)) % 11)),0 <= x:=fun x hx=>(hdr x (List.mem_of_mem_drop (List.mem_of_mem_take hx))).1
 generalize bY ds (some 2) (some (2 + (ds[0]'(by omega)) % 11)) = xs at hcut hmem;refine eS (S:=ba) (P:=fun s=>s.ycell = c /\ s.yn = (n : Int) /\ s.yopeners_here.length <= 12 /\ ∀ o ∈ s.yopeners_here,o ∈ ev n) (fun o=>∃ os : List Int,o = some (os,c,(n : Int),()) /\ os.length <= 12 /\ ∀ o ∈ os,o ∈ ev n) ?_ ?_
 ·refine dA (S:=ba) (fun k s=>s.ycell = c /\ s.yn = (n : Int) /\ s.ydigits = ds /\ s.yopeners_here.length <= k /\ ∀ o ∈ s.yopeners_here,o ∈ ev n) ⟨rfl,rfl,rfl,Nat.le_refl _,fun o ho=>absurd ho List.not_mem_nil⟩ ?_ (fun s hs=>⟨hs.1,hs.2.1,by have:=hs.2.2.2.1; omega,hs.2.2.2.2⟩)
  intro k s x hx hs;obtain ⟨b1,b2,b3,b4,b5,b6⟩:=s;obtain ⟨g1,g2,g3,g4,g5⟩:=hs;dsimp only at g1 g2 g3 g4 g5;cases g1.symm; cases g2.symm; cases g3.symm;have hxk : k < xs.length /\ True:=⟨(List.getElem?_eq_some_iff.mp hx).1,trivial⟩;have x0:=hmem x (List.mem_of_getElem? hx);have hn1 : ((n : Int) - 1).toNat = n - 1:=by omega
  have p0 : 0 < 2 ^ (n - 1):=Nat.pow_pos dC;have p8 : 2 ^ (n - 1) <= 2 ^ 3:=Nat.pow_le_pow_right dC oM;obtain ⟨m,hm,hm2⟩ : ∃ m : Nat,x % (1 * 2 ^ ((n : Int) - 1).toNat) = (m : Int) /\ m < 2 ^ (n - 1):=by
   rw [hn1,gq];have z0:=Int.emod_nonneg x (show ((2 ^ (n - 1) : Nat) : Int) ≠ 0 by omega);have z1:=Int.emod_lt_of_pos x (show (0 : Int) < ((2 ^ (n - 1) : Nat) : Int) by omega);exact ⟨(x % ((2 ^ (n - 1) : Nat) : Int)).toNat,by omega,by omega⟩
  have dp : decide ((0 : Int) < 1 * 2 ^ ((n : Int) - 1).toNat) = true:=decide_eq_true (by rw [Int.one_mul]; exact Int.pow_pos dC);have m2 : ju 2 (m : Int) = true:=qk oM;have hin:=EQ (n:=n) oM hm2;have e2 : ((2 * m : Nat) : Int) = 2 * (m : Int):=by omega
  rw [e2] at hin;show ∃ s' : ba,_ = some (TR.nx s') /\ s'.ycell = c /\ s'.yn = (n : Int) /\ s'.ydigits = ds /\ s'.yopeners_here.length <= k + 1 /\ ∀ o ∈ s'.yopeners_here,o ∈ ev n;refine eG (S:=ba) (fun o=>∃ s',o = some (TR.nx s') /\ s'.ycell = c /\ s'.yn = (n : Int) /\ s'.ydigits = ds /\ s'.yopeners_here.length <= k + 1 /\ ∀ o ∈ s'.yopeners_here,o ∈ ev n) (by
   simp only [aF (fF (x:=(n : Int) - 1) oM oM),bind_some,aF dp,hm,aF m2,map_some];rfl) ?_
  have yes : ∃ s' : ba,Option.map (fun p : Unit × ba=>(TR.nx p.2 : TR ba (List Int))) (if oO b4.length = true then some ((),({ ycell:=c,yn:=(n : Int),ydigits:=ds,yopeners_here:=b4 ++ [2 * (m : Int)],ydigit:=x,yg:=2 * (m : Int) } : ba)) else none) = some (TR.nx s') /\ s'.ycell = c /\ s'.yn = (n : Int) /\ s'.ydigits = ds /\ s'.yopeners_here.length <= k + 1 /\ ∀ o ∈ s'.yopeners_here,o ∈ ev n:=by
   have hk12:=hxk.1;rw [aF (jR oM)];refine ⟨_,rfl,rfl,rfl,rfl,by simp; omega,fun o ho=>?_⟩;rcases List.mem_append.mp ho with ho | ho
   ·exact g5 o ho
   ·rw [List.mem_singleton.mp ho]; exact hin
  by_cases h0 : (0 : Int) < 2 * (m : Int)
  ·simp only [decide_eq_true h0,if_true,bind_some]
   exact yes
  ·simp only [decide_eq_false h0,Bool.false_eq_true,if_false,bind_some,a1,aF d8,map_some,aF iW]
   cases (ds[1]'(by omega)) % 8 == 3
   ·simp only [Bool.false_eq_true,if_false]
    exact ⟨_,rfl,rfl,rfl,rfl,by dsimp only; omega,g5⟩
   ·simp only [if_true]
    exact yes
 ·rintro s ⟨g1,g2,g3,g4⟩
  simp only [bind_some,g1,g2];exact ⟨_,rfl,g3,g4⟩
theorem Ds {l : List Int} : (bY l none (some 6)).length <= l.length /\ ∀ x ∈ bY l none (some 6),x ∈ l:=by
 unfold bY;exact ⟨by rw [List.length_take,List.length_drop]; omega,fun x hx=>List.mem_of_mem_drop (List.mem_of_mem_take hx)⟩
theorem yF {j : Int} {k : Nat} {x : Int} (h : (two j)[k]? = some x) : x = ((2 * k : Nat) : Int):=by
 unfold two at h;rw [List.getElem?_map] at h;rcases hk : (List.range ((j.toNat + 1) / 2))[k]? with _ | i
 ·rw [hk] at h; cases h
 ·rw [hk] at h
  have h2:=(List.getElem?_eq_some_iff.mp hk).2;simp only [List.getElem_range] at h2;subst h2;have h3 : (0 : Int) + (k : Int) * 2 = x:=Option.some.inj h;omega
noncomputable def O1 (ns : List Int) (o : Option (TR aY Bool)) : Prop:=∃ s' : aY,o = some (TR.nx s') /\ s'.yscript = ns
theorem law_t (ns : List Int) (hl : ns.length <= 63) : ∃ q,vU (ns,()) = some (true,q):=by
 have d3 : decide ((0 : Int) < 3) = true:=by decide
 have f3 : ∀ x,mB x 3 = true:=fun x=>tQ (by decide +kernel)
 unfold vU wH;simp only [TT.tSeq,bind_some,map_some];have tw : su (if (if (ns.length : Int) - 1 < 30 then (ns.length : Int) - 1 else 30) > 2 then if (ns.length : Int) - 1 < 30 then (ns.length : Int) - 1 else 30 else 2) = true:=by
  unfold su;refine decide_eq_true ?_;split <;> split <;> omega
 rw [aF tw];simp only [bind_some];refine eS (S:=aY) (P:=fun s=>True) (fun o=>∃ q,o = some (true,q)) ?_ fun s' h=>⟨_,rfl⟩
 refine dA (S:=aY) (fun k s=>s.yscript = ns) rfl ?_ (fun _ _=>trivial);intro k s x hx e1;have hx1:=yF hx;clear hx;subst hx1;obtain ⟨a1,a2,a3,a4,a5,a6,a7,a8,a9⟩:=s;dsimp only at e1;cases e1.symm;obtain ⟨v,ev0⟩:=yp ns (k:=((2 * k : Nat) : Int)) oM;obtain ⟨u,eu0⟩:=yp ns (k:=((2 * k : Nat) : Int) + 1) oM;obtain ⟨n,hnv⟩ : ∃ n : Nat,2 + v % 3 = (n : Int):=⟨(2 + v % 3).toNat,by omega⟩;have hn : 2 <= n /\ n <= 4:=by omega
 obtain ⟨o1,eo1,l1,m1⟩:=qP (v / 3) hn;obtain ⟨o2,eo2,l2,m2⟩:=qP u hn;have c1:=Ds (l:=o1);have c2:=Ds (l:=o2);obtain ⟨s1,M1,v1,r1,es1,lk1,k1⟩:=wY hn (os:=bY o1 none (some 6)) (fun o ho=>m1 o (c1.2 o ho)) oM;obtain ⟨s2,M2,v2,r2,es2,lk2,k2⟩:=wY hn (os:=bY o2 none (some 6)) (fun o ho=>m2 o (c2.2 o ho)) oM;obtain ⟨h1,N1,w1,q1,eh1,lh1⟩:=vp (v / 3) hn;obtain ⟨h2,N2,w2,q2,eh2,lh2⟩:=vp u hn;show O1 ns _;refine eG (S:=aY) (O1 ns) (by simp only [ev0,map_some]; rfl) ?_;refine eG (S:=aY) (O1 ns) (by simp only [eu0,map_some]; rfl) ?_;refine eG (S:=aY) (O1 ns) (by simp only [aF d3,bind_some,map_some,hnv]; rfl) ?_;refine eG (S:=aY) (O1 ns) (by simp only [aF (f3 _),bind_some,map_some,eo1]; rfl) ?_;refine eG (S:=aY) (O1 ns) (by simp only [bind_some,map_some,eo2]; rfl) ?_;refine eG (S:=aY) (O1 ns) (by simp only [bind_some,map_some,es1,es2,uL hn lk1 lk2,Bool.not_true,Bool.false_eq_true,if_false]; rfl) ?_;refine eG (S:=aY) (O1 ns) (by simp only [aF (f3 _),bind_some,map_some,eh1,eh2,uL hn lh1 lh2,Bool.not_true,Bool.false_eq_true,if_false]; rfl) ?_;refine eG (S:=aY) (O1 ns) (by simp only [bind_some,map_some,es1,es2,qb lk1 lk2]; rfl) ?_;have hf : (ev n).filter (kn (fu s1 s2) n) = (ev n).filter fun g=>lN (bY o1 none (some 6)) g && lN (bY o2 none (some 6)) g:=by
  apply List.filter_congr;intro x hx;rw [<- k1 x hx,<- k2 x hx];obtain ⟨j,rfl,_⟩:=tR hx;exact xQ hn lk1 lk2 j
 refine eG (S:=aY) (s1:={ yscript:=ns,yk:=((2 * k : Nat) : Int),ycell:=v,ymore:=u,yn:=(n : Int),yone:=bY o1 none (some 6),yother:=bY o2 none (some 6),ysafe:=fu s1 s2,yboth_here:=(ev n).filter (kn (fu s1 s2) n) }) (O1 ns) (by
  have hz : ej (two ((2 ^ n : Nat) : Int)).length = true:=cS (by have:=mC n hn.2; unfold ev at this; omega);simp only [vW hn.2,bind_some,map_some,aF (Cu hn.2),hz,if_true];rw [gZ (p:=fun g=>lN (bY o1 none (some 6)) g && lN (bY o2 none (some 6)) g) (f:=fun x=>x) (fun x _=>by
   simp only [zl,map_some,bind_some];cases lN (bY o1 none (some 6)) x <;> rfl) (fun _ _ _=>rfl)]
  simp only [List.map_id',map_some];rw [hf]; rfl) ?_
 have hop:=sS (wL lk1 lk2) hn;have hle:=(least_of hn (kn (fu s1 s2) n)).2.1;simp only [hop,hle,map_some,bind_some,aF CW,E9,Bool.not_true,Bool.false_eq_true,if_false];exact ⟨_,rfl,rfl⟩
theorem holds : ∀ ns : List Int,ns.length <= 63 -> ∃ d,jZ [.lst false (ns.map D.int)] = some (.bl true,[d]):=zD EF law_t
end LW
def PySem.W.Fast.tw2190605126288655420:=()
def PySem.W.Fast.tw5767831101776060134:=()
def PySem.W.Fast.tw8584077071257680947:=()
def PySem.W.Fast.tw2611883073256786859:=()
def PySem.W.Fast.tw18010152104953902443:=()
def PySem.W.Fast.tw9072077738317440877:=()
def PySem.W.Fast.tw2599783722059732471:=()
def PySem.W.Fast.tw11550246785239730443:=()
def PySem.W.Fast.tw1601561835775918489:=()
def PySem.W.Fast.tw3270227203649041994:=()
def PySem.W.Fast.tw13845221824402293729:=()
def PySem.W.Fast.tw17549318496623146626:=()
def PySem.W.Fast.tw10017013182286331948:=()
def PySem.W.Fast.tw2472902927787336537:=()
open PySem PySem.W PyProof.Rows
set_option maxRecDepth 100000 in
set_option maxHeartbeats 0 in
theorem PySem.Challenge.cw_telltight_k83_whole_two_safes_holds : PySem.Challenge.rw_telltight_k83_whole_two_safes.Holds := by
 w_on; o_law; k_head; (case hw => w_witness2)
 k_fill
 refine LW.Fc (l := PySem.Challenge.rw_telltight_k83_whole_two_safes) rfl rfl (fun w h Y => kIn_of Y) LW.holds ?F
 case F =>
  intro w mg fa h KX G hmg;refine' LW.Dw KX G hmg ?a0 ?l0 ?c0 ?k0 ?a1 ?l1 ?c1 ?k1 ?a2 ?l2 ?c2 ?k2 ?a3 ?l3 ?c3 ?k3 ?a4 ?l4 ?c4 ?k4 ?a5 ?l5 ?c5 ?k5 ?a6 ?l6 ?c6 ?k6 ?a7 ?l7 ?c7 ?k7 ?a8 ?l8 ?c8 ?k8 ?a9 ?l9 ?c9 ?k9 ?a10 ?l10 ?c10 ?k10 ?a11 ?l11 ?c11 ?k11 ?a12 ?l12 ?c12 ?k12 ?a13 ?l13 ?c13 ?k13 ?a14 ?l14 ?c14 ?k14 ?a15 ?l15 ?c15 ?k15 ?a16 ?l16 ?c16 ?k16 ?a17 ?l17 ?c17 ?k17 ?a18 ?l18 ?c18 ?k18 ?a19 ?l19 ?c19 ?k19 ?a20 ?l20 ?c20 ?k20 ?a21 ?l21 ?c21 ?k21 ?a22 ?l22 ?c22 ?k22 ?a23 ?l23 ?c23 ?k23 ?a24 ?l24 ?c24 ?k24 ?a25 ?l25 ?c25 ?k25 ?a26 ?l26 ?c26 ?k26 ?a27 ?l27 ?c27 ?k27 ?a28 ?l28 ?c28 ?k28 ?a29 ?l29 ?c29 ?k29 ?a30 ?l30 ?c30 ?k30 ?a31 ?l31 ?c31 ?k31 ?a32 ?l32 ?c32 ?k32 ?a33 ?l33 ?c33 ?k33 ?a34 ?l34 ?c34 ?k34 ?a35 ?l35 ?c35 ?k35 ?z_abs ?z_any ?z_enumerate ?z_isinstance ?z_len ?z_list ?z_max ?z_min ?z_range ?z_sum ?z_tuple ?z_zip ?v_LOCK
  case a0|a1|a2|a3|a4|a5|a6|a7|a8|a9|a10|a11|a12|a13|a14|a15|a16|a17|a18|a19|a20|a21|a22|a23|a24|a25|a26|a27|a28|a29|a30|a31|a32|a33|a34|a35 => delta LW.dL; k_is
  case l0|l1|l2|l3|l4|l5|l6|l7|l8|l9|l10|l11|l12|l13|l14|l15|l16|l17|l18|l19|l20|l21|l22|l23|l24|l25|l26|l27|l28|l29|l30|l31|l32|l33|l34|l35 => delta LW.dM LW.bH; k_is
  case c0|c1|c2|c3|c4|c5|c6|c7|c8|c9|c10|c11|c12|c13|c14|c15|c16|c17|c18|c19|c20|c21|c22|c23|c24|c25|c26|c27|c28|c29|c30|c31|c32|c33|c34|c35 => delta LW.dO; k_is
  case k0|k1|k2|k3|k4|k5|k6|k7|k8|k9|k10|k11|k12|k13|k14|k15|k16|k17|k18|k19|k20|k21|k22|k23|k24|k25|k26|k27|k28|k29|k30|k31|k32|k33|k34|k35 => delta LW.dN; k_is
  case z_abs|z_any|z_enumerate|z_isinstance|z_len|z_list|z_max|z_min|z_range|z_sum|z_tuple|z_zip|v_LOCK => k_is
#print axioms PySem.Challenge.cw_telltight_k83_whole_two_safes_holds
