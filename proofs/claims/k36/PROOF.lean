import PyProof.Rows.All
import Wide.All
import OpenK.AllK
import Wide.FinOn
import PySem.Challenge.RW_telltight_k36_tables_told_of_locks
set_option bootstrap.genMatcherCode false
set_option compiler.extract_closed false
noncomputable section
open Option (bind_some map_some)
open PySem.W (CodeHd Frag InitBack InstAt TabsAt any_some bind_fn callWith_K cellsFrom_some codeHdIn codeHd_of_K codeIn codeRec_of emptyDict findIn findObj_own fnOf get_value handedIn hasDictIn hideAll hideAll_get hideAll_none hideAll_size instObj isFn keepIn ki_setAt ki_setBack kla_callFunE kla_codeExpr kla_eval kla_fn kla_makeFunction kla_makeFunctionHit km_in_of km_tabs_of lookIn looks_clsIn looks_findIn make_core makesIn makes_of mem_of_lookupK methodCall_KW methodObj method_fn mg_none_of mg_of noTabs nsIn of_hideAll osa_open plainGet plainGet_of plainOver set_plain tabObj takerIn truthy_bytes typeIn)
theorem oM {p:Prop} (h:p:=by first | omega | (refine @id (@Ne Nat _ _) ?_;omega)):p:=h
theorem dC {p:Prop} (h:p:=by decide):p:=h
set_option Elab.async false
set_option linter.all false
set_option maxRecDepth 100000
theorem zA{α β}{o:Option α}{f:α->Option β}{b}:o.bind f=some b->∃a,o=some a∧f a=some b:=Option.bind_eq_some_iff.mp
theorem zB:type_of% @List.getElem?_eq_some_iff:=@List.getElem?_eq_some_iff
theorem zC:type_of% @Bool.and_eq_true:=@Bool.and_eq_true
theorem zD:type_of% @List.getD_eq_getElem?_getD:=@List.getD_eq_getElem?_getD
theorem zE:type_of% @Option.map_eq_some_iff:=@Option.map_eq_some_iff
theorem zF:type_of% @List.getElem?_eq_getElem:=@List.getElem?_eq_getElem
theorem zG:type_of% @PySem.Heap.get?_push_of_some:=@PySem.Heap.get?_push_of_some
theorem zH:type_of% @List.length_map:=@List.length_map
theorem zI:type_of% @List.size_toArray:=@List.size_toArray
theorem zJ:type_of% @Nat.lt_of_lt_of_le:=@Nat.lt_of_lt_of_le
theorem zK:type_of% @List.mem_append_right:=@List.mem_append_right
theorem zL:type_of% @List.mem_append_left:=@List.mem_append_left
theorem zM:type_of% @List.mem_singleton:=@List.mem_singleton
theorem zN:type_of% @List.getElem?_append_left:=@List.getElem?_append_left
theorem zO:type_of% @List.map_cons:=@List.map_cons
theorem zP:type_of% @Nat.le_refl:=@Nat.le_refl
theorem zQ:type_of% @List.mem_cons_of_mem:=@List.mem_cons_of_mem
theorem zR:type_of% @List.getElem?_map:=@List.getElem?_map
theorem zS:type_of% @Nat.le_of_ble_eq_true:=@Nat.le_of_ble_eq_true
theorem zT:type_of% @List.mem_cons:=@List.mem_cons
theorem zU:type_of% @Nat.ne_of_lt:=@Nat.ne_of_lt
theorem zV:type_of% @List.length_append:=@List.length_append
theorem zW:type_of% @List.mem_of_getElem?:=@List.mem_of_getElem?
theorem zX:type_of% @List.not_mem_nil:=@List.not_mem_nil
theorem zY:type_of% @PySem.Heap.get?_push_size:=@PySem.Heap.get?_push_size
theorem zZ:type_of% @List.mem_append:=@List.mem_append
theorem z0:type_of% @Nat.le_trans:=@Nat.le_trans
theorem z5:type_of% @List.getElem?_append_right:=@List.getElem?_append_right
theorem z6:type_of% @List.mem_cons_self:=@List.mem_cons_self
theorem z7:type_of% @List.getElem?_of_mem:=@List.getElem?_of_mem
theorem z9:type_of% @decide_eq_false:=@decide_eq_false
theorem yA:type_of% @Bool.false_eq_true:=@Bool.false_eq_true
theorem yB:type_of% @decide_eq_true_eq:=@decide_eq_true_eq
theorem yC:type_of% @List.mem_map:=@List.mem_map
theorem yD:type_of% @Option.some.inj:=@Option.some.inj
theorem yE:type_of% @PySem.wpAny_bind:=@PySem.wpAny_bind
theorem yF:type_of% @PySem.wpAny_pure:=@PySem.wpAny_pure
theorem yG:type_of% @if_neg:=@if_neg
theorem yH:type_of% @if_pos:=@if_pos
theorem yI:type_of% @PySem.Heap.lt_size:=@PySem.Heap.lt_size
theorem yJ:type_of% @eq_of_beq:=@eq_of_beq
theorem yK:type_of% @Nat.ble_eq_true_of_le:=@Nat.ble_eq_true_of_le
theorem yL:type_of% @Nat.lt_of_le_of_lt:=@Nat.lt_of_le_of_lt
theorem yM:type_of% @List.append_assoc:=@List.append_assoc
theorem yN:type_of% @List.lookup_cons:=@List.lookup_cons
theorem yO:type_of% @List.all_eq_true:=@List.all_eq_true
theorem yP:type_of% @PySem.wpAny_holding:=@PySem.wpAny_holding
theorem yQ:type_of% @PySem.wpAny_mono:=@PySem.wpAny_mono
theorem yR:type_of% @Nat.lt_or_ge:=@Nat.lt_or_ge
theorem yS:type_of% @decide_eq_true:=@decide_eq_true
theorem yT:type_of% @List.getElem?_set:=@List.getElem?_set
theorem yU:type_of% @List.length_cons:=@List.length_cons
theorem yV:type_of% @Nat.le_of_lt:=@Nat.le_of_lt
theorem yW:type_of% @Nat.lt_irrefl:=@Nat.lt_irrefl
namespace L2
open PySem PySem.Spec PyProof.Rows
abbrev aW:=Sum Int Str
def gO:aW->Value->Bool
 | .inl k,v=>Value.isInt k v
 | .inr x,v=>Value.isStrOf x v
def JP (w:World):aW->Int
 | .inl k=>hashInt k
 | .inr x=>hashStr w x
theorem cm:∀ {k:aW}{v:Value},gO k v=true->(∃ i t,k=Sum.inl i/\v=Value.int i t)\/(∃ x t,k=Sum.inr x/\v=Value.str x t)
 | .inl i,v,h=>by
  obtain ⟨t,e⟩:=Value.isInt_shape (k:=i) (v:=v) h;exact .inl ⟨i,t,rfl,e⟩
 | .inr x,v,h=>by
  obtain ⟨t,e⟩:=Value.isStrOf_shape (x:=x) (v:=v) h;exact .inr ⟨x,t,rfl,e⟩
theorem vQ (i:Int) (t:Tok):gO (.inl i) (.int i t)=true:=by simp [gO,Value.isInt]
theorem vO (x:Str) (t:Tok):gO (.inr x) (.str x t)=true:=by simp [gO,Value.isStrOf]
theorem EL (a b:Int):decide ((Sum.inl a:aW)=Sum.inl b)=(a == b):=by
 by_cases e:a=b
 ·subst e;simp
 ·have h:¬ (Sum.inl a:aW)=Sum.inl b:=fun q=>e (Sum.inl.inj q)
  rw [z9 h];exact (beq_eq_false_iff_ne.mpr e).symm
theorem EI (a b:Str):decide ((Sum.inr a:aW)=Sum.inr b)=decide (a=b):=by
 by_cases e:a=b
 ·subst e;simp
 ·have h:¬ (Sum.inr a:aW)=Sum.inr b:=fun q=>e (Sum.inr.inj q)
  rw [z9 h,z9 e]
theorem EK (a:Int) (b:Str):decide ((Sum.inl a:aW)=Sum.inr b)=false:=z9 (fun q=>nomatch q)
theorem EJ (a:Str) (b:Int):decide ((Sum.inr a:aW)=Sum.inl b)=false:=z9 (fun q=>nomatch q)
def bL (prog:Program) (w:World):PySem.KeyKind prog w aW where
 is:=gO
 hash:=JP w
 inj:=fun v a b ha hb=>by
  rcases cm ha with ⟨i,t,rfl,rfl⟩ | ⟨x,t,rfl,rfl⟩
  ·rcases cm hb with ⟨j,u,rfl,e⟩ | ⟨y,u,rfl,e⟩
   ·injection e with e1 _;rw [e1]
   ·exact nomatch e
  ·rcases cm hb with ⟨j,u,rfl,e⟩ | ⟨y,u,rfl,e⟩
   ·exact nomatch e
   ·injection e with e1 _;rw [e1]
 byValue:=fun k v h=>by
  rcases cm h with ⟨i,t,rfl,rfl⟩ | ⟨x,t,rfl,rfl⟩ <;> rfl
 pyHash:=fun hv h=>by
  rcases cm hv with ⟨i,t,rfl,rfl⟩ | ⟨x,t,rfl,rfl⟩
  ·exact wpAny_pyHash_int h
  ·exact wpAny_pyHash_str h
 eqBool:=fun hu hv h=>by
  rcases cm hu with ⟨i,t,rfl,rfl⟩ | ⟨x,t,rfl,rfl⟩
  ·rcases cm hv with ⟨j,u,rfl,rfl⟩ | ⟨y,u,rfl,rfl⟩
   ·rw [EL] at h;exact wpAny_eqBool_int h
   ·rw [EK] at h;exact SeqAt.EqAt.int_str i t y u _ _ _ _ h
  ·rcases cm hv with ⟨j,u,rfl,rfl⟩ | ⟨y,u,rfl,rfl⟩
   ·rw [EJ] at h;exact SeqAt.EqAt.str_int x t j u _ _ _ _ h
   ·rw [EI] at h;exact wpAny_eqBool_str h
 «strs»:=fun k x t v h=>by
  rcases cm h with ⟨i,u,rfl,e⟩ | ⟨y,u,rfl,e⟩
  ·exact nomatch e
  ·injection e with e1 _
   subst e1;cases v <;> rfl
theorem rc (prog:Program) (w:World) (i:Int) (t:Tok):(bL prog w).is (.inl i) (.int i t)=true:=vQ i t
theorem qZ (prog:Program) (w:World) (x:Str) (t:Tok):(bL prog w).is (.inr x) (.str x t)=true:=vO x t
inductive V where
 | non | bl (b:Bool) | int (i:Int) | str (x:Str) | byt (b:Array UInt8) | flt (b:UInt64) | ref (a:Addr) | ty (n:String)
 deriving DecidableEq
def RelV:V->Value->Prop
 | .non,u=>u=Value.none
 | .bl b,u=>u=Value.bool b
 | .int i,u=>∃ t,u=Value.int i t
 | .str x,u=>∃ t,u=Value.str x t
 | .byt b,u=>∃ t,u=Value.bytes b t
 | .flt b,u=>∃ t,u=Value.float b t
 | .ref a,u=>u=Value.ref a
 | .ty n,u=>u=Value.type n
abbrev Vals:List V->List Value->Prop:=Paired RelV
theorem Vals.length {xs:List V}{us:List Value} (r:Vals xs us):xs.length=us.length:=Paired.length r
theorem Vals.get:∀ {xs:List V}{us:List Value}{i:Nat}{x:V},Vals xs us->xs[i]?=some x->∃ u,us[i]?=some u/\RelV x u
 | _,_,_,_,.nil,e=>by simp at e
 | _,_,0,_,.cons r _,e=>by simp at e;subst e;exact ⟨_,rfl,r⟩
 | _,_,i + 1,x,.cons _ t,e=>by
  obtain ⟨u,h1,h2⟩:=Vals.get (i:=i) (x:=x) t (by simpa using e);exact ⟨u,by simpa using h1,h2⟩
theorem Vals.set {x:V}{u:Value} (r:RelV x u):∀ {xs:List V}{us:List Value} (i:Nat),Vals xs us->Vals (xs.set i x) (us.set i u)
 | _,_,_,.nil=>.nil
 | _,_,0,.cons _ t=>.cons r t
 | _,_,i + 1,.cons q t=>.cons q (Vals.set r i t)
theorem Vals.append:∀ {xs ys:List V}{us ws:List Value},Vals xs us->Vals ys ws->Vals (xs++ys) (us++ws):=by
 intro xs ys us ws h s
 induction h with
 | nil=>exact s
 | cons r t ih=>exact .cons r ih
theorem Vals.take:∀ {xs:List V}{us:List Value} (n:Nat),Vals xs us->Vals (xs.take n) (us.take n):=by
 intro xs us n h
 induction h generalizing n with
 | nil=>cases n <;> exact .nil
 | cons r t ih=>cases n with
  | zero=>exact .nil
  | succ n=>exact .cons r (ih n)
theorem Vals.drop:∀ {xs:List V}{us:List Value} (n:Nat),Vals xs us->Vals (xs.drop n) (us.drop n):=by
 intro xs us n h
 induction h generalizing n with
 | nil=>cases n <;> exact .nil
 | cons r t ih=>cases n with
  | zero=>exact .cons r t
  | succ n=>exact ih n
def RelO:Option V->Option Value->Prop
 | some v,some u=>RelV v u
 | none,none=>True
 | _,_=>False
def KV {κ:Type}:List (κ × V)->List (κ × Value)->Prop:=Paired fun (p:κ × V) (q:κ × Value)=>p.1=q.1/\RelV p.2 q.2
def kV:aW->V
 | .inl i=>.int i
 | .inr x=>.str x
inductive HO where
  | lst (xs:List V)
  | tup (xs:List V)
  | dK (Mx:List (aW × V)) | dT (Mx:List (List aW × V))
  | set (S:Int->Bool) (n:Nat)
  | ins (C dx:Addr) (fs:List (Str × V))
  | own (x:Addr)
  | xd (fs:List (Str × V))
  | met (f x:Addr)
  | rng (lo hi:Int)
  | frz (o:Obj) (u:HO)
  | tbl (ps:Array Value)
  | ext (φ:Heap->Prop)
abbrev Hp:=Addr->Option HO
def af (H:Hp) (a:Addr) (o:HO):Hp:=fun b=>if b=a then some o else H b
theorem au {H:Hp}{a:Addr}{o:HO}:af H a o a=some o:=by unfold af;rw [yH rfl]
theorem ad {H:Hp}{a b:Addr}{o:HO} (h:b ≠ a):af H a o b=H b:=by unfold af;rw [yG h]
theorem tO {H:Hp}{a b:Addr}{o u:HO} (h:H a=some o) (h':H b=some u) (d:o ≠ u):a ≠ b:=by
 intro e;subst e;rw [h] at h';exact d (yD h')
theorem aZ {H:Hp}{a b:Addr}{o:HO} (h:H a=some o) (h':H b=none):a ≠ b:=by
 intro e;subst e;rw [h] at h';cases h'
section
variable (P:Program) (w:World)
def ObjOk (H:Hp) (h:Heap) (a:Addr):HO->Prop
 | .lst xs=>xs.length <= sizeLine/\∃ (Mz:List Value) (n:Nat),Vals xs Mz/\h.get? a=some { cls:=.type "list",data:=.seq Mz.toArray n }
 | .tup xs=>xs.length <= sizeLine/\∃ Mz:List Value,Vals xs Mz/\IsTup h a Mz.toArray
 | .dK Mx=>Mx.length <= sizeLine/\(a == sysModules)=false/\∃ vs,KV Mx vs/\h.DictOf (bL P w) a vs
 | .dT Mx=>Mx.length <= sizeLine/\(a == sysModules)=false/\∃ xs:List (List aW × Addr × Value),
   Paired (fun (p:List aW × V) (q:List aW × Addr × Value)=>p.1=q.1/\H q.2.1=some (.tup (p.1.map kV))/\RelV p.2 q.2.2) Mx xs /\
   ∃ o es ep,h.get? a=some o/\o.ExactDict/\o.data=.dict es ep/\es.toList=xs.map (entryOfKey (tupleKind (bL P w)))/\(xs.map (·.1)).Nodup
 | .set S n=>h.SetOf (intKind P w) a S n
 | .ins C dx fs=>H dx=some (.own a)/\fs.length <= 1000/\dx ≠ a/\h.get? a=some (instObj C dx) /\
   ∃ mA,h.Ns1 dx mA/\(∀ f,RelO (fs.lookup f) (mA f))/\PySem.Within mA (fs.map (·.1))
 | .own _=>∃ o,h.get? a=some o
 | .xd fs=>∃ mA,h.Ns1 a mA/\∀ f,RelO (fs.lookup f) (mA f)
 | .rng lo hi=>∃ t u v,h.get? a=some { cls:=.type "range",data:=.fields #[.int lo t,.int hi u,.int 1 v] }
 | .frz o u=>h.get? a=some o/\ObjOk H h a u
 | .tbl ps=>h.get? a=some { cls:=.none,data:=.fields ps }
 | .met f x=>h.get? a=some (methodObj (.ref f) (.ref x))
 | .ext φ=>φ h/\(∃ o,h.get? a=some o)/\∀ h1 h2:Heap,φ h1->(∀ o,h1.get? a=some o->h2.get? a=some o)->φ h2
def HOk (H:Hp) (h:Heap):Prop:=∀ a o,H a=some o->ObjOk P w H h a o
end
section
variable {P:Program}{w:World}{H H':Hp}{h h':Heap}{a:Addr}{o:HO}
theorem ObjOk.lt (x:ObjOk P w H h a o):a < h.objs.size:=by
 cases o with
 | lst xs=>obtain ⟨_,_,_,_,e⟩:=x;exact yI e
 | tup xs=>obtain ⟨_,_,_,p⟩:=x;exact p.lt
 | dK Mx=>obtain ⟨_,_,_,_,o,_,_,e,_⟩:=x;exact yI e
 | dT Mx=>obtain ⟨_,_,_,_,o,_,_,e,_⟩:=x;exact yI e
 | set S n=>obtain ⟨o,_,_,_,e,_⟩:=x;exact yI e
 | ins C dx fs=>obtain ⟨_,_,_,e,_⟩:=x;exact yI e
 | own y=>obtain ⟨_,e⟩:=x;exact yI e
 | xd fs=>obtain ⟨_,⟨_,_,_,e,_⟩,_⟩:=x;exact yI e
 | rng lo hi=>obtain ⟨_,_,_,e⟩:=x;exact yI e
 | frz ob u=>obtain ⟨e,_⟩:=x;exact yI e
 | tbl ps=>exact yI (show h.get? a=some _ from x)
 | met f y=>exact yI (show h.get? a=some _ from x)
 | ext φ=>obtain ⟨_,⟨_,e⟩,_⟩:=x;exact yI e
theorem Paired.mapP {α β:Type}{F G:α->β->Prop}:∀ {l₁:List α}{l₂:List β},Paired F l₁ l₂->(∀ a b,F a b->G a b)->Paired G l₁ l₂:=by
 intro l₁ l₂ h f
 induction h with
 | nil=>exact .nil
 | cons r t ih=>exact .cons (f _ _ r) ih
theorem ObjOk.stay (x:ObjOk P w H h a o) (k:∀ b u,(b=a\/H b=some (.own a))->h.get? b=some u->h'.get? b=some u)
  (ho:∀ b,H b=some (.own a)->H' b=some (.own a)) (ht:∀ b xs,H b=some (.tup xs)->H' b=some (.tup xs)):ObjOk P w H' h' a o:=by
 induction o with
 | lst xs=>obtain ⟨z,Mz,n,r,e⟩:=x;exact ⟨z,Mz,n,r,k _ _ (.inl rfl) e⟩
 | tup xs=>obtain ⟨z,Mz,r,ob,e,c⟩:=x;exact ⟨z,Mz,r,ob,k _ _ (.inl rfl) e,c⟩
 | dK Mx=>obtain ⟨z,y,vs,r,ob,es,ep,e,c⟩:=x;exact ⟨z,y,vs,r,ob,es,ep,k _ _ (.inl rfl) e,c⟩
 | dT Mx =>
  obtain ⟨z,y,xs,r,ob,es,ep,e,c⟩:=x;exact ⟨z,y,xs,Paired.mapP r fun p q z=>⟨z.1,ht _ _ z.2.1,z.2.2⟩,ob,es,ep,k _ _ (.inl rfl) e,c⟩
 | set S n=>obtain ⟨ob,es,ep,t,e,c⟩:=x;exact ⟨ob,es,ep,t,k _ _ (.inl rfl) e,c⟩
 | ins C dx fs =>
  obtain ⟨d,z,ne,e,mA,⟨od,es,ep,e2,c⟩,r⟩:=x;exact ⟨ho _ d,z,ne,k _ _ (.inl rfl) e,mA,⟨od,es,ep,k _ _ (.inr d) e2,c⟩,r⟩
 | own y=>obtain ⟨ob,e⟩:=x;exact ⟨ob,k _ _ (.inl rfl) e⟩
 | xd fs=>obtain ⟨mA,⟨od,es,ep,e,c⟩,r⟩:=x;exact ⟨mA,⟨od,es,ep,k _ _ (.inl rfl) e,c⟩,r⟩
 | rng lo hi=>obtain ⟨t,u,v,e⟩:=x;exact ⟨t,u,v,k _ _ (.inl rfl) e⟩
 | frz ob u ih=>obtain ⟨e,q⟩:=x;exact ⟨k _ _ (.inl rfl) e,ih q⟩
 | tbl ps =>
  have e:h.get? a=some { cls:=.none,data:=.fields ps }:=x;show h'.get? a=some { cls:=.none,data:=.fields ps };exact k a _ (.inl rfl) e
 | met f y =>
  have e:h.get? a=some (methodObj (.ref f) (.ref y)):=x;show h'.get? a=some (methodObj (.ref f) (.ref y));exact k a _ (.inl rfl) e
 | ext φ=>obtain ⟨p,⟨o,e⟩,st⟩:=x;exact ⟨st _ _ p fun o q=>k _ _ (.inl rfl) q,⟨o,k _ _ (.inl rfl) e⟩,st⟩
theorem HOk.lt (x:HOk P w H h) (e:H a=some o):a < h.objs.size:=(x a o e).lt
theorem HOk.fresh (x:HOk P w H h) (e:h.objs.size <= a):H a=none:=by
 cases q:H a with
 | none=>rfl
 | some u=>exact absurd (zJ (x.lt q) e) (yW _)
theorem HOk.kept (x:HOk P w H h) (k:∀ b u,h.get? b=some u->h'.get? b=some u):HOk P w H h':=fun a o e =>
 (x a o e).stay (fun b u _ q=>k b u q) (fun _ q=>q) fun _ _ q=>q
theorem HOk.laid (x:HOk P w H h) (k:∀ b u,h.get? b=some u->h'.get? b=some u) (hp:h.objs.size <= a) (new:ObjOk P w (af H a o) h' a o):HOk P w (af H a o) h':=fun b u e=>by
 have hn:=x.fresh hp;by_cases hb:b=a
 ·subst hb;rw [au] at e;cases e;exact new
 ·rw [ad hb] at e
  exact (x b u e).stay (fun c v _ q=>k c v q) (fun c q=>by rw [ad (aZ q hn)];exact q) fun c xs q=>by rw [ad (aZ q hn)];exact q
end
def Rd (H:Hp) (a:Addr) (u:HO):Prop:=H a=some u\/∃ o,H a=some (.frz o u)
theorem Rd.ok {P:Program}{w:World}{H:Hp}{h:Heap}{a:Addr}{u:HO} (r:Rd H a u) (x:HOk P w H h):ObjOk P w H h a u:=by
 rcases r with r | ⟨o,r⟩
 ·exact x a u r
 ·obtain ⟨_,q⟩:=x a _ r
  exact q
def wu:Option HO->Prop
 | some (.lst _)=>True
 | some (.dK _)=>True
 | some (.dT _)=>True
 | some (.set _ _)=>True
 | some (.ins _ _ _)=>True
 | some (.ext _)=>True
 | _=>False
section
variable {P:Program}{w:World}{H:Hp}{h h':Heap}{x e:Addr}{o':HO}
theorem HOk.write (ok:HOk P w H h) (mu:wu (H x)) (he:e=x\/H e=some (.own x)) (k:∀ b u,b ≠ e->h.get? b=some u->h'.get? b=some u) (heo:∃ u,h'.get? e=some u)
  (new:ObjOk P w (af H x o') h' x o'):HOk P w (af H x o') h':=fun b u q=>by
 have nown:∀ c y,H c=some (.own y)->c ≠ x:=fun c y r z=>by subst z;rw [r] at mu;exact mu
 have ntup:∀ c xs,H c=some (.tup xs)->c ≠ x:=fun c xs r z=>by subst z;rw [r] at mu;exact mu
 by_cases hb:b=x
 ·subst hb;rw [au] at q;cases q;exact new
 ·rw [ad hb] at q
  by_cases hbe:b=e
  ·have q':H b=some (.own x):=by
    rcases he with z | z
    ·exact absurd (hbe.trans z) hb
    ·rw [hbe];exact z
   rw [q] at q';cases q';obtain ⟨v,hv⟩:=heo;exact ⟨v,by rw [hbe];exact hv⟩
  ·refine (ok b u q).stay (fun c v hc r=>k c v ?_ r) (fun c r=>by rw [ad (nown c b r)];exact r) fun c xs r=>by rw [ad (ntup c xs r)];exact r
   rcases hc with rfl | hc
   ·exact hbe
   ·rintro rfl
    rcases he with z | z
    ·exact nown c b hc z
    ·rw [hc] at z;cases z;exact hb rfl
end
structure Un (fs ex:List Addr) (H H':Hp) (h h':Heap):Prop where
 keep:∀ b o,h.get? b=some o->H b=none->b ∉ fs->b ∉ ex->h'.get? b=some o
 slot:∀ b o,h.get? b=some o->H b=none->b ∈ fs->b ∉ ex->∃ sl,h'.get? b=some { o with slots:=sl }
 free:∀ b o,h.get? b=some o->H b=none->b ∉ ex->H' b=none
 there:∀ b o,h.get? b=some o->b ∉ ex->∃ o',h'.get? b=some o'
 tups:∀ b xs,H b=some (.tup xs)->H' b=some (.tup xs)
 frzs:∀ b o u,H b=some (.frz o u)->H' b=some (.frz o u)
 tbls:∀ b ps,H b=some (.tbl ps)->∃ more,H' b=some (.tbl (ps++more))
section
variable {fs fs' ex ex':List Addr}{H H1 H2:Hp}{h h1 h2 h':Heap}{a x e:Addr}{o:HO}
theorem Un.any (u:Un fs ex H H1 h h1) {b:Addr}{ob:Obj} (q:h.get? b=some ob) (n:H b=none) (hx:b ∉ ex):∃ sl,h1.get? b=some { ob with slots:=sl }:=by
 by_cases hb:b ∈ fs
 ·exact u.slot b ob q n hb hx
 ·exact ⟨ob.slots,u.keep b ob q n hb hx⟩
theorem Un.kept (k:∀ b u,h.get? b=some u->h'.get? b=some u):Un fs ex H H h h' :=
 ⟨fun b ob q _ _ _=>k b ob q,fun b ob q _ _ _=>⟨ob.slots,k b ob q⟩,fun _ _ _ n _=>n,fun b ob q _=>⟨ob,k b ob q⟩,fun _ _ q=>q,fun _ _ _ q=>q,fun _ ps q=>⟨#[],by rw [q];simp⟩⟩
theorem Un.refl:Un fs ex H H h h:=Un.kept fun _ _ q=>q
theorem Un.laid (k:∀ b u,h.get? b=some u->h'.get? b=some u) (hp:h.objs.size <= a) (hn:H a=none):Un fs ex H (af H a o) h h' where
 keep:=fun b u q _ _ _=>k b u q
 slot:=fun b u q _ _ _=>⟨u.slots,k b u q⟩
 free:=fun b u q n _=>by rw [ad (zU (zJ (yI q) hp))];exact n
 there:=fun b u q _=>⟨u,k b u q⟩
 tups:=fun b xs q=>by rw [ad (aZ q hn)];exact q
 frzs:=fun b u xs q=>by rw [ad (aZ q hn)];exact q
 tbls:=fun b ps q=>⟨#[],by rw [ad (aZ q hn),q];simp⟩
theorem Un.write (mu:wu (H x)) (he:e=x\/H e=some (.own x)) (k:∀ b u,b ≠ e->h.get? b=some u->h'.get? b=some u) (heo:∃ u,h'.get? e=some u):Un fs ex H (af H x o) h h':=by
 have hx:∀ b,H b=none->b ≠ x:=fun b n z=>by subst z;rw [n] at mu;exact mu
 have hb:∀ b,H b=none->b ≠ e:=fun b n z=>by
  subst z;rcases he with r | r
  ·exact hx b n r
  ·rw [n] at r;cases r
 have hm:∀ b u,H b=some u->¬ wu (some u)->b ≠ x:=fun b u q nm z=>by subst z;rw [q] at mu;exact nm mu
 refine ⟨fun b u q n _ _=>k b u (hb b n) q,fun b u q n _ _=>⟨u.slots,k b u (hb b n) q⟩,fun b u q n _=>by rw [ad (hx b n)];exact n,fun b u q _=>?_,
  fun b xs q=>by rw [ad (hm b _ q fun z=>z)];exact q,fun b u xs q=>by rw [ad (hm b _ q fun z=>z)];exact q,fun b ps q=>⟨#[],by rw [ad (hm b _ q fun z=>z),q];simp⟩⟩
 by_cases hbe:b=e
 ·subst hbe;exact heo
 ·exact ⟨u,k b u hbe q⟩
end
def yZ (h:Heap) (H:Hp):List Addr:=(List.range h.objs.size).filter fun a=>(H a).isSome
def iK (h:Heap) (H:Hp):Heap:=hideAll h (yZ h H)
theorem vV (h:Heap) (H:Hp):(iK h H).objs.size=h.objs.size:=hideAll_size _ _
theorem xZ {h:Heap}{H:Hp}{b:Addr}{o:Obj} (e:h.get? b=some o) (n:H b=none):(iK h H).get? b=some o :=
 hideAll_get _ e fun hm=>by
  have q:(H b).isSome=true:=(List.mem_filter.mp hm).2;rw [n] at q;simp at q
theorem BM {h:Heap}{H:Hp}{b:Addr}{o:Obj} (e:(iK h H).get? b=some o):h.get? b=some o/\H b=none:=by
 have e':h.get? b=some o:=of_hideAll (yZ h H) e;refine ⟨e',?_⟩;cases q:H b with
 | none=>rfl
 | some x =>
  have hm:b ∈ yZ h H:=List.mem_filter.mpr ⟨List.mem_range.mpr (yI e'),by simp [q]⟩;have z:(iK h H).get? b=none:=hideAll_none (yZ h H) hm;rw [z] at e;cases e
structure Mod (K:Frag) (mg:Str->Option Value) (base:Heap):Prop where
 kin:K.In base
 glob:base.Ns mainGlobals mg
 blt:∃ mb,base.Ns builtinsNs mb/\∀ x:Str,x ≠ "__name__"->mb x=bootBuiltins x
 nolimit:base.NoLimit
structure Cx where
 prog:Program
 w:World
 K:Frag
 mg:Str->Option Value
 base:Heap
 A:Around
 N:List Str
 s₀:Shared
 H₀:Hp
 env:Env
 outer:List Env
 stack:List Env
 ex:List Addr
 fn:Str->Bool
 calm:Bool
 pn:List (Addr × Obj)
 xe:Value->Shared->Prop
noncomputable def i8 (l:List Env):List Addr:=l.filterMap (·.frame)
abbrev Cx.fs (X:Cx):List Addr:=i8 X.outer
def wn (sc:Scope) (x:Str):Prop:=sc.names.lookup x=some .local\/sc.names.lookup x=some .cell\/sc.names.lookup x=some .free
def Loc (sc:Scope) (x:Str):Prop:=sc.names.lookup x=some .local\/sc.names.lookup x=some .cell
def Ko (env:Env) (h:Heap) (m:Str->Option Value) (x:Str) (u:Value):Prop :=
 (env.kindOf x=some .local/\m x=some u)\/((env.kindOf x=some .cell\/env.kindOf x=some .free)/\∃ c,env.cells.lookup x=some c/\h.IsCell c (some u))
structure Cx.Ok (X:Cx):Prop where
 mod:Mod X.K X.mg X.base
 kind:X.env.scope.kind=.function
 glob:X.env.globals=mainGlobals
 blt:X.env.builtins=builtinsNs
 above:X.s₀.heap.objs.size <= X.env.locals
 inj:∀ x y c,X.env.cells.lookup x=some c->X.env.cells.lookup y=some c->x=y
 has:∀ x,(X.env.kindOf x=some .cell\/X.env.kindOf x=some .free)->∃ c,X.env.cells.lookup x=some c
 cab:∀ x c,X.fn x=true->X.env.cells.lookup x=some c->X.s₀.heap.objs.size <= c
 hd:X.calm=true->X.A.handled=none
 frames:X.A.frames=some X.stack
 stk:X.stack=X.outer\/(X.stack=X.env::X.outer/\X.env.frame=some X.env.locals)
 exf:∀ b ∈ X.ex,b ≠ X.env.locals/\∀ x c,X.env.cells.lookup x=some c->c ≠ b
 bs:∀ b o,X.base.get? b=some o->X.s₀.heap.get? b=some o/\X.H₀ b=none
 bsz:X.base.objs.size <= X.s₀.heap.objs.size
 noex:∀ b o,X.base.get? b=some o->b ∉ X.ex
 exfs:∀ b ∈ X.ex,b ∉ X.fs
 funs:X.s₀.heap.FunFrames X.base X.outer
 frf:∀ b ∈ X.fs,X.H₀ b=none
structure Inv (X:Cx) (Mv:List (Addr × Obj)) (σ:List (Option V)) (H:Hp) (s:Shared):Prop where
 ok:X.Ok
 os:s.os=X.s₀.os
 bare:AllBare s.gens
 base:Un X.fs X.ex X.H₀ H X.s₀.heap s.heap
 loc:∃ m,s.heap.Ns X.env.locals m/\∀ (i:Nat) (x:Str) (v:V),X.N[i]?=some x->σ[i]?=some (some v)->wn X.env.scope x->∃ u,RelV v u/\Ko X.env s.heap m x u
 cell:∀ x c,X.env.cells.lookup x=some c->∃ v,s.heap.IsCell c v
 free:H X.env.locals=none
 freeC:∀ x c,X.env.cells.lookup x=some c->H c=none
 pin:∀ p ∈ X.pn++Mv,s.heap.get? p.1=some p.2/\H p.1=none/\p.1 ≠ X.env.locals/\p.1 ∉ X.fs/\∀ v,p.2.data ≠ .cell v
 MB:HOk X.prog X.w H s.heap
 len:σ.length=X.N.length
section
variable {X:Cx}{Mv:List (Addr × Obj)}{σ:List (Option V)}{H H':Hp}{s:Shared}{h':Heap}
theorem Cx.Ok.nofr (ok:X.Ok) {b:Addr}{o:Obj} (e:X.base.get? b=some o):b ∉ X.fs:=fun hb=>by
 have:=(ok.funs.mem hb).1
 rw [e] at this;cases this
theorem Inv.bs (I:Inv X Mv σ H s):∀ b o,X.base.get? b=some o->s.heap.get? b=some o/\H b=none:=fun b o e =>
 ⟨I.base.keep b o (I.ok.bs b o e).1 (I.ok.bs b o e).2 (I.ok.nofr e) (I.ok.noex b o e),I.base.free b o (I.ok.bs b o e).1 (I.ok.bs b o e).2 (I.ok.noex b o e)⟩
theorem Inv.bk (I:Inv X Mv σ H s):∀ b o,X.base.get? b=some o->s.heap.get? b=some o:=fun b o e=>(I.bs b o e).1
theorem Inv.mod (I:Inv X Mv σ H s):Mod X.K X.mg X.base:=I.ok.mod
theorem Inv.kIn (I:Inv X Mv σ H s):X.K.In s.heap:=I.ok.mod.kin.keeps I.bk
theorem Inv.nolimit (I:Inv X Mv σ H s):s.heap.NoLimit:=I.ok.mod.nolimit.keeps I.bk
theorem Inv.lt (I:Inv X Mv σ H s):X.env.locals < s.heap.objs.size:=let ⟨_,hn,_⟩:=I.loc;hn.lt
theorem Inv.sz (I:Inv X Mv σ H s):X.s₀.heap.objs.size <= s.heap.objs.size:=z0 I.ok.above (yV I.lt)
theorem Inv.nofs (I:Inv X Mv σ H s) {a:Addr} (h:s.heap.objs.size <= a):a ∉ X.fs:=fun hb=>by
 obtain ⟨_,o,ho,_⟩:=I.ok.funs.mem hb;exact absurd (zJ (yI ho) (z0 I.sz h)) (yW _)
theorem Inv.cne (I:Inv X Mv σ H s):∀ x c,X.env.cells.lookup x=some c->c ≠ X.env.locals:=fun x c e z=>by
 obtain ⟨v,o,ho,hd⟩:=I.cell x c e;obtain ⟨m,⟨o',es,ep,ho',hd',_⟩,_⟩:=I.loc;rw [z,ho'] at ho;cases ho;rw [hd'] at hd;cases hd
theorem Inv.funs (I:Inv X Mv σ H s):s.heap.FunFrames X.base X.outer:=by
 have all:∀ (l:List Env),(∀ b ∈ i8 l,b ∈ X.fs)->X.s₀.heap.FunFrames X.base l->s.heap.FunFrames X.base l:=by
  intro l
  induction l with
  | nil=>intro _ _;trivial
  | cons env r ih =>
   intro hs hl;obtain ⟨hk,⟨L,o,hf,hn,ho,hd⟩,hr⟩:=hl;have hL:L ∈ X.fs:=hs L (by unfold i8;rw [List.filterMap_cons,hf];exact z6);obtain ⟨sl,e⟩:=I.base.slot L o ho (I.ok.frf L hL) hL fun z=>I.ok.exfs L z hL
   exact ⟨hk,⟨L,_,hf,hn,e,hd⟩,ih (fun b hb=>hs b (by unfold i8;rw [List.filterMap_cons,hf];exact zQ _ hb)) hr⟩
 exact all X.outer (fun _ hb=>hb) I.ok.funs
theorem Inv.stack (I:Inv X Mv σ H s):s.heap.FunFrames X.base X.stack:=by
 rcases I.ok.stk with e | ⟨e,hf⟩
 ·rw [e];exact I.funs
 ·rw [e]
  obtain ⟨m,hn,_⟩:=I.loc;refine .cons (by rw [I.ok.kind];decide) hf hn ?_ I.funs;exact Heap.get?_none_of_le (z0 I.ok.bsz I.ok.above)
theorem Inv.stkSub (I:Inv X Mv σ H s):∀ b ∈ i8 X.stack,b ∈ X.env.locals::X.fs:=fun b hb=>by
 rcases I.ok.stk with e | ⟨e,hf⟩
 ·rw [e] at hb;exact zQ _ hb
 ·rw [e] at hb
  unfold i8 at hb;rw [List.filterMap_cons,hf] at hb;exact hb
theorem Inv.stkFree (I:Inv X Mv σ H s):∀ b ∈ i8 X.stack,H b=none:=fun b hb=>by
 rcases zT.mp (I.stkSub b hb) with e | hb
 ·rw [e];exact I.free
 ·obtain ⟨_,o,ho,_⟩:=I.ok.funs.mem hb
  exact I.base.free b o ho (I.ok.frf b hb) fun z=>I.ok.exfs b z hb
theorem Inv.step {g':Array GenState}{t':Nat}{d':Drawn}{ch:List Addr} (I:Inv X Mv σ H s)
  (hch:∀ b ∈ ch,(b ∈ X.ex\/X.s₀.heap.objs.size <= b)/\b ≠ X.env.locals/\(∀ x c,X.env.cells.lookup x=some c->c ≠ b)/\∀ p ∈ X.pn++Mv,p.1 ≠ b)
  (keep:∀ b o,b ≠ X.env.locals->b ∉ X.fs->b ∉ ch->s.heap.get? b=some o->H b=none->h'.get? b=some o)
  (slot:∀ b o,b ≠ X.env.locals->b ∈ X.fs->b ∉ ch->s.heap.get? b=some o->H b=none->∃ sl,h'.get? b=some { o with slots:=sl }) (free:∀ b o,b ∉ ch->s.heap.get? b=some o->H b=none->H' b=none)
  (there:∀ b o,b ∉ ch->s.heap.get? b=some o->∃ o',h'.get? b=some o')
  (tups:∀ b xs,H b=some (.tup xs)->H' b=some (.tup xs)) (frzs:∀ b o u,H b=some (.frz o u)->H' b=some (.frz o u)) (tbls:∀ b ps,H b=some (.tbl ps)->∃ more,H' b=some (.tbl (ps++more)))
  (ns:∀ m,s.heap.Ns X.env.locals m->h'.Ns X.env.locals m) (MB:HOk X.prog X.w H' h') (hg:AllBare g') :
  Inv X Mv σ H' { s with heap:=h',gens:=g',drawn:=d',toks:=t' }:=by
 have neL:∀ b o,X.s₀.heap.get? b=some o->b ≠ X.env.locals:=fun b o e=>zU (zJ (yI e) I.ok.above)
 have neC:∀ b o,X.s₀.heap.get? b=some o->b ∉ X.ex->b ∉ ch:=fun b o e hx hb=>by
  rcases (hch b hb).1 with z | z
  ·exact hx z
  ·exact absurd (zJ (yI e) z) (yW _)
 have cellK:∀ x c,X.env.cells.lookup x=some c->∀ v,s.heap.IsCell c v->h'.IsCell c v:=fun x c e v hq0=>by
  obtain ⟨o,ho,hd⟩:=hq0;have nch:c ∉ ch:=fun z=>(hch c z).2.2.1 x c e rfl
  by_cases hc:c ∈ X.fs
  ·obtain ⟨sl,q⟩:=slot c o (I.cne x c e) hc nch ho (I.freeC x c e)
   exact ⟨_,q,hd⟩
  ·exact ⟨o,keep c o (I.cne x c e) hc nch ho (I.freeC x c e),hd⟩
 refine ⟨I.ok,I.os,hg,⟨fun b o e n hb hx=>?_,fun b o e n hb hx=>?_,fun b o e n hx=>?_,fun b o e hx=>?_,fun b xs e=>tups b xs (I.base.tups b xs e),fun b o xs e=>frzs b o xs (I.base.frzs b o xs e),fun b ps e=>?_⟩,?_,fun x c e=>?_,?_,fun x c e=>?_,fun p hp=>?_,MB,I.len⟩
 ·exact keep b o (neL b o e) hb (neC b o e hx) (I.base.keep b o e n hb hx) (I.base.free b o e n hx)
 ·obtain ⟨sl,e1⟩:=I.base.slot b o e n hb hx
  obtain ⟨sl',e2⟩:=slot b _ (neL b o e) hb (neC b o e hx) e1 (I.base.free b o e n hx);exact ⟨sl',e2⟩
 ·obtain ⟨o',e1⟩:=I.base.there b o e hx
  exact free b o' (neC b o e hx) e1 (I.base.free b o e n hx)
 ·obtain ⟨o',e1⟩:=I.base.there b o e hx
  exact there b o' (neC b o e hx) e1
 ·obtain ⟨m1,e1⟩:=I.base.tbls b ps e
  obtain ⟨m2,e2⟩:=tbls b _ e1;exact ⟨m1++m2,by rw [e2,Array.append_assoc]⟩
 ·obtain ⟨m,hn,hl⟩:=I.loc
  refine ⟨m,ns m hn,fun i x v e1 e2 e3=>?_⟩;obtain ⟨u,r,l⟩:=hl i x v e1 e2 e3;refine ⟨u,r,?_⟩;rcases l with l | ⟨k,c,e,z⟩
  ·exact .inl l
  ·exact .inr ⟨k,c,e,cellK x c e _ z⟩
 ·obtain ⟨v,z⟩:=I.cell x c e
  exact ⟨v,cellK x c e v z⟩
 ·obtain ⟨m,⟨o,_,_,ho,_⟩,_⟩:=I.loc
  exact free _ o (fun z=>(hch _ z).2.1 rfl) ho I.free
 ·obtain ⟨v,o,ho,hd⟩:=I.cell x c e
  exact free c o (fun z=>(hch c z).2.2.1 x c e rfl) ho (I.freeC x c e)
 ·obtain ⟨e,n,ne,nf,d⟩:=I.pin p hp
  have nch:p.1 ∉ ch:=fun z=>(hch p.1 z).2.2.2 p hp rfl
  exact ⟨keep p.1 p.2 ne nf nch e n,free p.1 p.2 nch e n,ne,nf,d⟩
theorem Inv.un {t':Nat} (I:Inv X Mv σ H s) (u:Un X.fs [] H H' s.heap h') (MB:HOk X.prog X.w H' h'):Inv X Mv σ H' { s with heap:=h',toks:=t' }:=by
 obtain ⟨m,⟨o,es,ep,ho,r⟩,_⟩:=id I.loc;obtain ⟨sl,hL⟩:=u.any ho I.free (by simp);exact I.step (g':=s.gens) (d':=s.drawn) (ch:=[]) (fun _ z=>nomatch z) (fun b o _ hb _ e n=>u.keep b o e n hb (by simp)) (fun b o _ hb _ e n=>u.slot b o e n hb (by simp)) (fun b o _ e n=>u.free b o e n (by simp)) (fun b o _ e=>u.there b o e (by simp)) u.tups u.frzs u.tbls (fun m' hm=>by
  obtain ⟨o',es',ep',ho',r'⟩:=hm;rw [ho] at ho';cases ho';exact ⟨_,es',ep',hL,r'⟩) MB I.bare
theorem Inv.call {g':Array GenState}{t':Nat}{d':Drawn}{ch:List Addr} (I:Inv X Mv σ H s) (u:Un (i8 X.stack) ch H H' s.heap h') (MB:HOk X.prog X.w H' h') (hg:AllBare g')
  (hch:∀ b ∈ ch,(b ∈ X.ex\/X.s₀.heap.objs.size <= b)/\b ≠ X.env.locals/\(∀ x c,X.env.cells.lookup x=some c->c ≠ b)/\∀ p ∈ X.pn++Mv,p.1 ≠ b) :
  Inv X Mv σ H' { s with heap:=h',gens:=g',drawn:=d',toks:=t' }:=by
 obtain ⟨m,⟨o,es,ep,ho,r⟩,_⟩:=id I.loc;obtain ⟨sl,hL⟩:=u.any ho I.free fun z=>(hch _ z).2.1 rfl
 exact I.step (ch:=ch) hch (fun b o hL hb hc e n=>u.keep b o e n (fun z=>(zT.mp (I.stkSub b z)).elim hL hb) hc) (fun b o _ _ hc e n=>u.any e n hc) (fun b o hc e n=>u.free b o e n hc) (fun b o hc e=>u.there b o e hc) u.tups u.frzs u.tbls (fun m' hm=>by
  obtain ⟨o',es',ep',ho',r'⟩:=hm;rw [ho] at ho';cases ho';exact ⟨_,es',ep',hL,r'⟩) MB hg
theorem Inv.turned {t':Nat}{it:Addr} (I:Inv X Mv σ H s) (k:∀ b o,b ≠ it->s.heap.get? b=some o->h'.get? b=some o) (hn:H it=none) (hL:it ≠ X.env.locals)
  (h1:it ∈ X.ex\/X.s₀.heap.objs.size <= it) (h2:∀ x c,X.env.cells.lookup x=some c->c ≠ it) (h3:∀ p ∈ X.pn++Mv,p.1 ≠ it):Inv X Mv σ H { s with heap:=h',toks:=t' }:=by
 have nit:∀ b u,H b=some u->b ≠ it:=fun b u e z=>by rw [z,hn] at e;cases e
 refine I.step (g':=s.gens) (d':=s.drawn) (ch:=[it]) (fun b hb=>?_) (fun b o _ _ hc e _=>k b o (fun z=>hc (by simp [z])) e) (fun b o _ _ hc e _=>⟨o.slots,k b o (fun z=>hc (by simp [z])) e⟩) (fun _ _ _ _ n=>n)
  (fun b o hc e=>⟨o,k b o (fun z=>hc (by simp [z])) e⟩) (fun _ _ e=>e) (fun _ _ _ e=>e) (fun b ps e=>⟨#[],by rw [e];simp⟩) (fun m hm=>?_) (fun b u e=>?_) I.bare
 ·have e:b=it:=by simpa using hb
  subst e;exact ⟨h1,hL,h2,h3⟩
 ·obtain ⟨o,es,ep,ho,r⟩:=hm
  exact ⟨o,es,ep,k _ o (Ne.symm hL) ho,r⟩
 ·refine (I.MB b u e).stay (fun c v hc q=>k c v ?_ q) (fun _ q=>q) fun _ _ q=>q
  rcases hc with z | z
  ·rw [z];exact nit b u e
  ·exact nit c _ z
theorem Inv.tok (I:Inv X Mv σ H s) (t:Nat):Inv X Mv σ H { s with toks:=t }:=I.un (h':=s.heap) (t':=t) Un.refl I.MB
theorem Inv.kept {t':Nat} (I:Inv X Mv σ H s) (k:∀ b u,s.heap.get? b=some u->h'.get? b=some u):Inv X Mv σ H { s with heap:=h',toks:=t' }:=I.un (Un.kept k) (I.MB.kept k)
theorem Inv.laid {a:Addr}{o:HO}{t':Nat} (I:Inv X Mv σ H s) (k:∀ b u,s.heap.get? b=some u->h'.get? b=some u) (hp:s.heap.objs.size <= a) (new:ObjOk X.prog X.w (af H a o) h' a o) :
  Inv X Mv σ (af H a o) { s with heap:=h',toks:=t' }:=I.un (Un.laid k hp (I.MB.fresh hp)) (I.MB.laid k hp new)
theorem Inv.write {x e:Addr}{o:HO}{t':Nat} (I:Inv X Mv σ H s) (mu:wu (H x)) (he:e=x\/H e=some (.own x)) (k:∀ b u,b ≠ e->s.heap.get? b=some u->h'.get? b=some u) (heo:∃ u,h'.get? e=some u)
  (new:ObjOk X.prog X.w (af H x o) h' x o):Inv X Mv σ (af H x o) { s with heap:=h',toks:=t' }:=I.un (Un.write mu he k heo) (I.MB.write mu he k heo new)
theorem Inv.pins_of {pins':List (Addr × Obj)} (I:Inv X Mv σ H s) (h:∀ p ∈ pins',s.heap.get? p.1=some p.2/\H p.1=none/\p.1 ≠ X.env.locals/\p.1 ∉ X.fs/\∀ v,p.2.data ≠ .cell v):Inv X pins' σ H s :=
 ⟨I.ok,I.os,I.bare,I.base,I.loc,I.cell,I.free,I.freeC,fun p hp=>(zZ.mp hp).elim (fun z=>I.pin p (zL _ z)) (h p),I.MB,I.len⟩
theorem pW {N:List Str} (hN:N.Nodup) {i j:Nat}{x:Str} (a:N[i]?=some x) (b:N[j]?=some x):i=j:=by
 obtain ⟨h1,e1⟩:=zB.mp a;obtain ⟨h2,e2⟩:=zB.mp b;exact (List.getElem_inj hN).mp (e1.trans e2.symm)
theorem oo {M:Model}{A:Around}{E:Value->Shared->Prop}{i:Nat}{x:Str}{v:V}{u:Value}{Q:Unit->Shared->Prop} (I:Inv X Mv σ H s) (hN:X.N.Nodup) (hi:X.N[i]?=some x) (hx:Loc X.env.scope x) (r:RelV v u)
  (h:∀ s',Inv X Mv (σ.set i (some v)) H s'->(∃ a,Heap.SameBut a s.heap s'.heap/\(a=X.env.locals\/X.env.cells.lookup x=some a))->Q () s') (hf:X.fn x=true\/X.env.scope.names.lookup x=some .local:=by first | exact .inl rfl | exact .inr rfl | assumption):wpAny M A (storeName X.env x u) Q E s:=by
 obtain ⟨m,hn,hl⟩:=id I.loc;have hcls:(X.env.scope.kind == .class || (X.env.scope.kind == .module && X.env.locals != X.env.globals))=false:=by rw [I.ok.kind];rfl
 have hiσ:i < σ.length:=by rw [I.len];exact (zB.mp hi).1
 have cne:=I.cne;have tracked:∀ {a:Addr}{h':Heap},(∃ o,s.heap.get? a=some o/\H a=none)->Heap.SameBut a s.heap h'->HOk X.prog X.w H h':=fun {a h'} ha hs b ob e=>by
  obtain ⟨_,_,hfree⟩:=ha;refine (I.MB b ob e).stay (fun c w' hc q=>(hs.2 c ?_).trans q) (fun _ q=>q) fun _ _ q=>q
  rintro rfl;rcases hc with rfl | hc
  ·rw [hfree] at e;cases e
  ·rw [hfree] at hc;cases hc
 rcases hx with hk | hk
 ·refine wpAny_storeName_local hk hn (fun h' hn' hs=>?_) hcls
  obtain ⟨oL,_,_,hoL,_⟩:=id hn;refine h _ ⟨I.ok,I.os,I.bare,⟨fun b o e n hb hx=>?_,fun b o e n hb hx=>?_,I.base.free,fun b o e hx=>?_,I.base.tups,I.base.frzs,I.base.tbls⟩,⟨_,hn',fun j y v' e1 e2 e3=>?_⟩,fun y c e=>?_,I.free,I.freeC,fun p hp=>?_,tracked ⟨oL,hoL,I.free⟩ hs,by simpa using I.len⟩ ⟨_,hs,.inl rfl⟩
  ·exact (hs.2 b (zU (zJ (yI e) I.ok.above))).trans (I.base.keep b o e n hb hx)
  ·obtain ⟨sl,e1⟩:=I.base.slot b o e n hb hx
   exact ⟨sl,(hs.2 b (zU (zJ (yI e) I.ok.above))).trans e1⟩
  ·obtain ⟨o',e1⟩:=I.base.there b o e hx
   exact ⟨o',(hs.2 b (zU (zJ (yI e) I.ok.above))).trans e1⟩
  ·by_cases hj:j=i
   ·subst hj
    rw [hi] at e1;cases e1;rw [List.getElem?_set_self hiσ] at e2;cases e2;exact ⟨u,r,.inl ⟨hk,by simp⟩⟩
   ·rw [List.getElem?_set_ne (Ne.symm hj)] at e2
    obtain ⟨u',r',q⟩:=hl j y v' e1 e2 e3;refine ⟨u',r',?_⟩;rcases q with ⟨k,e⟩ | ⟨k,c,e,z⟩
    ·refine .inl ⟨k,?_⟩
     have:y ≠ x:=fun e=>hj (pW hN e1 (e ▸ hi))
     simp [this,e]
    ·exact .inr ⟨k,c,e,z.sameBut hs (cne y c e)⟩
  ·obtain ⟨w',z⟩:=I.cell y c e
   exact ⟨w',z.sameBut hs (cne y c e)⟩
  ·obtain ⟨e,n,ne,nf,d⟩:=I.pin p hp
   exact ⟨(hs.2 p.1 ne).trans e,n,ne,nf,d⟩
 ·have hfn:X.fn x=true:=by
   rcases hf with z | z
   ·exact z
   ·rw [z] at hk;cases hk
  obtain ⟨c,hc⟩:=I.ok.has x (.inl hk);obtain ⟨w',z⟩:=I.cell x c hc;refine wpAny_storeName_cell I.ok.kind hk hc z (fun h' hc' hs=>?_);obtain ⟨oc,hoc,hocd⟩:=id z;refine h { s with heap:=h' } ⟨I.ok,I.os,I.bare,⟨fun b o e n hb hx=>?_,fun b o e n hb hx=>?_,I.base.free,fun b o e hx=>?_,I.base.tups,I.base.frzs,I.base.tbls⟩,⟨m,hn.sameBut hs (Ne.symm (cne x c hc)),fun j y v' e1 e2 e3=>?_⟩,fun y c' e=>?_,I.free,I.freeC,fun p hp=>?_,tracked ⟨oc,hoc,I.freeC x c hc⟩ hs,by simpa using I.len⟩ ⟨c,hs,.inr hc⟩
  ·exact (hs.2 b (zU (zJ (yI e) (I.ok.cab x c hfn hc)))).trans (I.base.keep b o e n hb hx)
  ·obtain ⟨sl,e1⟩:=I.base.slot b o e n hb hx
   exact ⟨sl,(hs.2 b (zU (zJ (yI e) (I.ok.cab x c hfn hc)))).trans e1⟩
  ·obtain ⟨o',e1⟩:=I.base.there b o e hx
   exact ⟨o',(hs.2 b (zU (zJ (yI e) (I.ok.cab x c hfn hc)))).trans e1⟩
  ·by_cases hj:j=i
   ·subst hj
    rw [hi] at e1;cases e1;rw [List.getElem?_set_self hiσ] at e2;cases e2;exact ⟨u,r,.inr ⟨.inl hk,c,hc,hc'⟩⟩
   ·rw [List.getElem?_set_ne (Ne.symm hj)] at e2
    obtain ⟨u',r',q⟩:=hl j y v' e1 e2 e3;refine ⟨u',r',?_⟩;rcases q with q | ⟨k,c',e,z'⟩
    ·exact .inl q
    ·refine .inr ⟨k,c',e,z'.sameBut hs ?_⟩
     rintro rfl;exact hj (pW hN e1 (I.ok.inj _ _ _ e hc ▸ hi))
  ·by_cases hcc:c'=c
   ·subst hcc;exact ⟨_,hc'⟩
   ·obtain ⟨w2,z2⟩:=I.cell y c' e
    exact ⟨w2,z2.sameBut hs hcc⟩
  ·obtain ⟨e,n,ne,nf,d⟩:=I.pin p hp
   refine ⟨(hs.2 p.1 ?_).trans e,n,ne,nf,d⟩;intro q;rw [q,hoc] at e;have q':oc=p.2:=yD e;exact d w' (by rw [<- q'];exact hocd)
theorem pD {M:Model}{A:Around}{E:Value->Shared->Prop}{i:Nat}{x:Str}{v:V}{u:Value}{Q:Unit->Shared->Prop} (I:Inv X Mv σ H s) (hN:X.N.Nodup) (hi:X.N[i]?=some x) (hx:Loc X.env.scope x) (r:RelV v u)
  (h:∀ s',Inv X Mv (σ.set i (some v)) H s'->Q () s') (hf:X.fn x=true\/X.env.scope.names.lookup x=some .local:=by first | exact .inl rfl | exact .inr rfl | assumption):wpAny M A (storeName X.env x u) Q E s :=
 oo I hN hi hx r (fun s' I' _=>h s' I') hf
theorem Inv.call' {s':Shared}{ch:List Addr} (I:Inv X Mv σ H s) (ho:s'.os=s.os) (u:Un (i8 X.stack) ch H H' s.heap s'.heap) (MB:HOk X.prog X.w H' s'.heap) (hg:AllBare s'.gens)
  (hch:∀ b ∈ ch,(b ∈ X.ex\/X.s₀.heap.objs.size <= b)/\b ≠ X.env.locals/\(∀ x c,X.env.cells.lookup x=some c->c ≠ b)/\∀ p ∈ X.pn++Mv,p.1 ≠ b):Inv X Mv σ H' s':=by
 obtain ⟨h',g',d',t',o'⟩:=s';have e:o'=s.os:=ho;subst e;exact I.call (g':=g') (t':=t') (d':=d') u MB hg hch
end
abbrev XK:=Value->Option Addr->Hp->Prop
abbrev St:=List (Option V)
abbrev VK:=V->Hp->Prop
abbrev TE:=St->Hp->VK->Prop
abbrev TT:=St->Hp->(Bool->Hp->Prop)->Prop
abbrev TA:=St->Hp->(List V->Hp->Prop)->Prop
structure iT where
 nx:St->Hp->Prop
 rt:VK
 bk:St->Hp->Prop:=fun _ _=>False
 ct:St->Hp->Prop:=fun _ _=>False
abbrev TS:=iT->St->Hp->Prop
def EP (X:Cx) (Mv:List (Addr × Obj)) (σ:St) (Q:VK) (u:Value) (s':Shared):Prop:=∃ v H',Inv X Mv σ H' s'/\RelV v u/\Q v H'
def TP (X:Cx) (Mv:List (Addr × Obj)) (σ:St) (Q:Bool->Hp->Prop) (b:Bool) (s':Shared):Prop:=∃ H',Inv X Mv σ H' s'/\Q b H'
def AP (X:Cx) (Mv:List (Addr × Obj)) (σ:St) (Q:List V->Hp->Prop) (us:List Value) (s':Shared):Prop:=∃ vs H',Inv X Mv σ H' s'/\Vals vs us/\Q vs H'
def SP (X:Cx) (Mv:List (Addr × Obj)) (D:iT) (f:Flow) (s':Shared):Prop :=
 match f with
 | .next=>∃ σ' H',Inv X Mv σ' H' s'/\D.nx σ' H'
 | .brk=>∃ σ' H',Inv X Mv σ' H' s'/\D.bk σ' H'
 | .cont=>∃ σ' H',Inv X Mv σ' H' s'/\D.ct σ' H'
 | .ret u=>∃ v σ' H',Inv X Mv σ' H' s'/\RelV v u/\D.rt v H'
def PE (X:Cx) (e:Expr) (t:TE):Prop :=
 ∀ (Mv:List (Addr × Obj)) (s:Shared) (σ:St) (H:Hp) (Q:VK),Inv X Mv σ H s->t σ H Q->wpAny (model X.prog X.w) X.A (eval e X.env) (EP X Mv σ Q) X.xe s
def PT (X:Cx) (e:Expr) (t:TT):Prop :=
 ∀ (Mv:List (Addr × Obj)) (s:Shared) (σ:St) (H:Hp) (Q:Bool->Hp->Prop),Inv X Mv σ H s->t σ H Q->wpAny (model X.prog X.w) X.A (isTrue e X.env (eval e X.env)) (TP X Mv σ Q) X.xe s
def PW (X:Cx) (e:Expr) (t:TT):Prop :=
 ∀ (whole:Sem Value) (Mv:List (Addr × Obj)) (s:Shared) (σ:St) (H:Hp) (Q:Bool->Hp->Prop),Inv X Mv σ H s->t σ H Q->wpAny (model X.prog X.w) X.A (isTrue e X.env whole) (TP X Mv σ Q) X.xe s
theorem PW.pt {X:Cx}{e:Expr}{t:TT} (h:PW X e t):PT X e t:=h _
def PA (X:Cx) (es:List Expr) (t:TA):Prop :=
 ∀ (pos:Pos) (Mv:List (Addr × Obj)) (s:Shared) (σ:St) (H:Hp) (Q:List V->Hp->Prop),Inv X Mv σ H s->t σ H Q->wpAny (model X.prog X.w) X.A (spliced (backTo pos (starEach es X.env))) (AP X Mv σ Q) X.xe s
def PS (X:Cx) (st:Stmt) (t:TS):Prop :=
 ∀ (Mv:List (Addr × Obj)) (s:Shared) (σ:St) (H:Hp) (D:iT),Inv X Mv σ H s->t D σ H->wpAny (model X.prog X.w) X.A (exec st X.env) (SP X Mv D) X.xe s
def PSs (X:Cx) (st:List Stmt) (t:TS):Prop :=
 ∀ (Mv:List (Addr × Obj)) (s:Shared) (σ:St) (H:Hp) (D:iT),Inv X Mv σ H s->t D σ H->wpAny (model X.prog X.w) X.A (execs st X.env) (SP X Mv D) X.xe s
theorem aB {α:Type}{t:Sem α}{Q Q':α->Shared->Prop}{M:Model}{A:Around}{E:Value->Shared->Prop}{s:Shared} (h:wpAny M A t Q E s) (hQ:∀ a s,Q a s->Q' a s):wpAny M A t Q' E s:=yQ h hQ fun _ _ x=>x
section
variable {X:Cx}
theorem bin {a b:Expr}{ta tb:TE} (ha:PE X a ta) (hb:PE X b tb) {Mv:List (Addr × Obj)}{s:Shared}{σ:St}{H:Hp}{R:V->V->Hp->Prop} (I:Inv X Mv σ H s) (h:ta σ H fun x H1=>tb σ H1 fun y H2=>R x y H2)
  {α:Type}{Q:α->Shared->Prop}{f:Value->Value->Sem α}
  (hf:∀ v u s2 x y H2,Inv X Mv σ H2 s2->RelV x v->RelV y u->R x y H2->wpAny (model X.prog X.w) X.A (f v u) Q X.xe s2) :
  wpAny (model X.prog X.w) X.A (eval a X.env) (fun v s₁=>wpAny (model X.prog X.w) X.A (eval b X.env) (fun u s₂=>wpAny (model X.prog X.w) X.A (f v u) Q X.xe s₂) X.xe s₁) X.xe s:=by
 refine aB (ha Mv s σ H _ I h) fun v s1 hq0=>?_
 obtain ⟨x,H1,I1,r1,q1⟩:=hq0;refine aB (hb Mv s1 σ H1 _ I1 q1) fun u s2 hq0=>?_
 obtain ⟨y,H2,I2,r2,q2⟩:=hq0;exact hf v u s2 x y H2 I2 r1 r2 q2
noncomputable def Je (i:Nat):TE:=fun σ H Q=>∃ v,σ[i]?=some (some v)/\Q v H
noncomputable def tC (v:V):TE:=fun _ H Q=>Q v H
theorem Du {i:Nat}{x:Str}{pos:Pos} (hN:X.N[i]?=some x) (hv:wn X.env.scope x) (hd:(x == ("__debug__":Str))=false:=by decide) (hcd:(x == ("__classdict__":Str))=false:=by decide):PE X (.Name x pos) (Je i):=by
 intro Mv s σ H Q I h;obtain ⟨v,e,h⟩:=h;obtain ⟨m,hn,hl⟩:=I.loc;obtain ⟨u,r,l⟩:=hl i x v hN e hv;have aF:EP X Mv σ Q u s:=⟨v,H,I,r,h⟩;rcases l with ⟨hk,hm⟩ | ⟨hk,c,hc,hcell⟩
 ·exact wpAny_Name (wpAny_loadName_local I.ok.kind hk hn hm aF) hd
 ·rcases hk with hk | hk
  ·exact wpAny_Name (wpAny_loadName_cell I.ok.kind hk hc hcell aF) hd
  ·exact wpAny_Name (wpAny_loadName_free I.ok.kind hk hc hcell aF hcd) hd
theorem Dz {i j pos}:PE X (.Constant (.int i) j pos) (tC (.int i)):=fun _ _ _ H _ I h=>wpAny_Constant_int ⟨.int i,H,I.tok _,⟨_,rfl⟩,h⟩
theorem Gy {b j pos}:PE X (.Constant (.bool b) j pos) (tC (.bl b)):=fun _ _ _ H _ I h=>Constant_bool ⟨.bl b,H,I,rfl,h⟩
theorem Dy {j pos}:PE X (.Constant .none j pos) (tC .non):=fun _ _ _ H _ I h=>Constant_none ⟨.non,H,I,rfl,h⟩
theorem Dw {x j pos}:PE X (.Constant (.str x) j pos) (tC (.str x)):=fun _ _ _ H _ I h=>Calls.Constant_str ⟨.str x,H,I.tok _,⟨_,rfl⟩,h⟩
def Gl (X:Cx) (x:Str):Prop:=X.env.kindOf x=some .globalImplicit
theorem kM {E:Value->Shared->Prop}{Mv:List (Addr × Obj)}{s:Shared}{σ:St}{H:Hp}{x:Str}{u:Value}{pos:Pos}{Q:Value->Shared->Prop} (I:Inv X Mv σ H s) (hg:Gl X x) (hm:X.mg x=some u) (h:Q u s)
  (hd:(x == ("__debug__":Str))=false:=by decide):wpAny (model X.prog X.w) X.A (eval (.Name x pos) X.env) Q E s :=
 Calls.Name_function_global I.ok.kind hg (Calls.loadGlobal_global (by rw [I.ok.glob];exact I.mod.glob.keeps I.bk) hm h) hd
theorem cH {E:Value->Shared->Prop}{Mv:List (Addr × Obj)}{s:Shared}{σ:St}{H:Hp}{x:Str}{u:Value}{pos:Pos}{Q:Value->Shared->Prop} (I:Inv X Mv σ H s) (hg:Gl X x) (hm:X.mg x=none) (hv:bootBuiltins x=some u) (h:Q u s)
  (hn:x ≠ "__name__":=by decide) (hd:(x == ("__debug__":Str))=false:=by decide):wpAny (model X.prog X.w) X.A (eval (.Name x pos) X.env) Q E s:=by
 obtain ⟨mb,h1,h2⟩:=I.mod.blt;exact Calls.Name_function_global I.ok.kind hg (Calls.loadGlobal_builtin (by rw [I.ok.glob];exact I.mod.glob.keeps I.bk) hm (by rw [I.ok.blt];exact h1.keeps I.bk) ((h2 x hn).trans hv) h) hd
theorem BA {x:Str}{v:V}{u:Value}{pos:Pos} (hg:Gl X x) (hm:X.mg x=some u) (r:RelV v u) (hd:(x == ("__debug__":Str))=false:=by decide):PE X (.Name x pos) (tC v) :=
 fun _ _ _ H _ I h=>kM I hg hm ⟨v,H,I,r,h⟩ hd
variable {a b:Expr}{ta tb:TE}{pos:Pos}
theorem RelV.none_iff {x:V}{v:Value} (r:RelV x v):(v == Value.none)=decide (x=.non):=by
 cases x with
 | non=>cases r;rfl
 | bl _=>cases r;rfl
 | int _=>obtain ⟨t,rfl⟩:=r;rfl
 | str _=>obtain ⟨t,rfl⟩:=r;rfl
 | byt _=>obtain ⟨t,rfl⟩:=r;rfl
 | flt _=>obtain ⟨t,rfl⟩:=r;rfl
 | ref _=>cases r;rfl
 | ty _=>cases r;rfl
variable {tA tB':TT}{rest:List Expr}
noncomputable def Jp (t u:TT):TT:=fun σ H Q=>t σ H fun c H1=>if c=true then u σ H1 Q else Q false H1
noncomputable def Kw (t u:TT):TT:=fun σ H Q=>t σ H fun c H1=>if c=true then Q true H1 else u σ H1 Q
noncomputable def Jj (t:TT):TT:=fun σ H Q=>t σ H fun c H1=>Q (!c) H1
theorem Bj (ha:PT X a tA):PW X (.BoolOp .And [a] pos) tA:=by
 intro wh Mv s σ H Q I h;refine isTrue_and (aB (ha Mv s σ H Q I h) fun c s1 e=>?_);cases c with
 | true=>exact isTrue_and_nil e
 | false=>exact e
theorem Dh (ha:PT X a tA):PW X (.BoolOp .Or [a] pos) tA:=by
 intro wh Mv s σ H Q I h;refine isTrue_or (aB (ha Mv s σ H Q I h) fun c s1 e=>?_);cases c with
 | false=>exact isTrue_or_nil e
 | true=>exact e
theorem Di (ha:PT X a tA) (hb:PW X (.BoolOp .And (b::rest) pos) tB'):PW X (.BoolOp .And (a::b::rest) pos) (Jp tA tB'):=by
 intro wh Mv s σ H Q I h;refine isTrue_and (aB (ha Mv s σ H _ I h) fun c s1 hq0=>?_);obtain ⟨H1,I1,q1⟩:=hq0;cases c with
 | true=>exact hb wh Mv s1 σ H1 Q I1 q1
 | false=>exact ⟨H1,I1,q1⟩
theorem Gk (ha:PT X a tA) (hb:PW X (.BoolOp .Or (b::rest) pos) tB'):PW X (.BoolOp .Or (a::b::rest) pos) (Kw tA tB'):=by
 intro wh Mv s σ H Q I h;refine isTrue_or (aB (ha Mv s σ H _ I h) fun c s1 hq0=>?_);obtain ⟨H1,I1,q1⟩:=hq0;cases c with
 | true=>exact ⟨H1,I1,q1⟩
 | false=>exact hb wh Mv s1 σ H1 Q I1 q1
theorem Dj (ha:PT X a tA):PT X (.UnaryOp .Not a pos) (Jj tA):=by
 intro Mv s σ H Q I h;exact isTrue_not (ha Mv s σ H (fun c H1=>Q (!c) H1) I h)
noncomputable def FW (ta tb:TE):TE:=fun σ H Q=>ta σ H fun x H1=>∃ c,x=.bl c/\if c=true then tb σ H1 Q else Q (.bl false) H1
noncomputable def Ji (ta tb:TE):TE:=fun σ H Q=>ta σ H fun x H1=>∃ c,x=.bl c/\if c=true then Q (.bl true) H1 else tb σ H1 Q
noncomputable def FS (ta:TE):TE:=fun σ H Q=>ta σ H fun x H1=>∃ c,x=.bl c/\Q (.bl (!c)) H1
theorem vn {op}{t:TE} (h:PE X a t):PE X (.BoolOp op [a] pos) t:=fun Mv s σ H Q I hw=>BoolOp_one (h Mv s σ H Q I hw)
theorem DC (ha:PE X a ta) (hb:PE X (.BoolOp .And (b::rest) pos) tb):PE X (.BoolOp .And (a::b::rest) pos) (FW ta tb):=by
 intro Mv s σ H Q I h;refine BoolOp_and (aB (ha Mv s σ H _ I h) fun v s1 hq0=>?_);obtain ⟨x,H1,I1,r1,q1⟩:=hq0;obtain ⟨c,rfl,q1⟩:=q1;cases r1;refine wpAny_truthy_bool ?_;cases c with
 | true=>exact hb Mv s1 σ H1 Q I1 q1
 | false=>exact ⟨.bl false,H1,I1,rfl,q1⟩
theorem Gs (ha:PE X a ta) (hb:PE X (.BoolOp .Or (b::rest) pos) tb):PE X (.BoolOp .Or (a::b::rest) pos) (Ji ta tb):=by
 intro Mv s σ H Q I h;refine BoolOp_or (aB (ha Mv s σ H _ I h) fun v s1 hq0=>?_);obtain ⟨x,H1,I1,r1,q1⟩:=hq0;obtain ⟨c,rfl,q1⟩:=q1;cases r1;refine wpAny_truthy_bool ?_;cases c with
 | false=>exact hb Mv s1 σ H1 Q I1 q1
 | true=>exact ⟨.bl true,H1,I1,rfl,q1⟩
theorem Dx (ha:PE X a ta):PE X (.UnaryOp .Not a pos) (FS ta):=by
 intro Mv s σ H Q I h;refine UnaryOp_ (aB (ha Mv s σ H _ I h) fun v s1 hq0=>?_);obtain ⟨x,H1,I1,r1,q1⟩:=hq0;obtain ⟨c,rfl,q1⟩:=q1;cases r1;exact not_of (wpAny_truthy_bool ⟨.bl (!c),H1,I1,rfl,q1⟩)
noncomputable def Kx (t:TT) (ta tb:TE):TE:=fun σ H Q=>t σ H fun c H1=>if c=true then ta σ H1 Q else tb σ H1 Q
theorem xk {c:Expr} (hc:PT X c tA) (ha:PE X a ta) (hb:PE X b tb):PE X (.IfExp c a b pos) (Kx tA ta tb):=by
 intro Mv s σ H Q I h;refine wpAny_IfExp (aB (hc Mv s σ H _ I h) fun d s1 hq0=>?_);obtain ⟨H1,I1,q1⟩:=hq0;cases d with
 | true=>exact ha Mv s1 σ H1 Q I1 q1
 | false=>exact hb Mv s1 σ H1 Q I1 q1
end
def bz (K:Frag) (H:Hp) (a:Addr) (xs:List V):Prop :=
 Rd H a (.lst xs) \/
  ∃ (o:Obj) (Mz:Array Value) (n:Nat),K.lookup a=some o/\o.cls=.type "list"/\o.dict=none/\o.data=.seq Mz n/\Mz.size <= sizeLine/\Vals xs Mz.toList
def gr (K:Frag) (H:Hp) (a:Addr) (xs:List V):Prop :=
 Rd H a (.tup xs) \/
  ∃ (o:Obj) (Mz:Array Value) (n:Nat),K.lookup a=some o/\o.cls=.type "tuple"/\o.data=.seq Mz n/\Mz.size <= sizeLine/\Vals xs Mz.toList
noncomputable def Kl:Value->Option V
 | .none=>some .non
 | .bool b=>some (.bl b)
 | .int i _=>some (.int i)
 | .str x _=>some (.str x)
 | .bytes b _=>some (.byt b)
 | .float b _=>some (.flt b)
 | .ref a=>some (.ref a)
 | .type n=>some (.ty n)
 | _=>none
theorem RelV.abs {x:V}{u:Value} (r:RelV x u):Kl u=some x:=by
 cases x with
 | non=>cases r;rfl
 | bl _=>cases r;rfl
 | int _=>obtain ⟨t,rfl⟩:=r;rfl
 | str _=>obtain ⟨t,rfl⟩:=r;rfl
 | byt _=>obtain ⟨t,rfl⟩:=r;rfl
 | flt _=>obtain ⟨t,rfl⟩:=r;rfl
 | ref _=>cases r;rfl
 | ty _=>cases r;rfl
theorem RelV.inj {x y:V}{u:Value} (r:RelV x u) (q:RelV y u):x=y:=yD (r.abs.symm.trans q.abs)
theorem Vals.inj {xs ys:List V}{us:List Value} (h:Vals xs us):Vals ys us->xs=ys:=by
 induction h generalizing ys with
 | nil=>intro h';cases h';rfl
 | cons r t ih =>
  intro h';cases h' with
  | cons r' t'=>rw [r.inj r',ih t']
section
variable {X:Cx}{Mv:List (Addr × Obj)}{σ:St}{H:Hp}{s:Shared}{a:Addr}{xs ys:List V}
theorem Inv.list (I:Inv X Mv σ H s) (h:bz X.K H a xs):∃ Mz:List Value,Vals xs Mz/\PlainL s.heap a Mz.toArray/\xs.length <= sizeLine:=by
 rcases h with h | ⟨o,Mz,n,hk,hc,hd,hs,hz,r⟩
 ·obtain ⟨z,Mz,n,r,e⟩:=h.ok I.MB
  exact ⟨Mz,r,⟨_,n,e,rfl,rfl,rfl⟩,z⟩
 ·refine ⟨Mz.toList,r,⟨o,n,I.kIn a o hk,hc,hd,by simpa using hs⟩,?_⟩
  have e:=r.length;simp only [Array.length_toList] at e;omega
theorem Inv.tuple (I:Inv X Mv σ H s) (h:gr X.K H a xs):∃ Mz:List Value,Vals xs Mz/\IsTup s.heap a Mz.toArray/\xs.length <= sizeLine:=by
 rcases h with h | ⟨o,Mz,n,hk,hc,hs,hz,r⟩
 ·obtain ⟨z,Mz,r,p⟩:=h.ok I.MB
  exact ⟨Mz,r,p,z⟩
 ·refine ⟨Mz.toList,r,⟨o,I.kIn a o hk,hc,n,by simpa using hs⟩,?_⟩
  have e:=r.length;simp only [Array.length_toList] at e;omega
theorem Inv.list_inj (I:Inv X Mv σ H s) (h:bz X.K H a xs) (h':bz X.K H a ys):xs=ys:=by
 obtain ⟨Mz,r,⟨o,n,e,_,_,d⟩,_⟩:=I.list h;obtain ⟨its',r',⟨o',n',e',_,_,d'⟩,_⟩:=I.list h';rw [e] at e';cases e';rw [d] at d';injection d' with d1 _;have:Mz=its':=by simpa using congrArg Array.toList d1
 subst this;exact r.inj r'
theorem Inv.tuple_inj (I:Inv X Mv σ H s) (h:gr X.K H a xs) (h':gr X.K H a ys):xs=ys:=by
 obtain ⟨Mz,r,⟨o,e,_,n,d⟩,_⟩:=I.tuple h;obtain ⟨its',r',⟨o',e',_,n',d'⟩,_⟩:=I.tuple h';rw [e] at e';cases e';rw [d] at d';injection d' with d1 _;have:Mz=its':=by simpa using congrArg Array.toList d1
 subst this;exact r.inj r'
end
abbrev Cx.wish (X:Cx) (E:Value->Shared->Prop):Cx:={ X with xe:=E }
abbrev Cx.nox (X:Cx):Cx:=X.wish fun _ _=>False
theorem Cx.Ok.wish {X:Cx} (ok:X.Ok) (E:Value->Shared->Prop):(X.wish E).Ok :=
 ⟨ok.mod,ok.kind,ok.glob,ok.blt,ok.above,ok.inj,ok.has,ok.cab,ok.hd,ok.frames,ok.stk,ok.exf,ok.bs,ok.bsz,ok.noex,ok.exfs,ok.funs,ok.frf⟩
theorem Cx.Ok.unwish {X:Cx}{E:Value->Shared->Prop} (ok:(X.wish E).Ok):X.Ok :=
 ⟨ok.mod,ok.kind,ok.glob,ok.blt,ok.above,ok.inj,ok.has,ok.cab,ok.hd,ok.frames,ok.stk,ok.exf,ok.bs,ok.bsz,ok.noex,ok.exfs,ok.funs,ok.frf⟩
section
variable {X:Cx}{Mv:List (Addr × Obj)}{σ:St}{H:Hp}{s:Shared}{E:Value->Shared->Prop}
theorem Inv.wish (I:Inv X Mv σ H s) (E:Value->Shared->Prop):Inv (X.wish E) Mv σ H s:=⟨I.ok.wish E,I.os,I.bare,I.base,I.loc,I.cell,I.free,I.freeC,I.pin,I.MB,I.len⟩
theorem Inv.unwish (I:Inv (X.wish E) Mv σ H s):Inv X Mv σ H s:=⟨I.ok.unwish,I.os,I.bare,I.base,I.loc,I.cell,I.free,I.freeC,I.pin,I.MB,I.len⟩
theorem SP.unwish {D:iT}{f:Flow}{s':Shared} (h:SP (X.wish E) Mv D f s'):SP X Mv D f s':=by
 cases f with
 | next=>obtain ⟨σ',H',I,q⟩:=h;exact ⟨σ',H',I.unwish,q⟩
 | brk=>obtain ⟨σ',H',I,q⟩:=h;exact ⟨σ',H',I.unwish,q⟩
 | cont=>obtain ⟨σ',H',I,q⟩:=h;exact ⟨σ',H',I.unwish,q⟩
 | ret u=>obtain ⟨v,σ',H',I,r,q⟩:=h;exact ⟨v,σ',H',I.unwish,r,q⟩
theorem PSs.nox {st:List Stmt}{t:TS} (h:PSs X.nox st t):PSs X st t:=fun Mv s σ H D I hw =>
 yQ (h Mv s σ H D (I.wish _) hw) (fun _ _ q=>q.unwish) fun _ _ z=>False.elim z
end
section
variable {X:Cx}{st:Stmt}{rest:List Stmt}{t u:TS}{e:Expr}{te:TE}{pos:Pos}
noncomputable def FT:TS:=fun D σ H=>D.nx σ H
noncomputable def Jg (t u:TS):TS:=fun D σ H=>t { D with nx:=u D } σ H
theorem Bl:PSs X [] FT:=fun _ _ σ H _ I h=>wpAny_execs_nil ⟨σ,H,I,h⟩
theorem wX (h1:PS X st t) (h2:PSs X rest u):PSs X (st::rest) (Jg t u):=by
 intro Mv s σ H D I h;refine wpAny_execs_cons (aB (h1 Mv s σ H { D with nx:=u D } I h) fun f s1 q=>?_);cases f with
 | next =>
  obtain ⟨σ',H',I',q⟩:=q;exact h2 Mv s1 σ' H' D I' q
 | ret v=>exact q
 | brk=>exact q
 | cont=>exact q
theorem Inv.quiet {Mv:List (Addr × Obj)}{σ:St}{H:Hp}{s:Shared} (I:Inv X Mv σ H s):interactive X.env=false:=by simp [interactive,I.ok.kind]
noncomputable def FU (te:TE):TS:=fun D σ H=>te σ H fun _ H1=>D.nx σ H1
theorem Bn (he:PE X e te) (hs:swapsWith e none pos.line X.env=pure false:=by rfl):PS X (.Expr e pos) (FU te):=by
 intro Mv s σ H D I h;exact wpAny_Expr_any (aB (he Mv s σ H _ I h) fun v s1 ⟨x,H1,I1,r1,q1⟩=>⟨σ,H1,I1,q1⟩) I.quiet hs
noncomputable def Jh (te:TE):TS:=fun D σ H=>te σ H D.rt
theorem Dl (he:PE X e te):PS X (.Return (some e) pos) (Jh te):=by
 intro Mv s σ H D I h;exact wpAny_Return_some (aB (he Mv s σ H _ I h) fun v s1 ⟨x,H1,I1,r1,q1⟩=>⟨x,σ,H1,I1,r1,q1⟩)
noncomputable def Jl (c:TT) (t u:TS):TS:=fun D σ H=>c σ H fun b H1=>if b=true then t D σ H1 else u D σ H1
theorem Gn {c:Expr}{a b:List Stmt}{tc:TT} (hc:PT X c tc) (ha:PSs X a t) (hb:PSs X b u):PS X (.If c a b pos) (Jl tc t u):=by
 intro Mv s σ H D I h;refine wpAny_If (aB (hc Mv s σ H _ I h) fun d s1 hq0=>?_);obtain ⟨H1,I1,q1⟩:=hq0;cases d with
 | true=>exact ha Mv s1 σ H1 D I1 q1
 | false=>exact hb Mv s1 σ H1 D I1 q1
noncomputable def uV:TS:=fun _ _ _=>False
theorem wZ:PS X st uV:=fun _ _ _ _ _ _ h=>h.elim
theorem vf {sts:List Stmt}:PSs X sts uV:=fun _ _ _ _ _ _ h=>h.elim
end
abbrev TG:=V->St->Hp->(St->Hp->Prop)->Prop
abbrev lJ:=List V->St->Hp->(St->Hp->Prop)->Prop
def PG (X:Cx) (target:Expr) (t:TG):Prop :=
 ∀ (Mv:List (Addr × Obj)) (s:Shared) (σ:St) (H:Hp) (v:V) (u:Value) (Q:St->Hp->Prop),Inv X Mv σ H s->RelV v u->t v σ H Q ->
  wpAny (model X.prog X.w) X.A (assign target X.env u) (fun _ s'=>∃ σ' H',Inv X Mv σ' H' s'/\Q σ' H') X.xe s
def oS (X:Cx) (ts:List Expr) (t:lJ):Prop :=
 ∀ (Mv:List (Addr × Obj)) (s:Shared) (σ:St) (H:Hp) (vs:List V) (us:List Value) (Q:St->Hp->Prop),Inv X Mv σ H s->Vals vs us->t vs σ H Q ->
  wpAny (model X.prog X.w) X.A (assignInOrder ((assignEach ts X.env).map (·.2)) us) (fun _ s'=>∃ σ' H',Inv X Mv σ' H' s'/\Q σ' H') X.xe s
abbrev qU:=V->V->V->Hp->(Hp->Prop)->Prop
def uG (X:Cx) (t:qU):Prop :=
 ∀ (Mv:List (Addr × Obj)) (s:Shared) (σ:St) (H:Hp) (o i v:V) (ov iv u:Value) (Q:Hp->Prop),Inv X Mv σ H s->RelV o ov->RelV i iv->RelV v u->t o i v H Q ->
  wpAny (model X.prog X.w) X.A (setItem ov iv u) (fun _ s'=>∃ H',Inv X Mv σ H' s'/\Q H') X.xe s
abbrev Aw:=V->V->Hp->VK->Prop
def Az (X:Cx) (op:Operator) (t:Aw):Prop :=
 ∀ (Mv:List (Addr × Obj)) (s:Shared) (σ:St) (H:Hp) (x y:V) (v u:Value) (Q:VK),Inv X Mv σ H s->RelV x v->RelV y u->t x y H Q ->
  wpAny (model X.prog X.w) X.A (inplaceOp op v u) (EP X Mv σ Q) X.xe s
section
variable {X:Cx}{pos:Pos}
noncomputable def mT (i:Nat):TG:=fun v σ H Q=>Q (σ.set i (some v)) H
theorem Bx {i:Nat}{x:Str} (hN:X.N.Nodup) (hi:X.N[i]?=some x) (hx:Loc X.env.scope x) (hf:X.fn x=true\/X.env.scope.names.lookup x=some .local:=by first | exact .inl rfl | exact .inr rfl | assumption):PG X (.Name x pos) (mT i):=by
 intro Mv s σ H v u Q I r h;exact wpAny_assign_Name (pD I hN hi hx r (fun s' I'=>⟨_,H,I',h⟩) hf)
noncomputable def JX:lJ:=fun vs σ H Q=>vs=[]/\Q σ H
noncomputable def G6 (t:TG) (u:lJ):lJ:=fun vs σ H Q=>∃ v r,vs=v::r/\t v σ H fun σ' H'=>u r σ' H' Q
theorem Bv:oS X [] JX:=by
 intro Mv s σ H vs us Q I r h;obtain ⟨e,h⟩:=h;subst e;cases r;exact assignInOrder_nil ⟨σ,H,I,h⟩
theorem xa {e:Expr}{es:List Expr}{t:TG}{u:lJ} (h1:PG X e t) (h2:oS X es u)
  (hs:(assignEach (e::es) X.env).map (·.2)=assign e X.env::(assignEach es X.env).map (·.2):=by rfl):oS X (e::es) (G6 t u):=by
 intro Mv s σ H vs us Q I r h;obtain ⟨v,vr,e1,h⟩:=h;subst e1;cases r with
 | cons r rr =>
  rw [hs];refine assignInOrder_cons (aB (h1 Mv s σ H _ _ _ I r h) fun _ s1 hq0=>?_);obtain ⟨σ1,H1,I1,q1⟩:=hq0;exact h2 Mv s1 σ1 H1 _ _ Q I1 rr q1
noncomputable def JV (K:Frag) (n:Nat) (t:lJ):TG:=fun v σ H Q=>∃ a xs,v=.ref a/\gr K H a xs/\xs.length=n/\t xs σ H Q
theorem Ds {es:List Expr}{k:Nat}{t:lJ}{n:Nat} (hc:X.calm=true) (h:oS X es t)
  (hn:(assignEach es X.env).length=n:=by rfl) (hst:(assignEach es X.env).findIdx? (·.1)=none:=by rfl):PG X (.Tuple es k pos) (JV X.K n t):=by
 intro Mv s σ H v u Q I r hw;obtain ⟨a,xs,e1,hq,hl,hw⟩:=hw;subst e1;cases r;obtain ⟨Mz,rv,ht,hz⟩:=I.tuple hq;refine assign_Tuple_tuple (I.ok.hd hc) ht (by simp [hn,<- hl,rv.length]) hst fun h' hx=>?_
 have I1:Inv X Mv σ H { s with heap:=h' }:=I.kept (t':=s.toks) fun b o e=>hx b o (zU (yI e)) e
 exact h Mv _ σ H xs _ Q I1 (by simpa using rv) hw
noncomputable def JW (to ti:TE) (t:qU):TG:=fun v σ H Q=>to σ H fun o H1=>ti σ H1 fun i H2=>t o i v H2 fun H3=>Q σ H3
theorem Dt {o i:Expr}{to ti:TE}{t:qU} (ho:PE X o to) (hi:PE X i ti) (hs:uG X t)
  (ha:∀ v,assign (.Subscript o i pos) X.env v=(do
   let ov <- holding [v] (eval o X.env)
   let iv <- holding [v,ov] (eval i X.env)
   standAt pos
   holding [v,ov,iv] (setItem ov iv v)
   release [v,ov,iv] []):=by intro _;rfl):PG X (.Subscript o i pos) (JW to ti t):=by
 intro Mv s σ H v u Q I r h;rw [ha];refine yE (yP (aB (ho Mv s σ H _ I h) fun ov s1 hq0=>?_));obtain ⟨x,H1,I1,r1,q1⟩:=hq0;refine yE (yP (aB (hi Mv s1 σ H1 _ I1 q1) fun iv s2 hq0=>?_));obtain ⟨y,H2,I2,r2,q2⟩:=hq0;refine yE (wpAny_standAt (yE (yP (aB (hs Mv s2 σ H2 x y v ov iv u _ I2 r1 r2 r q2) fun _ s3 hq0=>?_))));obtain ⟨H3,I3,q3⟩:=hq0;exact wpAny_release ⟨σ,H3,I3,q3⟩
noncomputable def tq (te:TE) (g:TG):TS:=fun D σ H=>te σ H fun x H1=>g x σ H1 D.nx
theorem Dn {tg e:Expr}{te:TE}{g:TG} (he:PE X e te) (hg:PG X tg g) (hs:swapsWithSole [tg] e pos.line X.env=pure false:=by rfl) (hw:swappedStores [tg] e X.env=pure none:=by rfl)
  (h1:(assignEach [tg] X.env).map (·.2)=[assign tg X.env]:=by rfl):PS X (.Assign [tg] e pos) (tq te g):=by
 intro Mv s σ H D I h;refine wpAny_Assign_stores (aB (he Mv s σ H _ I h) fun v s1 hq0=>?_) hs hw;obtain ⟨x,H1,I1,r1,q1⟩:=hq0;rw [h1];exact aB (hg Mv s1 σ H1 x v _ I1 r1 q1) fun _ s2 q=>q
theorem Dk {i:Nat}{x:Str}{e:Expr}{te:TE}{pos':Pos} (hN:X.N.Nodup) (hi:X.N[i]?=some x) (hx:Loc X.env.scope x) (he:PE X e te) (hs:swapsWith e (some (.Name x pos')) pos.line X.env=pure false:=by rfl) (hf:X.fn x=true\/X.env.scope.names.lookup x=some .local:=by first | exact .inl rfl | exact .inr rfl | assumption) :
  PS X (.Assign [.Name x pos'] e pos) (tq te (mT i)):=by
 intro Mv s σ H D I h;refine wpAny_Assign_Name (aB (he Mv s σ H _ I h) fun v s1 hq0=>?_) hs;obtain ⟨y,H1,I1,r1,q1⟩:=hq0;exact pD I1 hN hi hx r1 (fun s2 I2=>⟨_,H1,I2,q1⟩) hf
def FV (to ti te:TE) (tget:V->V->Hp->VK->Prop) (tip:Aw) (tset:qU):TS:=fun D σ H=>to σ H fun o H1=>ti σ H1 fun i H2=>tget o i H2 fun x H3=>te σ H3 fun y H4=>tip x y H4 fun z H5=>tset o i z H5 fun H6=>D.nx σ H6
def yw (X:Cx) (t:V->V->Hp->VK->Prop):Prop :=
 ∀ (Mv:List (Addr × Obj)) (s:Shared) (σ:St) (H:Hp) (o i:V) (ov iv:Value) (Q:VK),Inv X Mv σ H s->RelV o ov->RelV i iv->t o i H Q ->
  wpAny (model X.prog X.w) X.A (getItem ov iv) (EP X Mv σ Q) X.xe s
theorem Bo {o i e:Expr}{to ti te:TE}{tget:V->V->Hp->VK->Prop}{tip:Aw}{tset:qU}{op:Operator}{tpos:Pos} (ho:PE X o to) (hi:PE X i ti) (hg:yw X tget) (he:PE X e te) (hp:Az X op tip) (hs:uG X tset)
  (ha:∀ ov iv new,augStore i ov iv new=(do holding [new,ov,iv] (setItem ov iv new);release [new,ov,iv] [];pure .next):=by intros;rfl):PS X (.AugAssign (.Subscript o i tpos) op e pos) (FV to ti te tget tip tset):=by
 intro Mv s σ H D I h;refine wpAny_AugAssign_SubscriptAny (aB (ho Mv s σ H _ I h) fun ov s1 hq0=>?_) ha;obtain ⟨x1,H1,I1,r1,q1⟩:=hq0;refine aB (hi Mv s1 σ H1 _ I1 q1) fun iv s2 hq0=>?_
 obtain ⟨x2,H2,I2,r2,q2⟩:=hq0;refine aB (hg Mv s2 σ H2 x1 x2 ov iv _ I2 r1 r2 q2) fun old s3 hq0=>?_
 obtain ⟨x3,H3,I3,r3,q3⟩:=hq0;refine aB (he Mv s3 σ H3 _ I3 q3) fun v s4 hq0=>?_
 obtain ⟨x4,H4,I4,r4,q4⟩:=hq0;refine aB (hp Mv s4 σ H4 x3 x4 old v _ I4 r3 r4 q4) fun new s5 hq0=>?_
 obtain ⟨x5,H5,I5,r5,q5⟩:=hq0;exact aB (hs Mv s5 σ H5 x1 x2 x5 ov iv new _ I5 r1 r2 r5 q5) fun _ s6 ⟨H6,I6,q6⟩=>⟨σ,H6,I6,q6⟩
noncomputable def IE (f:Int->Int->Int):Aw:=fun x y H Q=>∃ i j,x=.int i/\y=.int j/\Q (.int (f i j)) H
theorem ES:Az X .Add (IE fun i j=>i + j):=by
 intro Mv s σ H x y v u Q I r1 r2 h;obtain ⟨i,j,e1,e2,q⟩:=h;subst e1;subst e2;obtain ⟨t,rfl⟩:=r1;obtain ⟨t',rfl⟩:=r2;exact iadd_int ⟨.int _,H,I.tok _,⟨_,rfl⟩,q⟩
theorem ER:Az X .Sub (IE fun i j=>i - j):=by
 intro Mv s σ H x y v u Q I r1 r2 h;obtain ⟨i,j,e1,e2,q⟩:=h;subst e1;subst e2;obtain ⟨t,rfl⟩:=r1;obtain ⟨t',rfl⟩:=r2;exact isub_int ⟨.int _,H,I.tok _,⟨_,rfl⟩,q⟩
end
section
variable {X:Cx}{pos:Pos}
def Cw (c:TT) (tb:TS):TS:=fun D σ H=>∃ W:Nat->St->Hp->Prop,(∃ m,W m σ H)/\∀ m σ H,W m σ H ->
 c σ H fun b H1=>if b=true then ∃ N:St->Hp->Prop,(∀ σ' H',N σ' H'->∃ m',m' < m/\W m' σ' H')/\tb { D with nx:=N,ct:=N,bk:=D.nx } σ H1 else D.nx σ H1
theorem wY {c:Expr}{body:List Stmt}{tc:TT}{tb:TS} (hp:PassesOwn (model X.prog X.w) X.A X.env X.xe) (hc:PT X c tc) (hb:PSs X body tb):PS X (.While c body [] pos) (Cw tc tb):=by
 intro Mv s σ H D I h;obtain ⟨W,⟨m0,w0⟩,turn⟩:=h;refine wpAny_While (codeAny_whileLoop (fun n s'=>∃ σ' H',Inv X Mv σ' H' s'/\W n σ' H') ?_ m0 ⟨σ,H,I,w0⟩);rintro n s1 ⟨σ1,H1,I1,w1⟩;refine wpAny_passesOwn hp (aB (hc Mv s1 σ1 H1 _ I1 (turn n σ1 H1 w1)) fun b s2 hq0=>?_);obtain ⟨H2,I2,q2⟩:=hq0;cases b with
 | true =>
  obtain ⟨N,hN,q2⟩:=q2;rw [yH rfl];refine wpAny_passesOwn hp (aB (hb Mv s2 σ1 H2 _ I2 q2) fun f s3 q3=>?_);cases f with
  | next =>
   obtain ⟨σ3,H3,I3,n3⟩:=q3;obtain ⟨m',hm,w3⟩:=hN σ3 H3 n3;exact ⟨m',hm,σ3,H3,I3,w3⟩
  | cont =>
   obtain ⟨σ3,H3,I3,n3⟩:=q3;obtain ⟨m',hm,w3⟩:=hN σ3 H3 n3;exact ⟨m',hm,σ3,H3,I3,w3⟩
  | brk=>exact q3
  | ret v=>exact q3
 | false =>
  rw [yG Bool.false_ne_true];exact wpAny_execs_nil ⟨σ1,H2,I2,q2⟩
end
structure It where
 go:Nat->Hp->Prop
 yld:Nat->Hp->V->Hp->Prop
 stop:Nat->Hp->Prop
def dq (X:Cx) (Mv:List (Addr × Obj)) (H:Hp) (b:Addr):Prop :=
 H b=none/\b ≠ X.env.locals/\b ∉ X.fs/\(b ∈ X.ex\/X.s₀.heap.objs.size <= b)/\(∀ x c,X.env.cells.lookup x=some c->c ≠ b)/\∀ p ∈ X.pn++Mv,p.1 ≠ b
theorem Inv.fpOk {X:Cx}{Mv:List (Addr × Obj)}{σ:St}{H H':Hp}{s:Shared}{b:Addr} (I:Inv X Mv σ H s) (hb:s.heap.objs.size <= b) (hn:H' b=none):dq X Mv H' b:=by
 refine ⟨hn,Nat.ne_of_gt (zJ I.lt hb),I.nofs hb,.inr (z0 I.sz hb),fun x c e z=>?_,fun p hp z=>?_⟩
 ·obtain ⟨v,q⟩:=I.cell x c e
  exact absurd (zJ q.lt (by rw [z];exact hb)) (yW _)
 ·exact absurd (zJ (yI (I.pin p hp).1) (by rw [z];exact hb)) (yW _)
structure iR (P:Program) (w:World) (K:Frag) (tg:Expr) (J:It) (fp:List Addr) (it:Addr) (tn:Nat->Heap->Prop):Prop where
 mem:it ∈ fp
 obj:∀ i h,tn i h->∀ b ∈ fp,∃ o,h.get? b=some o/\∀ v,o.data ≠ .cell v
 keep:∀ i h h',tn i h->(∀ b ∈ fp,∀ o,h.get? b=some o->h'.get? b=some o)->tn i h'
 item:∀ (X:Cx),X.prog=P->X.w=w->X.K=K->X.calm=true->∀ (i:Nat) (Mv:List (Addr × Obj)) (s:Shared) (σ:St) (H:Hp) (E:Value->Shared->Prop),Inv X Mv σ H s->(∀ b ∈ fp,dq X Mv H b)->tn i s.heap->J.go i H ->
  wpAny (model P w) X.A (pyNext (.ref it)) (fun r s1=>∃ u,r=some u /\
   wpAny (model P w) X.A (letOwnedTupleGo tg (.ref it) u) (fun _ s2=>∃ x H',Inv X Mv σ H' s2/\RelV x u/\J.yld i H x H'/\tn (i + 1) s2.heap/\∀ b ∈ fp,H' b=none) E s1) E s
 done:∀ (X:Cx),X.prog=P->X.w=w->X.K=K->X.calm=true->∀ (i:Nat) (Mv:List (Addr × Obj)) (s:Shared) (σ:St) (H:Hp) (E:Value->Shared->Prop),Inv X Mv σ H s->(∀ b ∈ fp,dq X Mv H b)->tn i s.heap->J.stop i H ->
  wpAny (model P w) X.A (pyNext (.ref it)) (fun r s1=>r=none/\Inv X Mv σ H s1) E s
 self:∀ (A:Around) (i:Nat) (s:Shared) (Q:Value->Shared->Prop) (E:Value->Shared->Prop),tn i s.heap->Q (.ref it) s->wpAny (model P w) A (pyIter (.ref it)) Q E s
abbrev TI:=St->Hp->(It->Hp->Prop)->Prop
def Fy (X:Cx) (Mv:List (Addr × Obj)) (σ:St) (tg:Expr) (R:It->Hp->Prop) (itv:Value) (s2:Shared):Prop :=
 ∃ (it:Addr) (fp:List Addr) (tn:Nat->Heap->Prop) (J:It) (H':Hp),itv=.ref it/\Inv X Mv σ H' s2/\iR X.prog X.w X.K tg J fp it tn/\tn 0 s2.heap/\(∀ b ∈ fp,dq X Mv H' b)/\R J H'
def PI (X:Cx) (tg iter:Expr) (wi:TI):Prop :=
 ∀ (Mv:List (Addr × Obj)) (s:Shared) (σ:St) (H:Hp) (R:It->Hp->Prop),Inv X Mv σ H s->wi σ H R ->
  wpAny (model X.prog X.w) X.A (eval iter X.env) (fun v s1=>wpAny (model X.prog X.w) X.A (pyIter v) (Fy X Mv σ tg R) X.xe s1) X.xe s
theorem kQ {M:Model}{A:Around}{E:Value->Shared->Prop}{s:Shared}{tg:Expr}{it:Addr}{u:Value}{o:Obj}{n:String}{vs:Array Value}{Q:Unit->Shared->Prop} (ho:s.heap.get? it=some o) (hc:o.cls=.type n) (hd:o.data=.fields vs)
  (hn:["enumerate","zip","dict_itemiterator","dict_reverseitemiterator","odict_iterator","itertools.zip_longest","itertools.pairwise"].contains n=false) (hQ:Q () s):wpAny M A (letOwnedTupleGo tg (.ref it) u) Q E s:=by
 unfold letOwnedTupleGo;cases tg <;> first
  | exact yF hQ
  | (cases u <;> first
    | exact yF hQ
    | (refine yE (wpAny_load ho ?_)
       rw [hc,hd];show wpAny M A (if (["enumerate","zip","dict_itemiterator","dict_reverseitemiterator","odict_iterator","itertools.zip_longest","itertools.pairwise"].contains n && vs[0]? == some (rawInt _))=true then _ else _) Q E s;rw [yG (by intro h;rw [hn,Bool.false_and] at h;cases h)];exact yF hQ))
noncomputable def AD (K:Frag) (a:Addr):It :=
 ⟨fun i H=>∃ xs x,bz K H a xs/\xs[i]?=some x,fun i H x H'=>H'=H/\∀ xs,bz K H a xs->xs[i]?=some x,fun i H=>∃ xs,bz K H a xs/\xs.length <= i⟩
noncomputable def AB (K:Frag) (a:Addr):It :=
 ⟨fun i H=>∃ xs x,gr K H a xs/\xs[i]?=some x,fun i H x H'=>H'=H/\∀ xs,gr K H a xs->xs[i]?=some x,fun i H=>∃ xs,gr K H a xs/\xs.length <= i⟩
noncomputable def wv (lo:Int) (n:Nat):It:=⟨fun i _=>i < n,fun i H x H'=>H'=H/\x=.int (lo + i),fun i _=>n <= i⟩
theorem uP {P:Program}{w:World}{K:Frag}{tg:Expr} (a it:Addr):iR P w K tg (AD K a) [it] it (fun i h=>h.IsListIter it a i) where
 mem:=by simp
 obj:=fun i h st b hb=>by
  have e:b=it:=by simpa using hb
  subst e;obtain ⟨o,e,c,d⟩:=st;exact ⟨o,e,fun v z=>by rw [d] at z;cases z⟩
 keep:=fun i h h' st k=>st.at fun o e=>k it (by simp) o e
 item:=by
  intro X hP hw hK hc i Mv s σ H E I hf st hg;subst hP hw hK;obtain ⟨xs,x,hq,hx⟩:=hg;obtain ⟨Mz,rv,p,hz⟩:=I.list hq;obtain ⟨u,hu,ru⟩:=rv.get hx;obtain ⟨f0,f1,f2,f3,f4,f5⟩:=hf it (by simp);refine wpAny_pyNext_list_item st p.isList (x:=u) (by simpa using hu) fun h' st' sb=>?_
  have I1:Inv X Mv σ H { s with heap:=h' }:=I.turned (t':=s.toks) (fun b o hb e=>(sb.2 b hb).trans e) f0 f1 f3 f4 f5;obtain ⟨o,e,c,d⟩:=id st';exact ⟨u,rfl,kQ (s:={ s with heap:=h' }) e c d dC ⟨x,H,I1,ru,⟨rfl,fun ys hy=>by rw [I.list_inj hy hq];exact hx⟩,st',fun b hb=>(hf b hb).1⟩⟩
 done:=by
  intro X hP hw hK hc i Mv s σ H E I hf st hg;subst hP hw hK;obtain ⟨xs,hq,hx⟩:=hg;obtain ⟨Mz,rv,p,hz⟩:=I.list hq;obtain ⟨f0,f1,f2,f3,f4,f5⟩:=hf it (by simp);have hl:=rv.length;exact wpAny_pyNext_list_end (I.ok.hd hc) st p.isList (by simp;omega) fun h' eb=>⟨rfl,I.turned (t':=s.toks) (fun b o hb e=>eb b o hb e) f0 f1 f3 f4 f5⟩
 self:=fun _ _ _ _ _ st h=>wpAny_pyIter_listiter st h
theorem sY {P:Program}{w:World}{K:Frag}{tg:Expr} (a it:Addr):iR P w K tg (AB K a) [it] it (fun i h=>h.IsTupleIter it a i) where
 mem:=by simp
 obj:=fun i h st b hb=>by
  have e:b=it:=by simpa using hb
  subst e;obtain ⟨o,e,c,d⟩:=st;exact ⟨o,e,fun v z=>by rw [d] at z;cases z⟩
 keep:=fun i h h' st k=>st.at fun o e=>k it (by simp) o e
 item:=by
  intro X hP hw hK hc i Mv s σ H E I hf st hg;subst hP hw hK;obtain ⟨xs,x,hq,hx⟩:=hg;obtain ⟨Mz,rv,p,hz⟩:=I.tuple hq;obtain ⟨u,hu,ru⟩:=rv.get hx;obtain ⟨f0,f1,f2,f3,f4,f5⟩:=hf it (by simp);refine wpAny_pyNext_tuple_item st (show s.heap.IsTuple a Mz.toArray from p) (x:=u) (by simpa using hu) fun h' st' sb=>?_
  have I1:Inv X Mv σ H { s with heap:=h' }:=I.turned (t':=s.toks) (fun b o hb e=>(sb.2 b hb).trans e) f0 f1 f3 f4 f5;obtain ⟨o,e,c,d⟩:=id st';exact ⟨u,rfl,kQ (s:={ s with heap:=h' }) e c d dC ⟨x,H,I1,ru,⟨rfl,fun ys hy=>by rw [I.tuple_inj hy hq];exact hx⟩,st',fun b hb=>(hf b hb).1⟩⟩
 done:=by
  intro X hP hw hK hc i Mv s σ H E I hf st hg;subst hP hw hK;obtain ⟨xs,hq,hx⟩:=hg;obtain ⟨Mz,rv,p,hz⟩:=I.tuple hq;obtain ⟨f0,f1,f2,f3,f4,f5⟩:=hf it (by simp);have hl:=rv.length;exact wpAny_pyNext_tuple_end (I.ok.hd hc) st (show s.heap.IsTuple a Mz.toArray from p) (by simp;omega) fun h' eb=>⟨rfl,I.turned (t':=s.toks) (fun b o hb e=>eb b o hb e) f0 f1 f3 f4 f5⟩
 self:=fun _ _ _ _ _ st h=>wpAny_pyIter_tupleiter st h
theorem sZ {P:Program}{w:World}{K:Frag}{tg:Expr} (it:Addr) (lo:Int) (n:Nat):iR P w K tg (wv lo n) [it] it (fun i h=>IsRangeIter h it (lo + (i:Nat) * 1) ((n:Int) - (i:Nat)) 1) where
 mem:=by simp
 obj:=fun i h st b hb=>by
  have e:b=it:=by simpa using hb
  subst e;exact ⟨_,st,fun v z=>by
   have z':Data.fields _=Data.cell v:=z;cases z'⟩
 keep:=fun i h h' st k=>k it (by simp) _ st
 item:=by
  intro X hP hw hK hc i Mv s σ H E I hf st hg;subst hP hw hK;obtain ⟨f0,f1,f2,f3,f4,f5⟩:=hf it (by simp);have W:=Walks.range (prog:=X.prog) (w:=X.w) (I.ok.hd hc) it lo 1 n;refine W.item i s _ _ hg st fun v h' tk hv st' kk=>?_
  obtain ⟨t,rfl⟩:=hv;have I1:Inv X Mv σ H { s with heap:=h',toks:=tk }:=I.turned (fun b o hb e=>kk b o (by simpa using hb) e) f0 f1 f3 f4 f5;refine ⟨_,rfl,kQ (s:={ s with heap:=h',toks:=tk }) (n:="range_iterator") st' rfl rfl dC ⟨.int (lo + i),H,I1,⟨t,?_⟩,⟨rfl,rfl⟩,st',fun b hb=>(hf b hb).1⟩⟩;rw [Int.mul_one]
 done:=by
  intro X hP hw hK hc i Mv s σ H E I hf st hg;subst hP hw hK;obtain ⟨f0,f1,f2,f3,f4,f5⟩:=hf it (by simp);exact wpAny_pyNext_range_end (I.ok.hd hc) st (by have:n <= i:=hg;omega) fun h' eb=>⟨rfl,I.turned (t':=s.toks) (fun b o hb e=>eb b o hb e) f0 f1 f3 f4 f5⟩
 self:=fun _ _ _ _ _ st h=>wpAny_pyIter_rangeiter st h
section
variable {X:Cx}{tg:Expr}
theorem pK {Mv:List (Addr × Obj)}{σ:St}{H:Hp}{s:Shared}{R:It->Hp->Prop}{E:Value->Shared->Prop}{lo hi:Int}{t u v:Tok}{tk:Nat} (I:Inv X Mv σ H s) (h1:-(2 ^ 62) <= lo) (h2:lo < 2 ^ 62) (h3:-(2 ^ 62) <= hi) (h4:hi < 2 ^ 62)
  (q:R (wv lo (hi - lo).toNat) H):wpAny (model X.prog X.w) X.A (pyIter (.ref s.heap.objs.size)) (Fy X Mv σ tg R) E { s with heap:=s.heap.push { cls:=.type "range",data:=.fields #[.int lo t,.int hi u,.int 1 v] },toks:=tk }:=by
 refine wpAny_pyIter_range (IsRange.new ..) (small_one h1 h2 h3 h4) ?_;have I1:Inv X Mv σ H { s with heap:=s.heap.push { cls:=.type "range",data:=.fields #[.int lo t,.int hi u,.int 1 v] },toks:=tk }:=I.kept fun b o e=>zG _ e
 refine ⟨(s.heap.push { cls:=.type "range",data:=.fields #[.int lo t,.int hi u,.int 1 v] }).objs.size,[(s.heap.push { cls:=.type "range",data:=.fields #[.int lo t,.int hi u,.int 1 v] }).objs.size],_,_,H,rfl,
  I1.kept (t':=tk) fun b o e=>zG _ e,sZ _ lo (hi - lo).toNat,?_,fun b hb=>?_,q⟩
 ·have e1:lo + ((0:Nat):Int) * 1=lo:=by simp
  have e2:(((hi - lo).toNat:Nat):Int) - ((0:Nat):Int)=Builtin.Range.rangeSize lo hi 1:=by rw [rangeSize_one];split <;> omega
  show IsRangeIter _ _ (lo + ((0:Nat):Int) * 1) ((((hi - lo).toNat:Nat):Int) - ((0:Nat):Int)) 1;rw [e1,e2];exact zY _ rfl
 ·have e:b=(s.heap.push { cls:=.type "range",data:=.fields #[.int lo t,.int hi u,.int 1 v] }).objs.size:=by simpa using hb
  subst e;exact I1.fpOk (zP _) (I1.MB.fresh (zP _))
def GZ (ta:TA):TI:=fun σ H R=>ta σ H fun vs H1=>∃ j:Int,vs=[.int j]/\-(2 ^ 62) <= j/\j < 2 ^ 62/\R (wv 0 j.toNat) H1
def GY (ta:TA):TI:=fun σ H R=>ta σ H fun vs H1=>∃ i j:Int,vs=[.int i,.int j]/\(-(2 ^ 62) <= i/\i < 2 ^ 62/\-(2 ^ 62) <= j/\j < 2 ^ 62)/\R (wv i (j - i).toNat) H1
theorem vm {a:Expr}{ta:TA}{p pos:Pos} (hg:Gl X "range") (hm:X.mg "range"=none) (ha:PA X [a] ta) (hs:starEach [a] X.env=[(false,eval a X.env)]:=by rfl):PI X tg (.Call (.Name "range" p) [a] [] pos) (GZ ta):=by
 intro Mv s σ H R I h;refine Call_ (cH I hg hm boot_range (PyProof.Rows.callWith_type1 (aB (ha pos Mv s σ H _ I h) fun us s1 hq0=>?_) hs rfl));obtain ⟨vs,H1,I1,r1,q1⟩:=hq0;obtain ⟨j,e,q1,q2,q⟩:=q1;subst e;cases r1 with
 | cons r rr =>
  cases rr;obtain ⟨t,rfl⟩:=r;exact call_range_1 (pK I1 oM oM q1 q2 (by simpa using q))
theorem vk {a b:Expr}{ta:TA}{p pos:Pos} (hg:Gl X "range") (hm:X.mg "range"=none) (ha:PA X [a,b] ta) (hs:starEach [a,b] X.env=[(false,eval a X.env),(false,eval b X.env)]:=by rfl) (hs2:starEach [b] X.env=[(false,eval b X.env)]:=by rfl) :
  PI X tg (.Call (.Name "range" p) [a,b] [] pos) (GY ta):=by
 intro Mv s σ H R I h;refine Call_ (cH I hg hm boot_range (PyProof.Rows.callWith_type1 (aB (ha pos Mv s σ H _ I h) fun us s1 ⟨vs,H1,I1,r1,q1⟩=>?_) (by rw [hs,hs2]) (by rw [hs2];rfl)));obtain ⟨i,j,e,⟨q1,q2,q3,q4⟩,q⟩:=q1;subst e;cases r1 with
 | cons r rr =>
  cases rr with
  | cons r' rr =>
   cases rr;obtain ⟨t,rfl⟩:=r;obtain ⟨t',rfl⟩:=r';exact call_range_2 (pK I1 q1 q2 q3 q4 q)
def Jm (wi:TI) (g:TG) (tb:TS):TS:=fun D σ H=>wi σ H fun J H1=>∃ W:Nat->Nat->St->Hp->Prop,(∃ m,W 0 m σ H1)/\∀ i m σ H,W i m σ H ->
 (J.stop i H/\D.nx σ H)\/(J.go i H/\∃ N:St->Hp->Prop,(∀ σ' H',N σ' H'->∃ m',m' < m/\W (i + 1) m' σ' H')/\∀ x H',J.yld i H x H'->g x σ H' fun σ2 H2=>tb { D with nx:=N,ct:=N,bk:=D.nx } σ2 H2)
noncomputable def fq (fp:List Addr) (h:Heap):List (Addr × Obj):=fp.filterMap fun b=>(h.get? b).map fun o=>(b,o)
theorem cV {fp:List Addr}{h:Heap}{b:Addr}{o:Obj} (hb:b ∈ fp) (e:h.get? b=some o):(b,o) ∈ fq fp h:=List.mem_filterMap.mpr ⟨b,hb,by rw [e];rfl⟩
theorem vA {fp:List Addr}{h:Heap}{p:Addr × Obj} (hp:p ∈ fq fp h):p.1 ∈ fp/\h.get? p.1=some p.2:=by
 obtain ⟨b,hb,e⟩:=List.mem_filterMap.mp hp;cases q:h.get? b with
 | none=>rw [q] at e;cases e
 | some o =>
  rw [q] at e;have e':(b,o)=p:=yD e;subst e';exact ⟨hb,q⟩
theorem Inv.pinned {Mv:List (Addr × Obj)}{σ:St}{H:Hp}{s:Shared}{fp:List Addr} (I:Inv X Mv σ H s) (hf:∀ b ∈ fp,dq X Mv H b) (ho:∀ b ∈ fp,∃ o,s.heap.get? b=some o/\∀ v,o.data ≠ .cell v):Inv X (Mv++fq fp s.heap) σ H s :=
 I.pins_of fun p hp=>(zZ.mp hp).elim (fun z=>I.pin p (zK _ z)) fun z=>by
  obtain ⟨hb,e⟩:=vA z;obtain ⟨f0,f1,f2,_⟩:=hf p.1 hb;obtain ⟨o,e',d⟩:=ho p.1 hb;rw [e] at e';cases e';exact ⟨e,f0,f1,f2,d⟩
theorem Inv.unpinned {Mv pl:List (Addr × Obj)}{σ:St}{H:Hp}{s:Shared} (I:Inv X (Mv++pl) σ H s):Inv X Mv σ H s:=I.pins_of fun p hp=>I.pin p (zK _ (zL _ hp))
theorem vh {iter:Expr}{body:List Stmt}{wi:TI}{g:TG}{tb:TS}{pos:Pos} (hp:PassesOwn (model X.prog X.w) X.A X.env X.xe) (hc:X.calm=true) (hi:PI X tg iter wi) (hg:PG X tg g) (hb:PSs X body tb)
  (hs:∀ x,foldedSetIterable iter X.env x=pure x:=by intro _;rfl):PS X (.For tg iter body [] pos) (Jm wi g tb):=by
 intro Mv s σ H D I h;refine wpAny_For (aB (hi Mv s σ H _ I h) fun v s1 h1=>aB h1 fun itv s2 h2=>?_) hs;obtain ⟨it,fp,tn,J,H2,e,I2,T,st2,f2,W,⟨m0,w0⟩,turn⟩:=h2;subst e
 -- what stays true of the iterator's objects through the loop
 have stat:∀ {H':Hp},(∀ b ∈ fp,H' b=none)->∀ b ∈ fp,dq X Mv H' b:=fun hn b hb=>⟨hn b hb,(f2 b hb).2⟩
 refine codeAny_forLoop_any (fun n s'=>∃ i σ' H',Inv X Mv σ' H' s'/\tn i s'.heap/\(∀ b ∈ fp,H' b=none)/\W i n σ' H') ?_ m0 ⟨0,σ,H2,I2,st2,fun b hb=>(f2 b hb).1,w0⟩;rintro n s3 ⟨i,σ3,H3,I3,st3,fr3,w3⟩;rcases turn i n σ3 H3 w3 with ⟨stop,qn⟩ | ⟨go,N,hN,step⟩
 ·refine wpAny_passesOwn hp (aB (T.done X rfl rfl rfl hc i Mv s3 σ3 H3 X.xe I3 (stat fr3) st3 stop) fun r s4 hq0=>?_)
  obtain ⟨hr,I4⟩:=hq0;subst hr;exact wpAny_execs_nil ⟨σ3,H3,I4,qn⟩
 ·refine wpAny_passesOwn hp (aB (T.item X rfl rfl rfl hc i Mv s3 σ3 H3 X.xe I3 (stat fr3) st3 go) fun r s4 hq0=>?_)
  obtain ⟨u,hr,h4⟩:=hq0;subst hr;refine wpAny_passesOwn hp (aB h4 fun _ s5 hq0=>?_);obtain ⟨x,H5,I5,r5,y5,st5,fr5⟩:=hq0;have I5':=I5.pinned (stat fr5) (T.obj _ _ st5);refine wpAny_passesOwn hp (aB (hg _ s5 σ3 H5 x u _ I5' r5 (step x H5 y5)) fun _ s6 hq0=>?_);obtain ⟨σ6,H6,I6,q6⟩:=hq0;refine wpAny_passesOwn hp (aB (hb _ s6 σ6 H6 _ I6 q6) fun f s7 q7=>?_);have again:∀ {σ7:St}{H7:Hp},Inv X (Mv++fq fp s5.heap) σ7 H7 s7->N σ7 H7->∃ m,m < n/\∃ i σ' H',Inv X Mv σ' H' s7/\tn i s7.heap/\(∀ b ∈ fp,H' b=none)/\W i m σ' H':=fun {σ7 H7} I7 n7=>by
   obtain ⟨m',hm,w7⟩:=hN σ7 H7 n7;refine ⟨m',hm,i + 1,σ7,H7,I7.unpinned,T.keep _ _ _ st5 fun b hb o e=>(I7.pin (b,o) (zK _ (zK _ (cV hb e)))).1,fun b hb=>?_,w7⟩;obtain ⟨o,e,d⟩:=T.obj _ _ st5 b hb;exact (I7.pin (b,o) (zK _ (zK _ (cV hb e)))).2.1
  cases f with
  | next=>obtain ⟨σ7,H7,I7,n7⟩:=q7;exact again I7 n7
  | cont=>obtain ⟨σ7,H7,I7,n7⟩:=q7;exact again I7 n7
  | brk=>obtain ⟨σ7,H7,I7,q7⟩:=q7;exact ⟨σ7,H7,I7.unpinned,q7⟩
  | ret v=>obtain ⟨x7,σ7,H7,I7,r7,q7⟩:=q7;exact ⟨x7,σ7,H7,I7.unpinned,r7,q7⟩
end
abbrev R2:=V->V->Hp->VK->Prop
def kC (X:Cx) (f:Value->Value->Sem Value) (r:R2):Prop :=
 ∀ (Mv:List (Addr × Obj)) (s:Shared) (σ:St) (H:Hp) (x y:V) (v u:Value) (Q:VK),Inv X Mv σ H s->RelV x v->RelV y u->r x y H Q ->
  wpAny (model X.prog X.w) X.A (f v u) (EP X Mv σ Q) X.xe s
def wo (X:Cx) (f:Value->Sem Value) (r:V->Hp->VK->Prop):Prop :=
 ∀ (Mv:List (Addr × Obj)) (s:Shared) (σ:St) (H:Hp) (x:V) (v:Value) (Q:VK),Inv X Mv σ H s->RelV x v->r x H Q ->
  wpAny (model X.prog X.w) X.A (f v) (EP X Mv σ Q) X.xe s
def bZ (X:Cx) (f:Value) (r:List V->Hp->VK->Prop):Prop :=
 ∀ (Mv:List (Addr × Obj)) (s:Shared) (σ:St) (H:Hp) (xs:List V) (us:List Value) (Q:VK),Inv X Mv σ H s->Vals xs us->r xs H Q ->
  wpAny (model X.prog X.w) X.A (call f us) (EP X Mv σ Q) X.xe s
def Kn (X:Cx) (r:V->Hp->(Bool->Hp->Prop)->Prop):Prop :=
 ∀ (Mv:List (Addr × Obj)) (s:Shared) (σ:St) (H:Hp) (x:V) (v:Value) (Q:Bool->Hp->Prop),Inv X Mv σ H s->RelV x v->r x H Q ->
  wpAny (model X.prog X.w) X.A (truthy v) (TP X Mv σ Q) X.xe s
noncomputable def uU (r:R2) (ta tb:TE):TE:=fun σ H Q=>ta σ H fun x H1=>tb σ H1 fun y H2=>r x y H2 Q
def HW (r:V->Hp->VK->Prop) (ta:TE):TE:=fun σ H Q=>ta σ H fun x H1=>r x H1 Q
def rU (g:Int->V):V->Hp->VK->Prop:=fun x H Q=>∃ i,x=.int i/\Q (g i) H
section
variable {X:Cx}{a b c:Expr}{ta tb tc:TE}{pos:Pos}
theorem yo (ha:PE X a ta) (hb:PE X b tb) {Mv:List (Addr × Obj)}{s:Shared}{σ:St}{H:Hp}{R:V->V->Hp->Prop} (I:Inv X Mv σ H s)
  (h:ta σ H fun x H1=>tb σ H1 fun y H2=>R x y H2) {Q:Value->Shared->Prop}{f:Value->Value->Sem Value}
  (hf:∀ v u s2 x y H2,Inv X Mv σ H2 s2->RelV x v->RelV y u->R x y H2->wpAny (model X.prog X.w) X.A (f v u) Q X.xe s2) :
  wpAny (model X.prog X.w) X.A (eval a X.env) (fun v s₁=>wpAny (model X.prog X.w) X.A (eval b X.env) (fun u s₂=>wpAny (model X.prog X.w) X.A (f v u) Q X.xe s₂) X.xe s₁) X.xe s:=by
 refine aB (ha Mv s σ H _ I h) fun v s1 hq0=>?_
 obtain ⟨x,H1,I1,r1,q1⟩:=hq0;refine aB (hb Mv s1 σ H1 _ I1 q1) fun u s2 hq0=>?_
 obtain ⟨y,H2,I2,r2,q2⟩:=hq0;exact hf v u s2 x y H2 I2 r1 r2 q2
theorem tM {op:Operator}{r:R2} (ho:kC X (binaryOp op) r) (ha:PE X a ta) (hb:PE X b tb):PE X (.BinOp a op b pos) (uU r ta tb):=by
 intro Mv s σ H Q I h;exact wpAny_BinOp (yo ha hb I h fun v u s2 x y H2 I2 rx ry q=>ho Mv s2 σ H2 x y v u Q I2 rx ry q)
theorem Gr {op:UnaryOp}{r:V->Hp->VK->Prop} (ho:wo X (unaryOp op) r) (ha:PE X a ta):PE X (.UnaryOp op a pos) (HW r ta):=by
 intro Mv s σ H Q I h;exact UnaryOp_ (aB (ha Mv s σ H _ I h) fun v s1 ⟨x,H1,I1,r1,q1⟩=>ho Mv s1 σ H1 x v Q I1 r1 q1)
def Kp (i j:Int):Prop:=0 <= j/\j <= 1000000/\i.natAbs < 2 ^ 64
theorem sX (k:Nat):(0:Int) <= 2 ^ k:=by
 rw [two_pow_cast];exact Int.natCast_nonneg _
theorem HU {f:Value->Sem Value}{g:Int->Int}
  (rule:∀ (i:Int) (t:Tok) (s:Shared) (Q:Value->Shared->Prop) (E:Value->Shared->Prop),Q (.int (g i) s.toks) { s with toks:=s.toks + 1 }->wpAny (model X.prog X.w) X.A (f (.int i t)) Q E s) :
  wo X f (rU fun i=>.int (g i)):=by
 intro Mv s σ H x v Q I rx h;obtain ⟨i,rfl,q⟩:=h;obtain ⟨t,rfl⟩:=rx;exact rule i t s _ _ ⟨.int (g i),H,I.tok _,⟨_,rfl⟩,q⟩
theorem Co:wo X (unaryOp .USub) (rU fun i=>.int (-i)):=HU fun _ _ _ _ _ q=>neg_int q
theorem Cp:wo X (unaryOp .Invert) (rU fun i=>.int (Builtin.bitNot i)):=HU fun _ _ _ _ _ q=>invert_int q
end
section
variable {X:Cx}{a b c:Expr}{ta tb tc:TE}{pos:Pos}
theorem BB {op:CmpOp}{r:R2} (ho:kC X (compareOp op) r) (ha:PE X a ta) (hb:PE X b tb) (hm:behindInMarks op b=false):PE X (.Compare a [op] [b] pos) (uU r ta tb):=by
 intro Mv s σ H Q I h;exact wpAny_Compare1 (yo ha hb I h fun v u s2 x y H2 I2 rx ry q=>ho Mv s2 σ H2 x y v u Q I2 rx ry q) hm
noncomputable def FQ (t:TE):TT:=fun σ H Q=>t σ H fun x H'=>∃ k,x=.bl k/\Q k H'
theorem Bk {op:CmpOp}{r:R2} (ho:kC X (compareOp op) r) (ha:PE X a ta) (hb:PE X b tb) (hm:behindInMarks op b=false):PT X (.Compare a [op] [b] pos) (FQ (uU r ta tb)):=by
 intro Mv s σ H Q I h;refine wpAny_isTrue_Compare1 (aB (ha Mv s σ H _ I h) fun v s1 ⟨x,H1,I1,r1,q1⟩=>aB (hb Mv s1 σ H1 _ I1 q1) fun u s2 ⟨y,H2,I2,r2,q2⟩ =>
  aB (ho Mv s2 σ H2 x y v u _ I2 r1 r2 q2) fun c s3 ⟨z,H3,I3,r3,k,e,q3⟩=>?_) hm
 subst e;cases r3;exact wpAny_truthy_bool ⟨H3,I3,q3⟩
def yu (K:Frag) (x:V) (H:Hp) (k:Bool):Prop :=
 match x with
 | .non=>k=false
 | .bl b=>k=b
 | .int i=>k=(i != 0)
 | .str y=>y.length <= sizeLine/\k=((y.length:Int) != 0)
 | .byt y=>y.size <= sizeLine/\k=((y.size:Int) != 0)
 | .ref p=>(∃ xs,bz K H p xs/\k=!xs.isEmpty)\/(∃ xs,gr K H p xs/\k=!xs.isEmpty)\/∃ Mx,H p=some (.dK Mx)/\k=!Mx.isEmpty
 | _=>False
theorem ui {κ:Type}{Mx:List (κ × V)}{vs:List (κ × Value)} (r:KV Mx vs):(!vs.isEmpty)=!Mx.isEmpty:=by
 cases r <;> rfl
theorem mQ {xs:List V}{Mz:List Value} (r:Vals xs Mz):(!Mz.toArray.isEmpty)=!xs.isEmpty:=by
 cases r <;> simp
theorem gg:(sizeLine:Nat) < 2 ^ 63:=by rw [sizeLine_eq];decide
theorem Cs:Kn X (fun x H Q=>∃ k,yu X.K x H k/\Q k H):=by
 intro Mv s σ H x v Q I rx h;obtain ⟨k,e,q⟩:=h;have hl:=gg;have hs:sizeLine=16777216:=sizeLine_eq;cases x with
 | non =>
  cases rx;have e':k=false:=e;subst e';exact truthy_none ⟨H,I,q⟩
 | bl b =>
  cases rx;have e':k=b:=e;subst e';exact wpAny_truthy_bool ⟨H,I,q⟩
 | int i =>
  obtain ⟨t,rfl⟩:=rx;have e':k=(i != 0):=e;subst e';exact PySem.P.truthy_int ⟨H,I,q⟩
 | str y =>
  obtain ⟨t,rfl⟩:=rx;obtain ⟨hy,e'⟩:y.length <= sizeLine/\k=((y.length:Int) != 0):=e;subst e';exact PySem.P.truthy_str oM ⟨H,I.tok _,q⟩
 | byt y =>
  obtain ⟨t,rfl⟩:=rx;obtain ⟨hy,e'⟩:y.size <= sizeLine/\k=((y.size:Int) != 0):=e;subst e';exact truthy_bytes oM ⟨H,I.tok _,q⟩
 | ref p =>
  cases rx;have e':(∃ xs,bz X.K H p xs/\k=!xs.isEmpty)\/(∃ xs,gr X.K H p xs/\k=!xs.isEmpty)\/∃ Mx,H p=some (.dK Mx)/\k=!Mx.isEmpty:=e;rcases e' with ⟨xs,hx,e'⟩ | ⟨xs,hx,e'⟩ | ⟨Mx,hx,e'⟩
  ·subst e'
   obtain ⟨Mz,r,pl,hz⟩:=I.list hx;have hlen:=r.length;exact wpAny_truthy_list pl.isList (by simp only [zI];omega) ⟨H,I.tok _,by rw [mQ r];exact q⟩
  ·subst e'
   obtain ⟨Mz,r,pl,hz⟩:=I.tuple hx;have hlen:=r.length;exact truthy_tuple pl (by simp only [zI];omega) ⟨H,I.tok _,by rw [mQ r];exact q⟩
  ·subst e'
   obtain ⟨hz,hS,vs,r,m⟩:Mx.length <= sizeLine/\(p == sysModules)=false/\∃ vs,KV Mx vs/\s.heap.DictOf (bL X.prog X.w) p vs:=I.MB p _ hx;have hlen:Mx.length=vs.length:=Paired.length r;exact wpAny_truthy_dict hS m oM ⟨H,I.tok _,by rw [ui r];exact q⟩
 | _=>exact (show False from e).elim
theorem wW (ha:PE X a ta) (he:∀ whole,isTrue a X.env whole=(do let v <- whole;standAt a.pos;holding [v] (truthy v))) :
  PT X a (fun σ H Q=>ta σ H fun x H'=>∃ k,yu X.K x H' k/\Q k H'):=by
 intro Mv s σ H Q I h;exact isTrue_plain (aB (ha Mv s σ H _ I h) fun v s1 ⟨x,H1,I1,r1,q1⟩=>Cs Mv s1 σ H1 x v Q I1 r1 q1) (he _)
theorem tN:kC X (binaryOp .Add) (fun x y H Q=>∃ i j,x=.str i/\y=.str j/\i.length + j.length <= sizeLine/\Q (.str (i++j)) H):=by
 intro Mv s σ H x y v u Q I rx ry h;obtain ⟨i,j,rfl,rfl,hz,q⟩:=h;obtain ⟨t,rfl⟩:=rx;obtain ⟨t',rfl⟩:=ry;exact add_str (fun t' tk=>⟨.str (i++j),H,I.tok _,⟨_,rfl⟩,q⟩) hz
theorem dB {x:V}{us:List Value} (r:Vals [x] us):∃ u,us=[u]/\RelV x u:=by
 cases r with
 | cons r1 r2=>cases r2;exact ⟨_,rfl,r1⟩
theorem yz {x y:V}{us:List Value} (r:Vals [x,y] us):∃ u w',us=[u,w']/\RelV x u/\RelV y w':=by
 cases r with
 | cons r1 r2 =>
  cases r2 with
  | cons r3 r4=>cases r4;exact ⟨_,_,rfl,r1,r3⟩
theorem yn:bZ X (.builtin "abs") (fun xs H Q=>∃ i,xs=[.int i]/\Q (.int (if i < 0 then -i else i)) H):=by
 intro Mv s σ H xs us Q I r h;obtain ⟨i,rfl,q⟩:=h;obtain ⟨u,rfl,t,rfl⟩:=dB r;exact call_abs_int fun u tk=>⟨.int (if i < 0 then -i else i),H,I.tok _,⟨_,rfl⟩,q⟩
theorem wa (hc:X.calm=true):bZ X (.builtin "max") (fun xs H Q=>∃ i j,xs=[.int i,.int j]/\Q (.int (if j > i then j else i)) H):=by
 intro Mv s σ H xs us Q I r h;obtain ⟨i,j,rfl,q⟩:=h;obtain ⟨u,w',rfl,⟨t,rfl⟩,⟨t',rfl⟩⟩:=yz r;refine max_two_ints (I.ok.hd hc) fun h' tk k=>⟨_,H,I.kept k,?_,q⟩
 by_cases hj:j > i
 ·rw [yH hj,yH hj];exact ⟨_,rfl⟩
 ·rw [yG hj,yG hj];exact ⟨_,rfl⟩
theorem v8 (hc:X.calm=true):bZ X (.builtin "min") (fun xs H Q=>∃ i j,xs=[.int i,.int j]/\Q (.int (if j < i then j else i)) H):=by
 intro Mv s σ H xs us Q I r h;obtain ⟨i,j,rfl,q⟩:=h;obtain ⟨u,w',rfl,⟨t,rfl⟩,⟨t',rfl⟩⟩:=yz r;refine min_two_ints (I.ok.hd hc) fun h' tk k=>⟨_,H,I.kept k,?_,q⟩
 by_cases hj:j < i
 ·rw [yH hj,yH hj];exact ⟨_,rfl⟩
 ·rw [yG hj,yG hj];exact ⟨_,rfl⟩
theorem wd:bZ X (.type "int") (fun xs H Q=>(∃ i,xs=[.int i]/\Q (.int i) H)\/∃ k,xs=[.bl k]/\Q (.int (if k then 1 else 0)) H):=by
 intro Mv s σ H xs us Q I r h;rcases h with ⟨i,rfl,q⟩ | ⟨k,rfl,q⟩
 ·obtain ⟨u,rfl,t,rfl⟩:=dB r
  exact call_int_int ⟨.int i,H,I,⟨_,rfl⟩,q⟩
 ·obtain ⟨u,rfl,r1⟩:=dB r
  cases r1;exact call_int_bool ⟨.int (if k then 1 else 0),H,I.tok _,⟨_,rfl⟩,q⟩
end
structure ObjM (h:Heap) (x dx C:Addr) (mA:Str->Option Value):Prop where
 obj:h.get? x=some (instObj C dx)
 ns:h.Ns1 dx mA
 ne:dx ≠ x
theorem vJ {h:Heap}{dx:Addr}{mA:Str->Option Value} (n:h.Ns1 dx mA):∃ od,h.get? dx=some od/\∀ name,lookIn name od=some (mA name):=by
 obtain ⟨o,es,ep,ho,hd,hk,_,hm⟩:=n;refine ⟨o,ho,fun name=>?_⟩;have e:=hm name;unfold nsFind findBy at e;rw [<- Array.find?_toList] at e;unfold lookIn;rw [hd];dsimp only;split
 ·rename_i y q
  rw [q] at e;exact congrArg some e
 ·rename_i q
  rw [q] at e;have a:es.toList.any (·.refKey)=false:=by
   rw [List.any_eq_false];intro y hy;obtain ⟨z,t,hkey⟩:=hk y (Array.mem_toList_iff.mp hy);simp [DictEntry.refKey,hkey]
  have a':¬ es.toList.any (·.refKey)=true:=by rw [a];exact Bool.false_ne_true
  rw [yG a'];exact congrArg some e
theorem ObjM.look {h:Heap}{x dx C:Addr}{mA:Str->Option Value} (I:ObjM h x dx C mA):∃ od,InstAt h x (instObj C dx) C (some od)/\∀ name,lookIn name od=some (mA name) :=
 let ⟨od,ho,hl⟩:=vJ I.ns
 ⟨od,⟨I.obj,rfl,rfl,ho⟩,hl⟩
section
variable {prog:Program}{w:World}{A:Around}{E:Value->Shared->Prop}{s:Shared}{K:Frag}{x dx C f:Addr}{mA:Str->Option Value}{name:Str}{v:Value}
theorem B5 {expr:Bool}{Q:Value->Shared->Prop} (X:K.In s.heap) (I:ObjM s.heap x dx C mA) (hg:plainGet K C name=true) (hh:hasDictIn K C=true)
  (ha:findIn K (.ref C) name=some none) (hv:mA name=some v) (hv':handedIn v=true) (h:Q v { s with toks:=s.toks + 1 }) :
  wpAny (model prog w) A (getAttr (.ref x) name expr) Q E s:=by
 obtain ⟨od,J,hl⟩:=I.look;exact get_value X J (plainGet_of hg).1 (findObj_own hh ha rfl (by rw [hl,hv])) hv' h
theorem yb {pl:Sem Bool}{Q:Value × List Value->Shared->Prop} (X:K.In s.heap) (I:ObjM s.heap x dx C mA) (hg:plainGet K C name=true)
  (hf:findIn K (.ref C) name=some (some (.ref f))) (ht:isFn K (.ref f)=true) (hv:mA name=none) (h:Q (.ref f,[.ref x]) s) :
  wpAny (model prog w) A (getMethod (.ref x) name pl) Q E s:=by
 obtain ⟨od,J,hl⟩:=I.look;exact method_fn X J (plainGet_of hg).1 (plainGet_of hg).2 hf (beq_iff_eq.mp ht) (by show (lookIn name od).map (·.isSome)=some false;rw [hl,hv];rfl) h
theorem AX {ns:List Str}{Q:Unit->Shared->Prop} (X:K.In s.heap) (I:ObjM s.heap x dx C mA)
  (hs:findIn K (.ref C) "__setattr__"=some (some (.builtin "object.__setattr__"))) (hp:plainOver K C=true) (ht:takerIn K C name=some none) (hh:hasDictIn K C=true)
  (hw:PySem.Within mA ns) (hsz:ns.length <= sizeLine)
  (h:∀ h',ObjM h' x dx C (fun y=>if y=name then some v else mA y)->Heap.SameBut dx s.heap h'->Q () { s with heap:=h',toks:=s.toks + 2 }) :
  wpAny (model prog w) A (setAttr (.ref x) name v) Q E s:=by
 obtain ⟨od,J,hl⟩:=I.look;refine set_plain X J hs (osa_open (s:={ s with toks:=s.toks + 1 }) (r:=none) X J hp ht fun b=>?_);obtain ⟨cd,hc,hd'⟩:=any_some hh;have hx:s.heap.get? x=some ⟨.ref C,some dx,.plain,#[]⟩:=I.obj;refine yE (yF (yE (yE (wpAny_loadPart hx (yE (PySem.W.Looks.here (s:={ s with toks:=s.toks + 1 }) (looks_clsIn X hc) ?_))))));rw [hd'];refine yF (a:=some dx) (yE (yF (yE ?_)));refine wpAny_nsSet1 (s:={ s with toks:=s.toks + 1 }) I.ns fun h' hn2 hs2=>?_
 obtain ⟨oD,esD,epD,hoD,hdD,hcD⟩:=hn2.count (PySem.Within.cons name v hw);refine yE (wpAny_lookBehind hoD (by rw [hdD];exact pastItsLine_dict (z0 hcD (by rw [yU];omega))) ?_);exact yF (h _ ⟨(hs2.2 _ (Ne.symm I.ne)).trans I.obj,hn2,I.ne⟩ hs2)
theorem xI {R:Result->Shared->Prop}{vs:List Value}{kw:List (Str × Value)} (X:K.In s.heap) (hm:makesIn K C=true)
  (hi:findIn K (.ref C) "__init__"=some (some (.ref f))) (hf:typeIn K (.ref f)=some (.type "function"))
  (h:codeAny (model prog w) (A.under (.builtin "type.__call__" ⟨.ref C::vs,kw⟩)) (.call (.ref f) ⟨.ref (s.heap.objs.size + 1)::vs,kw⟩) (InitBack (s.heap.objs.size + 1) R)
   { s with heap:=(s.heap.push emptyDict).push (instObj C s.heap.objs.size) }) :
  codeAny (model prog w) A (.call (.ref C) ⟨vs,kw⟩) R s:=by
 obtain ⟨hh,g,d,t,os⟩:=s;exact make_core (makes_of X hm) (looks_findIn X hi) (fun self=>bind_fn X self hf) (.inl rfl) h
end
noncomputable def dD (f:Str) (v:V):List (Str × V)->List (Str × V)
 | []=>[(f,v)]
 | (g,x)::r=>if g=f then (g,v)::r else (g,x)::dD f v r
theorem lb (f g:Str) (v:V):∀ fs:List (Str × V),(dD f v fs).lookup g=if g=f then some v else fs.lookup g
 | []=>by
  show List.lookup g [(f,v)]=_;by_cases h:g=f
  ·have hb:(g == f)=true:=beq_iff_eq.mpr h
   simp only [List.lookup,hb,yH h]
  ·have hb:(g == f)=false:=beq_eq_false_iff_ne.mpr h
   simp only [List.lookup,hb,yG h]
 | (k,x)::r=>by
  have ih:=lb f g v r;rw [show dD f v ((k,x)::r)=(if k=f then (k,v)::r else (k,x)::dD f v r) from rfl];by_cases hk:k=f
  ·rw [yH hk]
   by_cases h:g=k
   ·have hb:(g == k)=true:=beq_iff_eq.mpr h
    simp only [List.lookup,hb,yH (h.trans hk)]
   ·have hb:(g == k)=false:=beq_eq_false_iff_ne.mpr h
    simp only [List.lookup,hb,yG (fun e:g=f=>h (e.trans hk.symm))]
  ·rw [yG hk]
   by_cases h:g=k
   ·have hb:(g == k)=true:=beq_iff_eq.mpr h
    simp only [List.lookup,hb,yG (fun e:g=f=>hk (h.symm.trans e))]
   ·have hb:(g == k)=false:=beq_eq_false_iff_ne.mpr h
    simp only [List.lookup,hb];exact ih
theorem j5 (f:Str) (v:V):∀ fs:List (Str × V),f ∈ (dD f v fs).map (·.1)/\∀ g,g ∈ fs.map (·.1)->g ∈ (dD f v fs).map (·.1)
 | []=>⟨by simp [dD],fun g h=>by simp at h⟩
 | (k,x)::r=>by
  obtain ⟨i1,i2⟩:=j5 f v r;rw [show dD f v ((k,x)::r)=(if k=f then (k,v)::r else (k,x)::dD f v r) from rfl];by_cases hk:k=f
  ·rw [yH hk]
   subst hk;exact ⟨by simp,fun g h=>by simpa using h⟩
  ·rw [yG hk]
   refine ⟨?_,fun g h=>?_⟩
   ·rw [zO]
    exact zQ _ i1
   ·rw [zO] at h ⊢
    rcases zT.mp h with e | e
    ·exact zT.mpr (.inl e)
    ·exact zQ _ (i2 g e)
theorem lj (f:Str) (v:V):∀ fs:List (Str × V),(dD f v fs).length <= fs.length + 1
 | []=>by simp [dD]
 | (k,x)::r=>by
  have ih:=lj f v r;rw [show dD f v ((k,x)::r)=(if k=f then (k,v)::r else (k,x)::dD f v r) from rfl];by_cases hk:k=f
  ·rw [yH hk,yU,yU];omega
  ·rw [yG hk,yU,yU];omega
theorem RelO.some_of {v:V}{o:Option Value} (r:RelO (some v) o):∃ u,o=some u/\RelV v u:=by
 cases o with
 | none=>exact (show False from r).elim
 | some u=>exact ⟨u,rfl,r⟩
theorem RelO.none_of {o:Option Value} (r:RelO none o):o=none:=by
 cases o with
 | none=>rfl
 | some u=>exact (show False from r).elim
theorem vW {v:V}{u:Value} (r:RelV v u):handedIn u=true:=by
 cases v with
 | non=>cases (show u=Value.none from r);rfl
 | bl b=>cases (show u=Value.bool b from r);rfl
 | int i=>obtain ⟨t,e⟩:=(show ∃ t,u=Value.int i t from r);cases e;rfl
 | str x=>obtain ⟨t,e⟩:=(show ∃ t,u=Value.str x t from r);cases e;rfl
 | byt b=>obtain ⟨t,e⟩:=(show ∃ t,u=Value.bytes b t from r);cases e;rfl
 | flt b=>obtain ⟨t,e⟩:=(show ∃ t,u=Value.float b t from r);cases e;rfl
 | ref a=>cases (show u=Value.ref a from r);rfl
 | ty n=>cases (show u=Value.type n from r);rfl
section
variable {P:Program}{w:World}{H H':Hp}{h h':Heap}{a C dx:Addr}{fs fs':List (Str × V)}
theorem nV (MB:HOk P w H h) (e:H a=some (.ins C dx fs)):∃ mA,ObjM h a dx C mA/\(∀ f,RelO (fs.lookup f) (mA f))/\PySem.Within mA (fs.map (·.1))/\fs.length <= 1000/\H dx=some (.own a):=by
 obtain ⟨d,z,ne,ob,mA,n,r,q⟩:=(show ObjOk P w H h a (.ins C dx fs) from MB a _ e);exact ⟨mA,⟨ob,n,ne⟩,r,q,z,d⟩
end
structure Cls (K:Frag) (C:Addr):Prop where
 pg:plainGet K C Str.empty=true
 hd:hasDictIn K C=true
 po:plainOver K C=true
 sa:findIn K (.ref C) "__setattr__"=some (some (.builtin "object.__setattr__"))
theorem Cls.get {K:Frag}{C:Addr} (c:Cls K C) (f:Str):plainGet K C f=true:=c.pg
def NoAttr (K:Frag) (C:Addr) (f:Str):Prop:=findIn K (.ref C) f=some none
theorem NoAttr.taker {K:Frag}{C:Addr}{f:Str} (n:NoAttr K C f):takerIn K C f=some none:=by
 unfold takerIn;rw [show findIn K (.ref C) f=some none from n];rfl
structure jC (K:Frag) (C:Addr) (m:Str) (f:Addr):Prop where
 at_:findIn K (.ref C) m=some (some (.ref f))
 fn:isFn K (.ref f)=true
 kp:keepIn K (.ref f)=true
section
variable {X:Cx}{Mv:List (Addr × Obj)}{σ:St}{H:Hp}{s:Shared}{a C dx:Addr}{fs:List (Str × V)}{f:Str}{v:V}{A:Around}{E:Value->Shared->Prop}
theorem ur {b:Bool}{Q:Value->Shared->Prop} (I:Inv X Mv σ H s) (e:H a=some (.ins C dx fs)) (c:Cls X.K C) (n:NoAttr X.K C f) (l:fs.lookup f=some v)
  (h:∀ u s',Inv X Mv σ H s'->RelV v u->Q u s'):wpAny (model X.prog X.w) A (getAttr (.ref a) f b) Q E s:=by
 obtain ⟨mA,O,r,_,_,_⟩:=nV I.MB e;obtain ⟨u,hu,ru⟩:=RelO.some_of (v:=v) (o:=mA f) (by rw [<- l];exact r f);exact B5 I.kIn O (c.get f) c.hd n hu (vW ru) (h u _ (I.tok _) ru)
theorem jx {m:Str}{g:Addr}{pl:Sem Bool}{Q:Value × List Value->Shared->Prop} (I:Inv X Mv σ H s) (e:H a=some (.ins C dx fs)) (c:Cls X.K C) (k:jC X.K C m g) (l:fs.lookup m=none)
  (h:Q (.ref g,[.ref a]) s):wpAny (model X.prog X.w) A (getMethod (.ref a) m pl) Q E s:=by
 obtain ⟨mA,O,r,_,_,_⟩:=nV I.MB e;have hn:mA m=none:=RelO.none_of (by rw [<- l];exact r m);exact yb I.kIn O (c.get m) k.at_ k.fn hn h
theorem tz {y:V}{u:Value}{Q:Unit->Shared->Prop} (I:Inv X Mv σ H s) (e:H a=some (.ins C dx fs)) (c:Cls X.K C) (n:NoAttr X.K C f) (hl:fs.length < 1000) (ry:RelV y u)
  (h:∀ s',Inv X Mv σ (af H a (.ins C dx (dD f y fs))) s'->Q () s'):wpAny (model X.prog X.w) A (setAttr (.ref a) f u) Q E s:=by
 obtain ⟨mA,O,r,wi,_,ho⟩:=nV I.MB e;have hz:(fs.map (·.1)).length <= sizeLine:=by rw [zH,sizeLine_eq];omega
 refine AX I.kIn O c.sa c.po n.taker c.hd wi hz fun h' O' sb=>h _ ?_
 have hd:∃ o,h'.get? dx=some o:=let ⟨o,_,_,e',_⟩:=O'.ns;⟨o,e'⟩;refine I.write (x:=a) (e:=dx) (by rw [e];exact True.intro) (.inr ho) (fun b q hb z=>(sb.2 b hb).trans z) hd ?_;refine ⟨by rw [ad O.ne];exact ho,?_,O.ne,O'.obj,_,O'.ns,fun g=>?_,fun g hg=>?_⟩
 ·have:=lj f y fs;omega
 ·show RelO ((dD f y fs).lookup g) (if g=f then some u else mA g)
  rw [lb];by_cases q:g=f
  ·rw [yH q,yH q];exact ry
  ·rw [yG q,yG q];exact r g
 ·by_cases q:g=f
  ·rw [q];exact (j5 f y fs).1
  ·refine (j5 f y fs).2 g (wi g fun z=>hg ?_)
   show (if g=f then some u else mA g)=none;rw [yG q];exact z
theorem Inv.made (I:Inv X Mv σ H s):Inv X Mv σ (af (af H s.heap.objs.size (.own (s.heap.objs.size + 1))) (s.heap.objs.size + 1) (.ins C s.heap.objs.size []))
  { s with heap:=(s.heap.push emptyDict).push (instObj C s.heap.objs.size) }:=by
 have e1:(s.heap.push emptyDict).get? s.heap.objs.size=some emptyDict:=zY s.heap rfl;have e2:((s.heap.push emptyDict).push (instObj C s.heap.objs.size)).get? (s.heap.objs.size + 1)=some (instObj C s.heap.objs.size):=by
  have:=zY (s.heap.push emptyDict) (o:=instObj C s.heap.objs.size) rfl
  rwa [Heap.size_push] at this
 have e3:(s.heap.push emptyDict).Ns s.heap.objs.size (fun _=>none):=⟨emptyDict,#[],_,e1,rfl,(fun e he=>absurd he (by simp)),fun _=>rfl⟩;have I1:=I.laid (a:=s.heap.objs.size) (o:=.own (s.heap.objs.size + 1)) (h':=s.heap.push emptyDict) (t':=s.toks) (fun b u q=>zG _ q) (zP _) ⟨_,e1⟩;refine I1.laid (a:=s.heap.objs.size + 1) (o:=.ins C s.heap.objs.size []) (t':=s.toks) (fun b u q=>zG _ q) (Nat.le_of_eq (Heap.size_push _ _)) ?_;have ne:s.heap.objs.size ≠ s.heap.objs.size + 1:=zU (Nat.lt_succ_self _);refine ⟨by rw [ad ne,au],Nat.zero_le _,ne,e2,fun _=>none,(Heap.Ns1.of_empty e3).at fun o q=>zG _ q,fun _=>True.intro,fun y hy=>absurd rfl hy⟩
theorem Cf {prog:Program}{w:World}{env:Env}{e:Expr}{f:Str}{pos:Pos}{s:Shared}{Q:Value->Shared->Prop} (hb:attributeBase e f env (eval e env)=eval e env)
  (h:wpAny (model prog w) A (eval e env) (fun o s₁=>wpAny (model prog w) A (getAttr o f true) Q E s₁) E s):wpAny (model prog w) A (eval (.Attribute e f pos) env) Q E s :=
 Attribute_any_ h (by rw [arm_eval_Attribute,hb])
end
def Jn (K:Frag) (ta:TE) (f:Str):TE:=fun σ H Q=>ta σ H fun x H1=>∃ a C dx fs v,x=.ref a/\H1 a=some (.ins C dx fs)/\Cls K C/\NoAttr K C f/\fs.lookup f=some v/\Q v H1
def Jt (K:Frag) (ta tv:TE) (f:Str):TS:=fun D σ H=>tv σ H fun y H1=>ta σ H1 fun x H2=>∃ a C dx fs,x=.ref a/\H2 a=some (.ins C dx fs)/\Cls K C/\NoAttr K C f/\fs.length < 1000 /\
 D.nx σ (af H2 a (.ins C dx (dD f y fs)))
section
variable {X:Cx}{o e value:Expr}{f:Str}{pos pos' tpos:Pos}{ta tv:TE}
theorem DA (he:PE X e ta) (hb:attributeBase e f X.env (eval e X.env)=eval e X.env):PE X (.Attribute e f pos) (Jn X.K ta f):=by
 intro Mv s σ H Q I h;refine Cf hb (aB (he Mv s σ H _ I h) fun u s1 hq0=>?_);obtain ⟨x,H1,I1,rx,a,C,dx,fs,v,ex,ea,c,n,l,q⟩:=hq0;subst ex;obtain rfl:u=Value.ref a:=rx;exact ur I1 ea c n l fun u' s2 I2 ru=>⟨v,H1,I2,ru,q⟩
theorem Dm (ha:PE X o ta) (hv:PE X value tv) (hs:swapsWith value (some (.Attribute o f pos')) pos.line X.env=pure false):PS X (.Assign [.Attribute o f pos'] value pos) (Jt X.K ta tv f):=by
 intro Mv s σ H D I h;refine plainObj_wpAny_Assign_Attribute (aB (hv Mv s σ H _ I h) fun u s1 ⟨y,H1,I1,ry,q⟩=>aB (ha Mv s1 σ H1 _ I1 q) fun ov s2 hq0=>?_) hs;obtain ⟨x,H2,I2,rx,a,C,dx,fs,ex,ea,c,n,l,q2⟩:=hq0;subst ex;obtain rfl:ov=Value.ref a:=rx;exact tz I2 ea c n l ry fun s3 I3=>⟨σ,_,I3,q2⟩
theorem FH {pl:Sem Bool}{m:Str}{apos:Pos}{args:List Expr}{Mv:List (Addr × Obj)}{s:Shared}{σ:St}{H:Hp}{Q:Value->Shared->Prop}{te:TE} (he:PE X e te) (I:Inv X Mv σ H s)
  (h:te σ H fun x H1=>∃ a C dx fs g,x=.ref a/\H1 a=some (.ins C dx fs)/\Cls X.K C/\jC X.K C m g/\fs.lookup m=none /\
   ∀ s1,Inv X Mv σ H1 s1->wpAny (model X.prog X.w) X.A (callWith pos (.ref g) [.ref a] (backTo pos (starEach args X.env)) (backToKw pos (keywordEach [] X.env))) Q X.xe s1)
  (ht:eval (.Call (.Attribute e m apos) args [] pos) X.env=(do
   let ov <- eval e X.env
   standAt apos.atName
   let (f,first) <- holding [ov] (getMethod ov m pl)
   callWith pos f first (backTo pos (starEach args X.env)) (backToKw pos (keywordEach [] X.env)))) :
  wpAny (model X.prog X.w) X.A (eval (.Call (.Attribute e m apos) args [] pos) X.env) Q X.xe s:=by
 refine methodCall_KW (pl:=pl) (aB (he Mv s σ H _ I h) fun u s1 hq0=>?_) ht;obtain ⟨x,H1,I1,rx,a,C,dx,fs,g,ex,ea,c,k,l,q⟩:=hq0;subst ex;obtain rfl:u=Value.ref a:=rx;exact jx I1 ea c k l (q s1 I1)
end
structure Room (k:Nat) (A:Around):Prop where
 hd:A.handled=none
 dp:A.depth + 3 * k + 5 < recursionLimit
 un:A.units + 16 * k + 200 < cLine
 gd:A.guards=some []
theorem Room.mono {j k:Nat}{A:Around} (r:Room k A) (h:j <= k):Room j A:=⟨r.hd,by have:=r.dp;omega,by have:=r.un;omega,r.gd⟩
theorem Room.deeper {k:Nat}{A:Around} (r:Room (k + 1) A) (env:Env):Room k (A.deeper env) :=
 ⟨r.hd,by have:=r.dp;show A.depth + 1 + 3 * k + 5 < _;omega,by have:=r.un;show A.units + 3 + 16 * k + 200 < _;omega,r.gd⟩
theorem Room.in1 {k:Nat}{A:Around} (r:Room (k + 1) A):Room k A.in1 :=
 ⟨r.hd,by have:=r.dp;show A.depth + 3 * k + 5 < _;omega,by have:=r.un;show A.units + 1 + 16 * k + 200 < _;omega,r.gd⟩
theorem tZ {A:Around}{C:Addr}{us:List Value}{kw:List (Str × Value)}:(A.under (.builtin "type.__call__" ⟨.ref C::us,kw⟩)).depth=A.depth + 1:=by
 first | rfl | simp [Around.under,Code.weight,Code.isCreation,Code.isGuard,Code.isCaller,Code.frames,Code.isFrame,guardIds]
theorem tY {A:Around}{C:Addr}{us:List Value}{kw:List (Str × Value)}:(A.under (.builtin "type.__call__" ⟨.ref C::us,kw⟩)).units=A.units + 1:=by
 first | rfl | simp [Around.under,Code.cUnits,Code.frames,Code.isFrame]
theorem re {A:Around}{C:Addr}{us:List Value}{kw:List (Str × Value)}:(A.under (.builtin "type.__call__" ⟨.ref C::us,kw⟩)).guards=A.guards:=by
 first | rfl | simp [Around.under,Code.guards,Code.isGuard,guardIds,pushGuards]
theorem Room.make {k:Nat}{A:Around} (r:Room (k + 1) A) (C:Addr) (us:List Value) (kw:List (Str × Value)):Room k (A.under (.builtin "type.__call__" ⟨.ref C::us,kw⟩)) :=
 ⟨r.hd,by have:=r.dp;rw [tZ];omega,by have:=r.un;rw [tY];omega,by rw [re];exact r.gd⟩
theorem Room.depth {k:Nat}{A:Around} (r:Room k A):A.depth < recursionLimit:=by have:=r.dp;omega
theorem Room.units {k:Nat}{A:Around} (r:Room k A):A.units + 64 < cLine:=by have:=r.un;omega
noncomputable def td:TA:=fun _ H Q=>Q [] H
noncomputable def ze (ta:TE) (tr:TA):TA:=fun σ H Q=>ta σ H fun x H1=>tr σ H1 fun xs H2=>Q (x::xs) H2
section
variable {X:Cx}{e:Expr}{es:List Expr}{te:TE}{t:TA}{pos:Pos}
theorem vq:PA X [] td:=fun _ _ _ _ H Q I h=>Calls.spliced_nil ⟨[],H,I,.nil,h⟩
theorem rH (ha:PE X e te) (hr:PA X es t) (hs:starEach (e::es) X.env=(false,eval e X.env)::starEach es X.env:=by rfl):PA X (e::es) (ze te t):=by
 intro pos Mv s σ H Q I h;rw [hs];show wpAny _ _ (spliced ((false,eval e X.env)::backTo pos (starEach es X.env))) _ _ s;refine Calls.spliced_cons (aB (ha Mv s σ H _ I h) fun u s1 hq0=>?_);obtain ⟨x,H1,I1,r1,q1⟩:=hq0;exact aB (hr pos Mv s1 σ H1 _ I1 q1) fun us s2 ⟨xs,H2,I2,r2,q2⟩=>⟨x::xs,H2,I2,.cons r1 r2,q2⟩
def Jf (t:TA):TE:=fun σ H Q=>t σ H fun xs H1=>xs.length <= sizeLine/\∀ p,H1 p=none->Q (.ref p) (af H1 p (.tup xs))
def Jk (t:TA):TE:=fun σ H Q=>t σ H fun xs H1=>xs.length <= sizeLine/\∀ p,H1 p=none->Q (.ref p) (af H1 p (.lst xs))
theorem Dv {x1} (h:PA X es t):PE X (.Tuple es x1 pos) (Jf t):=by
 intro Mv s σ H Q I hq;refine wpAny_Tuple_spliced (aB (h pos Mv s σ H _ I hq) fun us s1 ⟨xs,H1,I1,r,z,q⟩=>⟨by rw [<- r.length];exact z,?_⟩);have hf:H1 s1.heap.objs.size=none:=I1.MB.fresh (zP _);refine ⟨.ref s1.heap.objs.size,af H1 s1.heap.objs.size (.tup xs),I1.laid (t':=s1.toks) (fun b u e=>zG _ e) (zP _) ?_,rfl,q _ hf⟩;exact ⟨z,us,r,⟨_,zY _ rfl,rfl,_,rfl⟩⟩
theorem vo (h:PA X es t):PE X (.List es pos) (Jk t):=by
 intro Mv s σ H Q I hq;refine wpAny_List_spliced (aB (h pos Mv s σ H _ I hq) fun us s1 ⟨xs,H1,I1,r,z,q⟩=>⟨by rw [<- r.length];exact z,?_⟩);have hf:H1 s1.heap.objs.size=none:=I1.MB.fresh (zP _);refine ⟨.ref s1.heap.objs.size,af H1 s1.heap.objs.size (.lst xs),I1.laid (t':=s1.toks) (fun b u e=>zG _ e) (zP _) ?_,rfl,q _ hf⟩;exact ⟨z,us,0,r,zY _ rfl⟩
end
abbrev Sp:=List V->Hp->VK->XK->Prop
abbrev kD:=List Env->Hp->Shared->XK->Value->Shared->Prop
structure Env0 (P:Program) (w:World) (K:Frag) (mg:Str->Option Value) (base:Heap) (A:Around) (outer:List Env) (s:Shared) (H:Hp):Prop where
 frames:A.frames=some outer
 mod:Mod K mg base
 bs:∀ b o,base.get? b=some o->s.heap.get? b=some o/\H b=none
 bsz:base.objs.size <= s.heap.objs.size
 funs:s.heap.FunFrames base outer
 frf:∀ b ∈ i8 outer,H b=none
 MB:HOk P w H s.heap
 bare:AllBare s.gens
def CE (outer:List Env) (P:Program) (w:World) (H:Hp) (s:Shared) (Q:VK) (u:Value) (s':Shared):Prop :=
 ∃ v H',s'.os=s.os/\AllBare s'.gens/\Un (i8 outer) [] H H' s.heap s'.heap/\HOk P w H' s'.heap/\RelV v u/\Q v H'
def CR (CX:kD) (outer:List Env) (P:Program) (w:World) (H:Hp) (s:Shared) (Q:VK) (E:XK) (r:Result) (s':Shared):Prop :=
 match r with
 | .ok (.ret u)=>CE outer P w H s Q u s'
 | .ok _=>False
 | .error e=>CX outer H s E e s'
structure FnOk (P:Program) (w:World) (K:Frag) (mg:Str->Option Value) (base:Heap) (CX:kD) (k:Nat) (f:Addr) (fd:FuncData) (ps:List Str) (sp:Sp):Prop where
 len:∀ vs H Q E,sp vs H Q E->vs.length=ps.length
 run:∀ (A:Around) (outer:List Env) (s:Shared) (H:Hp) (args:Args) (us:List Value) (vs:List V) (Q:VK) (E:XK),Room k A->Env0 P w K mg base A outer s H->BindsTo s fd args (ps.zip us)->Vals vs us->sp vs H Q E ->
  codeAny (model P w) A (.call (.ref f) args) (CR CX outer P w H s Q E) s
theorem FnOk.mono {P:Program}{w:World}{K:Frag}{mg:Str->Option Value}{base:Heap}{CX:kD}{j k:Nat}{f:Addr}{fd:FuncData}{ps:List Str}{sp:Sp} (F:FnOk P w K mg base CX j f fd ps sp) (h:j <= k) :
  FnOk P w K mg base CX k f fd ps sp:=⟨F.len,fun A outer s H args us vs Q E hr=>F.run A outer s H args us vs Q E (hr.mono h)⟩
theorem FnOk.imp {P:Program}{w:World}{K:Frag}{mg:Str->Option Value}{base:Heap}{CX:kD}{k:Nat}{f:Addr}{fd:FuncData}{ps:List Str}{sp sp':Sp} (F:FnOk P w K mg base CX k f fd ps sp)
  (h:∀ vs H Q E,sp' vs H Q E->sp vs H Q E):FnOk P w K mg base CX k f fd ps sp' :=
 ⟨fun vs H Q E q=>F.len vs H Q E (h _ _ _ _ q),fun A outer s H args us vs Q E hr he hb hv hs=>F.run A outer s H args us vs Q E hr he hb hv (h _ _ _ _ hs)⟩
theorem Env0.make {P:Program}{w:World}{K:Frag}{mg:Str->Option Value}{base:Heap}{A:Around}{outer:List Env}{s:Shared}{H:Hp} (e:Env0 P w K mg base A outer s H) (C:Addr) (us:List Value) (kw:List (Str × Value)) :
  Env0 P w K mg base (A.under (.builtin "type.__call__" ⟨.ref C::us,kw⟩)) outer s H:=⟨by first | exact e.frames | (simpa [Around.under,Code.envs,Code.isFrame,pushEnvs] using e.frames),e.mod,e.bs,e.bsz,e.funs,e.frf,e.MB,e.bare⟩
section
variable {X:Cx}{Mv:List (Addr × Obj)}{σ:St}{H:Hp}{s s':Shared}
theorem Inv.env0 (I:Inv X Mv σ H s):Env0 X.prog X.w X.K X.mg X.base X.A X.stack s H :=
 ⟨I.ok.frames,I.ok.mod,I.bs,z0 I.ok.bsz I.sz,I.stack,I.stkFree,I.MB,I.bare⟩
theorem Inv.after {Q:VK}{u:Value} (I:Inv X Mv σ H s) (h:CE X.stack X.prog X.w H s Q u s'):EP X Mv σ Q u s':=by
 obtain ⟨v,H',os,bare,un,MB,r,q⟩:=h;obtain ⟨hh,g,d,t,os'⟩:=s';obtain rfl:os'=s.os:=os;exact ⟨v,H',I.call (h':=hh) (g':=g) (d':=d) (t':=t) (ch:=[]) un MB bare (fun b z=>absurd z (by simp)),r,q⟩
end
noncomputable def tj (sp:Sp) (dvs:List V) (E:XK) (t:TA):TE:=fun σ H Q=>t σ H fun vs H1=>sp (vs++dvs) H1 Q E
def tf (C:Addr) (m:Str) (sp:Sp) (dvs:List V) (E:XK) (ta:TE) (t:TA):TE:=fun σ H Q=>ta σ H fun x H1=>∃ a dx fs,x=.ref a/\H1 a=some (.ins C dx fs)/\fs.lookup m=none /\
 t σ H1 fun vs H2=>sp (x::(vs++dvs)) H2 Q E
def zd (C:Addr) (sp:Sp) (dvs:List V) (E:XK) (t:TA):TE:=fun σ H Q=>t σ H fun vs H1=>∀ x dx,H1 x=none->H1 dx=none->dx ≠ x ->
 sp (.ref x::(vs++dvs)) (af (af H1 dx (.own x)) x (.ins C dx [])) (fun v H2=>v=.non/\Q (.ref x) H2) E
def Binds (K:Frag) (fd:FuncData) (ps:List Str) (ds:List Value):Prop :=
 ∀ (s:Shared) (us:List Value),K.In s.heap->(us++ds).length=ps.length->BindsTo s fd ⟨us,[]⟩ (ps.zip (us++ds))
theorem Binds.all {K:Frag}{fd:FuncData}{ps:List Str} (h:∀ us:List Value,us.length=ps.length->bindArgs fd ⟨us,[]⟩=pure (ps.zip us)):Binds K fd ps []:=fun s us _ hl=>by
 rw [List.append_nil] at hl ⊢;exact .of_eq (h us hl)
def gw (CX:kD) (X:Cx) (E:XK):Prop:=∀ (Mv:List (Addr × Obj)) (σ:St) (H:Hp) (s:Shared) (e:Value) (s':Shared),Inv X Mv σ H s->CX X.stack H s E e s'->X.xe e s'
section
variable {X:Cx}{CX:kD}{k:Nat}{f C:Addr}{fd:FuncData}{ps:List Str}{sp:Sp}{dvs:List V}{ds:List Value}{E:XK}{x m:Str}{p pos apos:Pos}{e o:Expr}{es:List Expr}{ta:TE}{t:TA}
theorem mr {Mv:List (Addr × Obj)}{σ:St}{H:Hp}{s:Shared}{Q:VK}{us:List Value}{vs:List V} (F:FnOk X.prog X.w X.K X.mg X.base CX k f fd ps sp) (hr:Room k X.A) (hb:Binds X.K fd ps ds) (hd:Vals dvs ds) (hx:gw CX X E)
  (I:Inv X Mv σ H s) (r:Vals vs us) (h:sp (vs++dvs) H Q E):wpAny (model X.prog X.w) X.A (call (.ref f) us) (EP X Mv σ Q) X.xe s:=by
 have r2:Vals (vs++dvs) (us++ds):=r.append hd;have hl:(us++ds).length=ps.length:=by rw [<- r2.length];exact F.len _ _ _ _ h
 refine wpAny_call (codeAny_mono (F.run X.A X.stack s H ⟨us,[]⟩ (us++ds) (vs++dvs) Q E hr I.env0 (hb s us I.kIn hl) r2 h) fun r s' hq=>?_);cases r with
 | error e=>exact hx Mv σ H s e s' I hq
 | ok fl =>
  cases fl with
  | ret u=>exact I.after hq
  | next=>exact False.elim hq
  | brk=>exact False.elim hq
  | cont=>exact False.elim hq
theorem BC (F:FnOk X.prog X.w X.K X.mg X.base CX k f fd ps sp) (hr:Room k X.A) (hg:Gl X x) (hm:X.mg x=some (.ref f)) (hk:keepIn X.K (.ref f)=true) (hb:Binds X.K fd ps ds) (hd:Vals dvs ds) (hx:gw CX X E)
  (ha:PA X (e::es) t) (hdb:(x == ("__debug__":Str))=false:=by decide) (he:starEach (e::es) X.env=(false,eval e X.env)::starEach es X.env:=by rfl) (hpl:(backTo pos (starEach es X.env)).any (·.1)=false:=by rfl) :
  PE X (.Call (.Name x p) (e::es) [] pos) (tj sp dvs E t):=by
 intro Mv s σ H Q I h;refine wpAny_Call_Name_kw (kM I hg hm ?_ hdb);refine callWith_K (h₀:=X.base) I.ok.mod.kin hk (aB (ha pos Mv s σ H _ I h) fun us s1 ⟨vs,H1,I1,r,q⟩=>⟨I1.kIn,?_⟩) he hpl;exact mr F hr hb hd hx I1 r q
theorem xo (F:FnOk X.prog X.w X.K X.mg X.base CX k f fd ps sp) (hr:Room k X.A) (hg:Gl X x) (hm:X.mg x=some (.ref f)) (hk:keepIn X.K (.ref f)=true) (hb:Binds X.K fd ps ds) (hd:Vals dvs ds) (hx:gw CX X E)
  (hdb:(x == ("__debug__":Str))=false:=by decide):PE X (.Call (.Name x p) [] [] pos) (tj sp dvs E td):=by
 intro Mv s σ H Q I h;refine wpAny_Call_Name_kw (kM I hg hm ?_ hdb);exact PySem.W.callWith_K0 I.kIn hk (mr (us:=[]) F hr hb hd hx I .nil h)
theorem By {pl:Sem Bool} (he:PE X o ta) (c:Cls X.K C) (hm:jC X.K C m f) (F:FnOk X.prog X.w X.K X.mg X.base CX k f fd ps sp) (hr:Room k X.A) (hb:Binds X.K fd ps ds) (hd:Vals dvs ds) (hx:gw CX X E) (ha:PA X (e::es) t)
  (hst:starEach (e::es) X.env=(false,eval e X.env)::starEach es X.env:=by rfl) (hpl:(backTo pos (starEach es X.env)).any (·.1)=false:=by rfl)
  (ht:eval (.Call (.Attribute o m apos) (e::es) [] pos) X.env=(do
   let ov <- eval o X.env
   standAt apos.atName
   let (f,first) <- holding [ov] (getMethod ov m pl)
   callWith pos f first (backTo pos (starEach (e::es) X.env)) (backToKw pos (keywordEach [] X.env))):=by rfl) :
  PE X (.Call (.Attribute o m apos) (e::es) [] pos) (tf C m sp dvs E ta t):=by
 intro Mv s σ H Q I h;refine methodCall_KW (pl:=pl) (aB (he Mv s σ H _ I h) fun u s1 hq0=>?_) ht;obtain ⟨x,H1,I1,rx,a,dx,fs,ex,ea,l,q⟩:=hq0;subst ex;obtain rfl:u=Value.ref a:=rx;refine jx I1 ea c hm l ?_;refine callWith_K (first:=[.ref a]) (h₀:=X.base) I.ok.mod.kin hm.kp (aB (ha pos Mv s1 σ H1 _ I1 q) fun us s2 ⟨vs,H2,I2,r,q2⟩=>⟨I2.kIn,?_⟩) hst hpl;exact mr (us:=.ref a::us) (vs:=.ref a::vs) F hr hb hd hx I2 (.cons rfl r) q2
theorem xg {pl:Sem Bool} (he:PE X o ta) (c:Cls X.K C) (hm:jC X.K C m f) (F:FnOk X.prog X.w X.K X.mg X.base CX k f fd ps sp) (hr:Room k X.A) (hb:Binds X.K fd ps ds) (hd:Vals dvs ds) (hx:gw CX X E)
  (ht:eval (.Call (.Attribute o m apos) [] [] pos) X.env=(do
   let ov <- eval o X.env
   standAt apos.atName
   let (f,first) <- holding [ov] (getMethod ov m pl)
   callWith pos f first (backTo pos (starEach [] X.env)) (backToKw pos (keywordEach [] X.env))):=by rfl) :
  PE X (.Call (.Attribute o m apos) [] [] pos) (tf C m sp dvs E ta td):=by
 intro Mv s σ H Q I h;refine methodCall_KW (pl:=pl) (aB (he Mv s σ H _ I h) fun u s1 hq0=>?_) ht;obtain ⟨x,H1,I1,rx,a,dx,fs,ex,ea,l,q⟩:=hq0;subst ex;obtain rfl:u=Value.ref a:=rx;refine jx I1 ea c hm l ?_;exact PySem.W.callWith_K0 (first:=[.ref a]) I1.kIn hm.kp (mr (us:=[.ref a]) (vs:=[.ref a]) F hr hb hd hx I1 (.cons rfl .nil) q)
structure Mk (K:Frag) (C f:Addr):Prop where
 makes:makesIn K C=true
 init:findIn K (.ref C) "__init__"=some (some (.ref f))
 fn:isFn K (.ref f)=true
 kp:keepIn K (.ref C)=true
theorem wN {Mv:List (Addr × Obj)}{σ:St}{H:Hp}{s:Shared}{Q:VK}{us:List Value}{vs:List V} (M:Mk X.K C f) (F:FnOk X.prog X.w X.K X.mg X.base CX k f fd ps sp) (hr:Room (k + 1) X.A) (hb:Binds X.K fd ps ds) (hd:Vals dvs ds)
  (hx:gw CX X E) (I:Inv X Mv σ H s) (r:Vals vs us)
  (h:∀ x dx,H x=none->H dx=none->dx ≠ x->sp (.ref x::(vs++dvs)) (af (af H dx (.own x)) x (.ins C dx [])) (fun v H2=>v=.non/\Q (.ref x) H2) E) :
  wpAny (model X.prog X.w) X.A (call (.ref C) us) (EP X Mv σ Q) X.xe s:=by
 have hq:=h (s.heap.objs.size + 1) s.heap.objs.size (I.MB.fresh (Nat.le_succ _)) (I.MB.fresh (zP _)) (zU (Nat.lt_succ_self _));have I2:=Inv.made (C:=C) I;have r2:Vals (V.ref (s.heap.objs.size + 1)::(vs++dvs)) (Value.ref (s.heap.objs.size + 1)::(us++ds)):=.cons rfl (r.append hd);have hl:(Value.ref (s.heap.objs.size + 1)::us++ds).length=ps.length:=by
  have e:=r2.length;rw [F.len _ _ _ _ hq] at e;exact e.symm
 refine wpAny_call (xI (f:=f) I.kIn M.makes M.init (beq_iff_eq.mp M.fn) (codeAny_mono (F.run _ X.stack _ _ ⟨Value.ref (s.heap.objs.size + 1)::us,[]⟩ (Value.ref (s.heap.objs.size + 1)::(us++ds)) _ _ E (hr.make C us [])
  (I2.env0.make C us []) (hb _ (Value.ref (s.heap.objs.size + 1)::us) I2.kIn hl) r2 hq) fun r s' hq'=>?_))
 cases r with
 | error e=>exact hx Mv σ _ _ e s' I2 hq'
 | ok fl =>
  cases fl with
  | ret u =>
   obtain ⟨v,H',I3,rv,ev,q3⟩:=I2.after hq';subst ev;exact ⟨rv,⟨V.ref (s.heap.objs.size + 1),H',I3,rfl,q3⟩⟩
  | next=>exact False.elim hq'
  | brk=>exact False.elim hq'
  | cont=>exact False.elim hq'
theorem Bz (M:Mk X.K C f) (F:FnOk X.prog X.w X.K X.mg X.base CX k f fd ps sp) (hr:Room (k + 1) X.A) (hg:Gl X x) (hm:X.mg x=some (.ref C)) (hb:Binds X.K fd ps ds) (hd:Vals dvs ds) (hx:gw CX X E)
  (ha:PA X (e::es) t) (hdb:(x == ("__debug__":Str))=false:=by decide) (he:starEach (e::es) X.env=(false,eval e X.env)::starEach es X.env:=by rfl) (hpl:(backTo pos (starEach es X.env)).any (·.1)=false:=by rfl) :
  PE X (.Call (.Name x p) (e::es) [] pos) (zd C sp dvs E t):=by
 intro Mv s σ H Q I h;refine wpAny_Call_Name_kw (kM I hg hm ?_ hdb);refine callWith_K (h₀:=X.base) I.ok.mod.kin M.kp (aB (ha pos Mv s σ H _ I h) fun us s1 ⟨vs,H1,I1,r,q⟩=>⟨I1.kIn,?_⟩) he hpl;exact wN M F hr hb hd hx I1 r q
end
structure kZ (N P:List Str) (sc:Scope):Prop where
 kind:sc.kind=.function
 co:sc.isCoroutine=false
 gen:sc.isGenerator=false
 nd:N.Nodup
 pre:N.take P.length=P
 par:∀ x ∈ P,sc.names.lookup x=some .local\/sc.names.lookup x=some .cell
 nofree:∀ y ∈ sc.names,y.2 ≠ .free
theorem oO {kindOf:Str->Option NameKind}{x:Str}:∀ {binds:List (Str × Value)}{m:Str->Option Value},(∀ v,(x,v) ∉ binds)->bindL kindOf binds m x=m x
 | [],_,_=>rfl
 | (n,v)::r,m,h=>by
  unfold bindL;rw [oO fun w hw=>h w (zQ _ hw)];split
  ·have:x ≠ n:=by rintro rfl;exact h v z6
   simp [this]
  ·rfl
theorem oQ {kindOf:Str->Option NameKind}{x:Str}:∀ {binds:List (Str × Value)}{m:Str->Option Value},(∀ v,(x,v) ∉ binds)->bindC kindOf binds m x=m x
 | [],_,_=>rfl
 | (n,v)::r,m,h=>by
  unfold bindC;rw [oQ fun w hw=>h w (zQ _ hw)];split
  ·rfl
  ·have:x ≠ n:=by rintro rfl;exact h v z6
   simp [this]
theorem oP {kindOf:Str->Option NameKind}{x:Str}{v:Value}:∀ {P:List Str}{vs:List Value}{i:Nat}{m:Str->Option Value},P.Nodup->P[i]?=some x->vs[i]?=some v->kindOf x=some .local ->
  bindL kindOf (P.zip vs) m x=some v
 | [],_,_,_,_,h,_,_=>by simp at h
 | _::_,[],_,_,_,_,h,_=>by simp at h
 | p::P,w::vs,0,m,nd,h1,h2,hk=>by
  simp at h1 h2;subst h1;subst h2;show bindL kindOf ((p,w)::P.zip vs) m p=_;unfold bindL;rw [oO fun v hv=>(List.nodup_cons.mp nd).1 (List.of_mem_zip hv).1,yH hk];simp
 | p::P,w::vs,i + 1,m,nd,h1,h2,hk=>by
  show bindL kindOf ((p,w)::P.zip vs) m x=_;unfold bindL;exact oP (i:=i) (List.nodup_cons.mp nd).2 (by simpa using h1) (by simpa using h2) hk
theorem oR {kindOf:Str->Option NameKind}{x:Str}{v:Value}:∀ {P:List Str}{vs:List Value}{i:Nat}{m:Str->Option Value},P.Nodup->P[i]?=some x->vs[i]?=some v->kindOf x ≠ some .local ->
  bindC kindOf (P.zip vs) m x=some v
 | [],_,_,_,_,h,_,_=>by simp at h
 | _::_,[],_,_,_,_,h,_=>by simp at h
 | p::P,w::vs,0,m,nd,h1,h2,hk=>by
  simp at h1 h2;subst h1;subst h2;show bindC kindOf ((p,w)::P.zip vs) m p=_;unfold bindC;rw [oQ fun v hv=>(List.nodup_cons.mp nd).1 (List.of_mem_zip hv).1,yG hk];simp
 | p::P,w::vs,i + 1,m,nd,h1,h2,hk=>by
  show bindC kindOf ((p,w)::P.zip vs) m x=_;unfold bindC;exact oR (i:=i) (List.nodup_cons.mp nd).2 (by simpa using h1) (by simpa using h2) hk
def start (N:List Str) (vs:List V):St:=vs.map some++List.replicate (N.length - vs.length) none
def nZ (CX:kD) (P:Program) (w:World) (K:Frag) (mg:Str->Option Value) (base:Heap) (N:List Str) (qual:Str) (scope:Scope) (f:Addr) (cd:Value) (A:Around) (outer:List Env) (s:Shared) (H:Hp) (E:XK):Cx where
 prog:=P
 w:=w
 K:=K
 mg:=mg
 base:=base
 A:=A.deeper (envOfC qual scope s.heap.objs.size f cd)
 N:=N
 s₀:=s
 H₀:=H
 env:=envOfC qual scope s.heap.objs.size f cd
 outer:=outer
 stack:=envOfC qual scope s.heap.objs.size f cd::outer
 ex:=[]
 calm:=true
 fn:=fun _=>true
 pn:=[]
 xe:=fun e s'=>wpAny (model P w) (A.deeper (envOfC qual scope s.heap.objs.size f cd)) (leaving (envOfC qual scope s.heap.objs.size f cd) e) (fun _ s''=>CX outer H s E e s'') (fun e' s''=>CX outer H s E e' s'') s'
theorem qH {sc:Scope}{n:Nat}{x:Str} (h:sc.names.lookup x=some .cell):∃ c,(cellsFrom n sc.names []).lookup x=some c:=by
 have q:=cellsFrom_some sc.names n [] (.inl h);exact Option.isSome_iff_exists.mp q
theorem vS {CX:kD}{P:Program}{w:World}{K:Frag}{mg:Str->Option Value}{base:Heap}{N ps:List Str}{qual:Str}{scope:Scope}{f:Addr}{cd:Value}{A:Around}{outer:List Env}{s s1:Shared}{H:Hp}{E:XK}{us:List Value}{vs:List V}
  (S:kZ N ps scope) (hd:A.handled=none) (e0:Env0 P w K mg base A outer s H) (hl:vs.length=ps.length) (r:Vals vs us)
  (x:InCallC s s.heap.objs.size (bindL (envOfC qual scope s.heap.objs.size f cd).kindOf (ps.zip us) fun _=>none) (cellsFrom (s.heap.objs.size + 1) scope.names []) (bindC (envOfC qual scope s.heap.objs.size f cd).kindOf (ps.zip us) fun _=>none) s1) :
  Inv (nZ CX P w K mg base N qual scope f cd A outer s H E) [] (start N vs) H s1:=by
 have hpl:ps.length <= N.length:=by have:=congrArg List.length S.pre;rw [List.length_take] at this;omega
 obtain ⟨h1,tk,rfl,hk⟩:=x.done;have noA:∀ b:Addr,b ∉ (nZ CX P w K mg base N qual scope f cd A outer s H E).ex:=fun b z=>absurd (show b ∈ ([]:List Addr) from z) (by simp)
 refine ⟨⟨e0.mod,S.kind,rfl,rfl,zP _,fun y z c h1 h2=>?_,fun y hy=>?_,fun y c _ h=>?_,fun _=>hd,Around.frames_deeper e0.frames,.inr ⟨rfl,rfl⟩,fun b z=>absurd z (noA b),e0.bs,e0.bsz,fun b _ _=>noA b,fun b z=>absurd z (noA b),e0.funs,e0.frf⟩,
  rfl,e0.bare,Un.kept hk,⟨_,x.toInCall.ns,fun i y v h1 h2 h3=>?_⟩,fun y c h=>⟨_,x.cell y c h⟩,e0.MB.fresh (zP _),fun y c h=>?_,fun p hp=>absurd (show p ∈ ([]:List (Addr × Obj)) from hp) (by simp),e0.MB.kept hk,?_⟩
 ·exact name_of_addr x.apart (PySem.mem_of_lookup h1) (PySem.mem_of_lookup h2)
 ·have hy:scope.names.lookup y=some .cell\/scope.names.lookup y=some .free:=hy
  rcases hy with hy | hy
  ·exact qH hy
  ·exact absurd rfl (S.nofree _ (PySem.mem_of_lookup hy))
 ·exact yV (x.above y c (PySem.mem_of_lookup h))
 ·have hi:i < vs.length:=by
   unfold start at h2;by_cases hi:i < vs.length
   ·exact hi
   ·rw [z5 (by simpa using hi)] at h2
    rw [List.getElem?_replicate] at h2;split at h2 <;> cases h2
  have ha:vs[i]?=some v:=by
   unfold start at h2;rw [zN (by simpa using hi),zR] at h2;cases e:vs[i]? with
   | none=>rw [e] at h2;cases h2
   | some a=>rw [e] at h2;cases h2;rfl
  obtain ⟨u,hu,rv⟩:=r.get ha;have hp:ps[i]?=some y:=by
   rw [<- S.pre,List.getElem?_take_of_lt oM];exact h1
  have ndP:ps.Nodup:=by rw [<- S.pre];exact S.nd.sublist (List.take_sublist _ _)
  refine ⟨u,rv,?_⟩;rcases S.par y (zW hp) with k | k
  ·exact .inl ⟨k,oP ndP hp hu k⟩
  ·obtain ⟨c,e⟩:=qH (n:=s.heap.objs.size + 1) k
   refine .inr ⟨.inl k,c,e,?_⟩;have q:=x.cell y c e;rw [oR ndP hp hu (by show scope.names.lookup y ≠ _;rw [k];decide)] at q;exact q
 ·exact e0.MB.fresh (yV (x.above y c (PySem.mem_of_lookup h)))
 ·unfold start
  show _=N.length;rw [zV,zH,List.length_replicate];omega
theorem G8 {CX:kD}{P:Program}{w:World}{K:Frag}{mg:Str->Option Value}{base:Heap}{k:Nat}{f:Addr}{name qual:Str}{params:Arguments}{body:List Stmt}{scope:Scope}{dV kV doc pm cdv ct oc:Value}{an od:Option Addr}
  {osl:Array (Option Value)}{N ps:List Str}{sp:Sp} (lk:K.lookup f=some ⟨oc,od,.func (fnOf name qual params body scope dV kV doc pm an cdv ct),osl⟩) (hcd:codeIn K cdv qual=true) (S:kZ N ps scope)
  (len:∀ vs H Q E,sp vs H Q E->vs.length=ps.length)
  (hbody:∀ (A:Around) (outer:List Env) (s:Shared) (H:Hp) (vs:List V) (Q:VK) (E:XK),Room k (A.deeper (envOfC qual scope s.heap.objs.size f cdv))->sp vs H Q E ->
   ∃ t,PSs (nZ CX P w K mg base N qual scope f cdv A outer s H E) body t/\t { nx:=fun _ H'=>Q .non H',rt:=Q } (start N vs) H) :
  FnOk P w K mg base CX (k + 1) f (fnOf name qual params body scope dV kV doc pm an cdv ct) ps sp:=by
 refine ⟨len,fun A outer s H args us vs Q E hr e0 hb r hsp=>?_⟩;have hl:=len _ _ _ _ hsp;have KX:K.In s.heap:=e0.mod.kin.keeps fun b o e=>(e0.bs b o e).1
 have lim:s.heap.NoLimit:=e0.mod.nolimit.keeps fun b o e=>(e0.bs b o e).1
 have hkind:∀ y ∈ ps.zip us,scope.names.lookup y.1=some .local\/(scope.names.lookup y.1=some .cell/\((cellsFrom (s.heap.objs.size + 1) scope.names []).lookup y.1).isSome=true):=fun hq0 hy=>by
  obtain ⟨n,v⟩:=hq0;rcases S.par n (List.of_mem_zip hy).1 with q | q
  ·exact .inl q
  ·exact .inr ⟨q,cellsFrom_some _ _ _ (.inl q)⟩
 refine codeAny_call_function hr.depth (KX _ _ lk) rfl S.co S.gen rfl (codeRec_of KX hcd) (hb _ _ _ _ ?_);refine wpAny_newFunctionEnv_cells S.kind hkind fun env he s1 x=>?_
 subst he;refine ⟨lim.keeps x.toInCall.keep,codeAny_func ?_⟩;obtain ⟨t,ht,hq⟩:=hbody A outer s H vs Q E (hr.deeper _) hsp;have I:Inv (nZ CX P w K mg base N qual scope f cdv A outer s H E) [] (start N vs) H s1:=vS S hr.hd e0 hl r x;refine yQ (ht [] s1 (start N vs) H _ I hq) (fun fl s' hs=>?_) fun e s' hs=>hs
 have aF:∀ {σ':St}{H':Hp}{v:V}{u:Value},Inv (nZ CX P w K mg base N qual scope f cdv A outer s H E) [] σ' H' s'->RelV v u->Q v H'->CE outer P w H s Q u s' :=
  fun {σ' H' v u} J rv q=>⟨v,H',J.os,J.bare,J.base,J.MB,rv,q⟩
 cases fl with
 | ret u =>
  obtain ⟨v,σ',H',J,rv,q⟩:=hs;exact aF J rv q
 | next =>
  obtain ⟨σ',H',J,q⟩:=hs;exact aF (v:=V.non) (u:=Value.none) J rfl q
 | brk =>
  obtain ⟨_,_,_,q⟩:=hs;exact False.elim q
 | cont =>
  obtain ⟨_,_,_,q⟩:=hs;exact False.elim q
section
variable {X:Cx}{x:Str}{p pos:Pos}{e:Expr}{es:List Expr}{t:TA}{id T:String}{r:List V->Hp->VK->Prop}
def CC (r:List V->Hp->VK->Prop) (t:TA):TE:=fun σ H Q=>t σ H fun vs H1=>r vs H1 Q
theorem xn (hc:bZ X (.builtin id) r) (hg:Gl X x) (hm:X.mg x=none) (hv:bootBuiltins x=some (.builtin id)) (ha:PA X (e::es) t) (hn:x ≠ "__name__":=by decide) (hdb:(x == ("__debug__":Str))=false:=by decide)
  (he:starEach (e::es) X.env=(false,eval e X.env)::starEach es X.env:=by rfl) (hpl:(backTo pos (starEach es X.env)).any (·.1)=false:=by rfl):PE X (.Call (.Name x p) (e::es) [] pos) (CC r t):=by
 intro Mv s σ H Q I h;refine wpAny_Call_Name_kw (cH I hg hm hv ?_ hn hdb);exact PyProof.Rows.callWith_builtin1 (aB (ha pos Mv s σ H _ I h) fun us s1 ⟨vs,H1,I1,r1,q1⟩=>hc Mv s1 σ H1 vs us Q I1 r1 q1) he hpl
theorem ou (hc:bZ X (.type T) r) (hg:Gl X x) (hm:X.mg x=none) (hv:bootBuiltins x=some (.type T)) (ha:PA X (e::es) t) (hn:x ≠ "__name__":=by decide) (hdb:(x == ("__debug__":Str))=false:=by decide)
  (he:starEach (e::es) X.env=(false,eval e X.env)::starEach es X.env:=by rfl) (hpl:(backTo pos (starEach es X.env)).any (·.1)=false:=by rfl):PE X (.Call (.Name x p) (e::es) [] pos) (CC r t):=by
 intro Mv s σ H Q I h;refine wpAny_Call_Name_kw (cH I hg hm hv ?_ hn hdb);exact PyProof.Rows.callWith_type1 (aB (ha pos Mv s σ H _ I h) fun us s1 ⟨vs,H1,I1,r1,q1⟩=>hc Mv s1 σ H1 vs us Q I1 r1 q1) he hpl
end
end L2
namespace HT
open PySem PyProof.Rows
theorem rcLt_int (A:Around) (s:Shared) (a:Int) (t:Tok) (c:Int) (u:Tok) (prog:Program) (w:World) (E:Value->Shared->Prop) (Q:Value->Shared->Prop) (h:Q (.bool (decide (a < c))) s) :
  wpAny (model prog w) A (richCompare .Lt (.int a t) (.int c u)) Q E s :=
 (PyProof.Rows.lt_int h:wpAny (model prog w) A (compareOp .Lt (.int a t) (.int c u)) Q E s)
section
variable {prog:Program}{w:World}{A:Around}{E:Value->Shared->Prop}{s:Shared}
noncomputable def M6 (n d:Nat):Option Int->Nat
 | none=>d
 | some v=>if v < 0 then (v + (n:Int)).toNat else min v.toNat n
theorem sIx_none (n d:Nat):M6 n d none=d:=rfl
theorem sIx_nat (n d k:Nat):M6 n d (some (k:Int))=min k n:=by
 show (if (k:Int) < 0 then ((k:Int) + (n:Int)).toNat else min (k:Int).toNat n)=min k n;rw [yG oM,Int.toNat_natCast]
end
end HT
namespace L2
open PySem PySem.Spec PyProof.Rows
abbrev TO:=St->Hp->(Option Int->Hp->Prop)->Prop
def PO (X:Cx) (e:Option Expr) (t:TO):Prop :=
 ∀ (Mv:List (Addr × Obj)) (s:Shared) (σ:St) (H:Hp) (Q:Option Int->Hp->Prop),Inv X Mv σ H s->t σ H Q ->
  wpAny (model X.prog X.w) X.A (evalPart e X.env) (fun u s'=>∃ o H',Inv X Mv σ H' s'/\IsPart u o/\Q o H') X.xe s
noncomputable def AS:TO:=fun _ H Q=>Q none H
noncomputable def FR (t:TE):TO:=fun σ H Q=>t σ H fun x H1=>∃ i,x=.int i/\Q (some i) H1
theorem ju {ns:List Int}:∀ {us:List Value},Vals (ns.map V.int) us->IntsAre us ns:=by
 induction ns with
 | nil=>intro us r;rw [List.map_nil] at r;cases r;exact .nil
 | cons n ns ih =>
  intro us r;rw [zO] at r;cases r with
  | cons r1 r2 =>
   obtain ⟨t,e⟩:=r1;subst e;exact .cons n t (ih r2)
section
variable {X:Cx}{e:Expr}{te:TE}{lo hi:Option Expr}{tl th:TO}{pos p2:Pos}
theorem Bq:PO X none AS:=by
 intro Mv s σ H Q I h;rw [evalPart_none];exact yF ⟨none,H,I,.none,h⟩
theorem Bp (h:PE X e te):PO X (some e) (FR te):=by
 intro Mv s σ H Q I hw;rw [evalPart_some];refine aB (h Mv s σ H _ I hw) fun u s1 hq0=>?_
 obtain ⟨x,H1,I1,r1,q1⟩:=hq0;obtain ⟨i,rfl,q⟩:=q1;obtain ⟨t,rfl⟩:=r1;exact ⟨some i,H1,I1,.int i t,q⟩
def MH (X:Cx) (r:V->Option Int->Option Int->Hp->VK->Prop):Prop :=
 ∀ (Mv:List (Addr × Obj)) (s:Shared) (σ:St) (H:Hp) (x:V) (v vl vu:Value) (lo hi:Option Int) (sl:Addr) (Q:VK),Inv X Mv σ H s->RelV x v->s.heap.IsSliceOf sl vl vu .none->IsPart vl lo->IsPart vu hi->r x lo hi H Q ->
  ∃ T id,typeLookup (.type T) "__getitem__"=pure (some (.builtin id))/\s.TypeIs v T/\wpAny (model X.prog X.w) X.A (getItem v (.ref sl)) (EP X Mv σ Q) X.xe s
def HY (r:V->Option Int->Option Int->Hp->VK->Prop) (te:TE) (tl th:TO):TE:=fun σ H Q=>te σ H fun x H1=>tl σ H1 fun l H2=>th σ H2 fun u H3=>r x l u H3 Q
theorem xf {r:V->Option Int->Option Int->Hp->VK->Prop} (hr:MH X r) (he:PE X e te) (hl:PO X lo tl) (hu:PO X hi th):PE X (.Subscript e (.Slice lo hi none p2) pos) (HY r te tl th):=by
 intro Mv s σ H Q I h;refine Subscript_ (aB (he Mv s σ H _ I h) fun v s1 hq0=>?_);obtain ⟨x,H1,I1,r1,q1⟩:=hq0;refine wpAny_Slice (aB (hl Mv s1 σ H1 _ I1 q1) fun vl s2 ⟨l,H2,I2,pl,q2⟩=>aB (hu Mv s2 σ H2 _ I2 q2) fun vu s3 hq0=>?_);obtain ⟨u,H3,I3,pu,q3⟩:=hq0;rw [evalPart_none];refine yF ?_;have I4:Inv X Mv σ H3 { s3 with heap:=s3.heap.push { cls:=.type "slice",data:=.fields #[vl,vu,.none] } }:=I3.kept (t':=s3.toks) fun b ob q=>zG _ q
 obtain ⟨T,id,hT,ht,hg⟩:=hr Mv { s3 with heap:=s3.heap.push { cls:=.type "slice",data:=.fields #[vl,vu,.none] } } σ H3 x v vl vu l u s3.heap.objs.size Q I4 r1 (Heap.IsSliceOf.new ..) pl pu q3;show wpAny (model X.prog X.w) X.A (subscriptTail e (.Slice lo hi none p2) v (.ref s3.heap.objs.size)) (EP X Mv σ Q) X.xe { s3 with heap:=s3.heap.push { cls:=.type "slice",data:=.fields #[vl,vu,.none] } };exact tail_any (ops:=[.ref s3.heap.objs.size,v]) ht hT hg (by with_unfolding_all rfl)
def n8 (xs:List V) (lo hi:Option Int):List V:=(xs.drop (HT.M6 xs.length 0 lo)).take (HT.M6 xs.length xs.length hi - HT.M6 xs.length 0 lo)
theorem rh (xs:List V) (lo hi:Option Int):(n8 xs lo hi).length <= xs.length:=by
 unfold n8;rw [List.length_take,List.length_drop];omega
end
noncomputable def lm (n:Nat) (i:Int):Option Nat:=if 0 <= i then (if i < n then some i.toNat else none) else if -(n:Int) <= i then some (i + n).toNat else none
def fL {α:Type} (xs:List α) (i:Int):Option α:=(lm xs.length i).bind fun j=>xs[j]?
theorem sv {n:Nat}{i:Int}{j:Nat} (h:lm n i=some j):seqIndex? i n=some j/\j < n/\-(n:Int) <= i/\i < n:=by
 unfold lm at h;by_cases h0:0 <= i
 ·rw [yH h0] at h
  by_cases h1:i < n
  ·rw [yH h1] at h
   have e:i.toNat=j:=yD h;exact ⟨by rw [seqIndex_of h0 h1,e],by omega,by omega,h1⟩
  ·rw [yG h1] at h;cases h
 ·rw [yG h0] at h
  by_cases h1:-(n:Int) <= i
  ·rw [yH h1] at h
   have e:(i + n).toNat=j:=yD h;exact ⟨by rw [seqIndex_neg oM h1,e],by omega,h1,by omega⟩
  ·rw [yG h1] at h;cases h
theorem kY {α:Type}{xs:List α}{i:Int}{v:α} (h:fL xs i=some v):∃ j,seqIndex? i xs.length=some j/\xs[j]?=some v/\j < xs.length/\-(xs.length:Int) <= i/\i < xs.length:=by
 unfold fL at h;cases e:lm xs.length i with
 | none=>rw [e] at h;cases h
 | some j =>
  rw [e] at h;obtain ⟨h1,h2,h3,h4⟩:=sv e;exact ⟨j,h1,h,h2,h3,h4⟩
def om (b:Expr):Prop:=∀ o i,subscripted b false o i=operate [o,i] (getItem o i)
def IxR (X:Cx) (r:R2):Prop :=
 ∀ (value slice:Expr) (Mv:List (Addr × Obj)) (s:Shared) (σ:St) (H:Hp) (x y:V) (v u:Value) (Q:VK),Inv X Mv σ H s->RelV x v->RelV y u->r x y H Q ->
  subscripted slice false v u=operate [v,u] (getItem v u)->wpAny (model X.prog X.w) X.A (subscriptTail value slice v u) (EP X Mv σ Q) X.xe s
def lK (X:Cx) (id:String) (r:V->List V->Hp->VK->Prop):Prop :=
 ∀ (Mv:List (Addr × Obj)) (s:Shared) (σ:St) (H:Hp) (x:V) (xs:List V) (v:Value) (us:List Value) (Q:VK),Inv X Mv σ H s->RelV x v->Vals xs us->r x xs H Q ->
  wpAny (model X.prog X.w) X.A (call (.builtin id) (v::us)) (EP X Mv σ Q) X.xe s
section
variable {X:Cx}{a b:Expr}{ta tb:TE}{pos:Pos}
theorem IxR.or {r r':R2} (h:IxR X r) (h':IxR X r'):IxR X (fun x y H Q=>r x y H Q\/r' x y H Q):=by
 intro value slice Mv s σ H x y v u Q I rx ry q hs;rcases q with q | q
 ·exact h value slice Mv s σ H x y v u Q I rx ry q hs
 ·exact h' value slice Mv s σ H x y v u Q I rx ry q hs
theorem Gw {r:R2} (hr:IxR X r) (ha:PE X a ta) (hb:PE X b tb) (hs:om b):PE X (.Subscript a b pos) (uU r ta tb):=by
 intro Mv s σ H Q I h;exact Subscript_ (yo ha hb I h fun v u s2 x y H2 I2 rx ry q=>hr a b Mv s2 σ H2 x y v u Q I2 rx ry q (hs _ _))
def CP (K:Frag):R2:=fun x y H Q=>∃ p xs i v,x=.ref p/\y=.int i/\bz K H p xs/\fL xs i=some v/\Q v H
def CN (K:Frag):R2:=fun x y H Q=>∃ p xs i v,x=.ref p/\y=.int i/\gr K H p xs/\fL xs i=some v/\Q v H
def CO:R2:=fun x y H Q=>∃ z i c,x=.str z/\y=.int i/\z.length <= sizeLine/\fL z.cps.toList i=some c/\Q (.str ⟨#[c]⟩) H
theorem ix_list:IxR X (CP X.K):=by
 intro value slice Mv s σ H x y v u Q I rx ry h hs;obtain ⟨p,xs,i,z,rfl,rfl,hq,he,q⟩:=h;cases rx;obtain ⟨t,rfl⟩:=ry;obtain ⟨Mz,r,pl,hz⟩:=I.list hq;obtain ⟨j,h1,h2,h3,h4,h5⟩:=kY he;obtain ⟨w,ew,rw'⟩:=r.get h2;have hl:=r.length;have hn:=gg;have aF:EP X Mv σ Q w s:=⟨z,H,I,rw',q⟩;by_cases h0:0 <= i
 ·have hj:i.toNat=j:=by
   rw [seqIndex_of h0 h5] at h1;exact yD h1
  exact item_listR pl.isList h0 oM (by rw [hj];simpa using ew) aF hs
 ·have hj:(i + (Mz.toArray.size:Int)).toNat=j:=by
   rw [seqIndex_neg oM h4] at h1;rw [zI,<- hl];exact yD h1
  exact subscriptTail_builtinR (x:=w) pl.isList.typeIs slot_list_getitem.lookup
   (wpAny_getItem_list_neg (Q:=fun r s'=>r=w/\EP X Mv σ Q r s') pl.isList oM (by rw [zI] <;> omega) oM (by rw [hj];simpa using ew) ⟨rfl,aF⟩) hs
theorem ix_tup:IxR X (CN X.K):=by
 intro value slice Mv s σ H x y v u Q I rx ry h hs;obtain ⟨p,xs,i,z,rfl,rfl,hq,he,q⟩:=h;cases rx;obtain ⟨t,rfl⟩:=ry;obtain ⟨Mz,r,pl,hz⟩:=I.tuple hq;obtain ⟨j,h1,h2,h3,h4,h5⟩:=kY he;obtain ⟨w,ew,rw'⟩:=r.get h2;have hl:=r.length;have hn:=gg;have aF:EP X Mv σ Q w s:=⟨z,H,I,rw',q⟩;exact subscriptTail_builtinR (x:=w) pl.typeIs slot_tuple_getitem.lookup
  (getItem_tuple (j:=j) (Q:=fun r s'=>r=w/\EP X Mv σ Q r s') pl oM oM (by rw [zI,<- hl];exact h1) (by simpa using ew) ⟨rfl,aF⟩) hs
theorem EM:IxR X CO:=by
 intro value slice Mv s σ H x y v u Q I rx ry h hs;obtain ⟨z,i,c,rfl,rfl,hz,he,q⟩:=h;obtain ⟨t,rfl⟩:=rx;obtain ⟨t',rfl⟩:=ry;obtain ⟨j,h1,h2,h3,h4,h5⟩:=kY he;have hl:z.cps.toList.length=z.length:=by simp [Str.length]
 rw [hl] at h1 h4 h5;have hn:=gg;exact tail_any (typeIs_str s z t) slot_str_getitem.lookup (getItem_str (c:=c) (by
  have e1:decide (i < -(2 ^ 63:Int))=false:=z9 oM;have e2:decide (i ≥ 2 ^ 63)=false:=z9 oM;rw [e1,e2,Bool.or_false]) (by rw [h1];simpa using h2) ⟨.str ⟨#[c]⟩,H,I.tok _,⟨_,rfl⟩,q⟩) hs
def KA (K:Frag):R2:=fun x y H Q=>CP K x y H Q\/CN K x y H Q\/CO x y H Q
theorem qh:IxR X (KA X.K):=ix_list.or (ix_tup.or EM)
theorem tX (Mz:List Value) (n j:Nat) (u:Value):Obj.mapSeq (·.setIfInBounds j u) { cls:=.type "list",data:=.seq Mz.toArray n }={ cls:=.type "list",data:=.seq (Mz.set j u).toArray n }:=by
 simp [Obj.mapSeq]
theorem Inv.lst {Mv:List (Addr × Obj)}{σ:St}{H:Hp}{s:Shared}{p:Addr}{xs:List V} (I:Inv X Mv σ H s) (h:H p=some (.lst xs)) :
  ∃ (Mz:List Value) (n:Nat),Vals xs Mz/\s.heap.get? p=some { cls:=.type "list",data:=.seq Mz.toArray n }/\xs.length <= sizeLine:=by
 obtain ⟨z,Mz,n,r,e⟩:=I.MB p _ h;exact ⟨Mz,n,r,e,z⟩
theorem Inv.lstUpd {Mv:List (Addr × Obj)}{σ:St}{H:Hp}{s:Shared}{p:Addr}{xs ys:List V}{Mz its':List Value}{n n':Nat}{f:Obj->Obj} (I:Inv X Mv σ H s) (h:H p=some (.lst xs))
  (ho:s.heap.get? p=some { cls:=.type "list",data:=.seq Mz.toArray n }) (hf:f { cls:=.type "list",data:=.seq Mz.toArray n }={ cls:=.type "list",data:=.seq its'.toArray n' }) (r:Vals ys its') (hz:ys.length <= sizeLine) (t:Nat) :
  Inv X Mv σ (af H p (.lst ys)) { s with heap:=s.heap.update p f,toks:=t }:=by
 have e:(s.heap.update p f).get? p=some { cls:=.type "list",data:=.seq its'.toArray n' }:=by
  rw [Heap.get?_update_self f ho (by rw [hf] <;> rfl),hf]
 refine I.write (x:=p) (e:=p) (by rw [h];trivial) (.inl rfl) (fun b u hb q=>(Heap.get?_update_other _ _ (Ne.symm hb)).trans q) ⟨_,e⟩ ?_;exact ⟨hz,its',n',r,e⟩
def F3:V->V->V->Hp->(Hp->Prop)->Prop:=fun o i v H Q=>∃ p xs k j,o=.ref p/\i=.int k/\H p=some (.lst xs)/\lm xs.length k=some j/\Q (af H p (.lst (xs.set j v)))
theorem wL:uG X F3:=by
 intro Mv s σ H o i v ov iv u Q I ro ri rv h;obtain ⟨p,xs,k,j,rfl,rfl,hp,hj,q⟩:=h;cases ro;obtain ⟨t,rfl⟩:=ri;obtain ⟨Mz,n,r,ho,hz⟩:=I.lst hp;obtain ⟨h1,h2,h3,h4⟩:=sv hj;have hl:=r.length;have hn:=gg;have I':Inv X Mv σ (af H p (.lst (xs.set j v))) { s with heap:=s.heap.update p (Obj.mapSeq (·.setIfInBounds j u)) } :=
  I.lstUpd hp ho (tX Mz n j u) (r.set rv j) (by rw [List.length_set];exact hz) s.toks
 by_cases h0:0 <= k
 ·have hk:k.toNat=j:=by
   rw [seqIndex_of h0 h4] at h1;exact yD h1
  exact ki_setAt ho h0 oM (by rw [zI,<- hl];exact h4) (by rw [hk];exact ⟨_,I',q⟩)
 ·have hk:(k + (Mz.toArray.size:Int)).toNat=j:=by
   rw [seqIndex_neg oM h3] at h1;rw [zI,<- hl];exact yD h1
  exact ki_setBack ho oM (by rw [zI,<- hl];exact h3) oM (by rw [hk];exact ⟨_,I',q⟩)
theorem pE (lo hi:Option Int) (n:Nat):(sliceBounds lo hi none n).1=((HT.M6 n 0 lo:Nat):Int)/\(sliceBounds lo hi none n).2.1=((HT.M6 n n hi:Nat):Int)/\(sliceBounds lo hi none n).2.2=1:=by
 refine ⟨?_,?_,rfl⟩
 ·cases lo with
  | none=>simp [sliceBounds,HT.M6]
  | some i =>
   simp only [sliceBounds,HT.M6,Option.getD_none,show (1:Int) > 0 by decide,if_true];by_cases h:i < 0
   ·simp only [h,if_true] <;> omega
   ·simp only [h,if_false] <;> omega
 ·cases hi with
  | none=>simp [sliceBounds,HT.M6]
  | some i =>
   simp only [sliceBounds,HT.M6,Option.getD_none,show (1:Int) > 0 by decide,if_true];by_cases h:i < 0
   ·simp only [h,if_true] <;> omega
   ·simp only [h,if_false] <;> omega
theorem oT (Mz:List Value) (lo hi:Option Int):slicePick Mz.toArray lo hi none=((Mz.drop (HT.M6 Mz.length 0 lo)).take (HT.M6 Mz.length Mz.length hi - HT.M6 Mz.length 0 lo)).toArray:=by
 obtain ⟨h1,h2,h3⟩:=pE lo hi Mz.toArray.size;unfold slicePick;rw [h1,h2,h3];simp only [sliceRange_one,pick_run,zI] <;> rfl
def JA (K:Frag):V->Option Int->Option Int->Hp->VK->Prop:=fun x lo hi H Q=>∃ a xs,x=.ref a/\bz K H a xs/\∀ p,H p=none->Q (.ref p) (af H p (.lst (n8 xs lo hi)))
theorem AW:MH X (JA X.K):=by
 intro Mv s σ H x v vl vu lo hi sl Q I rx hs pl pu h;obtain ⟨a,xs,rfl,hx,q⟩:=h;cases rx;obtain ⟨Mz,r,ht,hz⟩:=I.list hx;have hlen:=r.length;refine ⟨"list",_,slot_list_getitem.lookup,ht.isList.typeIs,?_⟩;refine wpAny_getItem_list_slice ht.isList hs pl pu .none (by simp) ?_ (by rw [zI] <;> omega);rw [oT,<- hlen];refine ⟨.ref s.heap.objs.size,_,I.laid (t':=s.toks) (o:=.lst (n8 xs lo hi)) (fun b ob q=>zG _ q) (zP _) ?_,rfl,q _ (I.MB.fresh (zP _))⟩;exact ⟨z0 (rh xs lo hi) hz,_,0,(r.drop (HT.M6 xs.length 0 lo)).take (HT.M6 xs.length xs.length hi - HT.M6 xs.length 0 lo),zY _ rfl⟩
theorem kt:bZ X (.builtin "len") (fun xs H Q=>∃ p ys,xs=[.ref p]/\(bz X.K H p ys\/gr X.K H p ys)/\Q (.int ys.length) H):=by
 intro Mv s σ H xs us Q I r h;obtain ⟨p,ys,rfl,hq,q⟩:=h;obtain ⟨u,rfl,rx⟩:=dB r;cases rx;have hn:=gg;rcases hq with hq | hq
 ·obtain ⟨Mz,r',pl,hz⟩:=I.list hq
  have hlen:=r'.length;exact Calls.call_len_list pl.isList (by simp only [zI] <;> omega) ⟨.int ys.length,H,I.tok _,⟨s.toks + 1,by rw [zI,hlen]⟩,q⟩
 ·obtain ⟨Mz,r',pl,hz⟩:=I.tuple hq
  have hlen:=r'.length;exact len_tuple pl (by simp only [zI] <;> omega) ⟨.int ys.length,H,I.tok _,⟨s.toks + 1,by rw [zI,hlen]⟩,q⟩
theorem qJ:bZ X (.builtin "len") (fun xs H Q=>∃ z,xs=[.str z]/\z.length <= sizeLine/\Q (.int z.length) H):=by
 intro Mv s σ H xs us Q I r h;obtain ⟨z,rfl,hz,q⟩:=h;obtain ⟨u,rfl,t,rfl⟩:=dB r;have hn:=gg;exact len_str oM ⟨.int z.length,H,I.tok _,⟨_,rfl⟩,q⟩
theorem qI:bZ X (.type "list") (fun xs H Q=>∃ p ys,xs=[.ref p]/\(bz X.K H p ys\/gr X.K H p ys)/\∀ l,H l=none->Q (.ref l) (af H l (.lst ys))):=by
 intro Mv s σ H xs us Q I r h;obtain ⟨p,ys,rfl,hq,q⟩:=h;obtain ⟨u,rfl,rx⟩:=dB r;cases rx;have aF:∀ (Mz:List Value),Vals ys Mz->ys.length <= sizeLine->∀ (h':Heap) (c':Nat),(∀ b o',s.heap.get? b=some o'->h'.get? b=some o') ->
   h'.get? s.heap.objs.size=some { cls:=.type "list",dict:=none,data:=.seq Mz.toArray c',slots:=#[] }->EP X Mv σ Q (.ref s.heap.objs.size) { s with heap:=h' }:=fun Mz r' hz h' c' kp e =>
  ⟨.ref s.heap.objs.size,_,I.laid (t':=s.toks) kp (zP _) (show ObjOk X.prog X.w _ h' _ (.lst ys) from ⟨hz,Mz,c',r',e⟩),rfl,q _ (I.MB.fresh (zP _))⟩
 rcases hq with hq | hq
 ·obtain ⟨Mz,r',pl,hz⟩:=I.list hq
  have hlen:=r'.length;obtain ⟨o,ho,hc,n,hd⟩:=pl.isList;exact call_list_seq p (.inl rfl) ho hc hd (fun h' c' kp e=>aF Mz r' hz h' c' kp e) (by simp only [zI] <;> omega)
 ·obtain ⟨Mz,r',pl,hz⟩:=I.tuple hq
  have hlen:=r'.length;obtain ⟨o,ho,hc,n,hd⟩:=pl;exact call_list_seq p (.inr rfl) ho hc hd (fun h' c' kp e=>aF Mz r' hz h' c' kp e) (by simp only [zI] <;> omega)
def uO (K:Frag) (T:String) (x:V) (H:Hp):Prop:=match x with
 | .str _=>T="str"
 | .int _=>T="int"
 | .ref p=>(T="list"/\∃ xs,bz K H p xs)\/(T="tuple"/\∃ o,K.lookup p=some o/\o.cls=.type "tuple"/\o.dict=none) \/
   (T="dict"/\((∃ Mx,H p=some (.dK Mx))\/∃ Mx,H p=some (.dT Mx)))\/(T="set"/\∃ S n,H p=some (.set S n))
 | _=>False
theorem uN {Mv:List (Addr × Obj)}{σ:St}{H:Hp}{s:Shared}{T:String}{x:V}{v:Value} (I:Inv X Mv σ H s) (r:RelV x v) (ty:uO X.K T x H) :
  s.TypeIs v T/\∀ a,v=.ref a->∃ ob,s.heap.get? a=some ob/\ob.dict=none:=by
 cases x with
 | str z =>
  obtain ⟨t,rfl⟩:=r;cases (show T="str" from ty);exact ⟨typeIs_str s z t,fun _ e=>nomatch e⟩
 | int i =>
  obtain ⟨t,rfl⟩:=r;cases (show T="int" from ty);exact ⟨typeIs_int s i t,fun _ e=>nomatch e⟩
 | ref p =>
  cases r;rcases ty with ⟨rfl,xs,hq⟩ | ⟨rfl,o,hk,hc,hd⟩ | ⟨rfl,hk⟩ | ⟨rfl,S,n,hk⟩
  ·obtain ⟨Mz,_,pl,_⟩:=I.list hq
   refine ⟨pl.isList.typeIs,fun a e=>?_⟩;cases e;obtain ⟨o,n,e,c,hd,_⟩:=pl;exact ⟨o,e,hd⟩
  ·refine ⟨⟨o,I.kIn p o hk,hc⟩,fun a e=>?_⟩
   cases e;exact ⟨o,I.kIn _ o hk,hd⟩
  ·have z:∃ o,s.heap.get? p=some o/\o.ExactDict:=by
    rcases hk with ⟨Mx,hk⟩ | ⟨Mx,hk⟩
    ·obtain ⟨_,_,_,_,o,_,_,e,ex,_⟩:=I.MB p _ hk
     exact ⟨o,e,ex⟩
    ·obtain ⟨_,_,_,_,o,_,_,e,ex,_⟩:=I.MB p _ hk
     exact ⟨o,e,ex⟩
   obtain ⟨o,e,ex⟩:=z;refine ⟨⟨o,e,ex.1⟩,fun a e2=>?_⟩;cases e2;exact ⟨o,e,ex.2.1⟩
  ·obtain ⟨o,_,_,_,e,ex,_⟩:=I.MB p _ hk
   refine ⟨⟨o,e,ex.1⟩,fun a e2=>?_⟩;cases e2;exact ⟨o,e,ex.2.1⟩
 | _=>exact False.elim ty
def Jo (K:Frag) (T:String) (r:V->List V->Hp->VK->Prop) (to:TE):TE:=fun σ H Q=>to σ H fun x H1=>uO K T x H1/\r x [] H1 Q
def H0 (K:Frag) (T:String) (r:V->List V->Hp->VK->Prop) (to:TE) (t:TA):TE:=fun σ H Q=>to σ H fun x H1=>uO K T x H1/\t σ H1 fun xs H2=>r x xs H2 Q
variable {o e:Expr}{es:List Expr}{to:TE}{t:TA}{name:Str}{apos cpos:Pos}{T id:String}{r:V->List V->Hp->VK->Prop}
theorem DB (pa:PlainAttrs T) (slot:Slot T name id) (hty:typeOf (.builtin id)=pure (.type "method_descriptor")) (hm:lK X id r) (ho:PE X o to)
  (hbase:attributeBase o name X.env (eval o X.env)=eval o X.env:=by rfl) (hline:(apos.endLine == cpos.line)=true:=by rfl):PE X (.Call (.Attribute o name apos) [] [] cpos) (Jo X.K T r to):=by
 intro Mv s σ H Q I h;refine wpAny_Call_method0_late hbase hline (aB (ho Mv s σ H _ I h) fun v s1 hq0=>?_);obtain ⟨x,H1,I1,r1,ty,q1⟩:=hq0;obtain ⟨h1,h2⟩:=uN I1 r1 ty;exact ⟨T,id,pa,slot,hty,h1,h2,Calls.callWith_builtin rfl (PySem.evalArgs_none (hm Mv s1 σ H1 x [] v [] Q I1 r1 .nil q1))⟩
theorem Gx (pa:PlainAttrs T) (slot:Slot T name id) (hty:typeOf (.builtin id)=pure (.type "method_descriptor")) (hm:lK X id r) (ho:PE X o to) (ha:PA X (e::es) t)
  (hbase:attributeBase o name X.env (eval o X.env)=eval o X.env:=by rfl)
  (hfew:((backTo cpos (starEach (e::es) X.env)).all (fun x=>!x.1) && (backToKw cpos (keywordEach [] X.env)).all (fun x=>x.1.isSome)
   && decide ((e::es).length + ([]:List Keyword).length + (if ([]:List Keyword).isEmpty then 0 else 1) < 30))=true:=by rfl)
  (hline:(apos.endLine == cpos.line)=true:=by rfl) (hs:starEach (e::es) X.env=(false,eval e X.env)::starEach es X.env:=by rfl) (hplain:(backTo cpos (starEach es X.env)).any (·.1)=false:=by rfl) :
  PE X (.Call (.Attribute o name apos) (e::es) [] cpos) (H0 X.K T r to t):=by
 intro Mv s σ H Q I h;refine wpAny_Call_method_late hbase hfew hline rfl (aB (ho Mv s σ H _ I h) fun v s1 hq0=>?_);obtain ⟨x,H1,I1,r1,ty,q1⟩:=hq0;obtain ⟨h1,h2⟩:=uN I1 r1 ty;refine ⟨T,id,pa,slot,hty,h1,h2,?_⟩;have hA:=ha cpos Mv s1 σ H1 _ I1 q1;rw [hs] at hA ⊢;refine Calls.callWith_builtin (by show (false || (backTo cpos (starEach es X.env)).any (·.1))=false;rw [hplain] <;> rfl) (Calls.evalArgs_plain ?_);exact aB hA fun us s2 ⟨vs,H2,I2,r2,q2⟩=>hm Mv s2 σ H2 x vs v us Q I2 r1 r2 q2
end
def FC (X:Cx) (id:String) (r:V->List V->Hp->VK->Prop):Prop :=
 ∀ (Mv:List (Addr × Obj)) (s:Shared) (σ:St) (H:Hp) (x:V) (xs:List V) (v:Value) (us:List Value) (Q:VK),Inv X Mv σ H s->RelV x v->Vals xs us->r x xs H Q ->
  wpAny (model X.prog X.w) X.A (call (.builtin id) (v::us)) (EP X Mv σ Q) X.xe s
theorem Vals.one {x:V}{us:List Value} (h:Vals [x] us):∃ u,us=[u]/\RelV x u:=by
 cases h with
 | cons r h=>cases h;exact ⟨_,rfl,r⟩
theorem Vals.zero:∀ {us:List Value},Vals [] us->us=[]
 | _,.nil=>rfl
theorem Vals.dropLast {xs:List V}{us:List Value} (h:Vals xs us):Vals xs.dropLast us.dropLast:=by
 induction h with
 | nil=>exact .nil
 | cons r t ih =>
  cases t with
  | nil=>exact .nil
  | cons q t'=>exact .cons r ih
theorem Vals.rep {xs:List V}{us:List Value} (h:Vals xs us):∀ k:Nat,Vals (List.replicate k xs).flatten (List.replicate k us).flatten
 | 0=>.nil
 | k + 1=>by
  rw [List.replicate_succ,List.replicate_succ,List.flatten_cons,List.flatten_cons];exact Vals.append h (Vals.rep h k)
theorem uv {α:Type} (l:List α):l.eraseIdx (l.length - 1)=l.dropLast:=by
 induction l with
 | nil=>rfl
 | cons a r ih =>
  cases r with
  | nil=>rfl
  | cons b r =>
   have e:(a::b::r).length - 1=((b::r).length - 1) + 1:=by
    have h1:(a::b::r).length=r.length + 2:=rfl;have h2:(b::r).length=r.length + 1:=rfl;omega
   rw [e,List.eraseIdx_cons_succ,ih]
   all_goals rfl
theorem oE (Mz:List Value):∀ (k:Nat) (acc:List Value),
  List.foldl (fun x1 x2=>x1++x2) acc.toArray (List.replicate k Mz.toArray)=(acc++(List.replicate k Mz).flatten).toArray
 | 0,acc=>by simp
 | k + 1,acc=>by
  have e:acc.toArray++Mz.toArray=(acc++Mz).toArray:=by simp
  have e2:(acc++Mz)++(List.replicate k Mz).flatten=acc++(List.replicate (k + 1) Mz).flatten:=by
   rw [List.replicate_succ,List.flatten_cons,yM]
  rw [<- e2,<- oE Mz k (acc++Mz),<- e,List.replicate_succ,List.foldl_cons]
section
variable {X:Cx}{Mv:List (Addr × Obj)}{σ:St}{H:Hp}{s:Shared}{l b:Addr}{xs ys zs:List V}
theorem Inv.lset {Mz its':List Value}{n:Nat}{f:Array Value->Array Value}{t':Nat} (I:Inv X Mv σ H s) (hH:H l=some (.lst xs))
  (e:s.heap.get? l=some { cls:=.type "list",data:=.seq Mz.toArray n }) (hf:f Mz.toArray=its'.toArray) (hv:Vals ys its') (hz:ys.length <= sizeLine) :
  Inv X Mv σ (af H l (.lst ys)) { s with heap:=s.heap.update l (Obj.mapSeq f),toks:=t' }:=by
 have q:=PySem.IsL.update e f;rw [hf] at q;refine I.write (x:=l) (e:=l) (by rw [hH];exact trivial) (.inl rfl) (fun b' u hb hu=>(Heap.get?_update_other s.heap (Obj.mapSeq f) (Ne.symm hb)).trans hu) ⟨_,q⟩ ?_;exact ⟨hz,its',_,hv,q⟩
theorem Inv.lnew {Mz:List Value}{t':Nat} (I:Inv X Mv σ H s) (hv:Vals ys Mz) (hz:ys.length <= sizeLine) :
  Inv X Mv σ (af H s.heap.objs.size (.lst ys)) { s with heap:=s.heap.push { cls:=.type "list",data:=.seq Mz.toArray },toks:=t' } :=
 I.laid (fun _ _ q=>zG _ q) (zP _) ⟨hz,Mz,0,hv,zY _ rfl⟩
theorem Inv.fresh (I:Inv X Mv σ H s):H s.heap.objs.size=none:=I.MB.fresh (zP _)
theorem Inv.lstM (I:Inv X Mv σ H s) (hH:H l=some (.lst xs)):xs.length <= sizeLine/\∃ (Mz:List Value) (n:Nat),Vals xs Mz/\xs.length=Mz.length/\s.heap.get? l=some { cls:=.type "list",data:=.seq Mz.toArray n }:=by
 obtain ⟨z,Mz,n,r,e⟩:=I.MB l _ hH;exact ⟨z,Mz,n,r,r.length,e⟩
theorem notLongL {n:Nat} (h:n <= sizeLine):Builtin.List.listTooLong n=false:=by
 unfold Builtin.List.listTooLong;exact z9 oM
end
section
variable {X:Cx}
def AZ:V->List V->Hp->VK->Prop:=fun x vs H Q=>∃ l xs y,x=.ref l/\vs=[y]/\H l=some (.lst xs)/\xs.length < sizeLine/\Q .non (af H l (.lst (xs++[y])))
theorem oz:FC X "list.append" AZ:=by
 intro Mv s σ H x vs v us Q I rx rv h;obtain ⟨l,xs,y,rfl,rfl,hH,hz,q⟩:=h;cases rx;obtain ⟨u,rfl,ru⟩:=rv.one;obtain ⟨z,Mz,n,r,hl,e⟩:=I.lstM hH;refine call_meets F.slot_list_append ⟨_,e,rfl⟩ F.entry_list_append (F.args_list_append_2 _ _) (PySem.list_append l Mz.toArray n u (by rw [zI];omega)) ⟨e,?_⟩;refine ⟨.non,_,I.lset (its':=Mz++[u]) hH e (by simp) (r.append (.cons ru .nil)) ?_,rfl,q⟩;rw [zV,List.length_singleton];omega
def JC:V->List V->Hp->VK->Prop:=fun x vs H Q=>∃ l xs y,x=.ref l/\vs=[]/\H l=some (.lst xs)/\xs[xs.length - 1]?=some y/\Q y (af H l (.lst xs.dropLast))
theorem Eg:FC X "list.pop" JC:=by
 intro Mv s σ H x vs v us Q I rx rv h;obtain ⟨l,xs,y,rfl,rfl,hH,hy,q⟩:=h;cases rx;have hus:=rv.zero;subst hus;obtain ⟨z,Mz,n,r,hl,e⟩:=I.lstM hH;obtain ⟨u,hu,ru⟩:=r.get hy;have hy':Mz.toArray[Mz.toArray.size - 1]?=some u:=by
  show Mz.toArray[Mz.length - 1]?=some u;rw [<- Array.getElem?_toList,<- hl];exact hu
 refine call_meets F.slot_list_pop ⟨_,e,rfl⟩ F.entry_list_pop (F.args_list_pop_1 _) (MeetsSeq.list_pop_last l Mz.toArray n u hy' (by rw [zI];omega)) ⟨e,?_⟩;refine ⟨y,_,I.lset (its':=Mz.dropLast) hH e ?_ r.dropLast ?_,ru,q⟩
 ·show Mz.toArray.eraseIdxIfInBounds (Mz.toArray.size - 1)=Mz.dropLast.toArray
  rw [zI,List.eraseIdxIfInBounds_toArray,uv]
 ·rw [List.length_dropLast]
  omega
def JB:R2:=fun x y H Q=>∃ l k xs,x=.ref l/\y=.int k/\H l=some (.lst xs)/\-(2 ^ 63) <= k/\k < 2 ^ 63/\xs.length * k.toNat <= sizeLine /\
 ∀ p,H p=none->Q (.ref p) (af H p (.lst (List.replicate k.toNat xs).flatten))
theorem BW {α:Type} (xs:List α) (k:Nat):(List.replicate k xs).flatten.length=k * xs.length:=by
 induction k with
 | zero=>simp
 | succ k ih=>rw [List.replicate_succ,List.flatten_cons,zV,ih,Nat.succ_mul,Nat.add_comm]
theorem DJ:kC X (binaryOp .Mult) JB:=by
 intro Mv s σ H x y v u Q I rx ry h;obtain ⟨l,k,xs,rfl,rfl,hH,h1,h2,hz,q⟩:=h;cases rx;obtain ⟨t,rfl⟩:=ry;obtain ⟨z,Mz,n,r,hl,e⟩:=I.lstM hH;have hlen:Mz.toArray.size * k.toNat <= sizeLine:=by rw [zI,<- hl];exact hz
 have hcap:¬ Mz.toArray.size * k.toNat > (2 ^ 63 - 1) / 8:=by
  have:(sizeLine:Nat) <= (2 ^ 63 - 1) / 8:=by decide
  omega
 have hfit:¬ (!Builtin.List.listFitsIndex k)=true:=by
  rw [fitsIndex_both h1 h2];exact Bool.false_ne_true
 have hlong:¬ Builtin.List.listTooLong (Mz.toArray.size * k.toNat)=true:=by
  rw [notLongL hlen];exact Bool.false_ne_true
 have hnew:List.foldl (fun x1 x2=>x1++x2) #[] (List.replicate (if Mz.toArray.isEmpty=true then 0 else k.toNat) Mz.toArray)=(List.replicate k.toNat Mz).flatten.toArray:=by
  have f0:∀ m:Nat,List.foldl (fun x1 x2=>x1++x2) #[] (List.replicate m Mz.toArray)=(List.replicate m Mz).flatten.toArray:=fun m=>by
   have:=oE Mz m []
   rw [List.nil_append] at this;exact this
  rw [f0];cases Mz with
  | nil=>simp
  | cons a r'=>rw [yG (by simp)]
 refine wpAny_binaryOp_repeat_ref (T:="list") (U:="int") dC ⟨_,e,rfl⟩ (fun s'=>typeIs_int s' k t) noFill_list_mul F.fills_int_mul F.slot_int_rmul repeat_list F.slot_int_index.lookup
  (call_meets F.slot_int_rmul (typeIs_int s k t) F.entry_int_rmul (F.args_int_rmul_2 _ _) (int___rmul___int_list k t l Mz.toArray n)
   ⟨e,rfl,⟨_,e,rfl⟩,call_meets F.slot_list_mul ⟨_,e,rfl⟩ F.entry_list_mul (F.args_list_mul_2 _ _) (AutoListH.list___mul___list_int_3 l Mz.toArray n k t hfit hcap hlong) ⟨e,?_⟩⟩)
 rw [hnew];exact ⟨.ref _,_,I.lnew (t':=s.toks) (r.rep k.toNat) (by rw [BW,Nat.mul_comm];exact hz),rfl,q _ I.fresh⟩
end
end L2
namespace Att
open PySem PySem.W PySem.Calls PyProof.Rows
theorem mR {P:Params}{h:Heap}:∀ (ns:List Int) (vs:List Value),WellAll P h vs (ns.map WData.int)->IntsAre vs ns:=by
 intro ns
 induction ns with
 | nil =>
  intro vs w;rw [List.map_nil] at w;cases w;exact .nil
 | cons n ns ih =>
  intro vs w;rw [zO] at w;cases w with
  | cons a b =>
   cases a;exact .cons _ _ (ih _ b)
theorem uZ {l:OpenLaw}{n:Nat} (hn:l.most=some n) {P:Params}{h:Heap}{args:List WData}{vals:List Value}
  (hpre:l.row.toRowW.claim.pre args=true) (hwl:WellAll P h vals args) :
  ∃ a vs ns,vals=[Value.ref a]/\args=[WData.list (ns.map WData.int)]/\h.get? a=some { cls:=.type "list",data:=.seq vs.toArray }/\IntsAre vs ns/\ns.length <= n:=by
 have hsh:WShape.hasAll [] args [.list .int]=true:=(pre_splitW hpre).1;have hc:l.pre.holds [] { args:=args }=true:=(pre_splitW hpre).2;obtain ⟨d,r,rfl,h1,h2⟩:=hasAllW_cons hsh;obtain rfl:=hasAllW_nil h2;obtain ⟨xs,rfl,h3⟩:=hasW_list h1;obtain ⟨ns,rfl⟩:=items_int h3;have hlen:ns.length <= n:=by
  unfold OpenLaw.pre at hc;have h4:(WTm.not (.lt (.lit (.int (n:Int))) (.len (.arg 0)))).holds [] { args:=[.list (ns.map .int)] }=true:=by
   have h4:=(holds_andW hc).1;rw [hn] at h4;exact h4
  have h5:=condW_of h4 (w_not (w_lt w_lit (w_len_list (w_arg rfl))));rw [zH] at h5;refine Nat.le_of_not_lt fun q=>?_
  have q':(n:Int) < ((ns.length:Nat):Int):=by omega
  first
   | (rw [yS q'] at h5;exact absurd h5 dC)
   | (simp at h5;omega)
 cases hwl with
 | cons w1 w2 =>
  cases w2;cases w1 with
  | list ho hall=>exact ⟨_,_,ns,rfl,rfl,ho,mR ns _ hall,hlen⟩
theorem vi (l:OpenLaw) (args:List WData):l.row.toRowW.claim.post args (.bool true) args=true :=
 postW_of (r:=l.row.toRowW) (X:=(true == true))
  (show WShape.has [] (.bool true) .bool=true by first | rfl | decide | simp [WShape.has,WShape.arms,WShape.armsAll])
  (show (WTm.eq .res (.lit (.bool true))).value [] { args:=args,res:=some (.bool true),after:=args }=some (.bool (true == true)) from w_eq_bool (w_res rfl) w_lit) rfl
theorem attach_call {l:OpenLaw}{n:Nat}{q:Program}{bK:List Str}{XP:(Str->Option Value)->Heap->Prop}{YP:World->Heap->Prop}{d:DefRec}
  (hn:l.most=some n) (hdf:d.params.defaults=[])
  (call:∀ (w:World) (s₀ s₁:Shared) (mg mb:Str->Option Value) (fa:Addr) (o:Obj) (pm cd doc:Value) (a:Addr) (vs:List Value) (ns:List Int),
   Ground q bK [] XP w s₀ mg mb s₁.heap->YP w s₁.heap ->
   s₁.heap.get? fa=some o->o.data=.func (docDef d.name d.params d.body d.scope pm cd doc)->s₁.heap.CodeRec cd d.name->mg d.name=some (.ref fa) ->
   s₁.heap.get? a=some { cls:=.type "list",data:=.seq vs.toArray }->IntsAre vs ns->ns.length <= n->s₁.gens=#[] ->
   codeAny (model l.prog w) callerA (.call (.ref fa) ⟨[.ref a],[]⟩) (fun r s'=>r=.ok (.ret (.bool true))/\OldK s₁.heap s'.heap/\s'.os=s₁.os/\AllBare s'.gens) s₁) :
  WalkO q bK XP YP l.row.toRowW d [] (fun f vs=>PySem.call f vs):=by
 intro w s₀ s₁ mg mb G Y fa o pm cd doc dV kV ho hd hcd hD hmg hg args vals as hpre hlay hrd hwl hlo;obtain rfl:dV=.none:=Dflts.none hD hdf;obtain rfl:kV=.none:=Dflts.noKw hD;obtain ⟨a,vs,ns,rfl,rfl,hobj,hints,hlen⟩:=uZ hn hpre hwl;refine enter_call (codeAny_mono (call w s₀ s₁ mg mb fa o pm cd doc a vs ns G Y ho (fd_plain hd) hcd hmg hobj hints hlen hg) fun r s' hq=>?_);obtain ⟨rfl,h2,h3,h4⟩:=hq;exact ⟨.inl ⟨.bool true,.bool true,[],rfl,fun _=>rfl,.bool true,vi l _,fun _=>⟨List.Pairwise.nil,fun _ hm=>(nomatch hm)⟩⟩,h2,h3,h4⟩
end Att
namespace L2
open PySem PySem.Spec PyProof.Rows
theorem uK:∀ {vs:List Value}{ns:List Int},IntsAre vs ns->Vals (ns.map V.int) vs:=by
 intro vs ns h
 induction h with
 | nil=>exact .nil
 | cons n t h ih=>exact .cons ⟨t,rfl⟩ ih
noncomputable def dh (s:Stmt):Arguments:=match s with
 | .FunctionDef _ a _ _ _ _ _ _ _ _=>a
 | _=>{ posonlyargs:=[],args:=[],vararg:=none,kwonlyargs:=[],kw_defaults:=[],kwarg:=none,defaults:=[] }
noncomputable def dJ (s:Stmt):List Stmt:=match s with
 | .FunctionDef _ _ b _ _ _ _ _ _ _=>b
 | _=>[]
noncomputable def ce (s:Stmt):Scope:=match s with
 | .FunctionDef _ _ _ _ _ _ sc _ _ _=>sc
 | _=>{ kind:=.function,names:=[],isGenerator:=false,isCoroutine:=false }
abbrev d5:kD:=fun _ _ _ _ _ _=>False
abbrev E0:XK:=fun _ _ _=>False
theorem mC {X:Cx}:gw d5 X E0:=fun _ _ _ _ _ _ _ h=>h.elim
structure Fun (K:Frag) (x qual:Str) (st:Stmt) (f:Addr) (fd:FuncData):Prop where
 ex:∃ (oc:Value) (od:Option Addr) (kV doc pm:Value) (an:Option Addr) (cdv ct:Value) (osl:Array (Option Value)),
  fd=fnOf x qual (dh st) (dJ st) (ce st) .none kV doc pm an cdv ct/\K.lookup f=some ⟨oc,od,.func fd,osl⟩/\codeIn K cdv qual=true
 kp:keepIn K (.ref f)=true
section
variable {P:Program}{w:World}{K:Frag}{mg:Str->Option Value}{base:Heap}
theorem Fun.binds {x qual:Str}{st:Stmt}{f:Addr}{fd:FuncData}{ps:List Str} (F:Fun K x qual st f fd)
  (h:∀ (kV doc pm:Value) (an:Option Addr) (cdv ct:Value) (us:List Value),us.length=ps.length->bindArgs (fnOf x qual (dh st) (dJ st) (ce st) .none kV doc pm an cdv ct) ⟨us,[]⟩=pure (ps.zip us)):Binds K fd ps []:=by
 obtain ⟨oc,od,kV,doc,pm,an,cdv,ct,osl,rfl,lk,hcd⟩:=F.ex;exact .all (h kV doc pm an cdv ct)
theorem mV {x qual:Str}{st:Stmt}{f:Addr}{oc:Value}{od an:Option Addr}{osl:Array (Option Value)}{kV doc pm cdv ct:Value} (l:K.lookup f=some ⟨oc,od,.func (fnOf x qual (dh st) (dJ st) (ce st) .none kV doc pm an cdv ct),osl⟩)
  (c:codeIn K cdv qual=true) (k:keepIn K (.ref f)=true):Fun K x qual st f (fnOf x qual (dh st) (dJ st) (ce st) .none kV doc pm an cdv ct):=⟨⟨oc,od,kV,doc,pm,an,cdv,ct,osl,rfl,l,c⟩,k⟩
end
theorem jU {n:Nat} (h:n <= 1000):n < sizeLine:=yL h dC
end L2
set_option maxHeartbeats 4000000
namespace DD
open PySem PySem.Spec PyProof.Rows L2
abbrev St:=L2.St
section
variable {X:Cx}{e:Expr}{es:List Expr}{st:Stmt}{sts:List Stmt}
theorem PE_imp {t t':TE} (h:PE X e t) (i:∀ σ H Q,t' σ H Q->t σ H Q):PE X e t':=fun Mv s σ H Q I h'=>h Mv s σ H Q I (i σ H Q h')
theorem PT_imp {t t':TT} (h:PT X e t) (i:∀ σ H Q,t' σ H Q->t σ H Q):PT X e t':=fun Mv s σ H Q I h'=>h Mv s σ H Q I (i σ H Q h')
theorem PW_imp {t t':TT} (h:PW X e t) (i:∀ σ H Q,t' σ H Q->t σ H Q):PW X e t':=fun wh Mv s σ H Q I h'=>h wh Mv s σ H Q I (i σ H Q h')
theorem PA_imp {t t':TA} (h:PA X es t) (i:∀ σ H Q,t' σ H Q->t σ H Q):PA X es t':=fun p Mv s σ H Q I h'=>h p Mv s σ H Q I (i σ H Q h')
theorem PS_imp {t t':TS} (h:PS X st t) (i:∀ D σ H,t' D σ H->t D σ H):PS X st t':=fun Mv s σ H D I h'=>h Mv s σ H D I (i D σ H h')
theorem PSs_imp {t t':TS} (h:PSs X sts t) (i:∀ D σ H,t' D σ H->t D σ H):PSs X sts t':=fun Mv s σ H D I h'=>h Mv s σ H D I (i D σ H h')
theorem OpR_imp {f:Value->Value->Sem Value}{r r':R2} (h:kC X f r) (i:∀ x y H Q,r' x y H Q->r x y H Q):kC X f r':=fun Mv s σ H x y v u Q I a b h'=>h Mv s σ H x y v u Q I a b (i x y H Q h')
end
theorem PG_imp {X:Cx}{tg:Expr}{t t':TG} (h:PG X tg t) (i:∀ v σ H Q,t' v σ H Q->t v σ H Q):PG X tg t':=fun Mv s σ H v u Q I rv h'=>h Mv s σ H v u Q I rv (i v σ H Q h')
end DD
namespace L2
open PySem PySem.Spec PyProof.Rows
theorem nk:∀ (names:List (Str × NameKind)) (n:Nat) (acc:List (Str × Addr)),∃ own,cellsFrom n names acc=own++acc/\(∀ p ∈ own,n <= p.2/\(p.1,NameKind.cell) ∈ names) /\
  (∀ x,(x,NameKind.cell) ∈ names->∃ c,(x,c) ∈ own)/\own.Pairwise fun x y=>x.2 ≠ y.2
 | [],n,acc=>⟨[],rfl,(fun _ h=>by cases h),(fun _ h=>by cases h),List.Pairwise.nil⟩
 | (name,kind)::r,n,acc=>by
  unfold cellsFrom;by_cases hk:kind=.cell
  ·subst hk
   obtain ⟨own,e,h1,h2,h3⟩:=nk r (n + 1) ((name,n)::acc);refine ⟨own++[(name,n)],?_,?_,?_,?_⟩
   ·rw [yH dC,e,yM];rfl
   ·intro p hp
    rcases zZ.mp hp with hp | hp
    ·exact ⟨Nat.le_of_succ_le (h1 p hp).1,zQ _ (h1 p hp).2⟩
    ·rw [zM.mp hp];exact ⟨zP _,z6⟩
   ·intro x hx
    rcases zT.mp hx with hx | hx
    ·cases hx;exact ⟨n,zK _ z6⟩
    ·obtain ⟨c,hc⟩:=h2 x hx;exact ⟨c,zL _ hc⟩
   ·refine List.pairwise_append.mpr ⟨h3,List.pairwise_singleton _ _,fun a ha b hb e=>?_⟩
    rw [zM.mp hb] at e;have h5:=(h1 a ha).1;rw [show a.2=n from e] at h5;exact absurd h5 (Nat.not_succ_le_self n)
  ·obtain ⟨own,e,h1,h2,h3⟩:=nk r n acc
   have hk':(kind == NameKind.cell)=false:=by cases kind <;> first | rfl | exact absurd rfl hk
   refine ⟨own,by rw [hk'];exact e,fun p hp=>⟨(h1 p hp).1,zQ _ (h1 p hp).2⟩,fun x hx=>?_,h3⟩;rcases zT.mp hx with hx | hx
   ·cases hx;exact absurd rfl hk
   ·exact h2 x hx
theorem jy {scope:Scope}{env:Env} (h:∀ x,(x,NameKind.free) ∈ scope.names->∃ c,env.cells.lookup x=some c) :
  ∃ cl,closureFor scope env=pure cl/\(∀ p ∈ cl,env.cells.lookup p.1=some p.2)/\∀ x,(x,NameKind.free) ∈ scope.names->∃ c,(x,c) ∈ cl:=by
 have all:∀ (names:List (Str × NameKind)) (acc:List (Str × Addr)),(∀ x,(x,NameKind.free) ∈ names->∃ c,env.cells.lookup x=some c)->(∀ p ∈ acc,env.cells.lookup p.1=some p.2) ->
   ∃ cl,(forIn (m:=Sem) names acc fun (p:Str × NameKind) (cs:List (Str × Addr))=>if (p.2 == NameKind.free)=true then do let __do_lift <- cellOf env p.1;pure (ForInStep.yield ((p.1,__do_lift)::cs)) else pure (ForInStep.yield cs))=pure cl /\
    (∀ p ∈ cl,env.cells.lookup p.1=some p.2)/\(∀ p ∈ acc,p ∈ cl)/\∀ x,(x,NameKind.free) ∈ names->∃ c,(x,c) ∈ cl:=by
  intro names
  induction names with
  | nil=>intro acc _ ha;exact ⟨acc,by rw [List.forIn_nil],ha,fun _ h=>h,(fun _ h=>by cases h)⟩
  | cons p r ih =>
   obtain ⟨name,kind⟩:=p;intro acc hn ha;by_cases hk:kind=.free
   ·subst hk
    obtain ⟨c,hc⟩:=hn name z6;obtain ⟨cl,e,h1,h2,h3⟩:=ih ((name,c)::acc) (fun x hx=>hn x (zQ _ hx)) (fun p hp=>by
     rcases zT.mp hp with rfl | hp
     ·exact hc
     ·exact ha p hp)
    refine ⟨cl,?_,h1,fun p hp=>h2 p (zQ _ hp),fun x hx=>?_⟩
    ·rw [List.forIn_cons]
     have ec:cellOf env name=pure c:=by unfold cellOf;rw [hc]
     simp only [ec];exact e
    ·rcases zT.mp hx with hx | hx
     ·cases hx;exact ⟨c,h2 _ z6⟩
     ·exact h3 x hx
   ·obtain ⟨cl,e,h1,h2,h3⟩:=ih acc (fun x hx=>hn x (zQ _ hx)) ha
    have hk':(kind == NameKind.free)=false:=by cases kind <;> first | rfl | exact absurd rfl hk
    refine ⟨cl,?_,h1,h2,fun x hx=>?_⟩
    ·rw [List.forIn_cons];simp only [hk',yA,if_false];exact e
    ·rcases zT.mp hx with hx | hx
     ·cases hx;exact absurd rfl hk
     ·exact h3 x hx
 obtain ⟨cl,e,h1,_,h3⟩:=all scope.names [] h (fun _ h=>by cases h);refine ⟨cl,?_,h1,h3⟩;simp only [closureFor];rw [e];rfl
theorem xz {M:Model}{A:Around}{E:Value->Shared->Prop}{s:Shared}{scope:Scope}{env:Env}{cl:List (Str × Addr)}{Q:Env->Shared->Prop}
  (hQ:Q (newEnv scope s.heap.objs.size env.globals (cellsFrom (s.heap.objs.size + 1) scope.names cl) env.qual none .none (some env) builtinsNs) { s with heap:=pushCells (s.heap.push { cls:=.type "dict",data:=.dict #[] }) scope.names }) :
  wpAny M A (newFunctionEnv scope env.globals cl [] env.qual none .none (some env)) Q E s:=by
 simp only [newFunctionEnv,Option.isSome_some,if_true];refine yE (wpAny_alloc ?_);refine yE (wpAny_layCells _ (fun name kind cells=>by cases hkc:kind == NameKind.cell <;> simp [hkc]) _ _ _ _ ?_);rw [show ({ s with heap:=s.heap.push { cls:=.type "dict",data:=.dict #[] } }:Shared).heap.objs.size=s.heap.objs.size + 1 from Heap.size_push ..];refine yE ?_;rw [List.forIn_nil];exact yF (yF hQ)
def cg (X:Cx) (N':List Str) (scope:Scope) (cl:List (Str × Addr)) (s:Shared) (H:Hp) (fp:List Addr) (Mv:List (Addr × Obj)):Cx :=
 { X with N:=N',s₀:=s,H₀:=H,env:=compEnvC scope (cellsFrom (s.heap.objs.size + 1) scope.names cl) s.heap.objs.size X.env,outer:=X.stack,stack:=X.stack,ex:=fp,
          fn:=fun x=>scope.names.lookup x == some .cell,pn:=X.pn++Mv,xe:=fun _ _=>False }
structure jF (X:Cx) (N':List Str) (scope:Scope):Prop where
 kind:scope.kind=.function
 nd:(scope.names.map (·.1)).Nodup
 len:X.N.length <= N'.length
 free:∀ x,(x,NameKind.free) ∈ scope.names->X.env.kindOf x=some .cell\/X.env.kindOf x=some .free
 same:∀ i x,i < X.N.length->N'[i]?=some x->(x,NameKind.free) ∈ scope.names->X.N[i]?=some x
 hid:∀ i x,i < X.N.length->N'[i]?=some x->(∃ k,(x,k) ∈ scope.names)->(x,NameKind.free) ∈ scope.names
theorem cL {α:Type}:∀ {l:List (Str × α)}{x:Str}{k:α},(l.map (·.1)).Nodup->(x,k) ∈ l->l.lookup x=some k
 | (y,j)::r,x,k,nd,h=>by
  rw [zO,List.nodup_cons] at nd;rcases zT.mp h with h | h
  ·cases h;rw [yN];simp
  ·have ne:x ≠ y:=fun e=>nd.1 (e ▸ List.mem_map_of_mem (f:=(·.1)) h)
   rw [yN];have:(x == y)=false:=by simpa using ne
   rw [this];exact cL nd.2 h
theorem eZ {α:Type}:∀ {l:List (Str × α)}{x:Str}{k:α},(x,k) ∈ l->∃ k',l.lookup x=some k'
 | (y,j)::r,x,k,h=>by
  rw [yN];cases hb:x == y with
  | true=>exact ⟨j,rfl⟩
  | false =>
   rcases zT.mp h with h | h
   ·cases h;simp at hb
   ·exact eZ h
theorem fY {scope:Scope}{env:Env}{x:Str}{k:NameKind} (h:(relabel scope env).names.lookup x=some k):(x,k) ∈ scope.names\/((x,NameKind.free) ∈ scope.names/\k=.cell):=by
 have h1:=mem_of_lookup h;unfold relabel at h1;obtain ⟨⟨n,j⟩,hm,e⟩:=yC.mp h1;dsimp only at e;split at e
 ·rename_i hc
  cases e;refine .inr ⟨?_,rfl⟩;have:j=.free:=by
   cases j <;> simp at hc <;> rfl
  subst this;exact hm
 ·cases e;exact .inl hm
theorem oV {α:Type}{a b:List (Str × α)}{x:Str} (h:∀ p ∈ a,p.1 ≠ x):(a++b).lookup x=b.lookup x:=by
 induction a with
 | nil=>rfl
 | cons p r ih =>
  obtain ⟨y,j⟩:=p;rw [List.cons_append,yN];have:(x == y)=false:=by
   have:=h (y,j) z6
   simpa using fun e:x=y=>this e.symm
  rw [this];exact ih fun p hp=>h p (zQ _ hp)
section
variable {X:Cx}{N':List Str}{scope:Scope}{cl:List (Str × Addr)}{s:Shared}{H:Hp}{fp:List Addr}{Mv:List (Addr × Obj)}{σ:St}
theorem ym (T:jF X N' scope) (I:Inv X Mv σ H s) (hcl:∀ p ∈ cl,X.env.cells.lookup p.1=some p.2) (hfr:∀ x,(x,NameKind.free) ∈ scope.names->∃ c,(x,c) ∈ cl)
  (hf:∀ b ∈ fp,dq X Mv H b) (ho:∀ b ∈ fp,∃ o,s.heap.get? b=some o) :
  Inv (cg X N' scope cl s H fp Mv) [] (σ++List.replicate (N'.length - X.N.length) none) H { s with heap:=pushCells (s.heap.push { cls:=.type "dict",data:=.dict #[] }) scope.names }:=by
 obtain ⟨own,eo,o1,o2,o3⟩:=nk scope.names (s.heap.objs.size + 1) cl;have keep:∀ b o,s.heap.get? b=some o->(pushCells (s.heap.push { cls:=.type "dict",data:=.dict #[] }) scope.names).get? b=some o:=fun b o e=>pushCells_keeps _ _ b o (zG _ e)
 have clt:∀ x c,(x,c) ∈ cl->c < s.heap.objs.size:=fun x c h=>by
  obtain ⟨v,z⟩:=I.cell x c (hcl _ h);exact z.lt
 -- what a cell of the block is
 have cases_:∀ x c,(own++cl).lookup x=some c->(s.heap.objs.size + 1 <= c/\(x,c) ∈ own)\/X.env.cells.lookup x=some c:=fun x c h=>by
  rcases zZ.mp (mem_of_lookup h) with h | h
  ·exact .inl ⟨(o1 _ h).1,h⟩
  ·exact .inr (hcl _ h)
 have hst:∀ b ∈ fp,b ∉ i8 X.stack:=fun b hb z=>by
  rcases zT.mp (I.stkSub b z) with e | e
  ·exact (hf b hb).2.1 e
  ·exact (hf b hb).2.2.1 e
 have okc:CellsOk (pushCells (s.heap.push { cls:=.type "dict",data:=.dict #[] }) scope.names) (s.heap.objs.size + 1) (cellsFrom (s.heap.objs.size + 1) scope.names []):=by
  have q:=cellsFrom_ok scope.names (s.heap.push { cls:=.type "dict",data:=.dict #[] }) (s.heap.objs.size + 1) [] ⟨(fun _ _ hm=>by cases hm),List.Pairwise.nil⟩ (by rw [Heap.size_push];exact zP _);rw [Heap.size_push] at q;exact q
 have eown:cellsFrom (s.heap.objs.size + 1) scope.names []=own:=by
  obtain ⟨own',e',_⟩:=nk scope.names (s.heap.objs.size + 1) [];have gen:∀ (names:List (Str × NameKind)) (n:Nat) (acc:List (Str × Addr)),cellsFrom n names acc=cellsFrom n names []++acc:=by
   intro names
   induction names with
   | nil=>intro n acc;rfl
   | cons p r ih =>
    obtain ⟨name,kind⟩:=p;intro n acc;unfold cellsFrom;split
    ·rw [ih (n + 1) ((name,n)::acc),ih (n + 1) [(name,n)],yM];rfl
    ·exact ih n acc
  have:=gen scope.names (s.heap.objs.size + 1) cl
  rw [eo] at this;exact (List.append_cancel_right this).symm
 have ok:(cg X N' scope cl s H fp Mv).Ok:=by
  refine ⟨I.ok.mod,T.kind,I.ok.glob,I.ok.blt,zP _,fun x y c h1 h2=>?_,fun x h=>?_,fun x c h1 h2=>?_,I.ok.hd,I.ok.frames,.inl rfl,fun b hb=>⟨?_,fun x c h=>?_⟩,I.bs,z0 I.ok.bsz I.sz,fun b o e hb=>?_,hst,I.stack,I.stkFree⟩
  ·have h1:(own++cl).lookup x=some c:=eo ▸ h1
   have h2:(own++cl).lookup y=some c:=eo ▸ h2;rcases cases_ x c h1 with ⟨l1,m1⟩ | e1
   ·rcases cases_ y c h2 with ⟨l2,m2⟩ | e2
    ·exact name_of_addr o3 m1 m2
    ·obtain ⟨v,z⟩:=I.cell y c e2
     exact absurd (zJ z.lt (Nat.le_of_succ_le (by first | exact l2 | exact l1))) (yW _)
   ·rcases cases_ y c h2 with ⟨l2,m2⟩ | e2
    ·obtain ⟨v,z⟩:=I.cell x c e1
     exact absurd (zJ z.lt (Nat.le_of_succ_le (by first | exact l2 | exact l1))) (yW _)
    ·exact I.ok.inj x y c e1 e2
  ·show ∃ c,(cellsFrom (s.heap.objs.size + 1) scope.names cl).lookup x=some c
   rw [eo];have fromFree:(x,NameKind.free) ∈ scope.names->∃ c,(own++cl).lookup x=some c:=fun hm=>by
    obtain ⟨c,hc⟩:=hfr x hm;exact eZ (zK own hc)
   have fromCell:(x,NameKind.cell) ∈ scope.names->∃ c,(own++cl).lookup x=some c:=fun hm=>by
    obtain ⟨c,hc⟩:=o2 x hm;exact eZ (zL cl hc)
   rcases h with h | h
   ·rcases fY h with h | ⟨h,_⟩
    ·exact fromCell h
    ·exact fromFree h
   ·rcases fY h with h | ⟨h,e⟩
    ·exact fromFree h
    ·cases e
  ·have h2:(own++cl).lookup x=some c:=eo ▸ h2
   have hc:scope.names.lookup x=some .cell:=by
    have:(scope.names.lookup x == some NameKind.cell)=true:=h1;simpa using this
   rcases cases_ x c h2 with ⟨l1,m1⟩ | e1
   ·exact Nat.le_of_succ_le l1
   ·-- x is one of the block's own: Mz cell stands ahead
    obtain ⟨c',hc'⟩:=o2 x (mem_of_lookup hc);obtain ⟨c2,hc2⟩:=eZ hc';have:(own++cl).lookup x=some c2:=by
     have gen:∀ l:List (Str × Addr),l.lookup x=some c2->(l++cl).lookup x=some c2:=by
      intro l
      induction l with
      | nil=>intro h;cases h
      | cons p r ih =>
       obtain ⟨y,j⟩:=p;intro h;rw [List.cons_append,yN];rw [yN] at h;cases hb:x == y with
       | true=>rw [hb] at h;exact h
       | false=>rw [hb] at h;exact ih h
     exact gen own hc2
    rw [this] at h2;cases h2;exact Nat.le_of_succ_le (o1 _ (mem_of_lookup hc2)).1
  ·obtain ⟨o,e⟩:=ho b hb
   exact zU (yI e)
  ·have h:(own++cl).lookup x=some c:=eo ▸ h
   obtain ⟨o,e⟩:=ho b hb;have hlt:=yI e;rcases cases_ x c h with ⟨l1,m1⟩ | e1
   ·intro z
    rw [z] at l1;exact absurd (zJ hlt (Nat.le_of_succ_le l1)) (yW _)
   ·exact (hf b hb).2.2.2.2.1 x c e1
  ·rcases (hf b hb).2.2.2.1 with z | z
   ·exact I.ok.noex b o e z
   ·exact absurd (zJ (yI e) (z0 I.ok.bsz z)) (yW _)
 refine ⟨ok,rfl,I.bare,Un.kept keep,⟨fun _=>none,(Heap.Ns.new s.heap (.type "dict")).keeps (pushCells_keeps _ _),fun i x v e1 e2 e3=>?_⟩,fun x c h=>?_,I.MB.fresh (zP _),fun x c h=>?_,fun p hp=>?_,I.MB.kept keep,?_⟩
 ·-- a name of the code around
  have hlen:=I.len;have hi:i < σ.length:=by
   rcases yR i σ.length with h | h
   ·exact h
   ·rw [z5 h] at e2
    rw [List.getElem?_replicate] at e2;split at e2 <;> cases e2
  rw [zN hi] at e2;have hmem:∃ k,(x,k) ∈ scope.names:=by
   have:∃ k,(relabel scope X.env).names.lookup x=some k:=by
    rcases e3 with h | h | h <;> exact ⟨_,h⟩
   obtain ⟨k,h⟩:=this;rcases fY h with h | ⟨h,_⟩ <;> exact ⟨_,h⟩
  have hfree:=T.hid i x oM e1 hmem;have eX:=T.same i x oM e1 hfree;have kX:=T.free x hfree;obtain ⟨m,hn,hl⟩:=I.loc;obtain ⟨u,ru,lk⟩:=hl i x v eX e2 (by rcases kX with h | h;exact .inr (.inl h);exact .inr (.inr h));refine ⟨u,ru,.inr ⟨?_,?_⟩⟩
  ·-- Mz kind in the block
   have:∃ k,(relabel scope X.env).names.lookup x=some k:=by
    rcases e3 with h | h | h <;> exact ⟨_,h⟩
   obtain ⟨k,h⟩:=this;rcases fY h with h' | ⟨h',e⟩
   ·have e5:=cL T.nd h'
    have e6:=cL T.nd hfree;rw [e5] at e6;cases e6;exact .inr h
   ·subst e;exact .inl h
  ·rcases lk with ⟨k1,_⟩ | ⟨_,c,hc,z⟩
   ·rcases kX with h | h <;> rw [h] at k1 <;> cases k1
   ·refine ⟨c,?_,z.keeps keep⟩
    show (cellsFrom (s.heap.objs.size + 1) scope.names cl).lookup x=some c;rw [eo,oV fun p hp e=>?_]
    ·obtain ⟨c',hc'⟩:=hfr x hfree
     obtain ⟨c2,hc2⟩:=eZ hc'
     have:=hcl _ (mem_of_lookup hc2)
     rw [hc] at this;cases this;exact hc2
    ·have e5:=cL T.nd (o1 p hp).2
     rw [e] at e5;have e6:=cL T.nd hfree;rw [e5] at e6;cases e6
 ·have h:(own++cl).lookup x=some c:=eo ▸ h
  rcases cases_ x c h with ⟨l1,m1⟩ | e1
  ·exact ⟨none,(okc.empty x c (eown ▸ m1)).1⟩
  ·obtain ⟨v,z⟩:=I.cell x c e1
   exact ⟨v,z.keeps keep⟩
 ·have h:(own++cl).lookup x=some c:=eo ▸ h
  rcases cases_ x c h with ⟨l1,m1⟩ | e1
  ·exact I.MB.fresh (Nat.le_of_succ_le l1)
  ·exact I.freeC x c e1
 ·rw [List.append_nil] at hp
  obtain ⟨e,n,ne,nf,d⟩:=I.pin p hp;refine ⟨keep _ _ e,n,zU (yI e),fun z=>?_,d⟩;rcases zT.mp (I.stkSub p.1 z) with z | z
  ·exact ne z
  ·exact nf z
 ·show (σ++List.replicate (N'.length - X.N.length) none).length=N'.length
  rw [zV,List.length_replicate,I.len]
  have:=T.len
  omega
theorem Fl {σ1:St}{H1:Hp}{s1:Shared}{h':Heap}{pins1:List (Addr × Obj)} (I:Inv X Mv σ H s) (hf:∀ b ∈ fp,dq X Mv H b) (I1:Inv (cg X N' scope cl s H fp Mv) pins1 σ1 H1 s1) (hs:Heap.SameBut s.heap.objs.size s1.heap h') :
  Inv X Mv σ H1 { s1 with heap:=h' }:=by
 have hC:∀ b o,s.heap.get? b=some o->b ≠ s.heap.objs.size:=fun b o e=>zU (yI e)
 have u:=I1.base;have u2:Un (i8 X.stack) fp H H1 s.heap h':=by
  refine ⟨fun b o e n hb hx=>?_,fun b o e n hb hx=>?_,u.free,fun b o e hx=>?_,u.tups,u.frzs,u.tbls⟩
  ·rw [hs.2 b (hC b o e)];exact u.keep b o e n hb hx
  ·obtain ⟨sl,q⟩:=u.slot b o e n hb hx
   exact ⟨sl,by rw [hs.2 b (hC b o e)];exact q⟩
  ·obtain ⟨o',q⟩:=u.there b o e hx
   exact ⟨o',by rw [hs.2 b (hC b o e)];exact q⟩
 have hCf:H1 s.heap.objs.size=none:=I1.free;refine I.call' (s':={ s1 with heap:=h' }) I1.os u2 (fun b o e=>?_) I1.bare fun b hb=>⟨(hf b hb).2.2.2.1,(hf b hb).2.1,(hf b hb).2.2.2.2.1,(hf b hb).2.2.2.2.2⟩
 refine (I1.MB b o e).stay (fun c v hc q=>(hs.2 c ?_).trans q) (fun _ q=>q) fun _ _ q=>q
 rintro rfl;rcases hc with z | z
 ·rw [<- z,hCf] at e;cases e
 ·rw [hCf] at z;cases z
def sU (X:Cx) (ifs:List Expr) (t:TT):Prop :=
 ∀ (Mv:List (Addr × Obj)) (s:Shared) (σ:St) (H:Hp) (Q:Bool->Hp->Prop),Inv X Mv σ H s->t σ H Q ->
  wpAny (model X.prog X.w) X.A (forIn ifs true fun c r=>if r=true then do let ok <- isTrue c X.env (eval c X.env);pure (ForInStep.yield ok) else pure (ForInStep.yield r)) (TP X Mv σ Q) X.xe s
theorem Bs:sU X [] (fun _ H Q=>Q true H):=fun Mv s σ H Q I h=>wpAny_tests_nil ⟨H,I,h⟩
theorem Br {c:Expr}{t:TT} (h:PT X c t):sU X [c] t:=fun Mv s σ H Q I h'=>wpAny_tests_one (h Mv s σ H Q I h')
def CB (k:Nat) (wi:TI) (g:TG) (tt:TT) (te:TE):TE:=fun σ H Q=>wi σ H fun J H1=>∀ p,H1 p=none ->
 ∃ W:Nat->Nat->St->Hp->Prop,(∃ m,W 0 m (σ++List.replicate k none) (af H1 p (.lst [])))/\∀ i m σ' H',W i m σ' H' ->
  (J.stop i H'/\Q (.ref p) H')\/(J.go i H'/\∀ x H2,J.yld i H' x H2->g x σ' H2 fun σ2 H3=>tt σ2 H3 fun ok H4=>if ok=true then
   te σ2 H4 fun y H5=>∃ ys,H5 p=some (.lst ys)/\ys.length < sizeLine/\∃ m',m' < m/\W (i + 1) m' σ2 (af H5 p (.lst (ys++[y])))
   else ∃ m',m' < m/\W (i + 1) m' σ2 H4)
theorem qG {prog:Program}{w:World}{A:Around}{R:Result->Shared->Prop}{s:Shared}{elt target iter:Expr}{ifs:List Expr}{scope:Scope}{pos:Pos}{it acc:Value}{env:Env} (I:Nat->Shared->Prop)
  (turn:∀ n s,I n s->wpAny (model prog w) A (pyNext it) (fun r s₁=>match r with
   | none=>R (.ok .next) s₁
   | some v=>wpAny (model prog w) A (letOwnedTupleGo target it v) (fun _ s₁'=>wpAny (model prog w) A (assign target env v) (fun _ s₂ =>
     wpAny (model prog w) A (forIn ifs true fun c r=>if r=true then do let ok <- isTrue c env (eval c env);pure (ForInStep.yield ok) else pure (ForInStep.yield r)) (fun ok s₃ =>
      if ok=true then wpAny (model prog w) A (eval elt env) (fun x s₄ =>
       wpAny (model prog w) A (call (.builtin "list.append") [acc,x]) (fun _ s₅=>∃ m,m < n/\I m s₅) (fun _ _=>False) s₄) (fun _ _=>False) s₃
      else ∃ m,m < n/\I m s₃) (fun _ _=>False) s₂) (fun _ _=>False) s₁') (fun _ _=>False) s₁) (fun _ _=>False) s)
  (n:Nat) (h:I n s):codeAny (model prog w) A (.compLoop (.ListComp elt [⟨target,iter,ifs,0⟩] scope pos) 0 it acc env) R s:=by
 refine codeAny_loop rfl I (fun n s hI=>?_) n h;show wpAny _ A ((compTurn (.ListComp elt [⟨target,iter,ifs,0⟩] scope pos) 0 it acc env).onRaise (fun x=>do noteFrame x env;theTreesLotGoes x)) _ _ s;refine wpAny_noted ?_;rw [compTurn_list];refine yE (wpAny_standAt (yE (yQ (turn n s hI) (fun r s₁ h₁=>?_) fun _ _ h'=>h'.elim)));cases r with
 | none=>exact yF h₁
 | some v =>
  refine yE (yQ h₁ (fun _ s₁' h₁'=>?_) fun _ _ h'=>h'.elim);refine yE (yQ h₁' (fun _ s₂ h₂=>yE (yQ h₂ (fun ok s₃ h₃=>?_) fun _ _ h'=>h'.elim)) fun _ _ h'=>h'.elim);cases ok with
  | false=>exact yF ⟨rfl,h₃⟩
  | true =>
   exact yE (yE (yQ h₃ (fun x s₄ h₄=>yE (yQ h₄ (fun _ s₅ h₅=>yF (yF ⟨rfl,h₅⟩)) fun _ _ h'=>h'.elim)) fun _ _ h'=>h'.elim))
theorem qd {elt iter tg:Expr}{ifs:List Expr}{pos:Pos}{g:TG}{tt:TT}{te:TE}{J:It}{it:Addr}{tn:Nat->Heap->Prop}{Q:VK}{E:Value->Shared->Prop}{RR:Value->Addr->Result->Shared->Prop}
  (hc:X.calm=true) (T:jF X N' scope) (hcl:∀ p ∈ cl,X.env.cells.lookup p.1=some p.2) (hfr:∀ x,(x,NameKind.free) ∈ scope.names->∃ c,(x,c) ∈ cl)
  (hg:∀ cl s H fp Mv,PG (cg X N' scope cl s H fp Mv) tg g) (ht:∀ cl s H fp Mv,sU (cg X N' scope cl s H fp Mv) ifs tt) (he:∀ cl s H fp Mv,PE (cg X N' scope cl s H fp Mv) elt te)
  (I:Inv X Mv σ H s) (Tn:iR X.prog X.w X.K tg J fp it tn) (st0:tn 0 s.heap) (hf:∀ b ∈ fp,dq X Mv H b)
  (h:∀ p,H p=none->∃ W:Nat->Nat->St->Hp->Prop,(∃ m,W 0 m (σ++List.replicate (N'.length - X.N.length) none) (af H p (.lst [])))/\∀ i m σ' H',W i m σ' H' ->
   (J.stop i H'/\Q (.ref p) H')\/(J.go i H'/\∀ x H2,J.yld i H' x H2->g x σ' H2 fun σ2 H3=>tt σ2 H3 fun ok H4=>if ok=true then
    te σ2 H4 fun y H5=>∃ ys,H5 p=some (.lst ys)/\ys.length < sizeLine/\∃ m',m' < m/\W (i + 1) m' σ2 (af H5 p (.lst (ys++[y])))
    else ∃ m',m' < m/\W (i + 1) m' σ2 H4))
  (hRR:∀ p C s1 H1,Inv X Mv σ H1 s1->Q (.ref p) H1->(∃ m,s1.heap.Ns C m)->H1 C=none->s.heap.objs.size <= C->RR (.ref p) C (.ok .next) s1) :
  wpAny (model X.prog X.w) X.A (newList []) (fun acc s₃=>wpAny (model X.prog X.w) X.A (newFunctionEnv scope X.env.globals cl [] X.env.qual none .none (some X.env)) (fun cenv s₄ =>
   codeAny (model X.prog X.w) X.A (.compStart (.ListComp elt [⟨tg,iter,ifs,0⟩] scope pos) 0 (.ref it) acc { cenv with scope:=relabel scope X.env }) (RR acc cenv.locals) s₄) E s₃) E s:=by
 refine wpAny_newObj_type (xz ?_);have hp:H s.heap.objs.size=none:=I.fresh;obtain ⟨W,⟨m0,w0⟩,turn⟩:=h _ hp;have I2:Inv X Mv σ (af H s.heap.objs.size (.lst [])) { s with heap:=s.heap.push { cls:=.type "list",data:=.seq ([]:List Value).toArray } }:=Inv.lnew (t':=s.toks) (Mz:=[]) (ys:=[]) I .nil (Nat.zero_le _);have hf2:∀ b ∈ fp,dq X Mv (af H s.heap.objs.size (.lst [])) b:=fun b hb=>by
  obtain ⟨o,e,_⟩:=Tn.obj _ _ st0 b hb;exact ⟨by rw [ad (zU (yI e))];exact (hf b hb).1,(hf b hb).2⟩
 have ho2:∀ b ∈ fp,∃ o,(s.heap.push { cls:=.type "list",data:=.seq ([]:List Value).toArray }:Heap).get? b=some o:=fun b hb=>by
  obtain ⟨o,e,_⟩:=Tn.obj _ _ st0 b hb;exact ⟨o,zG _ e⟩
 have I3:=ym T I2 hcl hfr hf2 ho2;have st3:tn 0 (pushCells ((s.heap.push { cls:=.type "list",data:=.seq ([]:List Value).toArray }).push { cls:=.type "dict",data:=.dict #[] }) scope.names) :=
  Tn.keep _ _ _ st0 fun b hb o e=>pushCells_keeps _ _ b o (zG _ (zG _ e))
 generalize hs2:({ s with heap:=s.heap.push { cls:=.type "list",data:=.seq ([]:List Value).toArray } }:Shared)=s2 at I2 I3;have hC:s.heap.objs.size <= s2.heap.objs.size:=by rw [<- hs2];exact yV (by show _ < (s.heap.push _).objs.size;rw [Heap.size_push];exact Nat.lt_succ_self _)
 have stat:∀ {H':Hp},(∀ b ∈ fp,H' b=none)->∀ b ∈ fp,dq (cg X N' scope cl s2 (af H s.heap.objs.size (.lst [])) fp Mv) [] H' b:=fun {H'} hn b hb=>by
  refine ⟨hn b hb,(I3.ok.exf b hb).1,I3.ok.exfs b hb,.inl hb,(I3.ok.exf b hb).2,fun p hp=>?_⟩;rw [List.append_nil] at hp;exact (hf b hb).2.2.2.2.2 p hp
 have loop:∀ s4,s4=({ s2 with heap:=pushCells (s2.heap.push { cls:=.type "dict",data:=.dict #[] }) scope.names }:Shared) ->
   codeAny (model X.prog X.w) X.A (.compLoop (.ListComp elt [⟨tg,iter,ifs,0⟩] scope pos) 0 (.ref it) (.ref s.heap.objs.size) (cg X N' scope cl s2 (af H s.heap.objs.size (.lst [])) fp Mv).env) (RR (.ref s.heap.objs.size) s2.heap.objs.size) s4:=by
  rintro s4 rfl;refine qG (fun n s'=>∃ i σ' H',Inv (cg X N' scope cl s2 (af H s.heap.objs.size (.lst [])) fp Mv) [] σ' H' s'/\tn i s'.heap/\(∀ b ∈ fp,H' b=none)/\W i n σ' H') ?_ m0
   ⟨0,_,_,I3,by subst hs2;exact st3,fun b hb=>(hf2 b hb).1,w0⟩
  rintro n s3 ⟨i,σ3,H3,I4,st4,fr4,w4⟩;rcases turn i n σ3 H3 w4 with ⟨stop,qn⟩ | ⟨go,step⟩
  ·refine aB (Tn.done (cg X N' scope cl s2 (af H s.heap.objs.size (.lst [])) fp Mv) rfl rfl rfl hc i [] s3 σ3 H3 (fun _ _=>False) I4 (stat fr4) st4 stop) fun r s5 hq0=>?_
   obtain ⟨hr,I5⟩:=hq0;subst hr;obtain ⟨m,hn,_⟩:=I5.loc;exact hRR _ _ s5 H3 (Fl I2 hf2 I5 (Heap.SameBut.refl _ _)) qn ⟨m,hn⟩ I5.free hC
  ·refine aB (Tn.item (cg X N' scope cl s2 (af H s.heap.objs.size (.lst [])) fp Mv) rfl rfl rfl hc i [] s3 σ3 H3 (fun _ _=>False) I4 (stat fr4) st4 go) fun r s5 hq0=>?_
   obtain ⟨u,hr,h5⟩:=hq0;subst hr;refine aB h5 fun _ s6 hq0=>?_
   obtain ⟨x,H6,I6,r6,y6,st6,fr6⟩:=hq0;have I6':=I6.pinned (stat fr6) (Tn.obj _ _ st6);have again:∀ {σ7:St}{H7:Hp}{s7:Shared}{m':Nat},Inv (cg X N' scope cl s2 (af H s.heap.objs.size (.lst [])) fp Mv) ([]++fq fp s6.heap) σ7 H7 s7->m' < n->W (i + 1) m' σ7 H7 ->
     ∃ m,m < n/\∃ i σ' H',Inv (cg X N' scope cl s2 (af H s.heap.objs.size (.lst [])) fp Mv) [] σ' H' s7/\tn i s7.heap/\(∀ b ∈ fp,H' b=none)/\W i m σ' H':=fun {σ7 H7 s7 m'} I7 hm w7=>by
    refine ⟨m',hm,i + 1,σ7,H7,I7.unpinned,Tn.keep _ _ _ st6 fun b hb o e=>(I7.pin (b,o) (zK _ (zK _ (cV hb e)))).1,fun b hb=>?_,w7⟩;obtain ⟨o,e,d⟩:=Tn.obj _ _ st6 b hb;exact (I7.pin (b,o) (zK _ (zK _ (cV hb e)))).2.1
   refine aB (hg _ _ _ _ _ _ s6 σ3 H6 x u _ I6' r6 (step x H6 y6)) fun _ s7 hq0=>?_
   obtain ⟨σ7,H7,I7,q7⟩:=hq0;refine aB (ht _ _ _ _ _ _ s7 σ7 H7 _ I7 q7) fun ok s8 hq0=>?_
   obtain ⟨H8,I8,q8⟩:=hq0;cases ok with
   | false =>
    simp only [yA,if_false] at q8 ⊢;obtain ⟨m',hm,w8⟩:=q8;exact again I8 hm w8
   | true =>
    simp only [if_true] at q8 ⊢;refine aB (he _ _ _ _ _ _ s8 σ7 H8 _ I8 q8) fun y s9 hq0=>?_
    obtain ⟨yv,H9,I9,r9,ys,e9,l9,m',hm,w9⟩:=hq0;refine aB (oz _ s9 σ7 H9 (.ref s.heap.objs.size) [yv] (.ref s.heap.objs.size) [y] (fun _ H'=>H'=af H9 s.heap.objs.size (.lst (ys++[yv]))) I9 rfl (.cons r9 .nil) ⟨_,ys,yv,rfl,rfl,e9,l9,rfl⟩) fun _ s10 hq0=>?_
    obtain ⟨_,H10,I10,_,e10⟩:=hq0;subst e10;exact again I10 hm w9
 have st5:tn 0 (pushCells (s2.heap.push { cls:=.type "dict",data:=.dict #[] }) scope.names):=by subst hs2;exact st3
 have aF:=codeAny_compStart_list (loop _ rfl) (Tn.self X.A 0 _ _ (notedBy (model X.prog X.w) X.A (cg X N' scope cl s2 (af H s.heap.objs.size (.lst [])) fp Mv).env fun x s'=>RR (.ref s.heap.objs.size) s2.heap.objs.size (.error x) s') st5 (loop _ rfl));subst hs2;exact aF
end
section
variable {X:Cx}{N':List Str}{scope:Scope}{Mv:List (Addr × Obj)}{σ:St}{elt iter tg:Expr}{ifs:List Expr}{pos:Pos}{wi:TI}{g:TG}{tt:TT}{te:TE}
theorem qb (T:jF X N' scope):∀ x ∈ scope.names,x.2=.local->scope.names.lookup x.1=some .local:=fun x hx e=>by
 obtain ⟨n,k⟩:=x;cases e;exact cL T.nd hx
theorem Gu (hc:X.calm=true) (T:jF X N' scope) (hi:PI X tg iter wi) (hg:∀ cl s H fp Mv,PG (cg X N' scope cl s H fp Mv) tg g) (ht:∀ cl s H fp Mv,sU (cg X N' scope cl s H fp Mv) ifs tt)
  (he:∀ cl s H fp Mv,PE (cg X N' scope cl s H fp Mv) elt te) (hs:∀ x,foldedSetIterable iter X.env x=pure x:=by intro _;rfl) :
  PE X (.ListComp elt [⟨tg,iter,ifs,0⟩] scope pos) (CB (N'.length - X.N.length) wi g tt te):=by
 intro Mv s σ H Q I h;obtain ⟨cl,hclos,hcl,hfr⟩:=jy (scope:=scope) (env:=X.env) fun x hx=>I.ok.has x (T.free x hx)
 rw [eval_ListComp];refine wpAny_comprehension_free (use:=none) rfl hs hclos T.kind (qb T) (yQ (hi Mv s σ H _ I h) (fun xv s1 h1=>yQ h1 (fun itv s2 h2=>?_) fun _ _ e=>e) fun _ _ e=>e);obtain ⟨it,fp,tn,J,H2,rfl,I2,Tn,st2,f2,R⟩:=h2;refine qd (Q:=Q) (RR:=fun acc C=>compPost (model X.prog X.w) X.A X.xe none (EP X Mv σ Q) acc C) hc T hcl hfr hg ht he I2 Tn st2 f2 R ?_;rintro p C s3 H3 I3 q ⟨m,hn⟩ hC hle;refine ⟨m,hn,fun h' hs'=>⟨.ref p,H3,?_,rfl,q⟩⟩;refine I3.turned (t':=s3.toks) (it:=C) (fun b o hb e=>(hs'.2 b hb).trans e) hC ?_ (.inr (z0 I2.sz hle)) (fun x c e=>?_) fun p hp=>?_
 ·exact Ne.symm (zU (zJ I2.lt hle))
 ·obtain ⟨v,z⟩:=I2.cell x c e
  exact zU (zJ z.lt hle)
 ·exact zU (zJ (yI (I2.pin p hp).1) hle)
theorem vg {i:Nat}{y:Str}{py spos:Pos} (hN:X.N.Nodup) (hiN:X.N[i]?=some y) (hx:Loc X.env.scope y) (hsw:swapsWith (.ListComp elt [⟨tg,iter,ifs,0⟩] scope pos) (some (.Name y py)) spos.line X.env=pure true)
  (hc:X.calm=true) (T:jF X N' scope) (hi:PI X tg iter wi) (hg:∀ cl s H fp Mv,PG (cg X N' scope cl s H fp Mv) tg g) (ht:∀ cl s H fp Mv,sU (cg X N' scope cl s H fp Mv) ifs tt)
  (he:∀ cl s H fp Mv,PE (cg X N' scope cl s H fp Mv) elt te) (hs:∀ x,foldedSetIterable iter X.env x=pure x:=by intro _;rfl) (hf:X.fn y=true\/X.env.scope.names.lookup y=some .local:=by first | exact .inl rfl | exact .inr rfl | assumption) :
  PS X (.Assign [.Name y py] (.ListComp elt [⟨tg,iter,ifs,0⟩] scope pos) spos) (tq (CB (N'.length - X.N.length) wi g tt te) (mT i)):=by
 intro Mv s σ H D I h;obtain ⟨cl,hclos,hcl,hfr⟩:=jy (scope:=scope) (env:=X.env) fun x hx=>I.ok.has x (T.free x hx)
 rw [exec_Assign_Name_used _ _ _ _ hsw];refine yE (wpAny_standAt (yE ?_));show wpAny _ X.A (do let _ <- comprehension (.ListComp elt [⟨tg,iter,ifs,0⟩] scope pos) scope X.env _ (newList []) false (eval iter X.env) (some (assign (.Name y py) X.env))) _ _ s;refine yE (yQ (wpAny_comprehension_free (use:=some (assign (.Name y py) X.env)) (Q:=fun _ s'=>SP X Mv D .next s') rfl hs hclos T.kind (qb T)
  (yQ (hi Mv s σ H _ I h) (fun xv s1 h1=>yQ h1 (fun itv s2 h2=>?_) fun _ _ e=>e) fun _ _ e=>e)) (fun _ s' hq=>yF (yF hq)) fun _ _ e=>e)
 obtain ⟨it,fp,tn,J,H2,rfl,I2,Tn,st2,f2,R⟩:=h2;refine qd (Q:=fun x H1=>mT i x σ H1 D.nx) (RR:=fun acc C=>compPost (model X.prog X.w) X.A X.xe (some (assign (.Name y py) X.env)) (fun _ s'=>SP X Mv D .next s') acc C) hc T hcl hfr hg ht he I2 Tn st2 f2 R ?_;rintro p C s3 H3 I3 q ⟨m,hn⟩ hC hle;have hCL:C ≠ X.env.locals:=Ne.symm (zU (zJ I2.lt hle));have hCc:∀ x c,X.env.cells.lookup x=some c->c ≠ C:=fun x c e=>by
  obtain ⟨v,z⟩:=I2.cell x c e;exact zU (zJ z.lt hle)
 show wpAny _ X.A (assign (.Name y py) X.env (.ref p)) _ _ _;refine wpAny_assign_Name (oo (v:=.ref p) I3 hN hiN hx rfl (fun s4 I4 hq0=>?_) hf);obtain ⟨a,sb,ha⟩:=hq0;have hne:C ≠ a:=by
  rcases ha with e | e
  ·rw [e];exact hCL
  ·exact (hCc _ _ e).symm
 refine ⟨m,hn.sameBut sb hne,fun h' hs'=>⟨_,H3,?_,q⟩⟩;refine I4.turned (t':=s4.toks) (it:=C) (fun b o hb e=>(hs'.2 b hb).trans e) hC hCL (.inr (z0 I2.sz hle)) hCc fun p hp=>?_
 exact zU (zJ (yI (I2.pin p hp).1) hle)
end
end L2
namespace DD
open PySem PySem.Spec PyProof.Rows L2
section
variable {X:Cx}{Mv:List (Addr × Obj)}{σ:St}{H:Hp}{s:Shared}{F:Addr->Prop}
theorem obj_list (I:L2.Inv X Mv σ H s) {a:Addr}{vs:List V} (h:bz X.K H a vs):∃ Mz o n,Vals vs Mz/\s.heap.get? a=some o/\o.cls=.type "list"/\o.data=.seq Mz.toArray n:=by
 obtain ⟨Mz,r,⟨o,n,e,c,_,d⟩,_⟩:=I.list h;exact ⟨Mz,o,n,r,e,c,d⟩
theorem obj_tup (I:L2.Inv X Mv σ H s) {a:Addr}{vs:List V} (h:gr X.K H a vs):∃ Mz o n,Vals vs Mz/\s.heap.get? a=some o/\o.cls=.type "tuple"/\o.data=.seq Mz.toArray n:=by
 obtain ⟨Mz,r,⟨o,e,c,n,d⟩,_⟩:=I.tuple h;exact ⟨Mz,o,n,r,e,c,d⟩
end
noncomputable def pyOk (p q:PyData):Bool:=p.canLay0 && q.canLay0 && decide (min p.depth q.depth <= 50)
end DD
namespace L2
open PySem PySem.Spec PyProof.Rows
def IY (K:Frag) (a b:Addr):It :=
 ⟨fun i H=>∃ xs ys x y,bz K H a xs/\bz K H b ys/\xs[i]?=some x/\ys[i]?=some y,
  fun i H x H'=>∃ p u w,(∀ xs,bz K H a xs->xs[i]?=some u)/\(∀ ys,bz K H b ys->ys[i]?=some w)/\H p=none/\H'=af H p (.tup [u,w])/\x=.ref p,
  fun i H=>∃ xs ys,bz K H a xs/\bz K H b ys/\(xs.length <= i\/ys.length <= i)⟩
theorem Inv.turnT {X:Cx}{Mv:List (Addr × Obj)}{σ:St}{H:Hp}{s:Shared}{h':Heap}{ch:List Addr}{u w:V}{x y:Value} (I:Inv X Mv σ H s) (hf:∀ b ∈ ch,dq X Mv H b) (ru:RelV u x) (rw':RelV w y)
  (hk:∀ c o,c ∉ ch->s.heap.get? c=some o->h'.get? c=some o) (hT:IsPair h' s.heap.objs.size x y) (hth:∀ b ∈ ch,∃ o,h'.get? b=some o):Inv X Mv σ (af H s.heap.objs.size (.tup [u,w])) { s with heap:=h' }:=by
 have hfr:H s.heap.objs.size=none:=I.fresh;have nch:∀ b o,H b=some o->b ∉ ch:=fun b o e hb=>by rw [(hf b hb).1] at e;cases e
 have ne:∀ b o,s.heap.get? b=some o->b ≠ s.heap.objs.size:=fun b o e=>zU (yI e)
 refine I.step (g':=s.gens) (d':=s.drawn) (t':=s.toks) (ch:=ch) (fun b hb=>⟨(hf b hb).2.2.2.1,(hf b hb).2.1,(hf b hb).2.2.2.2.1,(hf b hb).2.2.2.2.2⟩) (fun b o _ _ hc e _=>hk b o hc e)
  (fun b o _ _ hc e _=>⟨o.slots,hk b o hc e⟩) (fun b o _ e n=>by rw [ad (ne b o e)];exact n) (fun b o hc e=>⟨o,hk b o hc e⟩) (fun b xs e=>by rw [ad (aZ e hfr)];exact e)
  (fun b o v e=>by rw [ad (aZ e hfr)];exact e) (fun b ps e=>⟨#[],by rw [ad (aZ e hfr),e];simp⟩) (fun m hm=>?_) (fun b o e=>?_) I.bare
 ·obtain ⟨o,es,ep,ho,r⟩:=hm
  exact ⟨o,es,ep,hk _ o (fun z=>(hf _ z).2.1 rfl) ho,r⟩
 ·by_cases hb:b=s.heap.objs.size
  ·subst hb
   rw [au] at e;cases e;refine ⟨by show 2 <= sizeLine;decide,[x,y],.cons ru (.cons rw' .nil),⟨_,hT,rfl,_,rfl⟩⟩
  ·rw [ad hb] at e
   refine (I.MB b o e).stay (fun c v hc q=>hk c v ?_ q) (fun c q=>by rw [ad (aZ q hfr)];exact q) fun c xs q=>by rw [ad (aZ q hfr)];exact q
   rcases hc with rfl | hc
   ·exact nch _ _ e
   ·exact nch _ _ hc
theorem Inv.turnN {X:Cx}{Mv:List (Addr × Obj)}{σ:St}{H:Hp}{s:Shared}{h':Heap}{ch:List Addr} (I:Inv X Mv σ H s) (hf:∀ b ∈ ch,dq X Mv H b)
  (hk:∀ c o,c ∉ ch->s.heap.get? c=some o->h'.get? c=some o):Inv X Mv σ H { s with heap:=h' }:=by
 have nch:∀ b o,H b=some o->b ∉ ch:=fun b o e hb=>by rw [(hf b hb).1] at e;cases e
 refine I.step (g':=s.gens) (d':=s.drawn) (t':=s.toks) (ch:=ch) (fun b hb=>⟨(hf b hb).2.2.2.1,(hf b hb).2.1,(hf b hb).2.2.2.2.1,(hf b hb).2.2.2.2.2⟩) (fun b o _ _ hc e _=>hk b o hc e)
  (fun b o _ _ hc e _=>⟨o.slots,hk b o hc e⟩) (fun b o _ e n=>n) (fun b o hc e=>⟨o,hk b o hc e⟩) (fun b xs e=>e)
  (fun b o v e=>e) (fun b ps e=>⟨#[],by rw [e];simp⟩) (fun m hm=>?_) (fun b o e=>?_) I.bare
 ·obtain ⟨o,es,ep,ho,r⟩:=hm
  exact ⟨o,es,ep,hk _ o (fun z=>(hf _ z).2.1 rfl) ho,r⟩
 ·refine (I.MB b o e).stay (fun c v hc q=>hk c v ?_ q) (fun c q=>q) fun c xs q=>q
  rcases hc with rfl | hc
  ·exact nch _ _ e
  ·exact nch _ _ hc
theorem cP {X:Cx}{Mv:List (Addr × Obj)}{σ:St}{H:Hp}{s:Shared}{a b:Addr}{xs:List V} (I:Inv X Mv σ H s) (h:bz X.K H a xs) (hb:dq X Mv H b) (hob:∃ o,s.heap.get? b=some o/\o.cls ≠ .type "list"):a ≠ b:=by
 rintro rfl;obtain ⟨Mz,r,⟨o,n,e,c,_⟩,_⟩:=I.list h;obtain ⟨o',e',c'⟩:=hob;rw [e] at e';cases e';exact c' c
theorem wC {P:Program}{w:World}{K:Frag}{elts:List Expr}{x1:Nat}{tpos:Pos} (a b z TI TO i1 i2:Addr) (D1:TI ≠ z) (D2:TO ≠ z) (D3:i1 ≠ z) (D4:i2 ≠ z) (D5:TI ≠ TO) (D6:TI ≠ i1) (D7:TI ≠ i2) (D8:TO ≠ i1) (D9:TO ≠ i2) (D10:i1 ≠ i2) :
  iR P w K (.Tuple elts x1 tpos) (IY K a b) [z,TI,TO,i1,i2] z (fun i h=>IsZip h z TI TO .none/\IsPair h TI (.ref i1) (.ref i2)/\(∃ u v,IsPair h TO u v)/\h.IsListIter i1 a i/\h.IsListIter i2 b i) where
 mem:=by simp
 obj:=fun i h hq0 c hc=>by
  obtain ⟨hz,hTI,⟨u,v,hTO⟩,⟨o1,e1,c1,d1⟩,⟨o2,e2,c2,d2⟩⟩:=hq0;simp only [zT,zX,or_false] at hc;rcases hc with rfl | rfl | rfl | rfl | rfl
  ·exact ⟨_,hz,fun v z=>nomatch z⟩
  ·exact ⟨_,hTI,fun v z=>nomatch z⟩
  ·exact ⟨_,hTO,fun v z=>nomatch z⟩
  ·exact ⟨_,e1,fun v z=>by rw [d1] at z;cases z⟩
  ·exact ⟨_,e2,fun v z=>by rw [d2] at z;cases z⟩
 keep:=fun i h h' ⟨hz,hTI,⟨u,v,hTO⟩,h1,h2⟩ k=>⟨k z (by simp) _ hz,k TI (by simp) _ hTI,⟨u,v,k TO (by simp) _ hTO⟩,h1.at fun o e=>k i1 (by simp) o e,h2.at fun o e=>k i2 (by simp) o e⟩
 item:=by
  rintro X hP hw hK hc i Mv s σ H E I hf ⟨hz,hTI,⟨ua,ub,hTO⟩,h1,h2⟩ ⟨xs,ys,x,y,hq1,hq2,hx,hy⟩;subst hP hw hK;obtain ⟨its1,rv1,p1,_⟩:=I.list hq1;obtain ⟨its2,rv2,p2,_⟩:=I.list hq2;obtain ⟨u1,hu1,ru1⟩:=rv1.get hx;obtain ⟨u2,hu2,ru2⟩:=rv2.get hy;have ob:∀ c ∈ [z,TO,i1,i2],∃ o,s.heap.get? c=some o/\o.cls ≠ .type "list":=fun c hc=>by
   obtain ⟨o1,e1,c1,d1⟩:=id h1;obtain ⟨o2,e2,c2,d2⟩:=id h2;simp only [zT,zX,or_false] at hc;rcases hc with rfl | rfl | rfl | rfl
   ·exact ⟨_,hz,by simp⟩
   ·exact ⟨_,hTO,by simp⟩
   ·exact ⟨_,e1,by rw [c1];simp⟩
   ·exact ⟨_,e2,by rw [c2];simp⟩
  have na:∀ c ∈ [z,TO,i1,i2],a ≠ c:=fun c hc=>cP I hq1 (hf c (by simp at hc ⊢;rcases hc with h | h | h | h <;> simp [h])) (ob c hc)
  have nb:∀ c ∈ [z,TO,i1,i2],b ≠ c:=fun c hc=>cP I hq2 (hf c (by simp at hc ⊢;rcases hc with h | h | h | h <;> simp [h])) (ob c hc)
  have D:ZipApart z TI TO i1 i2 a b:=⟨D1,D2,D3,D4,D5,D6,D7,D8,D9,D10,na z (by simp),na TO (by simp),na i1 (by simp),na i2 (by simp),nb z (by simp),nb TO (by simp),nb i1 (by simp),nb i2 (by simp)⟩;refine wpAny_pyNext_zip_item D hz hTI hTO h1 h2 p1.isList p2.isList (x:=u1) (y:=u2) (by simpa using hu1) (by simpa using hu2) fun h' a1 a2 a3 a4 a5 a6 hk=>?_
  have hf4:∀ c ∈ [z,TO,i1,i2],dq X Mv H c:=fun c hc=>hf c (by simp at hc ⊢;rcases hc with h | h | h | h <;> simp [h])
  have hk':∀ c o,c ∉ [z,TO,i1,i2]->s.heap.get? c=some o->h'.get? c=some o:=fun c o hc e=>hk c o (fun q=>hc (by simp [q])) (fun q=>hc (by simp [q])) (fun q=>hc (by simp [q])) (fun q=>hc (by simp [q])) e
  have I1:Inv X Mv σ (af H s.heap.objs.size (.tup [x,y])) { s with heap:=h' }:=I.turnT hf4 ru1 ru2 hk' a5 (fun c hc=>by
   obtain ⟨o1,e1,_⟩:=id a3;obtain ⟨o2,e2,_⟩:=id a4;simp only [zT,zX,or_false] at hc;rcases hc with rfl | rfl | rfl | rfl
   ·exact ⟨_,a1⟩
   ·exact ⟨_,a2⟩
   ·exact ⟨_,e1⟩
   ·exact ⟨_,e2⟩)
  have hfr:H s.heap.objs.size=none:=I.fresh;refine ⟨_,rfl,wpAny_letOwnedTupleGo_zip (s:={ s with heap:=h' }) a1 fun h'' z1 sb=>?_⟩;have hf5:∀ c ∈ [z,TI,TO,i1,i2],(af H s.heap.objs.size (.tup [x,y])) c=none:=fun c hc=>by
   have lt:c < s.heap.objs.size:=by
    obtain ⟨o1,e1,_⟩:=id h1;obtain ⟨o2,e2,_⟩:=id h2;simp only [zT,zX,or_false] at hc;rcases hc with rfl | rfl | rfl | rfl | rfl
    ·exact yI hz
    ·exact yI hTI
    ·exact yI hTO
    ·exact yI e1
    ·exact yI e2
   rw [ad (zU lt)];exact (hf c hc).1
  have I2:Inv X Mv σ (af H s.heap.objs.size (.tup [x,y])) { s with heap:=h'' }:=Inv.turnN (s:={ s with heap:=h' }) (ch:=[z]) I1 (fun c hc=>by
   have:c=z:=by simpa using hc
   subst this;exact ⟨hf5 c (by simp),(hf c (by simp)).2⟩) (fun c o hc e=>(sb.2 c (fun q=>hc (by simp [q]))).trans e)
  refine ⟨.ref s.heap.objs.size,_,I2,rfl,⟨_,x,y,fun zs hzs=>by rw [I.list_inj hzs hq1];exact hx,fun zs hzs=>by rw [I.list_inj hzs hq2];exact hy,hfr,rfl,rfl⟩,⟨z1,?_,⟨u1,u2,?_⟩,?_,?_⟩,hf5⟩
  ·exact (sb.2 TI D1).trans (hk' TI _ (by simp [D1,D5,D6,D7]) hTI)
  ·exact (sb.2 TO D2).trans a2
  ·exact a3.at fun o e=>(sb.2 i1 D3).trans e
  ·exact a4.at fun o e=>(sb.2 i2 D4).trans e
 done:=by
  rintro X hP hw hK hc i Mv s σ H E I hf ⟨hz,hTI,⟨ua,ub,hTO⟩,h1,h2⟩ ⟨xs,ys,hq1,hq2,hend⟩;subst hP hw hK;obtain ⟨its1,rv1,p1,_⟩:=I.list hq1;obtain ⟨its2,rv2,p2,_⟩:=I.list hq2;have ob:∀ c ∈ [z,TO,i1,i2],∃ o,s.heap.get? c=some o/\o.cls ≠ .type "list":=fun c hc=>by
   obtain ⟨o1,e1,c1,d1⟩:=id h1;obtain ⟨o2,e2,c2,d2⟩:=id h2;simp only [zT,zX,or_false] at hc;rcases hc with rfl | rfl | rfl | rfl
   ·exact ⟨_,hz,by simp⟩
   ·exact ⟨_,hTO,by simp⟩
   ·exact ⟨_,e1,by rw [c1];simp⟩
   ·exact ⟨_,e2,by rw [c2];simp⟩
  have hf4:∀ c ∈ [z,TO,i1,i2],dq X Mv H c:=fun c hc=>hf c (by simp at hc ⊢;rcases hc with h | h | h | h <;> simp [h])
  have na:∀ c ∈ [z,TO,i1,i2],a ≠ c:=fun c hc=>cP I hq1 (hf4 c hc) (ob c hc)
  have nb:∀ c ∈ [z,TO,i1,i2],b ≠ c:=fun c hc=>cP I hq2 (hf4 c hc) (ob c hc)
  have D:ZipApart z TI TO i1 i2 a b:=⟨D1,D2,D3,D4,D5,D6,D7,D8,D9,D10,na z (by simp),na TO (by simp),na i1 (by simp),na i2 (by simp),nb z (by simp),nb TO (by simp),nb i1 (by simp),nb i2 (by simp)⟩;have hl1:=rv1.length;have hl2:=rv2.length;refine wpAny_pyNext_zip_end (I.ok.hd hc) D hz hTI hTO h1 h2 p1.isList p2.isList (by rcases hend with h | h;(left;simp;omega);(right;simp;omega)) fun h' hk=>⟨rfl,?_⟩
  exact I.turnN hf4 fun c o hc e=>hk c o (fun q=>hc (by simp [q])) (fun q=>hc (by simp [q])) (fun q=>hc (by simp [q])) (fun q=>hc (by simp [q])) e
 self:=fun _ _ _ _ _ ⟨hz,_⟩ h=>wpAny_pyIter_zip hz h
def JU (K:Frag) (ta:TA):TI:=fun σ H R=>ta σ H fun vs H1=>∃ a b,vs=[.ref a,.ref b]/\(∃ xs,bz K H1 a xs)/\(∃ ys,bz K H1 b ys)/\R (IY K a b) H1
theorem Dq {X:Cx}{elts:List Expr}{x1:Nat}{tpos:Pos}{a b:Expr}{ta:TA}{p pos:Pos} (hg:Gl X "zip") (hm:X.mg "zip"=none) (ha:PA X [a,b] ta) (hs:starEach [a,b] X.env=[(false,eval a X.env),(false,eval b X.env)]:=by rfl) (hs2:starEach [b] X.env=[(false,eval b X.env)]:=by rfl) :
  PI X (.Tuple elts x1 tpos) (.Call (.Name "zip" p) [a,b] [] pos) (JU X.K ta):=by
 intro Mv s σ H R I h;refine Call_ (cH I hg hm boot_zip (PyProof.Rows.callWith_type1 (aB (ha pos Mv s σ H _ I h) fun us s1 ⟨vs,H1,I1,r1,q1⟩=>?_) (by rw [hs,hs2]) (by rw [hs2];rfl)));obtain ⟨l1,l2,e,⟨xs,hq1⟩,⟨ys,hq2⟩,q⟩:=q1;subst e;cases r1 with
 | cons r rr =>
  cases rr with
  | cons r' rr =>
   cases rr;cases r;cases r';obtain ⟨its1,rv1,p1,_⟩:=I1.list hq1;obtain ⟨its2,rv2,p2,_⟩:=I1.list hq2;refine call_zip_2 p1.isList p2.isList fun h' hz hTI hTO h1 h2 hsz hk=>?_
   have I2:Inv X Mv σ H1 { s1 with heap:=h' }:=I1.kept (t':=s1.toks) hk;refine wpAny_pyIter_zip (s:={ s1 with heap:=h' }) hz ?_;have lt:∀ k:Nat,s1.heap.objs.size <= s1.heap.objs.size + k:=fun k=>Nat.le_add_right _ _
   refine ⟨_,[s1.heap.objs.size + 4,s1.heap.objs.size + 2,s1.heap.objs.size + 3,s1.heap.objs.size,s1.heap.objs.size + 1],_,_,H1,rfl,I2,
    wC l1 l2 (s1.heap.objs.size + 4) (s1.heap.objs.size + 2) (s1.heap.objs.size + 3) s1.heap.objs.size (s1.heap.objs.size + 1) ?_ ?_ ?_ ?_ ?_ ?_ ?_ ?_ ?_ ?_,⟨hz,hTI,⟨_,_,hTO⟩,h1,h2⟩,fun c hc=>?_,q⟩
   all_goals first
    | (show _ + _ ≠ _ + _;intro z;exact absurd (Nat.add_left_cancel z) dC)
    | (show _ ≠ _ + _;intro z;exact absurd z (by have:=Nat.lt_add_of_pos_right (n:=s1.heap.objs.size) (k:=4) dC;have:=Nat.lt_add_of_pos_right (n:=s1.heap.objs.size) (k:=1) dC;exact zU (by assumption)))
    | (show _ + _ ≠ _;exact Nat.ne_of_gt (Nat.lt_add_of_pos_right dC))
    | skip
   have hle:s1.heap.objs.size <= c:=by
    simp only [zT,zX,or_false] at hc;rcases hc with rfl | rfl | rfl | rfl | rfl
    ·exact lt 4
    ·exact lt 2
    ·exact lt 3
    ·exact zP _
    ·exact lt 1
   obtain ⟨f0,f1,f2,f3,f4,f5⟩:=I1.fpOk hle (I1.MB.fresh hle);exact ⟨f0,f1,f2,f3,f4,f5⟩
theorem yc {X:Cx}:yw X (fun o i H Q=>∃ p xs k v,o=.ref p/\i=.int k/\bz X.K H p xs/\fL xs k=some v/\Q v H):=by
 rintro Mv s σ H o i ov iv Q I ro ri ⟨p,xs,k,v,e1,e2,hq,he,q⟩;subst e1 e2;cases ro;obtain ⟨t,rfl⟩:=ri;obtain ⟨Mz,r,pl,hz⟩:=I.list hq;obtain ⟨j,h1,h2,h3,h4,h5⟩:=kY he;obtain ⟨w,ew,rw'⟩:=r.get h2;have hl:=r.length;have hn:=gg;have aF:EP X Mv σ Q w s:=⟨v,H,I,rw',q⟩;by_cases h0:0 <= k
 ·have hj:k.toNat=j:=by
   rw [seqIndex_of h0 h5] at h1;exact yD h1
  exact wpAny_getItem_list pl.isList h0 oM (by rw [hj];simpa using ew) aF
 ·have hj:(k + (Mz.toArray.size:Int)).toNat=j:=by
   rw [seqIndex_neg oM h4] at h1;rw [zI,<- hl];exact yD h1
  exact wpAny_getItem_list_neg pl.isList oM (by rw [zI] <;> omega) oM (by rw [hj];simpa using ew) aF
end L2
namespace DD
open PySem PySem.Spec PyProof.Rows L2
section
variable {X:Cx}{e o a b:Expr}{es:List Expr}{p q:DP}{c c':DE}{pos apos cpos:Pos}{i:Nat}{js:List DP}
theorem cnt_vals {h:Heap}{q:PyData}{e:Value->Bool} (he:∀ v p as,Reads h v p as->e v=PyData.eqv p q):∀ {vs:List Value}{ps:List PyData}{as:List Addr},ReadsAll h vs ps as->vs.countP e=ps.countP fun r=>PyData.eqv r q:=by
 intro vs
 induction vs with
 | nil=>intro ps as h;cases h;rfl
 | cons v vs ih =>
  intro ps as h;cases h with
  | cons r rs=>rw [List.countP_cons,List.countP_cons,ih rs,he _ _ _ r]
theorem reads_each {h:Heap}:∀ {vs:List Value}{ps:List PyData}{as:List Addr},ReadsAll h vs ps as->∀ v ∈ vs,∃ p as',p ∈ ps/\Reads h v p as':=by
 intro vs
 induction vs with
 | nil=>intro ps as h v hv;cases hv
 | cons v vs ih =>
  intro ps as h v hv;cases h with
  | cons r rs =>
   rcases zT.mp hv with rfl | hv
   ·exact ⟨_,_,z6,r⟩
   ·obtain ⟨p,as',hp,h⟩:=ih rs v hv
    exact ⟨p,as',zQ _ hp,h⟩
noncomputable def minL:List Int->Option Int
 | []=>none
 | x::xs=>some (xs.foldl (fun a b=>if b < a then b else a) x)
theorem En:∀ (xs:List Int) (x:Int),(xs.foldl (fun a b=>if b < a then b else a) x ∈ x::xs)/\∀ a ∈ x::xs,xs.foldl (fun a b=>if b < a then b else a) x <= a
 | [],x=>⟨by simp,by simp⟩
 | y::xs,x=>by
  obtain ⟨h1,h2⟩:=En xs (if y < x then y else x);rw [List.foldl_cons];constructor
  ·rcases zT.mp h1 with h | h
   ·rw [h];split <;> simp
   ·simp [h]
  ·intro a ha
   have hm:=h2 (if y < x then y else x) (by simp);have hx:(if y < x then y else x) <= x:=by split <;> omega
   have hy:(if y < x then y else x) <= y:=by split <;> omega
   rcases zT.mp ha with rfl | ha
   ·exact Int.le_trans hm hx
   ·rcases zT.mp ha with rfl | ha
    ·exact Int.le_trans hm hy
    ·exact h2 a (by simp [ha])
theorem minL_eq {ns:List Int}{m M:Int} (h:minL ns=some m) (h1:M ∈ ns) (h2:∀ a ∈ ns,M <= a):M=m:=by
 cases ns with
 | nil=>cases h1
 | cons x xs =>
  cases h;obtain ⟨g1,g2⟩:=En xs x;have a1:=g2 M h1;have a2:=h2 _ g1;omega
end
section
variable {X:Cx}{e o a b:Expr}{es:List Expr}{p q:DP}{c c':DE}{pos apos cpos:Pos}{i:Nat}{js:List DP}
theorem any_vals {h:Heap}{q:PyData}{e:Value->Bool} (he:∀ v p as,Reads h v p as->e v=PyData.eqv p q):∀ {vs:List Value}{ps:List PyData}{as:List Addr},ReadsAll h vs ps as->vs.any e=ps.any fun r=>PyData.eqv r q
 | _,_,_,.nil=>rfl
 | _,_,_,.cons r rs=>by rw [List.any_cons,List.any_cons,any_vals he rs,he _ _ _ r]
end
end DD
namespace L2
open PySem PySem.Spec PyProof.Rows
def ww (K:Frag) (a:Addr) (n0:Nat):It :=
 ⟨fun i H=>∃ xs x,bz K H a xs/\xs[i]?=some x,
  fun i H x H'=>∃ p u,(∀ xs,bz K H a xs->xs[i]?=some u)/\H p=none/\H'=af H p (.tup [.int ((n0 + i:Nat):Int),u])/\x=.ref p,
  fun i H=>∃ xs,bz K H a xs/\xs.length=i⟩
theorem oH {prog:Program}{w:World}{A:Around} (hh:A.handled=none) (it l:Addr) (hne:l ≠ it) (items:Array Value) (n0:Nat) :
  Draws prog w A it [it,l] (n0 + items.size) (fun i v=>n0 <= i/\items[i - n0]?=some v) (fun i h=>n0 <= i/\h.IsListIter it l (i - n0)/\h.IsList l items) where
 live:=fun _ _ q=>by obtain ⟨o,ho,_⟩:=q.2.1;exact ⟨o,ho⟩
 frame:=fun _ _ _ q hk=>⟨q.1,q.2.1.at fun o e=>hk it (by simp) o e,q.2.2.at fun o e=>hk l (by simp) o e⟩
 item:=fun i s Q E hi q hQ=>by
  have hl:i - n0 < items.size:=by have:=q.1;omega
  refine wpAny_nextOf_list_item q.2.1 q.2.2 (x:=items[i - n0]) (by simp [hl]) fun h' hit' hs'=>?_
  refine hQ _ h' s.toks ⟨q.1,by simp [hl]⟩ ⟨Nat.le_succ_of_le q.1,?_,q.2.2.extBut hs'.extBut hne⟩ hs';rw [show i + 1 - n0=i - n0 + 1 by have:=q.1;omega];exact hit'
 done:=fun s Q E q hE=>wpAny_nextOf_list_end hh q.2.1 q.2.2 (by simp) hE
theorem uQ {P:Program}{w:World}{K:Frag}{elts:List Expr}{x1:Nat}{tpos:Pos} (a z it:Addr) (n0:Nat) (D:z ≠ it) :
  iR P w K (.Tuple elts x1 tpos) (ww K a n0) [z,it] z (fun i h=>(∃ old,IsEnum h z it ((n0 + i:Nat):Int) old)/\h.IsListIter it a i) where
 mem:=by simp
 obj:=fun i h hq0 c hc=>by
  obtain ⟨⟨old,hz⟩,⟨o1,e1,c1,d1⟩⟩:=hq0;simp only [zT,zX,or_false] at hc;rcases hc with rfl | rfl
  ·exact ⟨_,hz,fun v z=>nomatch z⟩
  ·exact ⟨_,e1,fun v z=>by rw [d1] at z;cases z⟩
 keep:=fun i h h' ⟨⟨old,hz⟩,h1⟩ k=>⟨⟨old,k z (by simp) _ hz⟩,h1.at fun o e=>k it (by simp) o e⟩
 item:=by
  rintro X hP hw hK hc i Mv s σ H E I hf ⟨⟨old,hz⟩,h1⟩ ⟨xs,x,hq,hx⟩;subst hP hw hK;obtain ⟨Mz,rv,p1,_⟩:=I.list hq;obtain ⟨u,hu,ru⟩:=rv.get hx;have na:a ≠ z:=cP I hq (hf z (by simp)) ⟨_,hz,by simp⟩;have nb:a ≠ it:=cP I hq (hf it (by simp)) (by obtain ⟨o1,e1,c1,d1⟩:=id h1;exact ⟨_,e1,by rw [c1];simp⟩);have hil:i < Mz.length:=(zB.mp hu).1;refine wpAny_pyNext_enum_itemD (oH (A:=X.A.in1) (I.ok.hd hc) it a nb Mz.toArray n0) hz ⟨Nat.le_add_right _ _,by rw [Nat.add_sub_cancel_left];exact h1,p1.isList⟩ (by simp [hil]) D (by simp [D,na.symm]) fun v h' tk hv ho hst hT hsz hk=>?_
  have ev:v=u:=by
   have h2:=hv.2;rw [Nat.add_sub_cancel_left] at h2;simp only [List.getElem?_toArray] at h2;rw [hu] at h2;exact (yD h2).symm
  subst ev;have hf2:∀ c ∈ [z,it],dq X Mv H c:=fun c hc=>hf c hc
  have hk':∀ c o,c ∉ [z,it]->s.heap.get? c=some o->h'.get? c=some o:=fun c o hc e=>hk c o (fun q=>hc (by simp [q])) (fun q=>hc (by simp [q])) e
  have I0:Inv X Mv σ (af H s.heap.objs.size (.tup [.int ((n0 + i:Nat):Int),x])) { s with heap:=h' }:=I.turnT hf2 (u:=.int ((n0 + i:Nat):Int)) ⟨tk,rfl⟩ ru hk' hT (fun c hc=>by
   obtain ⟨o1,e1,_⟩:=id hst.2.1;simp only [zT,zX,or_false] at hc;rcases hc with rfl | rfl
   ·exact ⟨_,ho⟩
   ·exact ⟨_,e1⟩)
  have I1:Inv X Mv σ (af H s.heap.objs.size (.tup [.int ((n0 + i:Nat):Int),x])) { s with heap:=h',toks:=tk + 1 }:=I0.kept (t':=tk + 1) (fun _ _ e=>e);have hfr:H s.heap.objs.size=none:=I.fresh;refine ⟨_,rfl,wpAny_letOwnedTupleGo_enum (s:={ s with heap:=h',toks:=tk + 1 }) ho fun h'' z1 sb=>?_⟩;have hf5:∀ c ∈ [z,it],(af H s.heap.objs.size (.tup [.int ((n0 + i:Nat):Int),x])) c=none:=fun c hc=>by
   have lt:c < s.heap.objs.size:=by
    obtain ⟨o1,e1,_⟩:=id h1;simp only [zT,zX,or_false] at hc;rcases hc with rfl | rfl
    ·exact yI hz
    ·exact yI e1
   rw [ad (zU lt)];exact (hf c hc).1
  have I2:Inv X Mv σ (af H s.heap.objs.size (.tup [.int ((n0 + i:Nat):Int),x])) { s with heap:=h'',toks:=tk + 1 }:=Inv.turnN (s:={ s with heap:=h',toks:=tk + 1 }) (ch:=[z]) I1 (fun c hc=>by
   have:c=z:=by simpa using hc
   subst this;exact ⟨hf5 c (by simp),(hf c (by simp)).2⟩) (fun c o hc e=>(sb.2 c (fun q=>hc (by simp [q]))).trans e)
  refine ⟨.ref s.heap.objs.size,_,I2,rfl,⟨_,x,fun zs hzs=>by rw [I.list_inj hzs hq];exact hx,hfr,rfl,rfl⟩,⟨⟨_,by rw [show ((n0 + (i + 1):Nat):Int)=((n0 + i:Nat):Int) + 1 by omega];exact z1⟩,?_⟩,hf5⟩;have h3:=hst.2.1;rw [show n0 + i + 1 - n0=i + 1 by omega] at h3;exact h3.at fun o e=>(sb.2 it D.symm).trans e
 done:=by
  rintro X hP hw hK hc i Mv s σ H E I hf ⟨⟨old,hz⟩,h1⟩ ⟨xs,hq,hend⟩;subst hP hw hK;obtain ⟨Mz,rv,p1,_⟩:=I.list hq;have nb:a ≠ it:=cP I hq (hf it (by simp)) (by obtain ⟨o1,e1,c1,d1⟩:=id h1;exact ⟨_,e1,by rw [c1];simp⟩);have hl:=rv.length;refine wpAny_pyNext_enum_endD (oH (A:=X.A.in1) (I.ok.hd hc) it a nb Mz.toArray n0) hz ⟨Nat.le_add_right _ _,?_,p1.isList⟩ fun h' hk=>⟨rfl,?_⟩
  ·rw [Nat.add_sub_cancel_left,zI,<- hl,hend];exact h1
  ·exact I.turnN (ch:=[z,it]) (fun c hc=>hf c hc) fun c o hc e=>hk c o (fun q=>hc (by simp [q])) e
 self:=fun _ _ _ _ _ ⟨⟨_,hz⟩,_⟩ h=>wpAny_pyIter_enum hz h
theorem oK:bootBuiltins "enumerate"=some (.type "enumerate"):=by decide +kernel
def G0 (K:Frag) (n0:Nat) (ta:TA):TI:=fun σ H R=>ta σ H fun vs H1=>∃ a,vs=[.ref a]/\(∃ xs,bz K H1 a xs)/\R (ww K a n0) H1
theorem qA {X:Cx}{Mv:List (Addr × Obj)}{σ:St}{H1:Hp}{s1:Shared}{h':Heap}{t':Nat}{l:Addr}{n0:Nat}{elts:List Expr}{x1:Nat}{tpos:Pos}{R:It->Hp->Prop} (I1:Inv X Mv σ H1 s1) (he:IsEnum h' (s1.heap.objs.size + 1) s1.heap.objs.size (n0:Int) .none) (hi:h'.IsListIter s1.heap.objs.size l 0)
  (hk:∀ b o,s1.heap.get? b=some o->h'.get? b=some o) (q:R (ww X.K l n0) H1):Fy X Mv σ (.Tuple elts x1 tpos) R (.ref (s1.heap.objs.size + 1)) { s1 with heap:=h',toks:=t' }:=by
 have I2:Inv X Mv σ H1 { s1 with heap:=h',toks:=t' }:=I1.kept (t':=t') hk;refine ⟨_,[s1.heap.objs.size + 1,s1.heap.objs.size],_,_,H1,rfl,I2,uQ l (s1.heap.objs.size + 1) s1.heap.objs.size n0 (Nat.ne_of_gt (Nat.lt_succ_self _)),⟨⟨_,by simpa using he⟩,hi⟩,fun c hc=>?_,q⟩;have hle:s1.heap.objs.size <= c:=by
  simp only [zT,zX,or_false] at hc;rcases hc with rfl | rfl
  ·exact Nat.le_succ _
  ·exact zP _
 obtain ⟨f0,f1,f2,f3,f4,f5⟩:=I1.fpOk hle (I1.MB.fresh hle);exact ⟨f0,f1,f2,f3,f4,f5⟩
theorem Bt {X:Cx}{elts:List Expr}{x1:Nat}{tpos:Pos}{a:Expr}{ta:TA}{p pos:Pos} (hg:Gl X "enumerate") (hm:X.mg "enumerate"=none) (ha:PA X [a] ta) (hs:starEach [a] X.env=[(false,eval a X.env)]:=by rfl) :
  PI X (.Tuple elts x1 tpos) (.Call (.Name "enumerate" p) [a] [] pos) (G0 X.K 0 ta):=by
 intro Mv s σ H R I h;refine Call_ (cH I hg hm oK (PyProof.Rows.callWith_type1 (aB (ha pos Mv s σ H _ I h) fun us s1 ⟨vs,H1,I1,r1,q1⟩=>?_) (by rw [hs];rfl) (by rfl)));obtain ⟨l,e,⟨xs,hq⟩,q⟩:=q1;subst e;cases r1 with
 | cons r rr =>
  cases rr;cases r;obtain ⟨Mz,rv,p1,_⟩:=I1.list hq;refine call_enumerate_list p1.isList fun h' he hi hsz hk=>?_
  refine wpAny_pyIter_enum (s:={ s1 with heap:=h' }) he ?_;exact qA (t':=s1.toks) (n0:=0) I1 he hi hk q
section
variable {prog:Program}{w:World}{A:Around}{E:Value->Shared->Prop}{s:Shared}
theorem wF {α:Type}{x:Sem α}{Q Q1:α->Shared->Prop}{M:Model} (h:wpAny M A x Q E s) (hQ:∀ a s,Q a s->Q1 a s):wpAny M A x Q1 E s:=yQ h hQ fun _ _ x=>x
theorem pw (a v:Value):checkTypeCall "enumerate" ⟨[a],[("start",v)]⟩=pure ():=by kernel_rfl
theorem oU (a v:Value):checkBuiltinCall "enumerate.__new__" ⟨[.type "enumerate",a],[("start",v)]⟩=pure ():=by kernel_rfl
theorem nW (o a v:Value):argsOk "object.__init__" ⟨[o,a],[("start",v)]⟩:=by
 unfold argsOk;rw [signature?_of (id:="object.__init__") (n:=['_','_','t','i','n','i','_','_']) (o:=['t','c','e','j','b','o']) (by kernel_rfl) F.owner_object]
 kernel_rfl
theorem uj {T newId:String}{self a v:Value} (hl:typeLookup (.type T) "__init__"=pure (some (.builtin "object.__init__"))) (hm:Bind.madeBy (.type T)=pure (some newId)) (hne:(some newId != some "object.__new__")=true) :
  Meets (Builtin.«object.__init__» ⟨[self,a],[("start",v)]⟩) (fun _ R s=>s.TypeIs self T/\R (.ok (.ret .none)) s):=Meets.of_wp fun prog w A R s hs=>by
 obtain ⟨hT,hq⟩:=hs
 repeat (any_goals (first | assumption | wp_step))
 exact ⟨_,rfl,hq⟩
theorem qK {M:Model}{pos:Pos}{T:String}{args:List (Bool × Sem Value)}{kws:List (Option Str × Sem Value)}{Q:Value->Shared->Prop} (hp:args.any (·.1)=false) (hk:kws.any (·.1.isNone)=false)
  (h:wpAny M A (evalArgs (.type T) true args kws) (fun a s₁=>wpAny M A (call (.type T) a.pos a.kw) Q E s₁) E s):wpAny M A (callWith pos (.type T) [] args kws) Q E s:=by
 unfold callWith;refine yE (yP (wF h fun a s₁ h₁=>yE (wpAny_standAt ?_)));simp only [hp,hk,Bool.or_false];refine yE (yF (yE (wF h₁ fun r s₂ hr=>yE (yP (wpAny_point (yF hr))))))
end
section
variable {prog:Program}{w:World}{A:Around}{E:Value->Shared->Prop}{s:Shared}
theorem An {it t:Addr}{items:Array Value} (hne:t ≠ it):∀ (n i:Nat) (s:Shared) (Q:List Value->Shared->Prop),s.heap.IsListIter it t i->s.heap.IsList t items->i + n <= items.size ->
  (∀ h',h'.IsListIter it t (i + n)->Heap.SameBut it s.heap h'->Q ((items.toList.drop i).take n) { s with heap:=h' })->wpAny (model prog w) A (draw (.ref it) n) Q E s
 | 0,i,s,Q,hit,_,_,hQ=>yF (by simpa using hQ s.heap hit (Heap.SameBut.refl ..))
 | n + 1,i,s,Q,hit,ht,hle,hQ=>by
  have hlt:i < items.size:=by omega
  refine yE (m:=pyNext (.ref it)) (wpAny_pyNext_list_item hit ht (x:=items[i]) (by simp [hlt]) fun h₁ hit₁ hs₁=>?_);refine yE (yP (An hne n (i + 1) _ _ hit₁ (ht.extBut hs₁.extBut hne) oM fun h₂ hit₂ hs₂=>yF ?_));have q:=hQ h₂ (by rw [show i + (n + 1)=i + 1 + n by omega];exact hit₂) (hs₁.trans hs₂);rw [show items.toList.drop i=items[i]::items.toList.drop (i + 1) by simp [List.drop_eq_getElem_cons,hlt],List.take_succ_cons] at q;exact q
theorem AJ {t:Addr}{items:Array Value}{targets:List (Bool × (Value->Sem Unit))}{Q:Unit->Shared->Prop} (hh:A.handled=none) (ht:s.heap.IsList t items) (hn:targets.length=items.size) (hstar:targets.findIdx? (·.1)=none)
  (h:∀ h',Heap.ExtBut s.heap.objs.size s.heap h'->wpAny (model prog w) A (assignInOrder (targets.map (·.2)) items.toList) Q E { s with heap:=h' }):wpAny (model prog w) A (unpack (.ref t) targets) Q E s:=by
 have hlt:t ≠ s.heap.objs.size:=by obtain ⟨o,ho,_⟩:=ht;exact zU (yI ho)
 unfold unpack;rw [hn,hstar];refine yE (yP ?_);unfold unpackItems;refine yE ?_;unfold notIterableAtAll;refine yE (wpAny_specialOf ht.typeIs slot_list_iter.lookup (yF ?_));simp only [yA,if_false];refine yE (yP (wpAny_pyIter_list ht (yE (yP (An hlt items.size 0 _ _ ⟨_,zY _ rfl,rfl,rfl⟩ (ht.push _) oM fun h₁ hit₁ hs₁=>?_)))));rw [show List.take items.size (List.drop 0 items.toList)=items.toList by rw [List.drop_zero];exact List.take_of_length_le (by simp),yG (by simp)];refine yE (yP (wpAny_pyNext_list_end hh hit₁ ((ht.push _).extBut hs₁.extBut hlt) (by simp) fun h₂ he₂=>?_));simp only [Option.isSome_none,yA,if_false];exact yF (h h₂ fun b o hb e=>he₂ b o hb (hs₁.extBut b o hb (zG _ e)))
end
section
variable {X:Cx}{pos:Pos}
noncomputable def G4 (K:Frag) (n:Nat) (t:lJ):TG:=fun v σ H Q=>∃ a xs,v=.ref a/\bz K H a xs/\xs.length=n/\t xs σ H Q
theorem Bw {es:List Expr}{k:Nat}{t:lJ}{n:Nat} (hc:X.calm=true) (h:oS X es t) (hn:(assignEach es X.env).length=n:=by rfl) (hst:(assignEach es X.env).findIdx? (·.1)=none:=by rfl):PG X (.Tuple es k pos) (G4 X.K n t):=by
 intro Mv s σ H v u Q I r hw;obtain ⟨a,xs,e1,hq,hl,hw⟩:=hw;subst e1;cases r;obtain ⟨Mz,rv,pl,hz⟩:=I.list hq;rw [arm_assign_Tuple];refine yE (wpAny_standAt (AJ (I.ok.hd hc) pl.isList (by simp [hn,<- hl,rv.length]) hst fun h' hx=>?_));have I1:Inv X Mv σ H { s with heap:=h' }:=I.kept (t':=s.toks) fun b o e=>hx b o (zU (yI e)) e
 exact h Mv _ σ H xs _ Q I1 (by simpa using rv) hw
theorem jk:∀ (l:List Value) (k:Nat),(∀ (j:Nat) (v:Value),l[j]?=some v->∃ t,v=.int ((k + j:Nat):Int) t)->Vals ((List.range' k l.length).map fun (q:Nat)=>V.int (q:Int)) l
 | [],_,_=>.nil
 | u::l,k,h=>by
  rw [yU,List.range'_succ,zO];refine .cons ?_ (jk l (k + 1) fun j v e=>?_)
  ·obtain ⟨t,e⟩:=h 0 u rfl
   exact ⟨t,e⟩
  ·obtain ⟨t,e2⟩:=h (j + 1) v (by simpa using e)
   exact ⟨t,by rw [e2,show k + (j + 1)=k + 1 + j by omega]⟩
theorem gQ:bootBuiltins "list"=some (.type "list"):=by decide +kernel
def Cz (ta:TE):TE:=fun σ H Q=>ze ta td σ H fun vs H1=>∃ j:Nat,vs=[.int (j:Int)]/\j <= 1000/\∀ p,H1 p=none->Q (.ref p) (af H1 p (.lst ((List.range' 0 j).map fun (q:Nat)=>V.int (q:Int))))
theorem xh {a:Expr}{ta:TE}{p1 p2 pos2:Pos} (hc:X.calm=true) (hgl:Gl X "list") (hml:X.mg "list"=none) (hgr:Gl X "range") (hmr:X.mg "range"=none) (ha:PE X a ta)
  (hs:starEach [a] X.env=[(false,eval a X.env)]:=by rfl) (hs1:starEach [.Call (.Name "range" p2) [a] [] pos2] X.env=[(false,eval (.Call (.Name "range" p2) [a] [] pos2) X.env)]:=by rfl) :
  PE X (.Call (.Name "list" p1) [.Call (.Name "range" p2) [a] [] pos2] [] pos) (Cz ta):=by
 intro Mv s σ H Q I h;refine Call_ (cH I hgl hml gQ (PyProof.Rows.callWith_type1 ?_ (by rw [hs1];rfl) (by rfl)));rw [hs1];refine Calls.spliced_cons (Call_ (cH I hgr hmr boot_range (PyProof.Rows.callWith_type1 (aB ((rH ha vq hs) pos2 Mv s σ H _ I h) fun us s1 ⟨vs,H1,I1,r1,q1⟩=>?_) (by rw [hs];rfl) (by rfl))));cases r1 with
 | nil=>obtain ⟨j,e,_⟩:=q1;cases e
 | cons r rr =>
  obtain ⟨j,e,hj,q⟩:=q1;cases e;cases rr;obtain ⟨t,rfl⟩:=r;refine call_range_1 (Calls.spliced_nil ?_);have I2:Inv X Mv σ H1 { s1 with heap:=s1.heap.push { cls:=.type "range",data:=.fields #[.int 0 s1.toks,.int (j:Int) t,.int 1 (s1.toks + 1)] },toks:=s1.toks + 1 + 1 }:=I1.kept fun b o e=>zG _ e
  refine call_list_range (n:=j) (I.ok.hd hc) (IsRange.new ..) (small_one oM oM oM oM) (by rw [rangeSize_one];split <;> omega) oM fun h' tk acc' c' hk hS hacc=>?_
  have hv:=jk acc'.toList 0 (fun i v e=>by
   obtain ⟨t,e2⟩:=hacc.2 i v (by simpa using e);exact ⟨t,by rw [e2];congr 1;omega⟩)
  rw [show acc'.toList.length=j by simpa using hacc.1] at hv;exact ⟨.ref _,_,I2.laid (o:=.lst ((List.range' 0 j).map fun (q:Nat)=>V.int (q:Int))) hk (zP _) ⟨yV (jU (by simp;omega)),acc'.toList,c',hv,hS⟩,rfl,q _ I2.fresh⟩
end
end L2
namespace PySem.AutoSeq1
theorem ut (l:Addr) (items:Array Value) (n:Nat) (b:Addr) (items2:Array Value) (n2:Nat) (sl:Array (Option Value)) (hc0:¬(!items.isEmpty && Builtin.List.listTooLong (items.size + items2.size))=true) (hc1:items.size <= sizeLine) (hs2:items.size + items2.size <= sizeLine + 1) :
  Meets (Builtin.«list.extend» ⟨[.ref l,.ref b],[]⟩) (fun _ R s=>s.heap.get? l=some { cls:=.type "list",dict:=none,data:=.seq items n,slots:=#[] }/\s.heap.get? b=some { cls:=.type "list",dict:=none,data:=.seq items2 n2,slots:=sl }/\R (.ok (.ret Value.none)) { s with heap:=s.heap.update l (Obj.mapSeq fun x=>x++items2),toks:=s.toks }) :=
 .of_wp fun prog w A R s h=>by
  obtain ⟨hp,g,d,tk,os⟩:=s;obtain ⟨hl,hb,h⟩:=h;have f1:=idx_int;have f2:=sub_tuple_tuple;have f3:=sub_list_list;have f4:=sub_tuple_list;have f5:=sub_list_tuple;have hz':(items++items2).size <= sizeLine + 1:=by rw [Array.size_append];exact hs2
  wp_walk using (wpAny_updateSeq hl rfl (hz:=hc1) (_hz':=hz')),wpAny_loadPart' hl,wpAny_loadPart' hb;exact ⟨_,rfl,h⟩
end PySem.AutoSeq1
namespace L2
open PySem PySem.Spec PyProof.Rows
section
variable {X:Cx}
def F4 (K:Frag):V->List V->Hp->VK->Prop:=fun x vs H Q=>∃ l b xs zs,x=.ref l/\vs=[.ref b]/\H l=some (.lst xs)/\bz K H b zs/\xs.length + zs.length <= sizeLine/\Q .non (af H l (.lst (xs++zs)))
theorem BQ:FC X "list.extend" (F4 X.K):=by
 intro Mv s σ H x vs v us Q I rx rv h;obtain ⟨l,b,xs,zs,rfl,rfl,hH,hB,hz,q⟩:=h;cases rx;obtain ⟨u,rfl,ru⟩:=rv.one;cases ru;obtain ⟨z,Mz,n,r,hl,e⟩:=I.lstM hH;obtain ⟨its2,r2,pl,hz2⟩:=I.list hB;obtain ⟨o,n2,e2,c2,d2,s2⟩:=pl;obtain ⟨oc,od,odt,osl⟩:=o;dsimp only at c2 d2 s2;subst c2;subst d2;subst s2;have hl2:=r2.length;have hsz:Mz.toArray.size + its2.toArray.size <= sizeLine:=by rw [zI,zI];omega
 have hlong:¬ (!Mz.toArray.isEmpty && Builtin.List.listTooLong (Mz.toArray.size + its2.toArray.size))=true:=by
  rw [notLongL hsz,Bool.and_false];exact Bool.false_ne_true
 refine call_meets F.slot_list_extend ⟨_,e,rfl⟩ F.entry_list_extend (F.args_list_extend_2 _ _)
  (PySem.AutoSeq1.ut l Mz.toArray n b its2.toArray n2 osl hlong (by rw [zI];omega) oM) ⟨e,e2,?_⟩
 refine ⟨.non,_,I.lset (its':=Mz++its2) hH e (by simp) (r.append r2) ?_,rfl,q⟩;rw [zV];omega
end
end L2
namespace PySem.AutoSeq1
theorem Cj (l:Addr) (items:Array Value) (n:Nat) (sl1:Array (Option Value)) (b:Addr) (items2:Array Value) (n2:Nat) (sl:Array (Option Value)) (hs2:items.size + items2.size <= sizeLine) :
  Meets (Builtin.«list.__add__» ⟨[.ref l,.ref b],[]⟩) (fun _ R s=>s.heap.get? l=some { cls:=.type "list",dict:=none,data:=.seq items n,slots:=sl1 }/\s.heap.get? b=some { cls:=.type "list",dict:=none,data:=.seq items2 n2,slots:=sl }/\R (.ok (.ret (Value.ref s.heap.objs.size))) { s with heap:=s.heap.push { cls:=.type "list",data:=.seq (items++items2) },toks:=s.toks }) :=
 .of_wp fun prog w A R s h=>by
  obtain ⟨hp,g,d,tk,os⟩:=s;obtain ⟨hl,hb,h⟩:=h;have f1:=idx_int;have f2:=sub_tuple_tuple;have f3:=sub_list_list;have f4:=sub_tuple_list;have f5:=sub_list_tuple;have hz':(items++items2).size <= sizeLine + 1:=by rw [Array.size_append];omega
  have hlong:Builtin.List.listTooLong (items.size + items2.size)=false:=L2.notLongL hs2
  wp_walk using wpAny_loadPart' hl,wpAny_loadPart' hb
  all_goals first | exact ⟨_,rfl,h⟩ | skip
end PySem.AutoSeq1
namespace L2
open PySem PySem.Spec PyProof.Rows
section
variable {X:Cx}
def F5 (K:Frag):R2:=fun x y H Q=>∃ l b xs zs,x=.ref l/\y=.ref b/\bz K H l xs/\bz K H b zs/\xs.length + zs.length <= sizeLine/\∀ p,H p=none->Q (.ref p) (af H p (.lst (xs++zs)))
theorem BD:kC X (binaryOp .Add) (F5 X.K):=by
 intro Mv s σ H x y v u Q I rx ry h;obtain ⟨l,b,xs,zs,rfl,rfl,hH,hB,hz,q⟩:=h;cases rx;cases ry;obtain ⟨Mz,r,⟨o1,n1,e1,c1,d1,s1⟩,_⟩:=I.list hH;obtain ⟨its2,r2,⟨o2,n2,e2,c2,d2,s2⟩,_⟩:=I.list hB;obtain ⟨oc,od,odt,osl⟩:=o1;obtain ⟨pc,pd,pdt,psl⟩:=o2;dsimp only at c1 d1 s1 c2 d2 s2;subst c1;subst d1;subst s1;subst c2;subst d2;subst s2;have hl1:=r.length;have hl2:=r2.length;have hsz:Mz.toArray.size + its2.toArray.size <= sizeLine:=by rw [zI,zI];omega
 refine wpAny_binaryOp_concat (T:="list") (id:="list.__add__") ⟨_,e1,rfl⟩ ⟨_,e2,rfl⟩ noFill_list_add (by rfl) ?_;refine call_meets F.slot_list_add ⟨_,e1,rfl⟩ F.entry_list_add (F.args_list_add_2 _ _) (PySem.AutoSeq1.Cj l Mz.toArray n1 osl b its2.toArray n2 psl hsz) ⟨e1,e2,?_⟩;have ea:Mz.toArray++its2.toArray=(Mz++its2).toArray:=by simp
 rw [ea];exact ⟨.ref _,_,I.lnew (t':=s.toks) (r.append r2) (by rw [zV];omega),rfl,q _ I.fresh⟩
end
section
variable {κ:Type} [DecidableEq κ]
noncomputable def d6 (Mx:List (κ × V)) (k:κ):Option V:=(Mx.find? fun kv=>decide (kv.1=k)).map (·.2)
noncomputable def d8 (Mx:List (κ × V)) (k:κ) (v:V):List (κ × V) :=
 if (Mx.any fun kv=>decide (kv.1=k))=true then Mx.map (fun kv=>if kv.1=k then (kv.1,v) else kv) else Mx++[(k,v)]
theorem lL {p:κ × V}{r:List (κ × V)}{k:κ} (e:p.1=k):d6 (p::r) k=some p.2:=by simp [d6,List.find?_cons,e]
theorem lM {p:κ × V}{r:List (κ × V)}{k:κ} (e:¬ p.1=k):d6 (p::r) k=d6 r k:=by simp [d6,List.find?_cons,e]
theorem pi (k:κ):∀ Mx:List (κ × V),(Mx.any fun kv=>decide (kv.1=k))=(d6 Mx k).isSome
 | []=>rfl
 | p::r=>by
  rw [List.any_cons];by_cases e:p.1=k
  ·simp only [lL e,yS e,Bool.true_or,Option.isSome_some]
  ·rw [lM e,z9 e,Bool.false_or];exact pi k r
theorem ld (Mx:List (κ × V)) (k:κ) (v:V):(d8 Mx k v).length <= Mx.length + 1:=by
 unfold d8;split
 ·rw [zH];omega
 ·rw [zV,yU,List.length_nil];omega
theorem RelO.isSome_eq {o:Option V}{u:Option Value} (r:RelO o u):o.isSome=u.isSome:=by
 cases o with
 | none=>cases u with
  | none=>rfl
  | some _=>exact (show False from r).elim
 | some _=>cases u with
  | none=>exact (show False from r).elim
  | some _=>rfl
theorem KV.val {Mx:List (κ × V)}{vs:List (κ × Value)} (r:KV Mx vs) (k:κ):RelO (d6 Mx k) (valueAt vs k):=by
 unfold KV at r
 induction r with
 | nil=>exact True.intro
 | @cons p q ps qs h t ih =>
  obtain ⟨h1,h2⟩:=h;by_cases e:p.1=k
  ·have e':q.1=k:=h1.symm.trans e
   have b:valueAt (q::qs) k=some q.2:=by simp [valueAt,List.find?_cons,e']
   rw [lL e,b];exact h2
  ·have e':¬ q.1=k:=fun z=>e (h1.trans z)
   have b:valueAt (q::qs) k=valueAt qs k:=by simp [valueAt,List.find?_cons,e']
   rw [lM e,b];exact ih
theorem KV.any {Mx:List (κ × V)}{vs:List (κ × Value)} (r:KV Mx vs) (k:κ):(Mx.any fun kv=>decide (kv.1=k))=vs.any fun kv=>decide (kv.1=k):=by
 unfold KV at r
 induction r with
 | nil=>rfl
 | cons h t ih=>rw [List.any_cons,List.any_cons,ih,h.1]
theorem KV.repl {Mx:List (κ × V)}{vs:List (κ × Value)} (r:KV Mx vs) (k:κ) {y:V}{u:Value} (ry:RelV y u) :
  KV (Mx.map fun kv=>if kv.1=k then (kv.1,y) else kv) (vs.map fun kv=>if kv.1=k then (kv.1,u) else kv):=by
 unfold KV at r ⊢
 induction r with
 | nil=>exact .nil
 | @cons p q ps qs h t ih =>
  rw [zO,zO];refine .cons ?_ ih;obtain ⟨h1,h2⟩:=h;by_cases e:p.1=k
  ·rw [yH e,yH (h1.symm.trans e)];exact ⟨h1,ry⟩
  ·rw [yG e,yG (fun z=>e (h1.trans z))];exact ⟨h1,h2⟩
theorem KV.put {Mx:List (κ × V)}{vs:List (κ × Value)} (r:KV Mx vs) (k:κ) {y:V}{u:Value} (ry:RelV y u):KV (d8 Mx k y) (stored vs k u):=by
 unfold d8 stored;rw [r.any k];by_cases e:(vs.any fun kv=>decide (kv.1=k))=true
 ·rw [yH e,yH e];exact r.repl k ry
 ·rw [yG e,yG e];exact Paired.snoc r ⟨rfl,ry⟩
theorem KV.length {Mx:List (κ × V)}{vs:List (κ × Value)} (r:KV Mx vs):Mx.length=vs.length:=Paired.length r
end
theorem mO {P:Program}{w:World}{k:aW}{u:Value} (r:RelV (kV k) u):(bL P w).is k u=true:=by
 cases k with
 | inl i=>obtain ⟨t,e⟩:=(show ∃ t,u=Value.int i t from r);subst e;exact rc P w i t
 | inr x=>obtain ⟨t,e⟩:=(show ∃ t,u=Value.str x t from r);subst e;exact qZ P w x t
theorem oB {P:Program}{w:World}:∀ {ks:List aW}{us:List Value},Vals (ks.map kV) us->ItemsAre (bL P w) ks us
 | [],_,r=>by rw [List.map_nil] at r;cases r;exact .nil
 | k::ks,_,r=>by
  rw [zO] at r;cases r with
  | cons h t=>exact .cons (mO h) (oB t)
abbrev KT (H:Hp):List (List aW × V)->List (List aW × Addr × Value)->Prop:=Paired fun p q=>p.1=q.1/\H q.2.1=some (.tup (p.1.map kV))/\RelV p.2 q.2.2
theorem KT.val {H:Hp}{Mx:List (List aW × V)}{xs:List (List aW × Addr × Value)} (r:KT H Mx xs) (k:List aW):RelO (d6 Mx k) ((atKey xs k).map (·.2)):=by
 induction r with
 | nil=>exact True.intro
 | @cons p q ps qs h t ih =>
  obtain ⟨h1,_,h2⟩:=h;by_cases e:p.1=k
  ·have e':q.1=k:=h1.symm.trans e
   have b:atKey (q::qs) k=some q.2:=by simp [atKey,List.find?_cons,e']
   rw [lL e,b];exact h2
  ·have e':¬ q.1=k:=fun z=>e (h1.trans z)
   have b:atKey (q::qs) k=atKey qs k:=by simp [atKey,List.find?_cons,e']
   rw [lM e,b];exact ih
theorem KT.repl {H:Hp}{Mx:List (List aW × V)}{xs:List (List aW × Addr × Value)} (r:KT H Mx xs) (k:List aW) {y:V}{u:Value} (ry:RelV y u) :
  KT H (Mx.map fun kv=>if kv.1=k then (kv.1,y) else kv) (xs.map (putAt k u)):=by
 induction r with
 | nil=>exact .nil
 | @cons p q ps qs h t ih =>
  rw [zO,zO];refine .cons ?_ ih;obtain ⟨h1,h2,h3⟩:=h;unfold putAt;by_cases e:p.1=k
  ·rw [yH e,yH (h1.symm.trans e)];exact ⟨h1,h2,ry⟩
  ·rw [yG e,yG (fun z=>e (h1.trans z))];exact ⟨h1,h2,h3⟩
theorem KT.put {H:Hp}{Mx:List (List aW × V)}{xs:List (List aW × Addr × Value)} (r:KT H Mx xs) (k:List aW) {b:Addr}{y:V}{u:Value} (hb:H b=some (.tup (k.map kV))) (ry:RelV y u) :
  KT H (d8 Mx k y) (storedH xs k b u):=by
 have e:(Mx.any fun kv=>decide (kv.1=k))=(atKey xs k).isSome:=by
  rw [pi,(r.val k).isSome_eq,Option.isSome_map]
 unfold d8 storedH;rw [e];by_cases q:(atKey xs k).isSome=true
 ·rw [yH q,yH q];exact r.repl k ry
 ·rw [yG q,yG q];exact Paired.snoc r ⟨rfl,hb,ry⟩
theorem KT.keeps {H H':Hp}{Mx:List (List aW × V)}{xs:List (List aW × Addr × Value)} (r:KT H Mx xs) (ht:∀ b ys,H b=some (.tup ys)->H' b=some (.tup ys)):KT H' Mx xs :=
 Paired.mapP r fun _ _ z=>⟨z.1,ht _ _ z.2.1,z.2.2⟩
section
variable {P:Program}{w:World}{H:Hp}{h:Heap}{a:Addr}
theorem zl {u:HO} (ok:HOk P w H h) (e:Rd H a u):ObjOk P w H h a u:=e.ok ok
theorem nj {Mx:List (aW × V)} (ok:HOk P w H h) (e:Rd H a (.dK Mx)):Mx.length <= sizeLine/\(a == sysModules)=false/\∃ vs,KV Mx vs/\h.DictOf (bL P w) a vs :=
 show ObjOk P w H h a (.dK Mx) from zl ok e
theorem Ao {Mx:List (aW × V)} (ok:HOk P w H h) (e:H a=some (.dK Mx)):Mx.length <= sizeLine/\(a == sysModules)=false/\∃ vs,KV Mx vs/\h.DictOf (bL P w) a vs:=nj ok (.inl e)
theorem j6 {ks:List aW} (ok:HOk P w H h) (e:H a=some (.tup (ks.map kV))):(tupleKind (bL P w)).is h ks a:=by
 obtain ⟨_,Mz,r,o,h1,h2,n,h3⟩:=(show ObjOk P w H h a (.tup (ks.map kV)) from ok a _ e);exact ⟨o,Mz.toArray,n,h1,h2,h3,by simpa using oB r⟩
theorem ni {Mx:List (List aW × V)} (ok:HOk P w H h) (e:Rd H a (.dT Mx)):Mx.length <= sizeLine/\(a == sysModules)=false /\
  ∃ xs,KT H Mx xs/\h.DictOfH (tupleKind (bL P w)) a xs:=by
 obtain ⟨z,y,xs,r,o,es,ep,h1,h2,h3,h4,h5⟩:=(show ObjOk P w H h a (.dT Mx) from zl ok e);refine ⟨z,y,xs,r,o,es,ep,h1,h2,h3,h4,fun x hx=>?_,h5⟩;have all:∀ {l:List (List aW × V)}{m:List (List aW × Addr × Value)},KT H l m->∀ x ∈ m,(tupleKind (bL P w)).is h x.1 x.2.1:=by
  intro l m q
  induction q with
  | nil=>intro x hx;exact nomatch hx
  | @cons p q ps qs hq t ih =>
   intro x hx;rcases zT.mp hx with e | hx
   ·subst e
    exact j6 ok (by rw [<- hq.1];exact hq.2.1)
   ·exact ih x hx
 exact all r x hx
theorem Am {Mx:List (List aW × V)} (ok:HOk P w H h) (e:H a=some (.dT Mx)):Mx.length <= sizeLine/\(a == sysModules)=false /\
  ∃ xs,KT H Mx xs/\h.DictOfH (tupleKind (bL P w)) a xs:=ni ok (.inl e)
end
def DGet (H:Hp) (a:Addr) (y:V) (r:Option V):Prop :=
 (∃ Mx k,Rd H a (.dK Mx)/\y=kV k/\r=d6 Mx k)\/∃ Mx k b,Rd H a (.dT Mx)/\y=.ref b/\H b=some (.tup (k.map kV))/\r=d6 Mx k
def DPut (H:Hp) (a:Addr) (y v:V) (H':Hp):Prop :=
 (∃ Mx k,H a=some (.dK Mx)/\y=kV k/\Mx.length < sizeLine/\H'=af H a (.dK (d8 Mx k v))) \/
 ∃ Mx k b,H a=some (.dT Mx)/\y=.ref b/\H b=some (.tup (k.map kV))/\Mx.length < sizeLine/\H'=af H a (.dT (d8 Mx k v))
theorem DGet.k {H:Hp}{a:Addr}{Mx:List (aW × V)}{k:aW} (e:H a=some (.dK Mx)):DGet H a (kV k) (d6 Mx k):=.inl ⟨Mx,k,.inl e,rfl,rfl⟩
theorem DGet.t {H:Hp}{a b:Addr}{Mx:List (List aW × V)}{k:List aW} (e:H a=some (.dT Mx)) (eb:H b=some (.tup (k.map kV))):DGet H a (.ref b) (d6 Mx k):=.inr ⟨Mx,k,b,.inl e,rfl,eb,rfl⟩
theorem DPut.k {H:Hp}{a:Addr}{Mx:List (aW × V)}{k:aW}{v:V} (e:H a=some (.dK Mx)) (hl:Mx.length < sizeLine):DPut H a (kV k) v (af H a (.dK (d8 Mx k v))):=.inl ⟨Mx,k,e,rfl,hl,rfl⟩
theorem DPut.t {H:Hp}{a b:Addr}{Mx:List (List aW × V)}{k:List aW}{v:V} (e:H a=some (.dT Mx)) (eb:H b=some (.tup (k.map kV))) (hl:Mx.length < sizeLine) :
  DPut H a (.ref b) v (af H a (.dT (d8 Mx k v))):=.inr ⟨Mx,k,b,e,rfl,eb,hl,rfl⟩
section
variable {X:Cx}{Mv:List (Addr × Obj)}{σ:St}{H:Hp}{s:Shared}{a:Addr}{y v:V}{u r:Value}{o:Option V}{A:Around}{E:Value->Shared->Prop}
theorem Inv.big (I:Inv X Mv σ H s):sysModules < s.heap.objs.size:=by
 have h:mainGlobals < s.heap.objs.size:=(I.mod.glob.keeps I.bk).lt;exact Nat.lt_trans dC h
theorem v6 {Q:Value->Shared->Prop} (hu:A.units + 1 < cLine) (I:Inv X Mv σ H s) (g:DGet H a y (some v)) (ry:RelV y u) (h:∀ w' s',Inv X Mv σ H s'->RelV v w'->Q w' s') :
  wpAny (model X.prog X.w) A (getItem (.ref a) u) Q E s:=by
 rcases g with ⟨Mx,k,e,ey,l⟩ | ⟨Mx,k,b,e,ey,eb,l⟩
 ·subst ey
  obtain ⟨z,hd,vs,rel,dd⟩:=nj I.MB e;obtain ⟨w',hw,rw'⟩:=RelO.some_of (v:=v) (o:=valueAt vs k) (by rw [l];exact rel.val k);exact wpAny_getItem_of (mO ry) dd.mapOf hw (h w' _ (I.tok _) rw')
 ·subst ey
  cases (show u=Value.ref b from ry);obtain ⟨z,hd,xs,rel,dd⟩:=ni I.MB e;obtain ⟨w',hw,rw'⟩:=RelO.some_of (v:=v) (o:=(atKey xs k).map (·.2)) (by rw [l];exact rel.val k);obtain ⟨p,hp,hp2⟩:=zE.mp hw;refine wpAny_getItem_heap (tupleKind_room_in1 hu) (j6 I.MB eb) dd hp ?_;rw [hp2];exact h w' _ (I.tok _) rw'
theorem JZ {Q:Value->Shared->Prop} (hu:A.units + 1 < cLine) (I:Inv X Mv σ H s) (g:DGet H a y o) (ry:RelV y u) (h:∀ s',Inv X Mv σ H s'->Q (.bool o.isSome) s') :
  wpAny (model X.prog X.w) A (compareOp .In u (.ref a)) Q E s:=by
 rcases g with ⟨Mx,k,e,ey,l⟩ | ⟨Mx,k,b,e,ey,eb,l⟩
 ·subst ey
  obtain ⟨z,hd,vs,rel,dd⟩:=nj I.MB e;refine wpAny_in_of (mO ry) hd dd.mapOf ?_;rw [<- (rel.val k).isSome_eq,<- l];exact h _ (I.tok _)
 ·subst ey
  cases (show u=Value.ref b from ry);obtain ⟨z,hd,xs,rel,dd⟩:=ni I.MB e;refine wpAny_in_heap (tupleKind_room_in1 hu) (j6 I.MB eb) hd dd ?_;have q:=(rel.val k).isSome_eq;rw [Option.isSome_map] at q;rw [<- q,<- l];exact h _ (I.tok _)
theorem Cb {Q:Value->Shared->Prop} (hu:A.units + 1 < cLine) (I:Inv X Mv σ H s) (g:DGet H a y o) (ry:RelV y u) (h:∀ s',Inv X Mv σ H s'->Q (.bool (!o.isSome)) s') :
  wpAny (model X.prog X.w) A (compareOp .NotIn u (.ref a)) Q E s:=by
 rcases g with ⟨Mx,k,e,ey,l⟩ | ⟨Mx,k,b,e,ey,eb,l⟩
 ·subst ey
  obtain ⟨z,hd,vs,rel,dd⟩:=nj I.MB e;refine wpAny_notIn_of (mO ry) hd dd.mapOf ?_;rw [<- (rel.val k).isSome_eq,<- l];exact h _ (I.tok _)
 ·subst ey
  cases (show u=Value.ref b from ry);obtain ⟨z,hd,xs,rel,dd⟩:=ni I.MB e;refine wpAny_notIn_heap (tupleKind_room_in1 hu) (j6 I.MB eb) hd dd ?_;have q:=(rel.val k).isSome_eq;rw [Option.isSome_map] at q;rw [<- q,<- l];exact h _ (I.tok _)
theorem sO {h':Heap}{t':Nat}{ob:HO} (I:Inv X Mv σ H s) (mu:wu (H a)) (hs:Heap.SameBut a s.heap h') (he:∃ q,h'.get? a=some q) (new:ObjOk X.prog X.w (af H a ob) h' a ob) :
  Inv X Mv σ (af H a ob) { s with heap:=h',toks:=t' } :=
 I.write (x:=a) (e:=a) mu (.inl rfl) (fun b q hb z=>(hs.2 b hb).trans z) he new
theorem Fk {P:Program}{w:World}{H':Hp}{h':Heap}{Mx:List (aW × V)}{vs:List (aW × Value)} (z:Mx.length <= sizeLine) (hd:(a == sysModules)=false) (rel:KV Mx vs) (dd:h'.DictOf (bL P w) a vs) :
  ObjOk P w H' h' a (.dK Mx):=⟨z,hd,vs,rel,dd⟩
theorem oJ {H':Hp}{Q:Unit->Shared->Prop} (hu:A.units + 1 < cLine) (I:Inv X Mv σ H s) (g:DPut H a y v H') (ry:RelV y u) (rv:RelV v r) (h:∀ s',Inv X Mv σ H' s'->Q () s') :
  wpAny (model X.prog X.w) A (setItem (.ref a) u r) Q E s:=by
 rcases g with ⟨Mx,k,e,ey,l,eH⟩ | ⟨Mx,k,b,e,ey,eb,l,eH⟩
 ·subst ey eH
  obtain ⟨z,hd,vs,rel,dd⟩:=Ao I.MB e;have hz:vs.length <= sizeLine:=by rw [<- rel.length];exact z
  have hl:(d8 Mx k v).length <= sizeLine:=by have:=ld Mx k v;omega
  refine wpAny_setItem_pairs (hsz:=hz) (mO ry) dd fun h' dd' hs=>h _ ?_
  have he:∃ q,h'.get? a=some q:=let ⟨q,_,_,hq,_⟩:=dd';⟨q,hq⟩;exact sO I (by rw [e];exact True.intro) hs he (Fk hl hd (rel.put k rv) dd')
 ·subst ey eH
  cases (show u=Value.ref b from ry);obtain ⟨z,hd,xs,rel,dd⟩:=Am I.MB e;have hz:xs.length <= sizeLine:=by rw [<- Paired.length rel];exact z
  have hl:(d8 Mx k v).length <= sizeLine:=by have:=ld Mx k v;omega
  refine wpAny_setItem_heap (hsz:=hz) (tupleKind_room_in1 hu) (j6 I.MB eb) dd fun h' dd' hs=>h _ ?_
  obtain ⟨q,es,ep,hq,h2,h3,h4,_,h5⟩:=dd';refine sO I (by rw [e];exact True.intro) hs ⟨q,hq⟩ ⟨hl,hd,_,(rel.put k eb rv).keeps fun c ys ec=>?_,q,es,ep,hq,h2,h3,h4,h5⟩;rw [ad (tO ec e (fun z=>nomatch z))];exact ec
end
theorem rg {X:Cx}{Mv:List (Addr × Obj)}{σ:St}{H:Hp}{s:Shared}{a:Addr}{y:V}{o:Option V} (I:Inv X Mv σ H s) (g:DGet H a y o):s.TypeIs (.ref a) "dict":=by
 rcases g with ⟨Mx,k,e,_,_⟩ | ⟨Mx,k,b,e,_,_,_⟩
 ·obtain ⟨_,_,vs,_,dd⟩:=nj I.MB e
  exact dd.typeIs
 ·obtain ⟨_,_,xs,_,dd⟩:=ni I.MB e
  exact dd.typeIs
theorem yj {P:Program}{w:World}{H:Hp} (h:Heap) (hb:sysModules < h.objs.size):ObjOk P w H (h.push { cls:=.type "dict",data:=.dict #[] }) h.objs.size (.dK []) :=
 ⟨Nat.zero_le _,beq_eq_false_iff_ne.mpr (Ne.symm (zU hb)),[],.nil,Heap.DictOf.new h⟩
def uW:TE:=fun _ H Q=>∀ p,H p=none->Q (.ref p) (af H p (.dK []))
section
variable {X:Cx}{pos:Pos}
theorem xm:PE X (.Dict [] [] pos) uW:=fun Mv s σ H Q I h =>
 wpAny_Dict_empty ⟨.ref s.heap.objs.size,_,I.laid (a:=s.heap.objs.size) (o:=.dK []) (t':=s.toks) (fun _ _ q=>zG _ q) (zP _) (yj s.heap I.big),rfl,h _ (I.MB.fresh (zP _))⟩
end
end L2
namespace L2
open PySem PySem.Spec PySem.Calls PyProof.Rows
section
variable {prog:Program}{w:World}{A:Around}{E:Value->Shared->Prop}{s:Shared}
theorem tU (d:Addr) (hd:(d == sysModules)=false) :
  MeetsIn prog w (Builtin.«dict.__len__» ⟨[.ref d],[]⟩) (fun _ R s=>∃ xs:List (List aW × Addr × Value),s.heap.DictOfH (tupleKind (bL prog w)) d xs/\R (.ok (.ret (.int xs.length s.toks))) { s with toks:=s.toks + 1 }) :=
 .of_wp fun A R s hq0=>by
  obtain ⟨Mx,hm,h⟩:=hq0;obtain ⟨o,es,ep,ho,hc,hdat,hk,hp,hn⟩:=hm;show wpAny _ _ (dictSize d >>= _) _ _ s;unfold dictSize;refine yE (yE (wpAny_dictEntries ho hdat (yF ?_)));show wpAny _ _ (Builtin.Dict.pendingCount d >>= _) _ _ s;refine yE (wpAny_pendingCount_other hd ?_);refine wpAny_ret_mkInt ?_;have:es.size=Mx.length:=size_of_entries hk;simpa [this] using h
theorem ux {d:Addr}{xs:List (List aW × Addr × Value)}{Q:Value->Shared->Prop} (hd:(d == sysModules)=false) (hm:s.heap.DictOfH (tupleKind (bL prog w)) d xs) (hfit:(xs.length:Int) < 2 ^ 63)
  (h:Q (.int xs.length (s.toks + 1)) { s with toks:=s.toks + 1 + 1 }):wpAny (model prog w) A (call (.builtin "len") [.ref d]) Q E s:=by
 refine Calls.call_function_entry kind_len plain_len entry_len (args_len1 _) ?_;unfold Builtin.«len»;refine yE (m:=oneArg "len" _) (yF ?_);refine yE (m:=callSpecial? (.ref d) (Str.ofString "__len__")) (wpAny_callSpecial?_slot (name:=Str.ofString "__len__") hm.typeIs PySem.F.slot_dict_len
  (call_meetsIn PySem.F.slot_dict_len hm.typeIs PySem.F.entry_dict_len (PySem.F.args_dict_len_1 _) (tU d hd) ⟨xs,hm,?_⟩))
 show wpAny _ _ _ _ _ { s with toks:=s.toks + 1 };refine yE (yP (yF ?_));refine yE (wpAny_letGo ?_);show wpAny _ _ (if ((xs.length:Nat):Int) < 0 then _ else _) _ _ _;rw [yG oM];show wpAny _ _ (if ((xs.length:Nat):Int) ≥ 2 ^ 63 then _ else _) _ _ _;rw [yG oM];exact yE (wpAny_mkInt (yF ⟨_,rfl,h⟩))
end
section
variable {X:Cx}
theorem wc:bZ X (.builtin "len") (fun xs H Q=>∃ a Mx,xs=[V.ref a]/\H a=some (.dT Mx)/\Q (.int Mx.length) H):=by
 intro Mv s σ H xs us Q I r h;obtain ⟨a,Mx,rfl,ha,q⟩:=h;obtain ⟨u,rfl,ru⟩:=dB r;cases ru;obtain ⟨z,hd,xs,rel,dd⟩:=Am I.MB ha;have hl:=Paired.length rel;refine ux hd dd (by rw [<- hl];rw [sizeLine_eq] at z;omega) ?_;rw [<- hl];exact ⟨.int Mx.length,H,I.tok _,⟨_,rfl⟩,q⟩
end
end L2
namespace DD
open PySem PySem.Spec PyProof.Rows L2
section
variable {K:Frag}{F F':Addr->Prop}{H H':Hp}{A:List Addr}
open Classical in
variable {σD:DSt}{σ:L2.St}{R:Ro}{d:D}{v:V}
end
end DD
namespace L2
open PySem PySem.Spec PyProof.Rows
noncomputable def AC (x:Str):It:=⟨fun i _=>∃ c,x.cps[i]?=some c,fun i H v H'=>H'=H/\∃ c,x.cps[i]?=some c/\v=.str ⟨#[c]⟩,fun i _=>x.cps[i]?=none⟩
theorem wD {P:Program}{w:World}{K:Frag}{tg:Expr} (x:Str) (t:Tok) (it:Addr):iR P w K tg (AC x) [it] it (fun i h=>h.IsStrIter it "str_ascii_iterator" x t i) where
 mem:=by simp
 obj:=fun i h st b hb=>by
  have e:b=it:=by simpa using hb
  subst e;obtain ⟨o,e,c,d⟩:=st;exact ⟨o,e,fun v z=>by rw [d] at z;cases z⟩
 keep:=fun i h h' st k=>by
  obtain ⟨o,e,r⟩:=st;exact ⟨o,k it (by simp) o e,r⟩
 item:=by
  intro X hP hw hK hc i Mv s σ H E I hf st hg;subst hP hw hK;obtain ⟨c,hx⟩:=hg;obtain ⟨f0,f1,f2,f3,f4,f5⟩:=hf it (by simp);refine wpAny_pyNext_ascii_item st hx fun h' st' sb=>?_
  have I1:Inv X Mv σ H { s with heap:=h',toks:=s.toks + 1 }:=I.turned (fun b o hb e=>(sb.2 b hb).trans e) f0 f1 f3 f4 f5;obtain ⟨o,e,cl,d⟩:=id st';exact ⟨_,rfl,kQ (s:={ s with heap:=h',toks:=s.toks + 1 }) e cl d dC ⟨.str ⟨#[c]⟩,H,I1,⟨_,rfl⟩,⟨rfl,c,hx,rfl⟩,st',fun b hb=>(hf b hb).1⟩⟩
 done:=by
  intro X hP hw hK hc i Mv s σ H E I hf st hg;subst hP hw hK;obtain ⟨f0,f1,f2,f3,f4,f5⟩:=hf it (by simp);exact wpAny_pyNext_ascii_end (I.ok.hd hc) st hg fun h' eb=>⟨rfl,I.turned (t':=s.toks) (fun b o hb e=>eb b o hb e) f0 f1 f3 f4 f5⟩
 self:=fun _ _ _ _ _ st h=>wpAny_pyIter_striter_ascii st h
section
variable {X:Cx}{pos:Pos}
def AT (ta:TA):TE:=fun σ H Q=>ta σ H fun vs H1=>∃ i j:Nat,vs=[.int (i:Int),.int (j:Int)]/\i <= j/\j <= 1000/\∀ p,H1 p=none->Q (.ref p) (af H1 p (.lst ((List.range' i (j - i)).map fun (q:Nat)=>V.int (q:Int))))
theorem vp {a b:Expr}{ta:TA}{p1 p2 pos2:Pos} (hc:X.calm=true) (hgl:Gl X "list") (hml:X.mg "list"=none) (hgr:Gl X "range") (hmr:X.mg "range"=none) (ha:PA X [a,b] ta)
  (hs:starEach [a,b] X.env=[(false,eval a X.env),(false,eval b X.env)]:=by rfl) (hs2:starEach [b] X.env=[(false,eval b X.env)]:=by rfl) (hs1:starEach [.Call (.Name "range" p2) [a,b] [] pos2] X.env=[(false,eval (.Call (.Name "range" p2) [a,b] [] pos2) X.env)]:=by rfl) :
  PE X (.Call (.Name "list" p1) [.Call (.Name "range" p2) [a,b] [] pos2] [] pos) (AT ta):=by
 intro Mv s σ H Q I h;refine Call_ (cH I hgl hml gQ (PyProof.Rows.callWith_type1 ?_ (by rw [hs1];rfl) (by rfl)));rw [hs1];refine Calls.spliced_cons (Call_ (cH I hgr hmr boot_range (PyProof.Rows.callWith_type1 (aB (ha pos2 Mv s σ H _ I h) fun us s1 hq0=>?_) (by rw [hs,hs2]) (by rw [hs2];rfl))));obtain ⟨vs,H1,I1,r1,i,j,e,hij,hj,q⟩:=hq0;subst e;obtain ⟨u1,us1,rfl,ru1,r2⟩:∃ u us',us=u::us'/\RelV (.int (i:Int)) u/\Vals [.int (j:Int)] us':=by cases r1 with | cons r rr=>exact ⟨_,_,rfl,r,rr⟩
 obtain ⟨u2,us2,rfl,ru2,r3⟩:∃ u us',us1=u::us'/\RelV (.int (j:Int)) u/\Vals [] us':=by cases r2 with | cons r rr=>exact ⟨_,_,rfl,r,rr⟩
 cases r3;obtain ⟨t1,rfl⟩:=ru1;obtain ⟨t2,rfl⟩:=ru2;refine call_range_2 (Calls.spliced_nil ?_);have I2:Inv X Mv σ H1 { s1 with heap:=s1.heap.push { cls:=.type "range",data:=.fields #[.int (i:Int) t1,.int (j:Int) t2,.int 1 s1.toks] },toks:=s1.toks + 1 }:=I1.kept fun b o e=>zG _ e
 refine call_list_range (n:=j - i) (I.ok.hd hc) (IsRange.new ..) (small_one oM oM oM oM) (by rw [rangeSize_one];split <;> omega) oM fun h' tk acc' c' hk hS hacc=>?_
 have hv:=jk acc'.toList i (fun k v e=>by
  obtain ⟨t,e2⟩:=hacc.2 k v (by simpa using e);exact ⟨t,by rw [e2];congr 1;omega⟩)
 rw [show acc'.toList.length=j - i by simpa using hacc.1] at hv;exact ⟨.ref _,_,I2.laid (o:=.lst ((List.range' i (j - i)).map fun (q:Nat)=>V.int (q:Int))) hk (zP _) ⟨yV (jU (by simp;omega)),acc'.toList,c',hv,hS⟩,rfl,q _ I2.fresh⟩
end
def AE (X:Cx) (Mv:List (Addr × Obj)) (b:Addr):Prop:=b ≠ X.env.locals/\b ∉ X.fs/\(b ∈ X.ex\/X.s₀.heap.objs.size <= b)/\(∀ x c,X.env.cells.lookup x=some c->c ≠ b)/\∀ p ∈ X.pn++Mv,p.1 ≠ b
section
variable {X:Cx}{Mv:List (Addr × Obj)}{σ:St}{key:Value}{kw:List (Str × Value)}{l I S:Addr}{ns:List Int}{R:Result->Shared->Prop}
theorem xE (hh:X.A.handled=none) (kf:Nat->Int) (J:Nat->Hp->Prop) (hl:∀ i H,J i H->bz X.K H l (ns.map V.int))
  (turn:∀ (i:Nat) (n:Int) (u:Value) (pl:List (Addr × Obj)) (s:Shared) (H:Hp),ns[i]?=some n->RelV (V.int n) u->J i H->Inv X (Mv++pl) σ H s->(key=.none/\kf i=n/\J (i + 1) H) \/
   ∃ q,key=.ref q/\wpAny (model X.prog X.w) X.A.in1 (call (.ref q) [u]) (EP X (Mv++pl) σ (fun y H'=>y=.int (kf i)/\J (i + 1) H')) (fun _ _=>False) s)
  (hR:∀ (i:Nat) (n:Int) (u:Value) (H:Hp) (s:Shared),ns[i]?=some n->(∀ j,j < ns.length->kf i <= kf j/\(j < i->kf i < kf j))->J ns.length H->Inv X Mv σ H s->RelV (V.int n) u->R (.ok (.ret u)) s)
  (fI:AE X Mv I) (fS:AE X Mv S) (hIS:I ≠ S) :
  ∀ (r j i:Nat) (H:Hp) (s:Shared) (vb:Value) (tb:Tok) (c:Nat),ns.length - (j + 1)=r->j + 1 <= ns.length->Inv X Mv σ H s->H I=none->H S=none ->
   s.heap.get? S=some (seqObj "list" #[vb,.int (kf i) tb] c)->s.heap.IsListIter I l (j + 1)->(∃ n,ns[i]?=some n/\RelV (V.int n) vb)->i <= j->J (j + 1) H->(∀ j',j' <= j->kf i <= kf j'/\(j' < i->kf i < kf j')) ->
   codeAny (model X.prog X.w) X.A (.builtin "min.loop" ⟨[.ref I,key,.ref S],kw⟩) R s:=by
 have hname:(toString "min"++toString ".loop":String)="min.loop":=by decide
 intro r
 induction r with
 | zero =>
  intro j i H s vb tb c hr hj Iv nI nS gS it hvb hij hJ hb;have hin:j + 1=ns.length:=by omega
  obtain ⟨Mz,rv,pl,_⟩:=Iv.list (hl _ _ hJ);have hlen:Mz.length=ns.length:=by rw [<- rv.length,zH]
  have hL:s.heap.IsList l Mz.toArray:=pl.isList;have hlI:l ≠ I:=fun e=>by
   obtain ⟨o,e1,e2,_⟩:=hL;obtain ⟨o',e3,e4,_⟩:=it;rw [e,e3] at e1;cases e1;rw [e4] at e2;simp at e2
  have W:=Walks.list (prog:=X.prog) (w:=X.w) (A:=X.A.in1) hh I l hlI Mz.toArray;have hsz:Mz.toArray.size=Mz.length:=zI ..;refine codeAny_builtin PySem.F.entry_min_loop ?_;rw [Around.under_plainId PySem.F.plain_min_loop _];show wpAny _ X.A.in1 (seqItems? (.ref S) >>= _) _ _ _;refine yE (wpAny_seqItems gS rfl ?_);show wpAny _ X.A.in1 (tryCatch (pyNext (.ref I)) _ >>= _) _ _ _;refine yE (wpAny_tryCatch (W.done _ _ _ ⟨by rw [hsz,hlen,<- hin];exact it,hL⟩ fun h' tk' hk'=>?_));have V1:Inv X Mv σ H { s with heap:=h',toks:=tk' }:=Iv.turned (fun b o hb' e=>hk' b o (by simpa using hb') e) nI fI.1 fI.2.2.1 fI.2.2.2.1 fI.2.2.2.2;have gS':=hk' S _ (by simpa using hIS.symm) gS;show wpAny _ X.A.in1 (updateSeq S (fun _=>#[]) >>= _) _ _ _;refine yE ?_;refine wpAny_updateSeq gS' rfl (yE (wpAny_letGo (yF ?_)));obtain ⟨n,e1,e2⟩:=hvb;have s1:=Heap.SameBut.update h' S (Obj.mapSeq fun _=>(#[]:Array Value));exact hR i n vb H _ e1 (fun j' hj'=>hb j' oM) (hin ▸ hJ) (V1.turned (t':=tk') (fun b o hb' e=>(s1.2 b hb').trans e) nS fS.1 fS.2.2.1 fS.2.2.2.1 fS.2.2.2.2) e2
 | succ r ih =>
  intro j i H s vb tb c hr hj Iv nI nS gS it hvb hij hJ hb;have hlt:j + 1 < ns.length:=by omega
  obtain ⟨Mz,rv,pl,_⟩:=Iv.list (hl _ _ hJ);have hlen:Mz.length=ns.length:=by rw [<- rv.length,zH]
  have hL:s.heap.IsList l Mz.toArray:=pl.isList;have hlI:l ≠ I:=fun e=>by
   obtain ⟨o,e1,e2,_⟩:=hL;obtain ⟨o',e3,e4,_⟩:=it;rw [e,e3] at e1;cases e1;rw [e4] at e2;simp at e2
  have W:=Walks.list (prog:=X.prog) (w:=X.w) (A:=X.A.in1) hh I l hlI Mz.toArray;have hsz:Mz.toArray.size=Mz.length:=zI ..;refine codeAny_builtin PySem.F.entry_min_loop ?_;rw [Around.under_plainId PySem.F.plain_min_loop _];show wpAny _ X.A.in1 (seqItems? (.ref S) >>= _) _ _ _;refine yE (wpAny_seqItems gS rfl ?_);show wpAny _ X.A.in1 (tryCatch (pyNext (.ref I)) _ >>= _) _ _ _;refine yE (wpAny_tryCatch (W.item (j + 1) _ _ _ (by rw [hsz];omega) ⟨it,hL⟩ fun u h' tk' hP hst' hk'=>?_));have hu:Mz[j + 1]?=some u:=by simpa using hP
  obtain ⟨n,hn⟩:∃ n,ns[j + 1]?=some n:=⟨_,zF hlt⟩;have ru:RelV (V.int n) u:=by
   obtain ⟨u',e1,e2⟩:=rv.get (i:=j + 1) (x:=V.int n) (by rw [zR,hn];rfl);rw [hu] at e1;cases e1;exact e2
  have V1:Inv X Mv σ H { s with heap:=h',toks:=tk' }:=Iv.turned (fun b o hb' e=>hk' b o (by simpa using hb') e) nI fI.1 fI.2.2.1 fI.2.2.2.1 fI.2.2.2.2;have gS':=hk' S _ (by simpa using hIS.symm) gS;have hf:∀ b ∈ [I,S],dq X Mv H b:=fun b hb'=>by
   rcases zT.mp hb' with rfl | hb'
   ·exact ⟨nI,fI⟩
   ·rw [zM.mp hb'];exact ⟨nS,fS⟩
  obtain ⟨oI,goI,coI,doI⟩:=hst'.1;have ho:∀ b ∈ [I,S],∃ o,h'.get? b=some o/\∀ v:Option Value,o.data ≠ .cell v:=fun b hb'=>by
   rcases zT.mp hb' with rfl | hb'
   ·exact ⟨_,goI,fun v z=>by rw [doI] at z;cases z⟩
   ·rw [zM.mp hb'];exact ⟨_,gS',fun v z=>nomatch z⟩
  have V2:Inv X (Mv++fq [I,S] h') σ H { s with heap:=h',toks:=tk' }:=V1.pinned hf ho
  -- what follows the key's value
  have rest:∀ (t2:Tok) (H2:Hp) (s2:Shared),Inv X (Mv++fq [I,S] h') σ H2 s2->J (j + 1 + 1) H2->∀ (Rf:PySem.Fin->Shared->Prop) (Ef:Value->Shared->Prop),
    (∀ s3 H3 vb3 i3 t3 c3,Inv X Mv σ H3 s3->H3 I=none->H3 S=none->s3.heap.get? S=some (seqObj "list" #[vb3,.int (kf i3) t3] c3)->s3.heap.IsListIter I l (j + 1 + 1)->(∃ n,ns[i3]?=some n/\RelV (V.int n) vb3)->i3 <= j + 1->J (j + 1 + 1) H3->(∀ j',j' <= j + 1->kf i3 <= kf j'/\(j' < i3->kf i3 < kf j')) ->
     Rf (.again (.builtin "min.loop" ⟨[.ref I,key,.ref S],kw⟩)) s3) ->
    wpAny (model X.prog X.w) X.A.in1 ((do
     let better <- tryCatch (holding [u,.int (kf (j + 1)) t2] do
      let answer <- richCompare .Lt (.int (kf (j + 1)) t2) (.int (kf i) tb)
      let yes <- holding [answer] (truthy answer)
      letGo [answer]
      pure yes) fun e=>do
       updateSeq S fun _=>#[]
       letGo ([.int (kf (j + 1)) t2,u]++[vb,.int (kf i) tb].reverse) [e]
       throw e
     if better=true then do
      updateSeq S fun _=>#[u,.int (kf (j + 1)) t2]
      letGo [.int (kf i) tb,vb]
      again (.builtin "min.loop" ⟨[.ref I,key,.ref S],kw⟩)
     else do
      letGo [u,.int (kf (j + 1)) t2]
      again (.builtin "min.loop" ⟨[.ref I,key,.ref S],kw⟩)):Sem PySem.Fin) Rf Ef s2:=by
   intro t2 H2 s2 V3 J3 Rf Ef aF;have pI:=V3.pin (I,oI) (zK _ (zK _ (cV (by simp) goI)));have pS:=V3.pin (S,seqObj "list" #[vb,.int (kf i) tb] c) (zK _ (zK _ (cV (by simp) gS')));have V4:Inv X Mv σ H2 s2:=V3.unpinned;refine yE (wpAny_tryCatch (yP (yE (CmpOf.ints_lt (prog:=X.prog) (w:=X.w) (A:=X.A.in1) (P:=fun i v=>∃ t,v=.int (kf i) t) kf (fun i v h=>h) (j + 1) i _ _ _ _ _ ⟨t2,rfl⟩ ⟨tb,rfl⟩ ?_))));refine yE (yP (wpAny_truthy_bool ?_));refine yE (wpAny_letGo (yF ?_));have it2:s2.heap.IsListIter I l (j + 1 + 1):=⟨oI,pI.1,coI,doI⟩;by_cases hb':kf (j + 1) < kf i
   ·simp only [hb',decide_true,if_true]
    have s1:=Heap.SameBut.update s2.heap S (Obj.mapSeq fun _=>#[u,.int (kf (j + 1)) t2]);obtain ⟨c2,hc2⟩:∃ c2,(s2.heap.update S (Obj.mapSeq fun _=>#[u,.int (kf (j + 1)) t2])).get? S=some (seqObj "list" #[u,.int (kf (j + 1)) t2] c2):=⟨_,get?_update_seq pS.1 fun _=>#[u,.int (kf (j + 1)) t2]⟩;refine yE ?_;refine wpAny_updateSeq pS.1 rfl (yE (wpAny_letGo (yF ?_)));obtain ⟨sh,sg,sd,stk,sos⟩:=s2;refine aF _ H2 u (j + 1) t2 c2 (V4.turned (t':=stk) (fun b o hb'' e=>(s1.2 b hb'').trans e) pS.2.1 fS.1 fS.2.2.1 fS.2.2.2.1 fS.2.2.2.2) pI.2.1 pS.2.1 hc2 ⟨oI,(s1.2 I hIS).trans pI.1,coI,doI⟩ ⟨n,hn,ru⟩ (zP _) J3 fun j' hj'=>?_
    by_cases e:j'=j + 1
    ·subst e
     exact ⟨by omega,fun _=>by omega⟩
    ·have hb1:=hb j' oM
     have hb2:=hb1.1;exact ⟨by omega,fun _=>by omega⟩
   ·simp only [hb',decide_false,yA,if_false]
    refine yE (wpAny_letGo (yF ?_));refine aF _ H2 vb i tb c V4 pI.2.1 pS.2.1 pS.1 it2 hvb oM J3 fun j' hj'=>?_
    by_cases e:j'=j + 1
    ·subst e
     exact ⟨by omega,fun _=>by omega⟩
    ·exact hb j' oM
  have aF:∀ s3 H3 vb3 i3 t3 c3,Inv X Mv σ H3 s3->H3 I=none->H3 S=none->s3.heap.get? S=some (seqObj "list" #[vb3,.int (kf i3) t3] c3)->s3.heap.IsListIter I l (j + 1 + 1)->(∃ n,ns[i3]?=some n/\RelV (V.int n) vb3)->i3 <= j + 1->J (j + 1 + 1) H3->(∀ j',j' <= j + 1->kf i3 <= kf j'/\(j' < i3->kf i3 < kf j')) ->
    ((Code.builtin "min.loop" ⟨[.ref I,key,.ref S],kw⟩).quiet=true/\codeAny (model X.prog X.w) X.A (.builtin "min.loop" ⟨[.ref I,key,.ref S],kw⟩) R s3):=fun s3 H3 vb3 i3 t3 c3 a1 a2 a3 a4 a5 a6 a7 a8 a9 =>
   ⟨plainId_quiet PySem.F.plain_min_loop _,ih (j + 1) i3 H3 s3 vb3 t3 c3 oM hlt a1 a2 a3 a4 a5 a6 a7 a8 a9⟩
  rcases turn (j + 1) n u _ _ H hn ru hJ V2 with ⟨hk0,hkf,J2⟩ | ⟨q,hkq,call0⟩
  ·subst hk0
   obtain ⟨t2,rfl⟩:=ru;refine yE (yF ?_)
   have:=rest t2 H _ V2 J2
   rw [hkf] at this;exact this _ _ aF
  ·subst hkq
   refine yE (wpAny_tryCatch (yP (yQ call0 (fun x s'' he=>?_) fun _ _ hF=>hF.elim)));obtain ⟨y,H3,V3,ry,rfl,J3⟩:=he;obtain ⟨t2,rfl⟩:=ry;exact rest t2 H3 s'' V3 J3 _ _ aF
end
section
variable {X:Cx}{Mv:List (Addr × Obj)}{σ:St}{ko:Option Value}{kws:List (Str × Value)}{l:Addr}{ns:List Int}{H:Hp}{s:Shared}{Q:VK}{E:Value->Shared->Prop}
theorem p6 (hh:X.A.handled=none) (kf:Nat->Int) (J:Nat->Hp->Prop) (hl:∀ i H,J i H->bz X.K H l (ns.map V.int))
  (hb:Builtin.Builtins.bindParams "min" ["key","default"] 0 ⟨[],kws⟩=pure [ko,some .none]) (ha:argsOk "min" ⟨[.ref l],kws⟩)
  (turn:∀ (i:Nat) (n:Int) (u:Value) (pl:List (Addr × Obj)) (s:Shared) (H:Hp),ns[i]?=some n->RelV (V.int n) u->J i H->Inv X (Mv++pl) σ H s->(ko.getD .none=.none/\kf i=n/\J (i + 1) H) \/
   ∃ q,ko.getD .none=.ref q/\wpAny (model X.prog X.w) X.A.in1 (call (.ref q) [u]) (EP X (Mv++pl) σ (fun y H'=>y=.int (kf i)/\J (i + 1) H')) (fun _ _=>False) s)
  (hQ:∀ (i:Nat) (n:Int) (H:Hp),ns[i]?=some n->(∀ j,j < ns.length->kf i <= kf j/\(j < i->kf i < kf j))->J ns.length H->Q (.int n) H) (hE:ns=[]->Q .non H)
  (Iv:Inv X Mv σ H s) (J0:J 0 H):wpAny (model X.prog X.w) X.A (call (.builtin "min") [.ref l] kws) (EP X Mv σ Q) E s:=by
 have hname:(toString "min"++toString ".loop":String)="min.loop":=by decide
 obtain ⟨Mz,rv,pl,_⟩:=Iv.list (hl _ _ J0);have hlen:Mz.length=ns.length:=by rw [<- rv.length,zH]
 have hL:s.heap.IsList l Mz.toArray:=pl.isList;obtain ⟨ol,hol,_⟩:=id hL;have hll:l < s.heap.objs.size:=yI hol;refine kmk_tree PySem.F.kind_min PySem.F.plain_min PySem.F.entry_min ha ?_;show wpAny _ X.A.in1 (Builtin.Builtins.bindParams "min" ["key","default"] 0 ⟨[],kws⟩ >>= _) _ _ s;refine yE (wpAny_of_eq hb ?_);refine yE (yF ?_);refine yE (wpAny_pyIter_list hL ?_);refine yE (wpAny_newList ?_ (Nat.zero_le _));rw [hname];have hS:(s.heap.push { cls:=.type "list_iterator",data:=.fields #[.ref l,.int 0 0] }).objs.size=s.heap.objs.size + 1:=size_push' ..;have hlI:l ≠ s.heap.objs.size:=zU hll;refine yF ⟨plainId_quiet PySem.F.plain_min_loop _,?_⟩;generalize hI:s.heap.objs.size=I at *;generalize hSS:(s.heap.push { cls:=.type "list_iterator",data:=.fields #[.ref l,.int 0 0] }).objs.size=S at *;have nI:H I=none:=by rw [<- hI];exact Iv.fresh
 have nS:H S=none:=Iv.MB.fresh (by rw [hS,hI];omega);have hIS:I ≠ S:=by rw [hS];omega
 have gI:((s.heap.push { cls:=.type "list_iterator",data:=.fields #[.ref l,.int 0 0] }).push (seqObj "list" #[] 0)).get? I=some { cls:=.type "list_iterator",data:=.fields #[.ref l,.int 0 0] }:=by
  rw [<- hI];exact zG _ (zY _ rfl)
 have gS:((s.heap.push { cls:=.type "list_iterator",data:=.fields #[.ref l,.int 0 0] }).push (seqObj "list" #[] 0)).get? S=some (seqObj "list" #[] 0):=by
  rw [<- hSS];exact zY _ rfl
 have kp:∀ b o,s.heap.get? b=some o->((s.heap.push { cls:=.type "list_iterator",data:=.fields #[.ref l,.int 0 0] }).push (seqObj "list" #[] 0)).get? b=some o:=fun b o e=>zG _ (zG _ e)
 have fI:AE X Mv I:=(Iv.fpOk (b:=I) (Nat.le_of_eq hI) nI).2;have fS:AE X Mv S:=(Iv.fpOk (b:=S) (by rw [hS,hI];omega) nS).2;generalize hH1:((s.heap.push { cls:=.type "list_iterator",data:=.fields #[.ref l,.int 0 0] }).push (seqObj "list" #[] 0))=h1 at gI gS kp;have V1:Inv X Mv σ H { s with heap:=h1,toks:=s.toks }:=Iv.kept kp;have hL1:h1.IsList l Mz.toArray:=⟨ol,kp _ _ hol,by obtain ⟨o2,e2,r2⟩:=hL;rw [hol] at e2;cases e2;exact r2⟩;have it0:h1.IsListIter I l 0:=⟨_,gI,rfl,rfl⟩;have W:=Walks.list (prog:=X.prog) (w:=X.w) (A:=X.A.in1) hh I l hlI Mz.toArray;have hsz:Mz.toArray.size=Mz.length:=zI ..;have aF:∀ (i:Nat) (n:Int) (u:Value) (H:Hp) (s:Shared),ns[i]?=some n->(∀ j,j < ns.length->kf i <= kf j/\(j < i->kf i < kf j))->J ns.length H->Inv X Mv σ H s->RelV (V.int n) u->EP X Mv σ Q u s :=
  fun i n u H s e1 e2 e3 e4 e5=>⟨_,H,e4,e5,hQ i n H e1 e2 e3⟩
 show codeAny _ X.A (.builtin "min.loop" ⟨[.ref I,ko.getD .none,.ref S],[("default",.none)]⟩) _ { s with heap:=h1,toks:=s.toks };refine codeAny_builtin PySem.F.entry_min_loop ?_;rw [Around.under_plainId PySem.F.plain_min_loop _];show wpAny _ X.A.in1 (seqItems? (.ref S) >>= _) _ _ _;refine yE (wpAny_seqItems gS rfl ?_);show wpAny _ X.A.in1 (tryCatch (pyNext (.ref I)) _ >>= _) _ _ _;by_cases hn:ns=[]
 ·subst hn
  refine yE (wpAny_tryCatch (W.done _ _ _ ⟨by rw [hsz,hlen];exact it0,hL1⟩ fun h' tk' hk'=>?_));refine yE (wpAny_rule (yF ?_));exact ⟨.non,H,V1.turned (fun b o hb' e=>hk' b o (by simpa using hb') e) nI fI.1 fI.2.2.1 fI.2.2.2.1 fI.2.2.2.2,rfl,hE rfl⟩
 ·have hlt:0 < ns.length:=List.length_pos_iff.mpr hn
  refine yE (wpAny_tryCatch (W.item 0 _ _ _ (by rw [hsz];omega) ⟨it0,hL1⟩ fun u h' tk' hP hst' hk'=>?_));have hu:Mz[0]?=some u:=by simpa using hP
  obtain ⟨n,hn⟩:∃ n,ns[0]?=some n:=⟨_,zF hlt⟩;have ru:RelV (V.int n) u:=by
   obtain ⟨u',e1,e2⟩:=rv.get (i:=0) (x:=V.int n) (by rw [zR,hn];rfl);rw [hu] at e1;cases e1;exact e2
  have V2:Inv X Mv σ H { s with heap:=h',toks:=tk' }:=V1.turned (fun b o hb' e=>hk' b o (by simpa using hb') e) nI fI.1 fI.2.2.1 fI.2.2.2.1 fI.2.2.2.2;have gS':=hk' S _ (by simpa using hIS.symm) gS;have hf:∀ b ∈ [I,S],dq X Mv H b:=fun b hb'=>by
   rcases zT.mp hb' with rfl | hb'
   ·exact ⟨nI,fI⟩
   ·rw [zM.mp hb'];exact ⟨nS,fS⟩
  obtain ⟨oI,goI,coI,doI⟩:=hst'.1;have ho:∀ b ∈ [I,S],∃ o,h'.get? b=some o/\∀ v:Option Value,o.data ≠ .cell v:=fun b hb'=>by
   rcases zT.mp hb' with rfl | hb'
   ·exact ⟨_,goI,fun v z=>by rw [doI] at z;cases z⟩
   ·rw [zM.mp hb'];exact ⟨_,gS',fun v z=>nomatch z⟩
  have V3:Inv X (Mv++fq [I,S] h') σ H { s with heap:=h',toks:=tk' }:=V2.pinned hf ho;have rest:∀ (t2:Tok) (H2:Hp) (s2:Shared),Inv X (Mv++fq [I,S] h') σ H2 s2->J 1 H2 ->
    wpAny (model X.prog X.w) X.A.in1 ((do
     updateSeq S fun _=>#[u,.int (kf 0) t2]
     again (.builtin "min.loop" ⟨[.ref I,ko.getD .none,.ref S],[("default",.none)]⟩)):Sem PySem.Fin) (fun aF s'=>match aF with
      | .done f=>(match (Except.ok f:Result) with | .ok (.ret v)=>EP X Mv σ Q v s' | .ok _=>False | .error e=>E e s')
      | .again c'=>c'.quiet=true/\codeAny (model X.prog X.w) X.A c' (fun r s'=>match r with | .ok (.ret v)=>EP X Mv σ Q v s' | .ok _=>False | .error e=>E e s') s') (fun e s'=>E e s') s2:=by
   intro t2 H2 s2 V4 J2;have pI:=V4.pin (I,oI) (zK _ (zK _ (cV (by simp) goI)));have pS:=V4.pin (S,seqObj "list" #[] 0) (zK _ (zK _ (cV (by simp) gS')));have V5:Inv X Mv σ H2 s2:=V4.unpinned;have s1:=Heap.SameBut.update s2.heap S (Obj.mapSeq fun _=>#[u,.int (kf 0) t2]);obtain ⟨c2,hc2⟩:∃ c2,(s2.heap.update S (Obj.mapSeq fun _=>#[u,.int (kf 0) t2])).get? S=some (seqObj "list" #[u,.int (kf 0) t2] c2):=⟨_,get?_update_seq pS.1 fun _=>#[u,.int (kf 0) t2]⟩;refine yE ?_;refine wpAny_updateSeq pS.1 rfl (yF ⟨plainId_quiet PySem.F.plain_min_loop _,?_⟩);obtain ⟨sh,sg,sd,stk,sos⟩:=s2;refine xE hh kf J hl turn aF fI fS hIS _ 0 0 H2 _ u t2 c2 rfl hlt (V5.turned (t':=stk) (fun b o hb'' e=>(s1.2 b hb'').trans e) pS.2.1 fS.1 fS.2.2.1 fS.2.2.2.1 fS.2.2.2.2) pI.2.1 pS.2.1 hc2 ⟨oI,(s1.2 I hIS).trans pI.1,coI,doI⟩ ⟨n,hn,ru⟩ (zP _) J2 fun j' hj'=>?_
   have e:j'=0:=by omega
   subst e;exact ⟨by omega,fun h=>absurd h (yW _)⟩
  rcases turn 0 n u _ _ H hn ru J0 V3 with ⟨hk0,hkf,J2⟩ | ⟨q,hkq,call0⟩
  ·rw [hk0] at rest ⊢
   obtain ⟨t2,rfl⟩:=ru;refine yE (yF ?_)
   have:=rest t2 H _ V3 J2
   rw [hkf] at this;exact this
  ·rw [hkq] at rest ⊢
   refine yE (wpAny_tryCatch (yP (yQ call0 (fun x s'' he=>?_) fun _ _ hF=>hF.elim)));obtain ⟨y,H3,V4,ry,rfl,J3⟩:=he;obtain ⟨t2,rfl⟩:=ry;exact rest t2 H3 s'' V4 J3
end
end L2
namespace R
open PySem PySem.Spec PyProof.Rows L2
theorem wz:∀ {ps:List Str}{us:List Value},ps.Nodup->us.length=ps.length->ps.filterMap (fun n=>((ps.zip us).lookup n).map fun v=>(n,v))=ps.zip us/\ps.filter (fun n=>((ps.zip us).lookup n).isNone)=[]:=by
 have key:∀ {ps:List Str}{us:List Value},us.length=ps.length->∀ n ∈ ps,((ps.zip us).lookup n).isSome=true:=by
  intro ps
  induction ps with
  | nil=>intro us _ n hn;cases hn
  | cons p ps ih =>
   intro us hl n hn;cases us with
   | nil=>cases hl
   | cons u us =>
    rw [List.zip_cons_cons,yN];cases hb:n == p with
    | true=>rfl
    | false =>
     rcases zT.mp hn with rfl | hn
     ·simp at hb
     ·exact ih (by simpa using hl) n hn
 intro ps us nd hl;refine ⟨?_,List.filter_eq_nil_iff.mpr fun n hn=>by
  have:=key hl n hn
  cases h:(ps.zip us).lookup n with
  | none=>rw [h] at this;cases this
  | some v=>simp⟩
 -- the names ahead don't matter
 have gen:∀ (qs:List Str) (vs:List Value),qs.Nodup->vs.length=qs.length->∀ l:List (Str × Value),(∀ q ∈ qs,l.lookup q=(qs.zip vs).lookup q)->qs.filterMap (fun n=>(l.lookup n).map fun v=>(n,v))=qs.zip vs:=by
  intro qs
  induction qs with
  | nil=>intro vs _ _ l _;rfl
  | cons q qs ih =>
   intro vs nd hl l h;cases vs with
   | nil=>cases hl
   | cons v vs =>
    have h0:=h q z6;rw [List.zip_cons_cons,yN] at h0;simp only [beq_self_eq_true] at h0;rw [List.filterMap_cons,h0];rw [List.nodup_cons] at nd
    have:=ih vs nd.2 (by simpa using hl) l fun p hp=>by
     have:=h p (zQ _ hp)
     rw [List.zip_cons_cons,yN] at this;have ne:(p == q)=false:=by
      have:p ≠ q:=fun e=>nd.1 (e ▸ hp)
      simpa using this
     rw [ne] at this;exact this
    simp only [map_some];rw [this];rfl
 exact gen ps us nd hl _ fun _ _=>rfl
noncomputable def plainA (a:Arguments):Bool:=a.posonlyargs.isEmpty && a.vararg.isNone && a.kwonlyargs.isEmpty && a.kwarg.isNone
theorem bind_plain (hp:plainA fd.params=true) (hd:fd.defaults=.none) (nd:(fd.params.args.map (·.arg)).Nodup) (hl:us.length=(fd.params.args.map (·.arg)).length):bindArgs fd ⟨us,[]⟩=pure ((fd.params.args.map (·.arg)).zip us):=by
 unfold plainA at hp;simp only [zC,List.isEmpty_iff,Option.isNone_iff_eq_none] at hp;obtain ⟨⟨⟨h1,h2⟩,h3⟩,h4⟩:=hp;obtain ⟨z1,z2⟩:=wz nd hl;have hs:seqItems? fd.defaults=(do notAStandIn Value.none;pure none):=by rw [hd];rfl
 have hn:notAStandIn Value.none=pure ():=rfl;unfold bindArgs;simp only [h1,h2,h3,h4,hs,hn];simp only [List.map_nil,List.nil_append,List.forIn_nil,pure_bind,List.append_nil];rw [yG (by simp [hl])];simp only [Option.getD_none,List.length_nil,Nat.sub_zero,List.drop_nil,List.take_length,z2,List.isEmpty_nil,Bool.not_true,yA,if_false,List.drop_length,List.zip_nil_left,List.forIn_nil,pure_bind,z1]
end R
namespace L2
open PySem PySem.Spec PyProof.Rows
def ig (mg:Str->Option Value) (base:Heap):Prop:=∃ bm o,mg "__builtins__"=some (.ref bm)/\bm ≠ builtinsNs/\bm ≠ mainGlobals/\base.get? bm=some o/\o.cls=.type "module"/\o.dict=some builtinsNs/\o.data=.plain
noncomputable def fC (c:Addr) (q:Str):HO:=.ext fun h=>h.CodeRec (.ref c) q
section
variable {X:Cx}{Mv:List (Addr × Obj)}{σ:St}{H:Hp}{s:Shared}
theorem Inv.grown {t':Nat} (I:Inv X Mv σ H s) (hP:H P=some (.tbl ps)) (hx:Heap.ExtBut P s.heap h') (hc:s.heap.objs.size <= c') (hr:h'.CodeRec (.ref c') q)
  (gP:h'.get? P=some (tabObj (ps++more))):Inv X Mv σ (af (af H P (.tbl (ps++more))) c' (fC c' q)) { s with heap:=h',toks:=t' }:=by
 have gP0:s.heap.get? P=some (tabObj ps):=I.MB P _ hP;have hcn:H c'=none:=I.MB.fresh hc;have hPc:P ≠ c':=zU (zJ (yI gP0) hc);have nb:∀ b u,H b=some u->b ≠ c':=fun b u e z=>by rw [z,hcn] at e;cases e
 have hH:∀ b,b ≠ P->b ≠ c'->af (af H P (.tbl (ps++more))) c' (fC c' q) b=H b:=fun b h1 h2=>by rw [ad h2,ad h1]
 refine I.un ⟨fun b o e n _ _=>hx b o (fun z=>by rw [z,hP] at n;cases n) e,fun b o e n _ _=>⟨o.slots,hx b o (fun z=>by rw [z,hP] at n;cases n) e⟩,fun b o e n _=>?_,fun b o e _=>?_,fun b xs e=>?_,fun b o u e=>?_,fun b qs e=>?_⟩ fun b u e=>?_
 ·rw [hH b (fun z=>by rw [z,hP] at n;cases n) (zU (zJ (yI e) hc))];exact n
 ·by_cases hb:b=P
  ·exact ⟨_,hb ▸ gP⟩
  ·exact ⟨o,hx b o hb e⟩
 ·rw [hH b (fun z=>by rw [z,hP] at e;cases e) (nb _ _ e)];exact e
 ·rw [hH b (fun z=>by rw [z,hP] at e;cases e) (nb _ _ e)];exact e
 ·by_cases hb:b=P
  ·subst hb
   rw [hP] at e;cases e;exact ⟨more,by rw [ad hPc,au]⟩
  ·exact ⟨#[],by rw [hH b hb (nb _ _ e),e];simp⟩
 ·by_cases h1:b=c'
  ·subst h1
   rw [au] at e;cases e;obtain ⟨c,oc,vs,t,e1,e2,e3⟩:=id hr;cases e1;refine ⟨hr,⟨oc,e2⟩,fun h1 h2 hq0 k=>?_⟩;obtain ⟨c,oc,vs,t,e1,e2,e3⟩:=hq0;cases e1;exact ⟨_,oc,vs,t,rfl,k _ e2,e3⟩
  ·rw [ad h1] at e
   by_cases h2:b=P
   ·subst h2
    rw [au] at e;cases e;exact gP
   ·rw [ad h2] at e
    refine (I.MB b u e).stay (fun d v hd q=>hx d v (fun z=>?_) q) (fun d q=>?_) fun d xs q=>?_
    ·rcases hd with z2 | z2
     ·exact h2 (z2.symm.trans z)
     ·rw [z,hP] at z2;cases z2
    ·rw [hH d (fun z=>by rw [z,hP] at q;cases q) (nb _ _ q)];exact q
    ·rw [hH d (fun z=>by rw [z,hP] at q;cases q) (nb _ _ q)];exact q
abbrev ud (mg:Str->Option Value) (qual:Str) (params:Arguments) (body:Expr) (scope:Scope) (cl:List (Str × Addr)) (cv ctv:Value):Obj :=
 { cls:=.type "function",data:=.func (kla_fn "<lambda>" qual params body scope cl ((mg "__name__").getD .none) cv ctv) }
def fj (H:Hp) (P:Addr) (pos:Pos) (q:Str):Prop:=∃ ps,H P=some (.tbl ps)/\TriplesOk ps.toList/\(codeAmong pos ps.toList=none\/∃ c,codeAmong pos ps.toList=some (.ref c)/\H c=some (fC c q))
theorem xS (I:Inv X Mv σ H s) (hdef:defaultsOf params X.env=([],[])) (hcode:X.env.code=.ref c)
  (C:CodeHd X.base c P) (B:ig X.mg X.base) (hcl:closureFor scope X.env=pure cl) (T:fj H P pos (X.env.qual++"<lambda>"))
  (h:∀ f c' ctv H' s',(H'=H\/∃ ps more,H P=some (.tbl ps)/\H c'=none/\P ≠ c'/\H'=af (af H P (.tbl (ps++more))) c' (fC c' (X.env.qual++"<lambda>")))->fj H' P pos (X.env.qual++"<lambda>")->H' c'=some (fC c' (X.env.qual++"<lambda>")) ->
   Inv X (Mv++[(f,ud X.mg (X.env.qual++"<lambda>") params body scope cl (.ref c') ctv)]) σ H' s'->Q (.ref f) s') :
  wpAny (model X.prog X.w) X.A (eval (.Lambda params body scope pos) X.env) Q E s:=by
 refine kla_eval hdef ?_;obtain ⟨ps,hP,ht,hc⟩:=T;have gP:s.heap.get? P=some (tabObj ps):=I.MB P _ hP;have hg:s.heap.Ns mainGlobals X.mg:=I.mod.glob.keeps I.bk;have hgP:mainGlobals ≠ P:=fun q=>by
  obtain ⟨o,es,ep,e,hd,_⟩:=hg;rw [q,gP] at e;cases e;cases hd
 obtain ⟨bm,ob,b1,b2,b3,b4,b5,b6,b7⟩:=B;have hbP:bm ≠ P:=fun q=>by
  have:=(I.bs bm ob b4).2
  rw [q,hP] at this;cases this
 have hb:s.heap.BuiltinsAt X.mg P:=⟨bm,ob,b1,b2,b3,hbP,I.bk _ _ b4,b5,b6,b7⟩;have C':CodeHd s.heap c P:=C.keeps I.bk
 -- the function's object,laid over h1
 have last:∀ (H1:Hp) (h1:Heap) (tk1:Nat) (o:Obj),Inv X Mv σ H1 { s with heap:=h1,toks:=tk1 }->(∀ v,o.data ≠ .cell v)->o.isFreed=false->Inv X (Mv++[(h1.objs.size,o)]) σ H1 { s with heap:=h1.push o,toks:=tk1 }:=by
  intro H1 h1 tk1 o J hd hfr;have J2:Inv X Mv σ H1 { s with heap:=h1.push o,toks:=tk1 }:=J.kept fun b u e=>zG _ e
  have fp:=J.fpOk (b:=h1.objs.size) (zP _) J.fresh;refine J2.pins_of fun p hp=>?_
  rcases zZ.mp hp with hp | hp
  ·exact J2.pin p (zK _ hp)
  ·rw [zM.mp hp]
   exact ⟨zY _ hfr,fp.1,fp.2.1,fp.2.2.1,hd⟩
 rcases hc with hn | ⟨c',hc,hx⟩
 ·refine kla_makeFunction (mg:=X.mg) hcl I.ok.glob hg hcode C' gP ht hn hgP hb fun c' ctv h' tk hx hge hlt hrec htb=>?_
  have hPc:P ≠ c':=zU (zJ (yI gP) hge);have J:=I.grown (t':=tk) hP hx hge hrec htb;have e1:af (af H P (.tbl (ps++#[rawInt pos.line,rawInt pos.col,.ref c']))) c' (fC c' (X.env.qual++"<lambda>")) P=some (.tbl (ps++#[rawInt pos.line,rawInt pos.col,.ref c'])):=by rw [ad hPc,au]
  refine h _ c' ctv _ _ (.inr ⟨ps,_,hP,I.MB.fresh hge,hPc,rfl⟩) ⟨_,e1,?_,.inr ⟨c',?_,au⟩⟩ au (last _ h' tk _ J (fun v z=>nomatch z) rfl)
  ·rw [Array.toList_append];exact TriplesOk_snoc _ _ _ _ ht
  ·rw [Array.toList_append];exact codeAmong_snoc _ ht hn
 ·refine kla_makeFunctionHit (mg:=X.mg) hcl I.ok.glob hg hcode C' gP ht hc hb fun ctv h' tk hk hge=>?_
  exact h _ c' ctv H _ (.inl rfl) ⟨ps,hP,ht,.inr ⟨c',hc,hx⟩⟩ hx (last H h' tk _ (I.kept hk) (fun v z=>nomatch z) rfl)
def qE (X:Cx) (N':List Str) (scope:Scope) (cl:List (Str × Addr)) (f:Addr) (qual:Str) (cd:Value) (A:Around) (s:Shared) (H:Hp):Cx :=
 { X with N:=N',s₀:=s,H₀:=H,env:=newEnv scope s.heap.objs.size mainGlobals cl (qual++".<locals>.") (some f) cd none builtinsNs,outer:=X.stack,stack:=newEnv scope s.heap.objs.size mainGlobals cl (qual++".<locals>.") (some f) cd none builtinsNs::X.stack,
          A:=A.deeper (newEnv scope s.heap.objs.size mainGlobals cl (qual++".<locals>.") (some f) cd none builtinsNs),ex:=[],fn:=fun _=>false,calm:=true,pn:=[],xe:=fun _ _=>False }
structure uH (X:Cx) (N':List Str) (scope:Scope) (x:Str):Prop where
 cy:jF X N' scope
 co:scope.isCoroutine=false
 gen:scope.isGenerator=false
 len:N'.length=X.N.length + 1
 own:N'[X.N.length]?=some x
 loc:scope.names.lookup x=some .local
 nc:∀ y ∈ scope.names,y.2 ≠ .cell
theorem yk {t':Nat} (T:uH X N' scope x) (I:Inv X Mv σ H s) (hfm:A.frames=some X.stack) (hh:A.handled=none)
  (hcl:∀ p ∈ cl,X.env.cells.lookup p.1=some p.2) (hfr:∀ x,(x,NameKind.free) ∈ scope.names->∃ c,(x,c) ∈ cl) (r:RelV v u)
  (hn:h'.Ns s.heap.objs.size (fun y=>[(x,u)].reverse.lookup y)) (hs:Heap.SameBut s.heap.objs.size (s.heap.push { cls:=.type "frame",data:=.dict #[] }) h') :
  Inv (qE X N' scope cl f qual cd A s H) [] (σ++[some v]) H { s with heap:=h',toks:=t' }:=by
 have keep:∀ b o,s.heap.get? b=some o->h'.get? b=some o:=fun b o e=>(hs.2 b (zU (yI e))).trans (zG _ e)
 have look:∀ x,(x,NameKind.free) ∈ scope.names->∃ c,cl.lookup x=some c/\X.env.cells.lookup x=some c:=fun x hx=>by
  obtain ⟨c,hc⟩:=hfr x hx;obtain ⟨c2,hc2⟩:=eZ hc;exact ⟨c2,hc2,hcl _ (mem_of_lookup hc2)⟩
 have noA:∀ b:Addr,b ∉ (qE X N' scope cl f qual cd A s H).ex:=fun b z=>absurd (show b ∈ ([]:List Addr) from z) (by simp)
 refine ⟨⟨I.ok.mod,T.cy.kind,rfl,rfl,zP _,fun y z c h1 h2=>?_,fun y hy=>?_,fun y c h=>(by cases h),fun _=>hh,Around.frames_deeper hfm,.inr ⟨rfl,rfl⟩,fun b z=>absurd z (noA b),I.bs,z0 I.ok.bsz I.sz,fun b _ _=>noA b,fun b z=>absurd z (noA b),I.stack,I.stkFree⟩,
  rfl,I.bare,Un.kept keep,⟨_,hn,fun i y w e1 e2 e3=>?_⟩,fun y c h=>?_,I.MB.fresh (zP _),fun y c h=>?_,fun p hp=>absurd (show p ∈ ([]:List (Addr × Obj)) from hp) (by simp),I.MB.kept keep,?_⟩
 ·exact I.ok.inj y z c (hcl _ (mem_of_lookup h1)) (hcl _ (mem_of_lookup h2))
 ·have hy:scope.names.lookup y=some .cell\/scope.names.lookup y=some .free:=hy
  rcases hy with hy | hy
  ·exact absurd rfl (T.nc _ (mem_of_lookup hy))
  ·obtain ⟨c,hc,_⟩:=look y (mem_of_lookup hy)
   exact ⟨c,hc⟩
 ·have hlen:=I.len
  rcases yR i σ.length with hi | hi
  ·rw [zN hi] at e2
   have hmem:∃ k,(y,k) ∈ scope.names:=by
    rcases e3 with h | h | h <;> exact ⟨_,mem_of_lookup h⟩
   have hfree:=T.cy.hid i y oM e1 hmem;have eX:=T.cy.same i y oM e1 hfree;have kX:=T.cy.free y hfree;obtain ⟨m,hn2,hl⟩:=I.loc;obtain ⟨u2,ru,lk⟩:=hl i y w eX e2 (by rcases kX with h | h;exact .inr (.inl h);exact .inr (.inr h));refine ⟨u2,ru,.inr ⟨.inr (cL T.cy.nd hfree),?_⟩⟩;rcases lk with ⟨k1,_⟩ | ⟨_,c,hc,z⟩
   ·rcases kX with h | h <;> rw [h] at k1 <;> cases k1
   ·obtain ⟨c2,q1,q2⟩:=look y hfree
    rw [hc] at q2;cases q2;exact ⟨c,q1,z.keeps keep⟩
  ·rw [z5 hi] at e2
   have hi0:i - σ.length=0:=by
    rcases Nat.eq_zero_or_pos (i - σ.length) with z | z
    ·exact z
    ·rw [List.getElem?_eq_none (show [some v].length <= _ from z)] at e2;cases e2
   rw [hi0] at e2;cases e2;have hi1:i=X.N.length:=by omega
   subst hi1;have e1:N'[X.N.length]?=some y:=e1;rw [T.own] at e1;cases e1;exact ⟨u,r,.inl ⟨T.loc,by simp⟩⟩
 ·obtain ⟨w,z⟩:=I.cell y c (hcl _ (mem_of_lookup h))
  exact ⟨w,z.keeps keep⟩
 ·exact I.freeC y c (hcl _ (mem_of_lookup h))
 ·show (σ++[some v]).length=N'.length
  rw [zV,I.len,T.len];rfl
theorem xT (T:uH X N' scope x) (I:Inv X Mv σ H s) (hfm:A.frames=some X.stack) (hh:A.handled=none)
  (hd:A.depth < recursionLimit) (hcl:∀ p ∈ cl,X.env.cells.lookup p.1=some p.2) (hfr:∀ x,(x,NameKind.free) ∈ scope.names->∃ c,(x,c) ∈ cl) (hp:R.plainA params=true) (hps:params.args.map (·.arg)=[x])
  (hf:s.heap.get? f=some (ud X.mg qual params body scope cl (.ref c') ctv)) (hr:s.heap.CodeRec (.ref c') qual)
  (he:∀ s H,PE (qE X N' scope cl f qual (.ref c') A s H) body te) (r:RelV v u) (h:te (σ++[some v]) H Q) :
  wpAny (model X.prog X.w) A (call (.ref f) [u]) (EP X Mv σ Q) E s:=by
 refine wpAny_call (kla_callFunE hd hf rfl T.co T.gen rfl hr ?_);have hb:bindArgs (kla_fn "<lambda>" qual params body scope cl ((X.mg "__name__").getD .none) (.ref c') ctv) ⟨[u],[]⟩=pure [(x,u)]:=by
  have:=R.bind_plain (fd:=kla_fn "<lambda>" qual params body scope cl ((X.mg "__name__").getD .none) (.ref c') ctv) (us:=[u]) hp rfl (by show (params.args.map (·.arg)).Nodup;rw [hps];simp) (by show _=(params.args.map (·.arg)).length;rw [hps];rfl)
  rw [this];show pure ((params.args.map (·.arg)).zip [u])=_;rw [hps];rfl
 rw [hb];refine yF ?_;refine wpAny_newFunctionEnv (around:=none) (fun y hy=>T.nc y hy) (fun y hy=>by rw [zM.mp hy];exact T.loc) (fun h' hn hs=>?_) T.cy.kind;have hs:Heap.SameBut s.heap.objs.size (s.heap.push { cls:=.type "frame",data:=.dict #[] }) h':=hs;have keep:∀ b o,s.heap.get? b=some o->h'.get? b=some o:=fun b o e=>(hs.2 b (zU (yI e))).trans (zG _ e)
 refine ⟨I.nolimit.keeps keep,kla_codeExpr ?_⟩;have J:=yk (cd:=.ref c') (f:=f) (qual:=qual) (t':=s.toks + [(x,u)].length) T I hfm hh hcl hfr r hn hs;refine yQ (he s H [] _ (σ++[some v]) H Q J h) (fun w s' hq0=>?_) fun e s' z=>z.elim
 obtain ⟨y,H',J',ry,q⟩:=hq0;exact I.after ⟨y,H',J'.os,J'.bare,J'.base,J'.MB,ry,q⟩
end
theorem vP (h:gO k v=true):RelV (kV k) v:=by
 cases k with
 | inl i =>
  cases v <;> first | (cases h;done) | skip
  rename_i j t;have e:j=i:=by simpa [gO,Value.isInt] using h
  subst e;exact ⟨t,rfl⟩
 | inr x =>
  cases v <;> first | (cases h;done) | skip
  rename_i y t;have e:y=x:=by simpa [gO,Value.isStrOf] using h
  subst e;exact ⟨t,rfl⟩
theorem BX {κ:Type}{Mx:List (κ × V)}{vs:List (κ × Value)} (r:KV Mx vs):Mx.map (·.1)=vs.map (·.1):=by
 induction r with
 | nil=>rfl
 | cons h t ih=>simp only [zO];rw [h.1,ih]
def IZ (d:Addr) (o:Obj) (Mx:List (aW × V)):It :=
 ⟨fun i H=>H d=some (.frz o (.dK Mx))/\i < Mx.length,fun i H x H'=>H'=H/\(Mx.map fun p=>kV p.1)[i]?=some x,fun i H=>H d=some (.frz o (.dK Mx))/\Mx.length <= i⟩
theorem qv {ep:Nat} (I:Inv X Mv σ H s) (h:H d=some (.frz o (.dK Mx))) (ho:o.data=.dict es ep) :
  ∃ vs,KV Mx vs/\s.heap.DictAt (bL X.prog X.w) d vs ep:=by
 obtain ⟨e1,_,_,vs,r,ob,es',ep',e2,c1,c2,c3⟩:=I.MB d _ h;rw [e1] at e2;cases e2;rw [ho] at c2;cases c2;exact ⟨vs,r,o,es,e1,c1,ho,c3⟩
theorem uR {P:Program}{w:World}{K:Frag}{tg:Expr}{d:Addr}{o:Obj}{Mx:List (aW × V)}{es:Array DictEntry}{ep:Nat} (it:Addr) (hd:o.data=.dict es ep):iR P w K tg (IZ d o Mx) [it] it (fun i h=>h.IsKeyIter it d i Mx.length ep) where
 mem:=by simp
 obj:=fun i h st b hb=>by
  obtain rfl:b=it:=by simpa using hb
  obtain ⟨o,e,c,d⟩:=st;exact ⟨o,e,fun v z=>by rw [d] at z;cases z⟩
 keep:=fun i h h' st k=>let ⟨o,e,r⟩:=st;⟨o,k it (by simp) _ e,r⟩
 item:=by
  intro X hP hw hK hc i Mv s σ H E I hf st hg;subst hP hw hK;obtain ⟨hg,hi⟩:=hg;obtain ⟨vs,r,da⟩:=qv I hg hd;have hl:Mx.length=vs.length:=Paired.length r;obtain ⟨f0,f1,f2,f3,f4,f5⟩:=hf it (by simp);obtain ⟨q,hq⟩:∃ q,vs[i]?=some q:=⟨_,zF oM⟩;have hk:Mx[i]?.map (·.1)=vs[i]?.map (·.1):=by
   rw [<- zR,<- zR,BX r]
  rw [hl] at st;refine wpAny_pyNext_dict_item st da (k:=q.1) (v:=q.2) hq fun key h' hkey st' sb=>?_
  have I1:Inv X Mv σ H { s with heap:=h' }:=I.turned (t':=s.toks) (fun b o hb e=>(sb.2 b hb).trans e) f0 f1 f3 f4 f5;obtain ⟨o',e,c,dd⟩:=id st';refine ⟨key,rfl,kQ (s:={ s with heap:=h' }) e c dd dC ⟨kV q.1,H,I1,vP hkey,⟨rfl,?_⟩,by rw [hl];exact st',fun b hb=>(hf b hb).1⟩⟩;rw [zR];rw [hq] at hk;cases hkv:Mx[i]? with
  | none=>rw [hkv] at hk;cases hk
  | some p=>rw [hkv] at hk;simp at hk;simp [hk]
 done:=by
  intro X hP hw hK hc i Mv s σ H E I hf st hg;subst hP hw hK;obtain ⟨hg,hi⟩:=hg;obtain ⟨vs,r,da⟩:=qv I hg hd;have hl:Mx.length=vs.length:=Paired.length r;obtain ⟨f0,f1,f2,f3,f4,f5⟩:=hf it (by simp);rw [hl] at st;exact wpAny_pyNext_dict_end (I.ok.hd hc) st da (List.getElem?_eq_none oM) fun h' eb=>⟨rfl,I.turned (t':=s.toks) (fun b o hb e=>eb b o hb e) f0 f1 f3 f4 f5⟩
 self:=fun A i s Q E st h=>wpAny_pyIter_keyiter st h
section
variable {X:Cx}{Mv:List (Addr × Obj)}{σ:St}{H:Hp}{s:Shared}{d:Addr}{Mx:List (aW × V)}{o:Obj}
theorem Inv.frzD (I:Inv X Mv σ H s) (h:H d=some (.dK Mx)) (e:s.heap.get? d=some o):Inv X Mv σ (af H d (.frz o (.dK Mx))) { s with toks:=s.toks }:=by
 have ne:∀ b u,H b=some u->(∀ Mx,u ≠ .dK Mx)->b ≠ d:=fun b u q n z=>by rw [z,h] at q;cases q;exact n _ rfl
 refine I.un (h':=s.heap) ⟨fun b o e _ _ _=>e,fun b o e _ _ _=>⟨o.slots,e⟩,fun b o e n _=>by rw [ad (fun z=>by rw [z,h] at n;cases n)];exact n,fun b o e _=>⟨o,e⟩,fun b xs q=>by rw [ad (ne b _ q fun _ z=>nomatch z)];exact q,fun b o u q=>by rw [ad (ne b _ q fun _ z=>nomatch z)];exact q,
  fun b ps q=>⟨#[],by rw [ad (ne b _ q fun _ z=>nomatch z),q];simp⟩⟩ fun b u q=>?_
 have st:∀ b u,H b=some u->ObjOk X.prog X.w (af H d (.frz o (.dK Mx))) s.heap b u:=fun b u q=>(I.MB b u q).stay (fun _ _ _ z=>z) (fun c z=>by rw [ad (ne c _ z fun _ y=>nomatch y)];exact z) fun c xs z=>by rw [ad (ne c _ z fun _ y=>nomatch y)];exact z
 by_cases hb:b=d
 ·subst hb;rw [au] at q;cases q;exact ⟨e,st _ _ h⟩
 ·rw [ad hb] at q;exact st b u q
theorem Inv.thawD (I:Inv X Mv σ H s) (h:H d=some (.frz o (.dK Mx))) (hn:∀ o u,X.H₀ d ≠ some (.frz o u)):Inv X Mv σ (af H d (.dK Mx)) s:=by
 have ne:∀ b u,H b=some u->(∀ o u',u ≠ .frz o u')->b ≠ d:=fun b u q n z=>by rw [z,h] at q;cases q;exact n _ _ rfl
 have nn:∀ b,H b=none->b ≠ d:=fun b q z=>by rw [z,h] at q;cases q
 have MB:HOk X.prog X.w (af H d (.dK Mx)) s.heap:=fun b u q=>by
  have st:∀ b u,H b=some u->ObjOk X.prog X.w (af H d (.dK Mx)) s.heap b u:=fun b u q=>(I.MB b u q).stay (fun _ _ _ z=>z) (fun c z=>by rw [ad (ne c _ z fun _ _ y=>nomatch y)];exact z) fun c xs z=>by rw [ad (ne c _ z fun _ _ y=>nomatch y)];exact z
  by_cases hb:b=d
  ·subst hb;rw [au] at q;cases q;exact (st _ _ h).2
  ·rw [ad hb] at q;exact st b u q
 refine ⟨I.ok,I.os,I.bare,⟨I.base.keep,I.base.slot,fun b o e n hx=>by rw [ad (nn b (I.base.free b o e n hx))];exact I.base.free b o e n hx,I.base.there,fun b xs e=>by rw [ad (ne b _ (I.base.tups b xs e) fun _ _ y=>nomatch y)];exact I.base.tups b xs e,
  fun b o u e=>by rw [ad (fun z=>hn o u (by rw [<- z];exact e))];exact I.base.frzs b o u e,fun b ps e=>?_⟩,I.loc,I.cell,by rw [ad (nn _ I.free)];exact I.free,fun x c e=>by rw [ad (nn _ (I.freeC x c e))];exact I.freeC x c e,
  fun p hp=>by obtain ⟨a1,a2,a3⟩:=I.pin p hp;exact ⟨a1,by rw [ad (nn _ a2)];exact a2,a3⟩,MB,I.len⟩
 obtain ⟨more,q⟩:=I.base.tbls b ps e;exact ⟨more,by rw [ad (ne b _ q fun _ _ y=>nomatch y)];exact q⟩
end
section
variable {X:Cx}{tg iter:Expr}{te:TE}
def G1 (n0:Hp) (te:TE):TI:=fun σ H R=>te σ H fun x H1=>∃ d Mx,x=.ref d/\H1 d=some (.dK Mx)/\∀ o,(∀ o u,n0 d ≠ some (.frz o u))->R (IZ d o Mx) (af H1 d (.frz o (.dK Mx)))
theorem Bu (hl:PE X iter te):PI X tg iter (G1 X.H₀ te):=by
 intro Mv s σ H R I h;refine aB (hl Mv s σ H _ I h) fun v s1 hq0=>?_
 obtain ⟨x,H1,I1,r1,d,Mx,e,hd,q⟩:=hq0;subst e;cases r1;obtain ⟨hz,hsys,vs,rv,ob,es,ep,e1,c1,c2,c3⟩:=I1.MB d _ hd;have hl:Mx.length=vs.length:=Paired.length rv;have hn:∀ o u,X.H₀ d ≠ some (.frz o u):=fun o u z=>by
  have:=I1.base.frzs d o u z
  rw [hd] at this;cases this
 have I2:=I1.frzD hd e1;refine wpAny_pyIter_dict hsys (knd:=bL X.prog X.w) ⟨ob,es,e1,c1,c2,c3⟩ ?_;have I3:Inv X Mv σ (af H1 d (.frz ob (.dK Mx))) { s1 with heap:=s1.heap.push { cls:=.type "dict_keyiterator",data:=.fields #[.ref d,.int 0 0,.int vs.length 0,.int ep 0] },toks:=s1.toks }:=I2.kept fun b o e=>zG _ e
 refine ⟨s1.heap.objs.size,[s1.heap.objs.size],_,_,_,rfl,I3,uR (Mx:=Mx) _ c2,⟨_,zY _ rfl,rfl,by rw [hl];rfl⟩,fun b hb=>?_,q ob hn⟩;obtain rfl:b=s1.heap.objs.size:=by simpa using hb
 exact I2.fpOk (zP _) I2.fresh
def oW (n0:Hp) (D:iT):iT:={ nx:=fun σ H=>∃ d o Mx,H d=some (.frz o (.dK Mx))/\(∀ o u,n0 d ≠ some (.frz o u))/\D.nx σ (af H d (.dK Mx)),rt:=fun v H=>∃ d o Mx,H d=some (.frz o (.dK Mx))/\(∀ o u,n0 d ≠ some (.frz o u))/\D.rt v (af H d (.dK Mx)) }
theorem Bm {st:Stmt}{t:TS} (h:PS X st t):PS X st (fun D σ H=>t (oW X.H₀ D) σ H):=by
 intro Mv s σ H D I q;refine aB (h Mv s σ H (oW X.H₀ D) I q) fun f s' hs=>?_
 cases f with
 | next=>obtain ⟨σ',H',J,d,o,Mx,e,n,q⟩:=hs;exact ⟨σ',_,J.thawD e n,q⟩
 | ret u=>obtain ⟨v,σ',H',J,r,d,o,Mx,e,n,q⟩:=hs;exact ⟨v,σ',_,J.thawD e n,r,q⟩
 | brk=>obtain ⟨_,_,_,q⟩:=hs;exact q.elim
 | cont=>obtain ⟨_,_,_,q⟩:=hs;exact q.elim
end
end L2
namespace R
open PySem L2
inductive AV where
 | non | bl (b:Bool) | int (i:Int) | str (x:Str) | ref (k:Nat) | tup (xs:List AV) | fz (xs:List AV)
inductive Mw where
 | lst (xs:List AV) | al (t:AV) | dK (Mx:List (aW × AV)) | dT (Mx:List (List aW × AV)) | ins (c:Str) (fs:List (Str × AV)) | wk (Mx:List (aW × AV))
abbrev aa:=List Mw
abbrev Sl:=List (Option AV)
abbrev Pr:=Addr->Prop
class My where
 tb:List (Addr × Pos × Str)
structure Gm where
 K:Frag
 mg:Str->Option Value
def FLk (mg:Gm) (P:Pr) (H:Hp) (a:Addr) (vs:List V):Prop:=(P a/\Rd H a (.lst vs))\/∀ H',bz mg.K H' a vs
mutual
def RA (mg:Gm) (P:Pr) (H:Hp) (φ:List Addr):AV->V->Prop
 | .non,v=>v=.non
 | .bl b,v=>v=.bl b
 | .int i,v=>v=.int i
 | .str x,v=>v=.str x
 | .ref k,v=>∃ a,φ[k]?=some a/\v=.ref a
 | .tup xs,v=>∃ a vs,v=.ref a/\P a/\H a=some (.tup vs)/\MA mg P H φ xs vs
 | .fz xs,v=>∃ a vs,v=.ref a/\FLk mg P H a vs/\MA mg P H [] xs vs
def MA (mg:Gm) (P:Pr) (H:Hp) (φ:List Addr):List AV->List V->Prop
 | [],vs=>vs=[]
 | x::xs,vs=>∃ v ws,vs=v::ws/\RA mg P H φ x v/\MA mg P H φ xs ws
end
theorem bg:MA mg P H φ [] []:=by simp only [MA]
theorem aS (h:RA mg P H φ x v) (t:MA mg P H φ xs vs):MA mg P H φ (x::xs) (v::vs):=by simp only [MA];exact ⟨v,vs,rfl,h,t⟩
structure Frm (P:Pr) (φ:List Addr) (H:Hp) (P':Pr) (φ':List Addr) (H':Hp):Prop where
 ext:∀ a,P a->P' a/\H' a=H a
 new:∃ more,φ'=φ++more/\∀ a ∈ more,H a=none
 keep:∀ a,H a ≠ none->a ∉ φ->(∀ ps,H a ≠ some (.tbl ps))->H' a=H a
 pn:∀ a,P' a->P a\/H a=none\/a ∈ φ
 sm:∀ a,H a ≠ none->H' a ≠ none
 fz:∀ a o u,H a=some (.frz o u)->H' a=some (.frz o u)
theorem Frm.refl:Frm P φ H P φ H:=⟨fun _ h=>⟨h,rfl⟩,⟨[],by simp,by simp⟩,fun _ _ _ _=>rfl,fun _ h=>.inl h,fun _ h=>h,fun _ _ _ h=>h⟩
theorem Frm.trans {P P1 P2:Pr}{φ φ1 φ2:List Addr}{H H1 H2:Hp} (a:Frm P φ H P1 φ1 H1) (b:Frm P1 φ1 H1 P2 φ2 H2):Frm P φ H P2 φ2 H2:=by
 obtain ⟨m1,e1,n1⟩:=a.new;obtain ⟨m2,e2,n2⟩:=b.new;have nn:∀ x,H1 x=none->H x=none:=fun x h=>by
  cases e:H x with
  | none=>rfl
  | some o=>exact absurd h (a.sm x (by rw [e];exact fun z=>nomatch z))
 refine ⟨fun x h=>?_,⟨m1++m2,by rw [e2,e1,yM],fun x h=>?_⟩,fun x h1 h2 h3=>?_,fun x h=>?_,fun x h=>b.sm x (a.sm x h),fun x o u h=>b.fz x o u (a.fz x o u h)⟩
 ·obtain ⟨h1,e⟩:=a.ext x h
  obtain ⟨h2,e'⟩:=b.ext x h1;exact ⟨h2,e'.trans e⟩
 ·rcases zZ.mp h with h | h
  ·exact n1 x h
  ·exact nn x (n2 x h)
 ·have e:=a.keep x h1 h2 h3
  refine (b.keep x (by rw [e];exact h1) (fun z=>?_) (by rw [e];exact h3)).trans e;rw [e1] at z;rcases zZ.mp z with z | z
  ·exact h2 z
  ·exact h1 (n1 x z)
 ·rcases b.pn x h with h | h | h
  ·exact a.pn x h
  ·exact .inr (.inl (nn x h))
  ·rw [e1] at h
   rcases zZ.mp h with h | h
   ·exact .inr (.inr h)
   ·exact .inr (.inl (n1 x h))
theorem Rd.at (h:Rd H a u) (e:H' a=H a):Rd H' a u:=by
 rcases h with h | ⟨o,h⟩
 ·exact .inl (e.trans h)
 ·exact .inr ⟨o,e.trans h⟩
theorem FLk.mono {mg:Gm}{P P':Pr}{H H':Hp}{a:Addr}{vs:List V} (h:FLk mg P H a vs) (x:∀ a,P a->P' a/\H' a=H a):FLk mg P' H' a vs:=by
 rcases h with ⟨p,r⟩ | h
 ·exact .inl ⟨(x a p).1,Rd.at r (x a p).2⟩
 ·exact .inr h
theorem FLk.sq (h:FLk mg P H a vs):bz mg.K H a vs:=by
 rcases h with ⟨_,r⟩ | h
 ·exact .inl r
 ·exact h H
section
variable {mg:Gm}{P P':Pr}{H H':Hp}{φ φ':List Addr}
mutual
theorem RA.mono' (x:∀ a,P a->P' a/\H' a=H a):∀ {t:AV}{v:V}{φ φ':List Addr},(∀ (k:Nat) a,φ[k]?=some a->φ'[k]?=some a)->RA mg P H φ t v->RA mg P' H' φ' t v
 | .non,_,_,_,_,h=>by simp only [RA] at h ⊢;exact h
 | .bl _,_,_,_,_,h=>by simp only [RA] at h ⊢;exact h
 | .int _,_,_,_,_,h=>by simp only [RA] at h ⊢;exact h
 | .str _,_,_,_,_,h=>by simp only [RA] at h ⊢;exact h
 | .ref k,_,_,_,hφ,h=>by simp only [RA] at h ⊢;obtain ⟨a,e,r⟩:=h;exact ⟨a,hφ k a e,r⟩
 | .tup xs,_,_,_,hφ,h=>by
  simp only [RA] at h ⊢;obtain ⟨a,vs,r,p,e,q⟩:=h;exact ⟨a,vs,r,(x a p).1,(x a p).2.trans e,MA.mono' x hφ q⟩
 | .fz xs,_,_,_,hφ,h=>by
  simp only [RA] at h ⊢;obtain ⟨a,vs,r,e,q⟩:=h;exact ⟨a,vs,r,e.mono x,MA.mono' x (fun _ _ z=>z) q⟩
theorem MA.mono' (x:∀ a,P a->P' a/\H' a=H a):∀ {ts:List AV}{vs:List V}{φ φ':List Addr},(∀ (k:Nat) a,φ[k]?=some a->φ'[k]?=some a)->MA mg P H φ ts vs->MA mg P' H' φ' ts vs
 | [],_,_,_,_,h=>by simp only [MA] at h ⊢;exact h
 | t::ts,_,_,_,hφ,h=>by
  simp only [MA] at h ⊢;obtain ⟨v,ws,e,r,q⟩:=h;exact ⟨v,ws,e,RA.mono' x hφ r,MA.mono' x hφ q⟩
end
theorem RA.mono {t:AV}{v:V} (h:RA mg P H φ t v) (x:∀ a,P a->P' a/\H' a=H a) (hφ:∀ (k:Nat) a,φ[k]?=some a->φ'[k]?=some a):RA mg P' H' φ' t v:=RA.mono' x hφ h
theorem MA.mono {ts:List AV}{vs:List V} (h:MA mg P H φ ts vs) (x:∀ a,P a->P' a/\H' a=H a) (hφ:∀ (k:Nat) a,φ[k]?=some a->φ'[k]?=some a):MA mg P' H' φ' ts vs:=MA.mono' x hφ h
theorem Frm.ix (f:Frm P φ H P' φ' H'):∀ (k:Nat) a,φ[k]?=some a->φ'[k]?=some a:=fun k a e=>by
 obtain ⟨m,rfl,_⟩:=f.new;rw [zN (zB.mp e).1];exact e
theorem RA.frm (h:RA mg P H φ t v) (f:Frm P φ H P' φ' H'):RA mg P' H' φ' t v:=h.mono f.ext f.ix
theorem MA.frm (h:MA mg P H φ ts vs) (f:Frm P φ H P' φ' H'):MA mg P' H' φ' ts vs:=h.mono f.ext f.ix
theorem RA.lift (h:RA mg P H [] t v):RA mg P H φ t v:=h.mono (fun _ h=>⟨h,rfl⟩) fun k a e=>by simp at e
theorem MA.lift (h:MA mg P H [] ts vs):MA mg P H φ ts vs:=h.mono (fun _ h=>⟨h,rfl⟩) fun k a e=>by simp at e
theorem MA.length:∀ {ts:List AV}{vs:List V},MA mg P H φ ts vs->ts.length=vs.length
 | [],_,h=>by simp only [MA] at h;subst h;rfl
 | t::ts,_,h=>by
  simp only [MA] at h;obtain ⟨v,ws,rfl,_,q⟩:=h;rw [yU,yU,MA.length q]
theorem MA.get:∀ {ts:List AV}{vs:List V}{i:Nat}{t:AV},MA mg P H φ ts vs->ts[i]?=some t->∃ v,vs[i]?=some v/\RA mg P H φ t v
 | [],_,_,_,_,e=>by simp at e
 | x::ts,_,i,t,h,e=>by
  simp only [MA] at h;obtain ⟨v,ws,rfl,r,q⟩:=h;cases i with
  | zero=>simp at e;subst e;exact ⟨v,rfl,r⟩
  | succ i=>simpa using MA.get (i:=i) q (by simpa using e)
theorem MA.app:∀ {xs ys:List AV}{vs ws:List V},MA mg P H φ xs vs->MA mg P H φ ys ws->MA mg P H φ (xs++ys) (vs++ws)
 | [],_,_,_,h,g=>by simp only [MA] at h;subst h;exact g
 | x::xs,_,_,_,h,g=>by
  simp only [MA] at h;obtain ⟨v,ws,rfl,r,q⟩:=h;exact aS r (MA.app q g)
theorem MA.take:∀ {xs:List AV}{vs:List V} (n:Nat),MA mg P H φ xs vs->MA mg P H φ (xs.take n) (vs.take n)
 | xs,vs,0,_=>by rw [List.take_zero,List.take_zero];exact bg
 | [],vs,n + 1,h=>by simp only [MA] at h;subst h;exact bg
 | x::xs,vs,n + 1,h=>by
  simp only [MA] at h;obtain ⟨v,ws,rfl,r,q⟩:=h;exact aS r (MA.take n q)
theorem MA.drop:∀ {xs:List AV}{vs:List V} (n:Nat),MA mg P H φ xs vs->MA mg P H φ (xs.drop n) (vs.drop n)
 | xs,vs,0,h=>h
 | [],vs,n + 1,h=>by simp only [MA] at h;subst h;exact bg
 | x::xs,vs,n + 1,h=>by
  simp only [MA] at h;obtain ⟨v,ws,rfl,r,q⟩:=h;exact MA.drop n q
theorem MA.set (r:RA mg P H φ x v):∀ {xs:List AV}{vs:List V} (n:Nat),MA mg P H φ xs vs->MA mg P H φ (xs.set n x) (vs.set n v)
 | [],vs,_,h=>by simp only [MA] at h;subst h;exact bg
 | y::xs,vs,n,h=>by
  simp only [MA] at h;obtain ⟨w,ws,rfl,q,t⟩:=h;cases n with
  | zero=>exact aS r t
  | succ n=>exact aS q (MA.set r n t)
theorem MA.ints:∀ {ns:List Int}{vs:List V},MA mg P H φ (ns.map .int) vs->vs=ns.map .int
 | [],_,h=>by simpa only [List.map_nil,MA] using h
 | n::ns,_,h=>by
  simp only [zO,MA,RA] at h;obtain ⟨v,ws,rfl,rfl,q⟩:=h;rw [MA.ints q];rfl
theorem MA.of_ints:∀ {ns:List Int},MA mg P H φ (ns.map .int) (ns.map V.int)
 | []=>bg
 | n::ns=>aS (by simp only [RA]) MA.of_ints
end
def KVR (mg:Gm) (P:Pr) (H:Hp) (φ:List Addr) {κ:Type} (Mx:List (κ × AV)) (ws:List (κ × V)):Prop:=Mx.map (·.1)=ws.map (·.1)/\MA mg P H φ (Mx.map (·.2)) (ws.map (·.2))
def CellR (mg:Gm) (P:Pr) (H:Hp) (φ:List Addr) (a:Addr):Mw->Prop
 | .lst xs=>¬ P a/\∃ vs,H a=some (.lst vs)/\MA mg P H φ xs vs
 | .al t=>P a/\RA mg P H [] t (.ref a)
 | .dK Mx=>¬ P a/\∃ ws,H a=some (.dK ws)/\KVR mg P H φ Mx ws
 | .dT Mx=>¬ P a/\∃ ws,H a=some (.dT ws)/\KVR mg P H φ Mx ws
 | .ins c fs=>¬ P a/\∃ C dx ws,mg.mg c=some (.ref C)/\H a=some (.ins C dx ws)/\KVR mg P H φ fs ws
 | .wk Mx=>¬ P a/\∃ o ws,H a=some (.frz o (.dK ws))/\KVR mg P H φ Mx ws
def FA (o:Option HO):Prop:=(∀ ps,o ≠ some (.tbl ps))/\∀ f,o ≠ some (.ext f)
theorem _root_.L2.fj.new (h:fj H P pos q) (hp:H p=none):fj (af H p o) P pos q:=by
 obtain ⟨ps,e,t,c⟩:=h;refine ⟨ps,by rw [ad (aZ e hp)];exact e,t,?_⟩;rcases c with c | ⟨c',c1,c2⟩
 ·exact .inl c
 ·exact .inr ⟨c',c1,by rw [ad (aZ c2 hp)];exact c2⟩
theorem _root_.L2.fj.ne (h:fj H P pos q) (hp:H p=none):P ≠ p:=by
 obtain ⟨ps,e,_⟩:=h;exact aZ e hp
theorem _root_.L2.fj.wr (h:fj H P pos q) (hp:FA (H p)):fj (af H p o) P pos q:=by
 obtain ⟨ps,e,t,c⟩:=h;refine ⟨ps,by rw [ad fun z=>hp.1 ps (by rw [<- z];exact e)];exact e,t,?_⟩;rcases c with c | ⟨c',c1,c2⟩
 ·exact .inl c
 ·exact .inr ⟨c',c1,by rw [ad fun z=>hp.2 _ (by rw [<- z];exact c2)];exact c2⟩
structure Sim [My] (mg:Gm) (P:Pr) (φ:List Addr) (st:aa) (H:Hp):Prop where
 len:φ.length=st.length
 nd:φ.Nodup
 dom:∀ a,P a->H a ≠ none
 cd:∀ a ∈ φ,H a ≠ none
 cell:∀ (k:Nat) c a,st[k]?=some c->φ[k]?=some a->CellR mg P H φ a c
 tb:∀ t ∈ My.tb,fj H t.1 t.2.1 t.2.2/\¬ P t.1
section
variable {mg:Gm}{P P':Pr}{H H':Hp}{φ φ':List Addr}{st st':aa}{a:Addr}
theorem KVR.mono {κ:Type}{Mx:List (κ × AV)}{ws:List (κ × V)} (h:KVR mg P H φ Mx ws) (x:∀ a,P a->P' a/\H' a=H a) (hφ:∀ (k:Nat) a,φ[k]?=some a->φ'[k]?=some a):KVR mg P' H' φ' Mx ws:=⟨h.1,h.2.mono x hφ⟩
theorem CellR.mono {c:Mw} (h:CellR mg P H φ a c) (x:∀ a,P a->P' a/\H' a=H a) (hφ:∀ (k:Nat) a,φ[k]?=some a->φ'[k]?=some a) (e:H' a=H a) (np:¬ P a->¬ P' a):CellR mg P' H' φ' a c:=by
 cases c with
 | lst xs=>obtain ⟨n,vs,r,q⟩:=h;exact ⟨np n,vs,e.trans r,q.mono x hφ⟩
 | al t=>exact ⟨(x a h.1).1,h.2.mono x fun _ _ z=>z⟩
 | dK Mx=>obtain ⟨n,vs,r,q⟩:=h;exact ⟨np n,vs,e.trans r,q.mono x hφ⟩
 | dT Mx=>obtain ⟨n,vs,r,q⟩:=h;exact ⟨np n,vs,e.trans r,q.mono x hφ⟩
 | ins c fs=>obtain ⟨n,C,dx,ws,m,r,q⟩:=h;exact ⟨np n,C,dx,ws,m,e.trans r,q.mono x hφ⟩
 | wk Mx=>obtain ⟨n,o,ws,r,q⟩:=h;exact ⟨np n,o,ws,e.trans r,q.mono x hφ⟩
theorem Sim.at [My] (s:Sim mg P φ st H) {k:Nat} (e:st[k]?=some c):∃ a,φ[k]?=some a/\CellR mg P H φ a c:=by
 have hk:k < φ.length:=by rw [s.len];exact (zB.mp e).1
 exact ⟨φ[k],zF hk,s.cell k c _ e (zF hk)⟩
theorem Sim.notb [My] (s:Sim mg P φ st H) {k:Nat} (ea:φ[k]?=some a) (na:¬ P a):FA (H a):=by
 obtain ⟨c,hc⟩:∃ c,st[k]?=some c:=⟨_,zF (by rw [<- s.len];exact (zB.mp ea).1)⟩;have h:=s.cell k c a hc ea;cases c with
 | lst xs=>obtain ⟨n,vs,r,q⟩:=h;rw [r];exact ⟨fun _ z=>(nomatch z),fun _ z=>(nomatch z)⟩
 | al t=>exact absurd h.1 na
 | dK Mx=>obtain ⟨n,vs,r,q⟩:=h;rw [r];exact ⟨fun _ z=>(nomatch z),fun _ z=>(nomatch z)⟩
 | dT Mx=>obtain ⟨n,vs,r,q⟩:=h;rw [r];exact ⟨fun _ z=>(nomatch z),fun _ z=>(nomatch z)⟩
 | ins c fs=>obtain ⟨n,C,dx,ws,m,r,q⟩:=h;rw [r];exact ⟨fun _ z=>(nomatch z),fun _ z=>(nomatch z)⟩
 | wk Mx=>obtain ⟨n,o,ws,r,q⟩:=h;rw [r];exact ⟨fun _ z=>(nomatch z),fun _ z=>(nomatch z)⟩
theorem Sim.tnc [My] (s:Sim mg P φ st H) (ht:t ∈ My.tb):t.1 ∉ φ:=fun h=>by
 obtain ⟨j,hj⟩:=z7 h;obtain ⟨ps,e,_⟩:=(s.tb t ht).1;exact (s.notb hj (s.tb t ht).2).1 ps e
theorem Sim.okeep [My] (s:Sim mg P φ st H) (f:Frm P φ H P' φ' H') (h:H c=some (fC c q)):H' c=some (fC c q):=by
 by_cases hP:P c
 ·exact (f.ext c hP).2.trans h
 ·refine (f.keep c (by rw [h];exact fun z=>nomatch z) (fun z=>?_) fun ps z=>by rw [h] at z;cases z).trans h
  obtain ⟨j,hj⟩:=z7 z;exact (s.notb hj hP).2 _ h
theorem Sim.ckeep [My] (s:Sim mg P φ st H) (x:∀ a,P a->H' a=H a) (k:∀ a,H a ≠ none->(∀ ps,H a ≠ some (.tbl ps))->H' a=H a):∀ a ∈ φ,H' a=H a:=fun a h=>by
 by_cases hP:P a
 ·exact x a hP
 ·obtain ⟨j,hj⟩:=z7 h
  exact k a (s.cd a h) (s.notb hj hP).1
theorem Sim.stay [My] (s:Sim mg P φ st H) (x:∀ a,P a->P' a/\H' a=H a) (hc:∀ a ∈ φ,H' a=H a) (np:∀ a ∈ φ,¬ P a->¬ P' a) (dm:∀ a,P' a->H' a ≠ none) (tb:∀ t ∈ My.tb,fj H' t.1 t.2.1 t.2.2/\¬ P' t.1):Sim mg P' φ st H' :=
 ⟨s.len,s.nd,dm,fun a h=>by rw [hc a h];exact s.cd a h,fun k c a e1 e2=>(s.cell k c a e1 e2).mono x (fun _ _ z=>z) (hc a (zW e2)) (np a (zW e2)),tb⟩
theorem Sim.nil [My] (dm:∀ a,P a->H a ≠ none) (tb:∀ t ∈ My.tb,fj H t.1 t.2.1 t.2.2/\¬ P t.1):Sim mg P [] [] H:=⟨rfl,List.nodup_nil,dm,fun _ h=>by simp at h,fun k c a e _=>by simp at e,tb⟩
theorem mF [My] (s:Sim mg P φ st H) (hp:H p=none):Frm P φ H (fun a=>P a\/a=p) φ (af H p o)/\Sim mg (fun a=>P a\/a=p) φ st (af H p o):=by
 have ne:∀ a,H a ≠ none->a ≠ p:=fun a h e=>h (by rw [e];exact hp)
 have f:Frm P φ H (fun a=>P a\/a=p) φ (af H p o):=by
  refine ⟨fun a h=>⟨.inl h,ad (ne a (s.dom a h))⟩,⟨[],by simp,by simp⟩,fun a h _ _=>ad (ne a h),fun a h=>?_,fun a h=>by rw [ad (ne a h)];exact h,fun a o u h=>by rw [ad (aZ h hp)];exact h⟩;rcases h with h | h
  ·exact .inl h
  ·exact .inr (.inl (by rw [h];exact hp))
 refine ⟨f,s.stay f.ext (fun a h=>ad (ne a (s.cd a h))) (fun a h n z=>?_) (fun a h=>?_) fun t ht=>⟨(s.tb t ht).1.new hp,fun z=>z.elim (s.tb t ht).2 (fun e=>(s.tb t ht).1.ne hp e)⟩⟩
 ·rcases z with z | z
  ·exact n z
  ·exact ne a (s.cd a h) z
 ·rcases h with h | h
  ·rw [ad (ne a (s.dom a h))];exact s.dom a h
  ·rw [h,au];exact fun z=>nomatch z
theorem lQ [My] (s:Sim mg P φ st H) (hp:H p=none) (hc:CellR mg P (af H p o) (φ++[p]) p c):Frm P φ H P (φ++[p]) (af H p o)/\Sim mg P (φ++[p]) (st++[c]) (af H p o):=by
 have ne:∀ a,H a ≠ none->a ≠ p:=fun a h e=>h (by rw [e];exact hp)
 have ex:∀ a,P a->P a/\af H p o a=H a:=fun a h=>⟨h,ad (ne a (s.dom a h))⟩
 have ix:∀ (k:Nat) a,φ[k]?=some a->(φ++[p])[k]?=some a:=fun k a e=>by rw [zN (zB.mp e).1];exact e
 have sm:∀ a,H a ≠ none->af H p o a ≠ none:=fun a h=>by rw [ad (ne a h)];exact h
 refine ⟨⟨ex,⟨[p],rfl,fun a h=>by rw [zM.mp h];exact hp⟩,fun a h _ _=>ad (ne a h),fun a h=>.inl h,sm,fun a o u h=>by rw [ad (aZ h hp)];exact h⟩,?_,?_,fun a h=>sm a (s.dom a h),fun a h=>?_,fun k d a e1 e2=>?_,fun t ht=>⟨(s.tb t ht).1.new hp,(s.tb t ht).2⟩⟩
 ·rw [zV,zV,s.len];rfl
 ·exact List.nodup_append.mpr ⟨s.nd,(by simp),fun a h b hb e=>ne a (s.cd a h) (by rw [e];exact zM.mp hb)⟩
 ·rcases zZ.mp h with h | h
  ·exact sm a (s.cd a h)
  ·rw [zM.mp h,au];exact fun z=>nomatch z
 ·by_cases hk:k < st.length
  ·rw [zN hk] at e1
   rw [zN (by rw [s.len];exact hk)] at e2;exact (s.cell k d a e1 e2).mono ex ix (ad (ne a (s.cd a (zW e2)))) fun z=>z
  ·have hk':k=st.length:=by
    have:=(zB.mp e1).1
    rw [zV] at this;simp at this;omega
   subst hk';simp at e1;rw [<- s.len] at e2;simp at e2;subst e1;subst e2;exact hc
theorem gU [My] {k:Nat} (s:Sim mg P φ st H) (ea:φ[k]?=some a) (na:¬ P a) (hc:CellR mg P (af H a o) φ a c) (nz:∀ o u,H a ≠ some (.frz o u)):Frm P φ H P φ (af H a o)/\Sim mg P φ (st.set k c) (af H a o):=by
 have hm:a ∈ φ:=zW ea;have ne:∀ b,P b->b ≠ a:=fun b h e=>na (by rw [<- e];exact h)
 have sm:∀ b,H b ≠ none->af H a o b ≠ none:=fun b h=>by
  by_cases e:b=a
  ·rw [e,au];exact fun z=>nomatch z
  ·rw [ad e];exact h
 have ex:∀ b,P b->P b/\af H a o b=H b:=fun b h=>⟨h,ad (ne b h)⟩
 refine ⟨⟨ex,⟨[],by simp,by simp⟩,fun b _ h _=>ad fun e=>h (by rw [e];exact hm),fun b h=>.inl h,sm,fun b o u h=>by rw [ad (fun e=>nz o u (by rw [<- e];exact h))];exact h⟩,by rw [List.length_set];exact s.len,s.nd,fun b h=>sm b (s.dom b h),fun b h=>sm b (s.cd b h),fun j d b e1 e2=>?_,fun t ht=>⟨(s.tb t ht).1.wr (s.notb ea na),(s.tb t ht).2⟩⟩;by_cases hj:j=k
 ·subst hj
  rw [ea] at e2;cases e2;rw [List.getElem?_set_self (by rw [<- s.len];exact (zB.mp ea).1)] at e1;cases e1;exact hc
 ·rw [List.getElem?_set_ne (Ne.symm hj)] at e1
  have hb:b ≠ a:=fun e=>hj (by
   subst e;exact nodup_ix' s.nd e2 ea)
  exact (s.cell j d b e1 e2).mono ex (fun _ _ z=>z) (ad hb) fun z=>z
where
 nodup_ix' {l:List Addr} (hN:l.Nodup) {i j:Nat}{x:Addr} (a:l[i]?=some x) (b:l[j]?=some x):i=j:=by
  obtain ⟨h1,e1⟩:=zB.mp a;obtain ⟨h2,e2⟩:=zB.mp b;exact (List.getElem_inj hN).mp (e1.trans e2.symm)
end
end R
namespace R
open PySem PySem.Spec PyProof.Rows L2
open DD (PE_imp PT_imp PA_imp PS_imp PSs_imp OpR_imp PW_imp PG_imp)
abbrev St:=L2.St
abbrev _root_.L2.Cx.gm (X:Cx):Gm:=⟨X.K,X.mg⟩
def KG [My] {α β:Type} (mg:Gm) (Rl:Gm->Pr->Hp->List Addr->α->β->Prop) (P:Pr) (φ:List Addr) (H:Hp) (r:Option (α × aa)) (Q:β->Hp->Prop):Prop :=
 ∃ a st',r=some (a,st')/\∀ P' φ' H' b,Frm P φ H P' φ' H'->Sim mg P' φ' st' H'->Rl mg P' H' φ' a b->Q b H'
def RB {α:Type} (_:Gm) (_:Pr) (_:Hp) (_:List Addr) (a b:α):Prop:=a=b
section
variable {α β γ δ:Type}{mg:Gm}{Ra:Gm->Pr->Hp->List Addr->α->β->Prop}{Rc:Gm->Pr->Hp->List Addr->γ->δ->Prop}{P:Pr}{φ:List Addr}{H:Hp}
theorem KG.bind [My] {m:Option (α × aa)}{k:α × aa->Option (γ × aa)}{Q:δ->Hp->Prop} (h:KG mg Rc P φ H (m.bind k) Q) :
  KG mg Ra P φ H m fun b H1=>∃ P1 φ1 st1 a,Frm P φ H P1 φ1 H1/\Sim mg P1 φ1 st1 H1/\Ra mg P1 H1 φ1 a b/\KG mg Rc P1 φ1 H1 (k (a,st1)) Q:=by
 obtain ⟨c,st',e,q⟩:=h;cases m with
 | none=>cases e
 | some p =>
  obtain ⟨a,st1⟩:=p;refine ⟨a,st1,rfl,fun P1 φ1 H1 b f s r=>⟨P1,φ1,st1,a,f,s,r,c,st',e,fun P' φ' H' d f' s' r'=>q P' φ' H' d (f.trans f') s' r'⟩⟩
theorem KG.pure [My] {a:α}{st:aa}{Q:β->Hp->Prop}{b:β} (h:KG mg Ra P φ H (some (a,st)) Q) (s:Sim mg P φ st H) (r:Ra mg P H φ a b):Q b H:=by
 obtain ⟨_,_,e,q⟩:=h;cases e;exact q P φ H b Frm.refl s r
theorem KG.map [My] {m:Option α}{st:aa}{Q:β->Hp->Prop} (h:KG mg Ra P φ H (m.map fun a=>(a,st)) Q):∃ a,m=some a/\KG mg Ra P φ H (some (a,st)) Q:=by
 obtain ⟨b,st',e,q⟩:=h;cases m with
 | none=>cases e
 | some a=>exact ⟨a,rfl,b,st',e,q⟩
end
def MH (mg:Gm) (P:Pr) (H:Hp) (φ:List Addr) (sl:Sl) (σ:St):Prop:=sl.length=σ.length/\∀ (i:Nat) v,sl[i]?=some (some v)->∃ w,σ[i]?=some (some w)/\RA mg P H φ v w
section
variable {mg:Gm}{P P':Pr}{H H':Hp}{φ φ':List Addr}{sl:Sl}{σ:St}
theorem MH.frm (h:MH mg P H φ sl σ) (f:Frm P φ H P' φ' H'):MH mg P' H' φ' sl σ:=⟨h.1,fun i v e=>let ⟨w,e',r⟩:=h.2 i v e;⟨w,e',r.frm f⟩⟩
theorem MH.set (h:MH mg P H φ sl σ) (r:RA mg P H φ v w) (i:Nat):MH mg P H φ (sl.set i (some v)) (σ.set i (some w)):=by
 refine ⟨by rw [List.length_set,List.length_set];exact h.1,fun j u e=>?_⟩;by_cases hj:i=j
 ·subst hj
  by_cases hi:i < sl.length
  ·rw [List.getElem?_set_self hi] at e
   cases e;exact ⟨w,List.getElem?_set_self (by rw [<- h.1];exact hi),r⟩
  ·rw [List.getElem?_eq_none (by rw [List.length_set];omega)] at e;cases e
 ·rw [List.getElem?_set_ne hj] at e
  rw [List.getElem?_set_ne hj];exact h.2 j u e
end
abbrev EF:=Sl->aa->Option (AV × aa)
abbrev TF:=Sl->aa->Option (Bool × aa)
abbrev AF:=Sl->aa->Option (List AV × aa)
def rE [My] (mg:Gm) (f:EF):TE:=fun σ H Q=>∃ P φ sl st,MH mg P H φ sl σ/\Sim mg P φ st H/\KG mg RA P φ H (f sl st) Q
def rT [My] (mg:Gm) (f:TF):TT:=fun σ H Q=>∃ P φ sl st,MH mg P H φ sl σ/\Sim mg P φ st H/\KG mg RB P φ H (f sl st) Q
def rA [My] (mg:Gm) (f:AF):TA:=fun σ H Q=>∃ P φ sl st,MH mg P H φ sl σ/\Sim mg P φ st H/\KG mg MA P φ H (f sl st) Q
def QE [My] (X:Cx) (e:Expr) (f:EF):Prop:=PE X e (rE X.gm f)
def QT [My] (X:Cx) (e:Expr) (f:TF):Prop:=PT X e (rT X.gm f)
def QW [My] (X:Cx) (e:Expr) (f:TF):Prop:=PW X e (rT X.gm f)
def QA [My] (X:Cx) (es:List Expr) (f:AF):Prop:=PA X es (rA X.gm f)
def aV (i:Nat):EF:=fun sl st=>match sl[i]? with
 | some (some v)=>some (v,st)
 | _=>none
def aC (v:AV):EF:=fun _ st=>some (v,st)
def dF:AF:=fun _ st=>some ([],st)
def db (f:EF) (g:AF):AF:=fun sl st=>(f sl st).bind fun p=>(g sl p.2).bind fun q=>some (p.1::q.1,q.2)
noncomputable def mn:AV->Option V
 | .non=>some .non
 | .bl b=>some (.bl b)
 | .int i=>some (.int i)
 | .str x=>some (.str x)
 | _=>none
theorem RA.sc (h:mn v=some w):RA mg P H φ v w:=by
 cases v <;> simp only [mn] at h <;> cases h <;> simp only [RA]
section
variable {X:Cx}{e:Expr}{es:List Expr}{pos:Pos}
theorem Da [My] {i:Nat} (hN:X.N[i]?=some x) (hv:wn X.env.scope x) (hd:(x == ("__debug__":Str))=false) (hcd:(x == ("__classdict__":Str))=false):QE X (.Name x pos) (aV i) :=
 PE_imp (Du hN hv hd hcd) fun σ H Q hq0=>by
  obtain ⟨P,φ,sl,st,r,s,k⟩:=hq0;unfold aV at k;cases h:sl[i]? with
  | none=>rw [h] at k;obtain ⟨_,_,e,_⟩:=k;cases e
  | some o =>
   cases o with
   | none=>rw [h] at k;obtain ⟨_,_,e,_⟩:=k;cases e
   | some v =>
    rw [h] at k;obtain ⟨w,e,ra⟩:=r.2 i v h;exact ⟨w,e,k.pure s ra⟩
theorem pM [My] (hw:mn v=some w) (h:PE X e t) (ht:∀ σ H Q,Q w H->t σ H Q):QE X e (aC v) :=
 PE_imp h fun σ H Q ⟨P,φ,sl,st,r,s,k⟩=>ht σ H Q (k.pure s (RA.sc hw))
theorem dG [My]:QA X [] dF:=PA_imp vq fun σ H Q ⟨P,φ,sl,st,r,s,k⟩=>k.pure s bg
theorem bF [My] (ha:QE X e f) (hr:QA X es g) (hs:starEach (e::es) X.env=(false,eval e X.env)::starEach es X.env):QA X (e::es) (db f g) :=
 PA_imp (rH ha hr hs) fun σ H Q ⟨P,φ,sl,st,r,s,k⟩=>⟨P,φ,sl,st,r,s,by
  obtain ⟨a,st',e1,q⟩:=k.bind (Ra:=RA);refine ⟨a,st',e1,fun P1 φ1 H1 b f1 s1 r1=>?_⟩;obtain ⟨P2,φ2,st2,a2,f2,s2,r2,k2⟩:=q P1 φ1 H1 b f1 s1 r1;refine ⟨P2,φ2,sl,st2,r.frm f2,s2,?_⟩;obtain ⟨xs,st3,e3,q3⟩:=k2.bind (Ra:=MA);refine ⟨xs,st3,e3,fun P4 φ4 H4 bs f4 s4 r4=>?_⟩;obtain ⟨P5,φ5,st5,a5,f5,s5,r5,k5⟩:=q3 P4 φ4 H4 bs f4 s4 r4;exact k5.pure s5 (aS (r2.frm f5) r5)⟩
end
def a2 (f g:EF) (k:AV->AV->aa->Option (AV × aa)):EF:=fun sl st=>(f sl st).bind fun p=>(g sl p.2).bind fun q=>k p.1 q.1 q.2
def a1 (f:EF) (k:AV->aa->Option (AV × aa)):EF:=fun sl st=>(f sl st).bind fun p=>k p.1 p.2
def r2 [My] (mg:Gm) (k:AV->AV->aa->Option (AV × aa)):R2:=fun v w H Q=>∃ P φ st x y,Sim mg P φ st H/\RA mg P H φ x v/\RA mg P H φ y w/\KG mg RA P φ H (k x y st) Q
def r1 [My] (mg:Gm) (k:AV->aa->Option (AV × aa)):V->Hp->VK->Prop:=fun v H Q=>∃ P φ st x,Sim mg P φ st H/\RA mg P H φ x v/\KG mg RA P φ H (k x st) Q
section
variable {mg:Gm}{k:AV->AV->aa->Option (AV × aa)}{k1:AV->aa->Option (AV × aa)}{f g:EF}
theorem uF [My] (q:rE mg (a2 f g k) σ H Q):uU (r2 mg k) (rE mg f) (rE mg g) σ H Q:=by
 obtain ⟨P,φ,sl,st,rs,s,kk⟩:=q;refine ⟨P,φ,sl,st,rs,s,?_⟩;obtain ⟨a,st',e1,q⟩:=kk.bind (Ra:=RA);refine ⟨a,st',e1,fun P1 φ1 H1 b f1 s1 r1=>?_⟩;obtain ⟨P2,φ2,st2,x,f2,s2,r2,k2⟩:=q P1 φ1 H1 b f1 s1 r1;refine ⟨P2,φ2,sl,st2,rs.frm f2,s2,?_⟩;obtain ⟨a',st3,e3,q3⟩:=k2.bind (Ra:=RA);refine ⟨a',st3,e3,fun P4 φ4 H4 b' f4 s4 r4=>?_⟩;obtain ⟨P5,φ5,st5,y,f5,s5,r5,k5⟩:=q3 P4 φ4 H4 b' f4 s4 r4;exact ⟨P5,φ5,st5,x,y,s5,r2.frm f5,r5,k5⟩
theorem Km [My] (q:rE mg (a1 f k1) σ H Q):HW (r1 mg k1) (rE mg f) σ H Q:=by
 obtain ⟨P,φ,sl,st,rs,s,kk⟩:=q;refine ⟨P,φ,sl,st,rs,s,?_⟩;obtain ⟨a,st',e1,q⟩:=kk.bind (Ra:=RA);refine ⟨a,st',e1,fun P1 φ1 H1 b f1 s1 r1=>?_⟩;obtain ⟨P2,φ2,st2,x,f2,s2,r2,k2⟩:=q P1 φ1 H1 b f1 s1 r1;exact ⟨P2,φ2,st2,x,s2,r2,k2⟩
end
def jV (h:aa->AV->AV->Option AV):AV->AV->aa->Option (AV × aa):=fun x y st=>(h st x y).map fun z=>(z,st)
def CK (h:aa->AV->Option AV):AV->aa->Option (AV × aa):=fun x st=>(h st x).map fun z=>(z,st)
noncomputable def cK (a b:Int):Bool:=(Nat.ble a.natAbs.log2 62 || Nat.ble b.natAbs.log2 62) || (Nat.ble a.natAbs.log2 1000000 && Nat.ble b.natAbs.log2 1000000)
noncomputable def eP (b:Int):Bool:=!(b == 0) && Nat.ble b.natAbs.log2 8999
noncomputable def tH (a b:Int):Bool:=decide (0 <= b) && Nat.ble b.natAbs 100000 && Nat.ble a.natAbs.log2 62
noncomputable def sH (a b:Int):Int:=if 0 < b then a / b else a.fdiv b
noncomputable def lq (a b:Int):Int:=if 0 < b then a % b else a.fmod b
def qO:Operator->Int->Int->Option Int
 | .Add,a,b=>some (a + b)
 | .Sub,a,b=>some (a - b)
 | .Mult,a,b=>if cK a b=true then some (a * b) else none
 | .FloorDiv,a,b=>if eP b=true then some (sH a b) else none
 | .Mod,a,b=>if b=0 then none else some (lq a b)
 | .Pow,a,b=>if tH a b=true then some (a ^ b.toNat) else none
 | .LShift,a,b=>if tH a b=true then some (a * 2 ^ b.toNat) else none
 | .RShift,a,b=>if 0 <= b then some (a / 2 ^ b.toNat) else none
 | .BitAnd,a,b=>some (Builtin.bitAnd a b)
 | .BitOr,a,b=>some (Builtin.bitOr a b)
 | .BitXor,a,b=>some (Builtin.bitXor a b)
 | _,_,_=>none
def ci (o:Operator) (_:aa):AV->AV->Option AV
 | .int a,.int b=>(qO o a b).map .int
 | .str a,.str b=>if (decide (o=.Add) && Nat.ble (a.length + b.length) 1000000)=true then some (.str (a++b)) else none
 | _,_=>none
theorem log2_lt {n k:Nat} (h:Nat.ble n.log2 k=true):n < 2 ^ (k + 1):=by
 by_cases h0:n=0
 ·subst h0;exact Nat.two_pow_pos _
 ·exact (Nat.log2_lt h0).mp (Nat.lt_succ_of_le (zS h))
theorem kU {a:Int}{k:Nat} (h:a.natAbs < 2 ^ k):Builtin.Int.intBits a <= k:=by
 unfold Builtin.Int.intBits;split
 ·omega
 ·rename_i h0
  have:a.natAbs.log2 < k:=(Nat.log2_lt (by simpa using h0)).mpr h;omega
theorem BP {a b:Int} (h:cK a b=true):IntMulOk a b:=by
 unfold cK at h;rcases Bool.or_eq_true_iff.mp h with h | h
 ·rcases Bool.or_eq_true_iff.mp h with h | h
  ·exact .of_left (z0 (kU (log2_lt h)) dC)
  ·exact .of_right (z0 (kU (log2_lt h)) dC)
 ·obtain ⟨h1,h2⟩:=Bool.and_eq_true_iff.mp h
  exact .of_bits (z0 (kU (log2_lt h1)) dC) (z0 (kU (log2_lt h2)) dC)
theorem B9 {b:Int} (h:eP b=true):b ≠ 0/\b.natAbs.log2 < 9000:=by
 unfold eP at h;obtain ⟨h1,h2⟩:=Bool.and_eq_true_iff.mp h;exact ⟨by simpa using h1,Nat.lt_succ_of_le (zS h2)⟩
theorem Fh (a b:Int):a.fdiv b=sH a b:=by
 unfold sH;split
 ·exact Int.fdiv_eq_ediv_of_nonneg _ oM
 ·rfl
theorem Fa (a b:Int):a.fmod b=lq a b:=by
 unfold lq;split
 ·exact Int.fmod_eq_emod_of_nonneg _ oM
 ·rfl
theorem rF {a b:Int} (h:tH a b=true):Kp a b:=by
 unfold tH at h;simp only [zC,yB] at h;obtain ⟨⟨h1,h2⟩,h3⟩:=h;have h2:=zS h2;exact ⟨h1,by omega,zJ (log2_lt h3) dC⟩
def JD (o:Operator):R2:=fun x y H Q=>(∃ i j k,x=.int i/\y=.int j/\qO o i j=some k/\Q (.int k) H)\/(o=.Add/\∃ i j,x=.str i/\y=.str j/\i.length + j.length <= sizeLine/\Q (.str (i++j)) H)
section
variable {X:Cx}
theorem DK (o:Operator):kC X (binaryOp o) (JD o):=by
 have hI:∀ (h:∀ i j k t u s (Q:Value->Shared->Prop) (E:Value->Shared->Prop),qO o i j=some k->Q (.int k s.toks) { s with toks:=s.toks + 1 }->wpAny (model X.prog X.w) X.A (binaryOp o (.int i t) (.int j u)) Q E s)
   (Mv:List (Addr × Obj)) (s:Shared) (σ:St) (H:Hp) (x y:V) (v u:Value) (Q:VK),Inv X Mv σ H s->RelV x v->RelV y u->(∃ i j k,x=.int i/\y=.int j/\qO o i j=some k/\Q (.int k) H) ->
   wpAny (model X.prog X.w) X.A (binaryOp o v u) (EP X Mv σ Q) X.xe s:=by
  rintro h Mv s σ H x y v u Q I rx ry ⟨i,j,k,e1,e2,e3,q⟩;subst e1;subst e2;obtain ⟨t,rfl⟩:=rx;obtain ⟨t',rfl⟩:=ry;exact h i j k t t' s _ _ e3 ⟨.int k,H,I.tok _,⟨_,rfl⟩,q⟩
 intro Mv s σ H x y v u Q I rx ry h;rcases h with h | ⟨rfl,h⟩
 ·refine hI ?_ Mv s σ H x y v u Q I rx ry h
  intro i j k t u s Q E e q;cases o <;> simp only [qO] at e
  case Add=>cases e;exact add_int q
  case Sub=>cases e;exact sub_int q
  case Mult =>
   split at e
   ·rename_i hm;cases e;exact mul_int q (BP hm)
   ·cases e
  case FloorDiv =>
   split at e
   ·rename_i hm;cases e
    obtain ⟨h1,h2⟩:=B9 hm;exact floordiv_int h1 (by rw [Fh];exact q) (.inl (PyProof.noPylong_of_log2 h2))
   ·cases e
  case Mod =>
   split at e
   ·cases e
   ·rename_i hm;cases e
    exact mod_int' hm (by rw [Fa];exact q)
  case Pow =>
   split at e
   ·rename_i hm;cases e
    have c:=rF hm;exact pow_int_small c.1 c.2.1 c.2.2 q
   ·cases e
  case LShift =>
   split at e
   ·rename_i hm;cases e
    have c:=rF hm;exact lshift_int_small c.1 c.2.1 c.2.2 q
   ·cases e
  case RShift =>
   split at e
   ·rename_i hm;cases e
    exact rshift_int hm (by rw [Int.fdiv_eq_ediv_of_nonneg _ (sX _)];exact q)
   ·cases e
  case BitAnd=>cases e;exact and_int q
  case BitOr=>cases e;exact or_int q
  case BitXor=>cases e;exact xor_int q
  all_goals cases e
 ·exact tN Mv s σ H x y v u Q I rx ry h
theorem DX [My] (o:Operator):kC X (binaryOp o) (r2 X.gm (jV (ci o))):=OpR_imp (DK o) fun v w H Q hq0=>by
 obtain ⟨P,φ,st,x,y,s,r1,r2,k⟩:=hq0;obtain ⟨z,e,k⟩:=k.map;cases x <;> cases y <;> simp only [ci] at e <;> first | (cases e;done) | skip
 ·rename_i a b
  simp only [RA] at r1 r2;obtain ⟨c,e1,e2⟩:=zE.mp e;subst e2;exact .inl ⟨a,b,c,r1,r2,e1,k.pure s (by simp only [RA])⟩
 ·rename_i a b
  simp only [RA] at r1 r2;split at e
  ·rename_i hc
   cases e;simp only [zC,yB] at hc;exact .inr ⟨hc.1,a,b,r1,r2,z0 (zS hc.2) dC,k.pure s (by simp only [RA])⟩
  ·cases e
theorem Dg [My] (ha:QE X a f) (hb:QE X b g):QE X (.BinOp a o b pos) (a2 f g (jV (ci o))) :=
 PE_imp (tM (DX o) ha hb) fun _ _ _ q=>uF q
end
end R
namespace R
open PySem PySem.Spec PyProof.Rows L2
open DD (PE_imp PT_imp PA_imp PS_imp PSs_imp OpR_imp PW_imp PG_imp pyOk reads_each any_vals obj_list obj_tup)
def dr (st:aa):AV->AV
 | .ref k=>match st[k]? with
  | some (.al t)=>t
  | _=>.ref k
 | v=>v
def bn (st:aa) (v:AV):Option (List AV):=match dr st v with
 | .fz xs=>some xs
 | .ref k=>match st[k]? with
  | some (.lst xs)=>some xs
  | _=>none
 | _=>none
def ik (st:aa) (v:AV):Option (List AV):=match dr st v with
 | .tup xs=>some xs
 | _=>none
section
variable {mg:Gm}{P:Pr}{φ:List Addr}{st:aa}{H:Hp}{v:AV}{w:V}{xs:List AV}
theorem RA.dr [My] (s:Sim mg P φ st H) (r:RA mg P H φ v w):RA mg P H φ (dr st v) w:=by
 cases v with
 | ref k =>
  unfold R.dr;dsimp only;split
  ·rename_i t h
   obtain ⟨a,e,c⟩:=s.at h;simp only [RA] at r;obtain ⟨a',e',rfl⟩:=r;rw [e] at e';cases e';exact c.2.lift
  ·exact r
 | _=>exact r
theorem RA.ls [My] (s:Sim mg P φ st H) (r:RA mg P H φ v w) (h:bn st v=some xs):∃ a vs,w=.ref a/\bz mg.K H a vs/\MA mg P H φ xs vs:=by
 have r:=r.dr s;unfold bn at h;split at h
 ·rename_i ys e
  cases h;rw [e] at r;simp only [RA] at r;obtain ⟨a,vs,e1,e2,q⟩:=r;exact ⟨a,vs,e1,e2.sq,q.lift⟩
 ·rename_i k e
  rw [e] at r;simp only [RA] at r;obtain ⟨a,e1,e2⟩:=r;split at h
  ·rename_i ys e3
   cases h;obtain ⟨a',e4,c⟩:=s.at e3;rw [e1] at e4;cases e4;obtain ⟨_,vs,q1,q2⟩:=c;exact ⟨a,vs,e2,.inl (.inl q1),q2⟩
  ·cases h
 ·cases h
theorem RA.tp [My] (s:Sim mg P φ st H) (r:RA mg P H φ v w) (h:ik st v=some xs):∃ a vs,w=.ref a/\H a=some (.tup vs)/\MA mg P H φ xs vs:=by
 have r:=r.dr s;unfold ik at h;split at h
 ·rename_i ys e
  cases h;rw [e] at r;simp only [RA] at r;obtain ⟨a,vs,e1,_,e2,q⟩:=r;exact ⟨a,vs,e1,e2,q⟩
 ·cases h
end
noncomputable def aO {α β:Type} (f:α->Option β):List α->Option (List β)
 | []=>some []
 | x::xs=>(f x).bind fun y=>(aO f xs).map fun ys=>y::ys
theorem cX {α β γ:Type}{f:α->Option β}{i:γ->α}{g:γ->β} (h:∀ x,f (i x)=some (g x)) (xs:List γ):aO f (xs.map i)=some (xs.map g):=by
 induction xs with
 | nil=>rfl
 | cons x xs ih=>simp only [zO,aO,h,ih,bind_some,map_some]
def bE:Nat->aa->AV->Option PyData
 | _,_,.non=>some .none
 | _,_,.bl b=>some (.bool b)
 | _,_,.int i=>some (.int i)
 | _,_,.str x=>some (.str x)
 | n + 1,st,.fz xs=>(aO (bE n st) xs).map .list
 | n + 1,st,.tup xs=>(aO (bE n st) xs).map .tuple
 | n + 1,st,.ref k=>match st[k]? with
  | some (.lst xs)=>(aO (bE n st) xs).map .list
  | some (.al t)=>bE n st t
  | _=>none
 | 0,_,_=>none
section
variable {X:Cx}{Mv:List (Addr × Obj)}{σ:St}{H:Hp}{s:Shared}{P:Pr}{φ:List Addr}{st:aa}
theorem pJ [My] {n:Nat} (ih:∀ t v p u,RA mg P H φ t v->bE n st t=some p->RelV v u->∃ as,Reads s.heap u p as) :
  ∀ {xs:List AV}{vs:List V}{ps:List PyData}{us:List Value},MA mg P H φ xs vs->aO (bE n st) xs=some ps->Vals vs us->∃ as,ReadsAll s.heap us ps as:=by
 intro xs
 induction xs with
 | nil =>
  intro vs ps us r e q;simp only [MA] at r;subst r;cases e;cases q;exact ⟨_,.nil⟩
 | cons x xs ihx =>
  intro vs ps us r e q;simp only [MA] at r;obtain ⟨v,ws,rfl,r1,r2⟩:=r;simp only [aO] at e;obtain ⟨p,e1,e2⟩:=zA e;obtain ⟨qs,e3,e4⟩:=zE.mp e2;subst e4;cases q with
  | cons q1 q2 =>
   obtain ⟨as,ra⟩:=ih x v p _ r1 e1 q1;obtain ⟨bs,rb⟩:=ihx r2 e3 q2;exact ⟨_,.cons ra rb⟩
theorem dO [My] (I:L2.Inv X Mv σ H s) (sm:Sim X.gm P φ st H):∀ (n:Nat) (t:AV) (v:V) (p:PyData) (u:Value),RA X.gm P H φ t v->bE n st t=some p->RelV v u->∃ as,Reads s.heap u p as:=by
 have lst:∀ {a:Addr}{vs:List V}{u:Value}{ps:List PyData},bz X.K H a vs->RelV (.ref a) u->(∀ {us:List Value},Vals vs us->∃ as,ReadsAll s.heap us ps as)->∃ as,Reads s.heap u (.list ps) as:=by
  intro a vs u ps h ru k;cases ru;obtain ⟨Mz,ob,m,rv,e1,e2,e3⟩:=obj_list I h;obtain ⟨as,ra⟩:=k rv;exact ⟨_,.list e1 e2 e3 ra⟩
 have cQ:∀ (n:Nat) (t:AV) (v:V) (p:PyData) (u:Value) (w:V),mn t=some w->RA X.gm P H φ t v->bE n st t=some p->RelV v u->∃ as,Reads s.heap u p as:=by
  intro n t v p u w hs r e ru;cases t with
  | non=>cases n <;> (simp only [bE] at e;cases e;simp only [RA] at r;subst r;cases ru;exact ⟨_,.none⟩)
  | bl b=>cases n <;> (simp only [bE] at e;cases e;simp only [RA] at r;subst r;cases ru;exact ⟨_,.bool b⟩)
  | int i=>cases n <;> (simp only [bE] at e;cases e;simp only [RA] at r;subst r;obtain ⟨t,rfl⟩:=ru;exact ⟨_,.int i t⟩)
  | str x=>cases n <;> (simp only [bE] at e;cases e;simp only [RA] at r;subst r;obtain ⟨t,rfl⟩:=ru;exact ⟨_,.str x t⟩)
  | _=>cases hs
 intro n
 induction n with
 | zero =>
  intro t v p u r e ru;cases t with
  | non=>exact cQ 0 _ v p u _ rfl r e ru
  | bl b=>exact cQ 0 _ v p u _ rfl r e ru
  | int i=>exact cQ 0 _ v p u _ rfl r e ru
  | str x=>exact cQ 0 _ v p u _ rfl r e ru
  | _=>simp only [bE] at e;cases e
 | succ n ih =>
  intro t v p u r e ru;cases t with
  | non=>exact cQ _ _ v p u _ rfl r e ru
  | bl b=>exact cQ _ _ v p u _ rfl r e ru
  | int i=>exact cQ _ _ v p u _ rfl r e ru
  | str x=>exact cQ _ _ v p u _ rfl r e ru
  | fz xs =>
   simp only [bE] at e;obtain ⟨ps,e1,e2⟩:=zE.mp e;subst e2;simp only [RA] at r;obtain ⟨a,vs,rfl,h,q⟩:=r;exact lst h.sq ru fun rv=>pJ ih q.lift e1 rv
  | tup xs =>
   simp only [bE] at e;obtain ⟨ps,e1,e2⟩:=zE.mp e;subst e2;simp only [RA] at r;obtain ⟨a,vs,rfl,_,h,q⟩:=r;cases ru;obtain ⟨Mz,ob,m,rv,h1,h2,h3⟩:=obj_tup I (show gr X.K H a vs from .inl (.inl h));obtain ⟨as,ra⟩:=pJ ih q e1 rv;exact ⟨_,.tuple h1 h2 h3 ra⟩
  | ref k =>
   simp only [bE] at e;simp only [RA] at r;obtain ⟨a,ea,rfl⟩:=r;split at e
   ·rename_i xs hk
    obtain ⟨ps,e1,e2⟩:=zE.mp e;subst e2;obtain ⟨a',ea',c⟩:=sm.at hk;rw [ea] at ea';cases ea';obtain ⟨_,vs,h,q⟩:=c;exact lst (.inl (.inl h)) ru fun rv=>pJ ih q e1 rv
   ·rename_i t hk
    obtain ⟨a',ea',c⟩:=sm.at hk;rw [ea] at ea';cases ea';exact ih t _ p u c.2.lift e ru
   ·cases e
end
noncomputable def tw:PyData->PyData->Option Bool
 | .str a,.str b=>some (a == b)
 | _,_=>none
def ir (st:aa) (x y:AV):Option Bool:=(bE 9 st x).bind fun p=>(bE 9 st y).bind fun q=>if pyOk p q=true then some (PyData.eqv p q) else tw p q
def jt:AV->Option aW
 | .int i=>some (.inl i)
 | .str x=>some (.inr x)
 | _=>none
noncomputable def lN {κ:Type} [DecidableEq κ] (Mx:List (κ × AV)) (k:κ):Option AV:=(Mx.find? fun kv=>decide (kv.1=k)).map (·.2)
def iz (st:aa):AV->Option (List (aW × AV))
 | .ref k=>match st[k]? with
  | some (.dK Mx)=>some Mx
  | _=>none
 | _=>none
def lB (st:aa):AV->Option (List (List aW × AV))
 | .ref k=>match st[k]? with
  | some (.dT Mx)=>some Mx
  | _=>none
 | _=>none
def lY (st:aa) (y x:AV):Option (Option AV):=match iz st y with
 | some Mx=>(jt x).map fun k=>lN Mx k
 | none=>match lB st y with
  | some Mx=>match x with
   | .tup xs=>(aO jt xs).map fun k=>lN Mx k
   | _=>none
  | none=>none
def qp (st:aa) (x y:AV):Option Bool:=match lY st y x with
 | some o=>some o.isSome
 | none=>match x,y with
  | .str a,.str b=>some (!(Builtin.Str.occurrences b a 0 b.length 1).isEmpty)
  | _,_=>(bE 9 st x).bind fun q=>(bE 9 st y).bind fun p=>match p with
   | .list ps=>if (ps.all fun r=>pyOk r q)=true then some (ps.any fun r=>PyData.eqv r q) else none
   | .tuple ps=>if (ps.all fun r=>pyOk r q)=true then some (ps.any fun r=>PyData.eqv r q) else none
   | _=>none
noncomputable def xp:CmpOp->Int->Int->Option Bool
 | .Lt,a,b=>some (decide (a < b))
 | .LtE,a,b=>some (decide (a <= b))
 | .Gt,a,b=>some (decide (b < a))
 | .GtE,a,b=>some (decide (b <= a))
 | _,_,_=>none
noncomputable def D0:AV->Bool
 | .non=>true
 | _=>false
def EQ (x y:AV):Option Bool:=match y with
 | .non=>some (D0 x)
 | .bl b=>(match x with
  | .bl a=>some (a == b)
  | _=>none)
 | _=>none
noncomputable def Ey:CmpOp->List AV->List AV->Option Bool
 | .Lt,[.int a,.int b],[.int c,.int d]=>some (if a=c then decide (b < d) else decide (a < c))
 | _,_,_=>none
def cA (o:CmpOp) (st:aa) (x y:AV):Option Bool:=match o with
 | .Eq=>ir st x y
 | .NotEq=>(ir st x y).map (!·)
 | .Is=>EQ x y
 | .IsNot=>(EQ x y).map (!·)
 | .In=>qp st x y
 | .NotIn=>(qp st x y).map (!·)
 | o=>match x,y with
  | .int a,.int b=>xp o a b
  | .tup xs,.tup ys=>Ey o xs ys
  | _,_=>none
def lZ (o:CmpOp) (st:aa) (x y:AV):Option AV:=(cA o st x y).map .bl
theorem nO (h:pyOk p q=true):p.canLay0=true/\q.canLay0=true/\min p.depth q.depth <= 50:=by
 simp only [pyOk,zC,yB] at h;exact ⟨h.1.1,h.1.2,h.2⟩
theorem jl {P:Pr}{H:Hp}{φ:List Addr}{κ:Type} [DecidableEq κ] {Mx:List (κ × AV)}{ws:List (κ × V)} (h:KVR mg P H φ Mx ws) (k:κ) :
  (lN Mx k).isSome=(d6 ws k).isSome/\∀ v,lN Mx k=some v->∃ w,d6 ws k=some w/\RA mg P H φ v w:=by
 induction Mx generalizing ws with
 | nil =>
  have:ws=[]:=by simpa using h.1.symm
  subst this;exact ⟨rfl,fun v e=>by cases e⟩
 | cons p Mx ih =>
  cases ws with
  | nil=>exact absurd h.1 (by simp)
  | cons q ws =>
   obtain ⟨h1,h2⟩:=h;rw [zO,zO] at h1 h2;injection h1 with h3 h4;simp only [MA] at h2;obtain ⟨v,vs,h5,h6,h7⟩:=h2;injection h5 with h8 h9;subst h8;subst h9;by_cases e:q.1=k
   ·have e':p.1=k:=h3.trans e
    simp only [lN,d6,List.find?_cons,e,e',decide_true,map_some];refine ⟨rfl,fun v hv=>?_⟩;cases hv;exact ⟨_,rfl,h6⟩
   ·have e':¬ p.1=k:=fun z=>e (h3.symm.trans z)
    have:=ih (ws:=ws) ⟨h4,h7⟩
    simp only [lN,d6,List.find?_cons,e,e',decide_false] at this ⊢;exact this
section
variable {X:Cx}{Mv:List (Addr × Obj)}{σ:St}{H:Hp}{s:Shared}{P:Pr}{φ:List Addr}{st:aa}
theorem lV (h:jt x=some k) (r:RA mg P H φ x v):v=kV k:=by
 cases x <;> simp only [jt] at h <;> first | (cases h;done) | skip
 ·cases h;simp only [RA] at r;exact r
 ·cases h;simp only [RA] at r;exact r
theorem oA [My]:∀ {xs:List AV}{vs:List V}{k:List aW},aO jt xs=some k->MA mg P H φ xs vs->vs=k.map kV:=by
 intro xs
 induction xs with
 | nil=>intro vs k e r;cases e;simp only [MA] at r;exact r
 | cons x xs ih =>
  intro vs k e r;simp only [aO] at e;obtain ⟨p,e1,e2⟩:=zA e;obtain ⟨qs,e3,e4⟩:=zE.mp e2;subst e4;simp only [MA] at r;obtain ⟨v,ws,rfl,r1,r2⟩:=r;rw [lV e1 r1,ih e3 r2];rfl
theorem qt [My] (sm:Sim X.gm P φ st H) {x y:AV}{v w:V}{o:Option AV} (h:lY st y x=some o) (rx:RA X.gm P H φ x v) (ry:RA X.gm P H φ y w) :
  ∃ a o',w=.ref a/\DGet H a v o'/\o.isSome=o'.isSome/\∀ t,o=some t->∃ u,o'=some u/\RA X.gm P H φ t u:=by
 unfold lY at h;split at h
 ·rename_i Mx e
  obtain ⟨k,e1,e2⟩:=zE.mp h;subst e2;cases y <;> simp only [iz] at e <;> first | (cases e;done) | skip
  split at e
  ·rename_i j kvs' e3
   cases e;simp only [RA] at ry;obtain ⟨a,ea,rfl⟩:=ry;obtain ⟨a',ea',c⟩:=sm.at e3;rw [ea] at ea';cases ea';obtain ⟨_,ws,q1,q2⟩:=c
   have:=lV e1 rx
   subst this;exact ⟨a,_,rfl,DGet.k q1,(jl q2 k).1,(jl q2 k).2⟩
  ·cases e
 ·split at h
  ·rename_i Mx e
   split at h
   ·rename_i xs
    obtain ⟨k,e1,e2⟩:=zE.mp h;subst e2;cases y <;> simp only [lB] at e <;> first | (cases e;done) | skip
    split at e
    ·rename_i j kvs' e3
     cases e;simp only [RA] at ry;obtain ⟨a,ea,rfl⟩:=ry;obtain ⟨a',ea',c⟩:=sm.at e3;rw [ea] at ea';cases ea';obtain ⟨_,ws,q1,q2⟩:=c;simp only [RA] at rx;obtain ⟨b,vs,rfl,_,hb,rr⟩:=rx;rw [oA e1 rr] at hb;exact ⟨a,_,rfl,DGet.t q1 hb,(jl q2 k).1,(jl q2 k).2⟩
    ·cases e
   ·cases h
  ·cases h
theorem qo (hu:X.A.units + 64 < cLine) {v:Value}{q:PyData}{as bs:List Addr}{ps:List PyData}{items:Array Value} (ra:Reads s.heap v q as) (rb:ReadsAll s.heap items.toList ps bs) (hk:(ps.all fun r=>pyOk r q)=true) :
  ∃ e:Value->Bool,(∀ z ∈ items,SeqAt.EqAt X.A.in1 s z v (e z))/\items.any e=ps.any fun r=>PyData.eqv r q:=by
 classical
 have uq:∀ z p' az,Reads s.heap z p' az->decide (∃ p as,Reads s.heap z p as/\PyData.eqv p q=true)=PyData.eqv p' q:=by
  intro z p' az rz;rcases he:PyData.eqv p' q with _ | _
  ·refine z9 ?_
   rintro ⟨p2,as',r',e'⟩
   have:=(PySem.Reads.unique rz p2 as' r').1
   rw [<- this,he] at e';cases e'
  ·exact yS ⟨p',az,rz,he⟩
 refine ⟨fun z=>decide (∃ p as,Reads s.heap z p as/\PyData.eqv p q=true),fun z hz=>?_,?_⟩
 ·obtain ⟨pz,az,hpz,rz⟩:=reads_each rb z (by simpa using hz)
  obtain ⟨k1,k2,k3⟩:=nO (yO.mp hk pz hpz);dsimp only;rw [uq z pz az rz];exact PySem.SeqAt.eqAt_reads pz q _ s z v az as rz ra k1 k2 (by simp only [Around.in1_units];omega)
 ·have hc:=any_vals (q:=q) (e:=fun z=>decide (∃ p as,Reads s.heap z p as/\PyData.eqv p q=true)) (h:=s.heap) (fun v p as rv=>uq v p as rv) rb
  rw [<- hc];simp
theorem sB [My] (hu:X.A.units + 64 < cLine) (I:L2.Inv X Mv σ H s) (sm:Sim X.gm P φ st H) {x y:AV}{v w:V}{u r:Value}{b:Bool} (h:qp st x y=some b) (rx:RA X.gm P H φ x v) (ry:RA X.gm P H φ y w) (ru:RelV v u) (rr:RelV w r) {E:Value->Shared->Prop}
  {Q:Value->Shared->Prop}{Q':Value->Shared->Prop} (hQ:∀ s',L2.Inv X Mv σ H s'->Q (.bool b) s') (hQ':∀ s',L2.Inv X Mv σ H s'->Q' (.bool (!b)) s') :
  wpAny (model X.prog X.w) X.A (compareOp .In u r) Q E s/\wpAny (model X.prog X.w) X.A (compareOp .NotIn u r) Q' E s:=by
 unfold qp at h;split at h
 ·rename_i o e
  cases h;obtain ⟨a,o',rfl,g,eo,_⟩:=qt sm e rx ry;cases rr;exact ⟨JZ oM I g ru fun s' I'=>by rw [<- eo];exact hQ s' I',Cb oM I g ru fun s' I'=>by rw [<- eo];exact hQ' s' I'⟩
 ·split at h
  ·rename_i a c
   cases h;simp only [RA] at rx ry;subst rx;subst ry;obtain ⟨t,rfl⟩:=ru;obtain ⟨t',rfl⟩:=rr;exact ⟨in_str (hQ s I),notIn_str (hQ' s I)⟩
  ·obtain ⟨q,e1,e2⟩:=zA h
   obtain ⟨p,e3,e4⟩:=zA e2;obtain ⟨as,ra⟩:=dO I sm 9 _ _ _ _ rx e1 ru;obtain ⟨bs,rb⟩:=dO I sm 9 _ _ _ _ ry e3 rr;split at e4
   ·rename_i ps
    split at e4
    ·rename_i hk
     cases e4;cases rb with
     | @list a o items n xs as' hg hc hdt rall =>
      obtain ⟨e,he,ee⟩:=qo hu ra rall hk;have hl:s.heap.IsList a items:=⟨o,hg,hc,n,hdt⟩;exact ⟨SeqAt.in_listAt e hl he (by rw [ee];exact hQ s I),SeqAt.notIn_listAt e hl he (by rw [ee];exact hQ' s I)⟩
    ·cases e4
   ·rename_i ps
    split at e4
    ·rename_i hk
     cases e4;cases rb with
     | @tuple a o items n xs as' hg hc hdt rall =>
      obtain ⟨e,he,ee⟩:=qo hu ra rall hk;have hl:IsTup s.heap a items:=⟨o,hg,hc,n,hdt⟩;exact ⟨SeqAt.in_tupleAt e hl he (by rw [ee];exact hQ s I),SeqAt.notIn_tupleAt e hl he (by rw [ee];exact hQ' s I)⟩
    ·cases e4
   ·cases e4
end
end R
namespace PySem.W
open PySem.Calls PyProof.Rows PySem.Spec
theorem AL (x y:Addr) (a b c d:Int) (t1 t2 t3 t4:Tok) (hp0:Heap) (h1:IsTup hp0 x #[.int a t1,.int b t2]) (h2:IsTup hp0 y #[.int c t3,.int d t4]) :
  Meets (Builtin.«tuple.__lt__» ⟨[.ref x,.ref y],[]⟩)
   (fun _ R s=>s.heap=hp0/\R (.ok (.ret (.bool (if a=c then decide (b < d) else decide (a < c))))) s):=by
 intro prog w A R s h;obtain ⟨hp,g,dd,tk,os⟩:=s;obtain ⟨rfl,h⟩:=h;have f3:=PySem.AutoSeq1.sub_tuple_tuple;obtain ⟨o2,g2,c2,n2,d2⟩:=id h2;show wpAny _ _ _ _ _ _
 wp_walk using PySem.AutoSeq1.wpAny_loadPart' g2
 rw [c2,f3];refine yF ?_;show wpAny (model prog w) A.in1 (Builtin.Tuple.tupleItemsOf (.ref x) >>= _) _ _ _;refine yE (tupleItemsOf_ h1 ?_);refine yE (tupleItemsOf_ h2 ?_);dsimp only [List.zip_cons_cons,List.zip_nil_right];refine yE ?_;rw [List.forIn_cons];refine yE ?_;show wpAny (model prog w) A.in1 (eqBool (.int a t1) (.int c t3) >>= _) _ _ _;refine yE (wpAny_eqBool_int ?_);by_cases e:a=c
 ·rw [yH e] at h
  rw [show (a == c)=true by simp [e]];refine yF ?_;dsimp only;rw [List.forIn_cons];refine yE ?_;show wpAny (model prog w) A.in1 (eqBool (.int b t2) (.int d t4) >>= _) _ _ _;refine yE (wpAny_eqBool_int ?_);by_cases e2:b=d
  ·rw [show (b == d)=true by simp [e2]]
   refine yF ?_;dsimp only;rw [List.zip_nil_right,List.forIn_nil];refine yF ?_;rw [z9 oM] at h
   wp_walk
   exact h
  ·rw [show (b == d)=false by simpa using e2]
   wp_walk using HT.rcLt_int A.in1 ⟨hp,g,dd,tk,os⟩ b t2 d t4 prog w
   exact h
 ·rw [yG e] at h
  rw [show (a == c)=false by simpa using e]
  wp_walk using HT.rcLt_int A.in1 ⟨hp,g,dd,tk,os⟩ a t1 c t3 prog w
  exact h
end PySem.W
namespace R
open PySem PySem.Spec PyProof.Rows L2 PySem.W
theorem BT {prog:Program}{w:World}{A:Around}{Q:Value->Shared->Prop}{E:Value->Shared->Prop}{s:Shared}{x y:Addr}{a b c d:Int}{t1 t2 t3 t4:Tok} (hu:A.units < cLine) (h1:IsTup s.heap x #[.int a t1,.int b t2]) (h2:IsTup s.heap y #[.int c t3,.int d t4])
  (h:Q (.bool (if a=c then decide (b < d) else decide (a < c))) s):wpAny (model prog w) A (compareOp .Lt (.ref x) (.ref y)) Q E s:=by
 obtain ⟨o1,g1,c1,_⟩:=id h1;obtain ⟨o2,g2,c2,_⟩:=id h2;exact cmp_ofLt (richCompare_meets_room (op:=.Lt) (T:="tuple") ⟨o1,g1,c1⟩ ⟨o2,g2,c2⟩ PySem.F.slot_tuple_lt PySem.F.entry_tuple_lt (PySem.F.args_tuple_lt_2 _ _) (AL x y a b c d t1 t2 t3 t4 s.heap h1 h2) ⟨rfl,(fun e=>nomatch e),h⟩ hu)
end R
namespace R
open PySem PySem.Spec PyProof.Rows L2
open DD (PE_imp PT_imp PA_imp PS_imp PSs_imp OpR_imp PW_imp PG_imp pyOk)
section
variable {X:Cx}
theorem vB [My] (hu:X.A.units + 64 < cLine) (o:CmpOp):kC X (compareOp o) (r2 X.gm (jV (lZ o))):=by
 rintro Mv s σ H v w u r Q I ru rr ⟨P,φ,st,x,y,sm,rx,ry,k⟩;obtain ⟨z,e,k⟩:=k.map;obtain ⟨b,e1,e2⟩:=zE.mp e;subst e2;have aF:∀ s',L2.Inv X Mv σ H s'->EP X Mv σ Q (.bool b) s':=fun s' I'=>⟨.bl b,H,I',rfl,k.pure sm (by simp only [RA])⟩
 have neg:∀ {o:Option Bool},o.map (!·)=some b->∃ c,o=some c/\b=!c:=fun h=>by
  obtain ⟨c,h1,h2⟩:=zE.mp h;exact ⟨c,h1,h2.symm⟩
 have eq:∀ {c:Bool},ir st x y=some c->∀ {Q:Value->Shared->Prop}{E:Value->Shared->Prop},(Q (.bool c) s->wpAny (model X.prog X.w) X.A (compareOp .Eq u r) Q E s)/\(Q (.bool (!c)) s->wpAny (model X.prog X.w) X.A (compareOp .NotEq u r) Q E s):=by
  intro c h Q E;unfold ir at h;obtain ⟨p,h1,h2⟩:=zA h;obtain ⟨q,h3,h4⟩:=zA h2;split at h4
  ·rename_i hk
   cases h4;obtain ⟨c1,c2,hd⟩:=nO hk;obtain ⟨as,ra⟩:=dO I sm 9 _ _ _ _ rx h1 ru;obtain ⟨bs,rb⟩:=dO I sm 9 _ _ _ _ ry h3 rr;exact ⟨fun q=>SeqAt.eqOverData _ _ _ _ _ _ _ _ _ _ _ _ ra rb c1 c2 oM q,fun q=>SeqAt.neOverData _ _ _ _ _ _ _ _ _ _ _ _ ra rb c1 c2 oM q⟩
  ·unfold tw at h4
   split at h4
   ·cases h4
    obtain ⟨as,ra⟩:=dO I sm 9 _ _ _ _ rx h1 ru;obtain ⟨bs,rb⟩:=dO I sm 9 _ _ _ _ ry h3 rr;cases ra;cases rb;exact ⟨fun q=>eq_str q,fun q=>ne_str q⟩
   ·cases h4
 have is:∀ {c:Bool},EQ x y=some c->∀ {Q:Value->Shared->Prop}{E:Value->Shared->Prop},(Q (.bool c) s->wpAny (model X.prog X.w) X.A (compareOp .Is u r) Q E s)/\(Q (.bool (!c)) s->wpAny (model X.prog X.w) X.A (compareOp .IsNot u r) Q E s):=by
  intro c h Q E;have nn:y=.non->c=(u == Value.none)->(Q (.bool c) s->wpAny (model X.prog X.w) X.A (compareOp .Is u r) Q E s)/\(Q (.bool (!c)) s->wpAny (model X.prog X.w) X.A (compareOp .IsNot u r) Q E s):=fun hy hc=>by
   subst hy;simp only [RA] at ry;subst ry;cases rr;exact ⟨fun q=>is_none_gen (by rw [<- hc];exact q),fun q=>isnot_none_gen (by rw [<- hc];exact q)⟩
  cases y with
  | non =>
   have h:some (D0 x)=some c:=h;cases h;refine nn rfl ?_;cases x with
   | non=>simp only [RA] at rx;subst rx;cases ru;rfl
   | _=>rw [RelV.none_iff ru];refine (z9 fun hv=>?_).symm;subst hv;simp only [RA] at rx;first | (cases rx;done) | (obtain ⟨_,_,z,_⟩:=rx;cases z;done) | (obtain ⟨_,_,z⟩:=rx;cases z;done)
  | bl d=>cases x with
   | bl a =>
    cases h;simp only [RA] at rx ry;subst rx;subst ry;cases ru;cases rr;cases a <;> cases d <;> exact ⟨fun q=>yF q,fun q=>yF q⟩
   | _=>exact nomatch h
  | _=>exact nomatch h
 have ord:∀ {a c:Int},x=.int a->y=.int c->xp o a c=some b->wpAny (model X.prog X.w) X.A (compareOp o u r) (EP X Mv σ Q) X.xe s:=by
  intro a c hx hy ho;subst hx;subst hy;simp only [RA] at rx ry;subst rx;subst ry;obtain ⟨t,rfl⟩:=ru;obtain ⟨t',rfl⟩:=rr;cases o <;> simp only [xp] at ho <;> first | (cases ho;done) | skip
  ·cases ho;exact lt_int (aF s I)
  ·cases ho;exact le_int (aF s I)
  ·cases ho;exact gt_int (aF s I)
  ·cases ho;exact ge_int (aF s I)
 have tl:∀ {as cs:List AV},x=.tup as->y=.tup cs->Ey o as cs=some b->wpAny (model X.prog X.w) X.A (compareOp o u r) (EP X Mv σ Q) X.xe s:=by
  intro as cs hx hy ho;unfold Ey at ho;split at ho
  ·cases ho
   subst hx;subst hy;obtain ⟨_,ra⟩:=dO I sm 9 _ _ _ _ rx rfl ru;obtain ⟨_,rb⟩:=dO I sm 9 _ _ _ _ ry rfl rr;cases ra with
   | @tuple a1 o1 i1 n1 x1 as1 g1 c1 d1 q1 =>
   cases rb with
   | @tuple a2 o2 i2 n2 x2 as2 g2 c2 d2 q2 =>
   obtain ⟨l1⟩:=i1;obtain ⟨l2⟩:=i2;rcases q1 with _ | ⟨p1,_ | ⟨p2,_ | _⟩⟩;rcases q2 with _ | ⟨p3,_ | ⟨p4,_ | _⟩⟩;cases p1;cases p2;cases p3;cases p4;exact BT oM ⟨o1,g1,c1,n1,d1⟩ ⟨o2,g2,c2,n2,d2⟩ (aF s I)
  ·cases ho
 cases o <;> simp only [cA] at e1
 case Eq=>exact (eq e1).1 (aF s I)
 case NotEq=>obtain ⟨c,h1,rfl⟩:=neg e1;exact (eq h1).2 (aF s I)
 case Is=>exact (is e1).1 (aF s I)
 case IsNot=>obtain ⟨c,h1,rfl⟩:=neg e1;exact (is h1).2 (aF s I)
 case In=>exact (sB hu I sm e1 rx ry ru rr (Q':=fun _ _=>True) aF fun _ _=>trivial).1
 case NotIn=>obtain ⟨c,h1,rfl⟩:=neg e1;exact (sB hu I sm h1 rx ry ru rr (Q:=fun _ _=>True) (fun _ _=>trivial) aF).2
 all_goals
  split at e1
  ·exact ord rfl rfl e1
  ·exact tl rfl rfl e1
  ·cases e1
noncomputable def kK (op:CmpOp) (b:Expr):Bool:=!(behindInMarks op b)
theorem p7 (h:kK op b=true):behindInMarks op b=false:=by simpa [kK] using h
theorem Df [My] (hu:X.A.units + 64 < cLine) (ha:QE X a f) (hb:QE X b g) (hm:kK o b=true):QE X (.Compare a [o] [b] pos) (a2 f g (jV (lZ o))) :=
 PE_imp (BB (vB hu o) ha hb (p7 hm)) fun _ _ _ q=>uF q
def CD (f g:EF) (o:CmpOp):TF:=fun sl st=>(f sl st).bind fun p=>(g sl p.2).bind fun q=>(cA o q.2 p.1 q.1).map fun b=>(b,q.2)
theorem CU [My] (hu:X.A.units + 64 < cLine) (ha:QE X a f) (hb:QE X b g) (hm:kK o b=true):QT X (.Compare a [o] [b] pos) (CD f g o) :=
 PT_imp (Bk (vB hu o) ha hb (p7 hm)) fun σ H Q hq0=>by
  obtain ⟨P,φ,sl,st,rs,s,k⟩:=hq0;refine uF (k:=jV (lZ o)) ⟨P,φ,sl,st,rs,s,?_⟩;obtain ⟨b,st',e,q⟩:=k;unfold CD at e;obtain ⟨p,e1,e2⟩:=zA e;obtain ⟨r,e3,e4⟩:=zA e2;obtain ⟨c,e5,e6⟩:=zE.mp e4;injection e6 with e7 e8;subst e7;subst e8;refine ⟨.bl c,r.2,by simp only [a2,e1,bind_some,e3,jV,lZ,e5,map_some],fun P' φ' H' w f' s' r'=>?_⟩;simp only [RA] at r';exact ⟨c,r',q P' φ' H' c f' s' rfl⟩
def pv (o:UnaryOp) (_:aa):AV->Option AV
 | .int i=>match o with
  | .USub=>some (.int (-i))
  | .Invert=>some (.int (Builtin.bitNot i))
  | _=>none
 | _=>none
theorem Gf [My] (ha:QE X a f):QE X (.UnaryOp o a pos) (a1 f (CK (pv o))):=by
 have h:wo X (unaryOp o) (r1 X.gm (CK (pv o))):=by
  rintro Mv s σ H v u Q I ru ⟨P,φ,st,x,sm,rx,k⟩;obtain ⟨z,e,k⟩:=k.map;cases x <;> simp only [pv] at e <;> first | (cases e;done) | skip
  rename_i i;simp only [RA] at rx;subst rx;cases o <;> first | (cases e;done) | skip
  ·cases e
   exact Cp Mv s σ H _ u Q I ru ⟨i,rfl,k.pure sm (by simp only [RA])⟩
  ·cases e
   exact Co Mv s σ H _ u Q I ru ⟨i,rfl,k.pure sm (by simp only [RA])⟩
 exact PE_imp (Gr h ha) fun _ _ _ q=>Km q
def d7 (st:aa) (v:AV):Option Bool:=match bn st v with
 | some xs=>some !xs.isEmpty
 | none=>match v with
  | .non=>some false
  | .bl b=>some b
  | .int i=>some (i != 0)
  | .str x=>if Nat.ble x.length 1000000=true then some ((x.length:Int) != 0) else none
  | .tup xs=>some !xs.isEmpty
  | v=>(iz st v).map fun Mx=>!Mx.isEmpty
theorem oG (r:MA mg P H φ xs vs):vs.isEmpty=xs.isEmpty:=by
 cases xs with
 | nil=>simp only [MA] at r;subst r;rfl
 | cons x xs=>simp only [MA] at r;obtain ⟨v,ws,rfl,_⟩:=r;rfl
theorem wE [My] {P:Pr}{H:Hp}{φ:List Addr}{st:aa} (sm:Sim X.gm P φ st H) {v:AV}{w:V}{b:Bool} (h:d7 st v=some b) (r:RA X.gm P H φ v w):yu X.K w H b:=by
 unfold d7 at h;split at h
 ·rename_i xs e
  cases h;obtain ⟨a,vs,rfl,rd,q⟩:=r.ls sm e;exact .inl ⟨vs,rd,by rw [oG q]⟩
 ·cases v <;> simp only at h
  case non=>cases h;simp only [RA] at r;subst r;exact rfl
  case bl=>cases h;simp only [RA] at r;subst r;exact rfl
  case int=>cases h;simp only [RA] at r;subst r;exact rfl
  case str x =>
   simp only [RA] at r;subst r;split at h
   ·rename_i hl;cases h;exact ⟨z0 (zS hl) dC,rfl⟩
   ·cases h
  case tup xs =>
   cases h;simp only [RA] at r;obtain ⟨a,vs,rfl,_,e,q⟩:=r;exact .inr (.inl ⟨vs,.inl (.inl e),by rw [oG q]⟩)
  case fz=>obtain ⟨_,z,_⟩:=zE.mp h;simp [iz] at z
  case ref k =>
   obtain ⟨Mx,e1,e2⟩:=zE.mp h;subst e2;simp only [iz] at e1;split at e1
   ·rename_i kvs' hk
    cases e1;simp only [RA] at r;obtain ⟨a,ea,rfl⟩:=r;obtain ⟨a',ea',c⟩:=sm.at hk;rw [ea] at ea';cases ea';obtain ⟨_,ws,q1,q2,q3⟩:=c;refine .inr (.inr ⟨ws,q1,?_⟩)
    have:=congrArg List.isEmpty q2
    simpa using this
   ·cases e1
def tV (f:EF):TF:=fun sl st=>(f sl st).bind fun p=>(d7 p.2 p.1).map fun b=>(b,p.2)
theorem CS [My] (ha:QE X a f) (he:∀ whole,isTrue a X.env whole=(do let v <- whole;standAt a.pos;holding [v] (truthy v))):QT X a (tV f) :=
 PT_imp (wW ha he) fun σ H Q ⟨P,φ,sl,st,rs,s,k⟩=>⟨P,φ,sl,st,rs,s,by
  obtain ⟨a,st',e1,q⟩:=k.bind (Ra:=RA);refine ⟨a,st',e1,fun P1 φ1 H1 b f1 s1 r1=>?_⟩;obtain ⟨P2,φ2,st2,x,f2,s2,r2,k2⟩:=q P1 φ1 H1 b f1 s1 r1;obtain ⟨c,e2,k2⟩:=k2.map;exact ⟨c,wE s2 e2 r2,k2.pure s2 rfl⟩⟩
def Ia (f g:TF):TF:=fun sl st=>(f sl st).bind fun p=>if p.1=true then g sl p.2 else some (false,p.2)
def Cy (f g:TF):TF:=fun sl st=>(f sl st).bind fun p=>if p.1=true then some (true,p.2) else g sl p.2
def HZ (f:TF):TF:=fun sl st=>(f sl st).bind fun p=>some (!p.1,p.2)
section
variable {a b:Expr}{rest:List Expr}{pos:Pos}{f g:TF}
theorem mx [My] (op:BoolOp) (ha:QT X a f):QW X (.BoolOp op [a] pos) f:=by
 cases op
 ·exact Bj ha
 ·exact Dh ha
theorem my [My] (ha:QT X a f) (hb:QW X (.BoolOp .And (b::rest) pos) g):QW X (.BoolOp .And (a::b::rest) pos) (Ia f g) :=
 PW_imp (Di ha hb) fun σ H Q ⟨P,φ,sl,st,rs,s,k⟩=>⟨P,φ,sl,st,rs,s,by
  obtain ⟨a,st',e1,q⟩:=k.bind (Ra:=RB);refine ⟨a,st',e1,fun P1 φ1 H1 c f1 s1 r1=>?_⟩;obtain ⟨P2,φ2,st2,x,f2,s2,r2,k2⟩:=q P1 φ1 H1 c f1 s1 r1;cases r2;cases c with
  | true=>exact ⟨P2,φ2,sl,st2,rs.frm f2,s2,k2⟩
  | false=>exact k2.pure s2 rfl⟩
theorem oZ [My] (ha:QT X a f) (hb:QW X (.BoolOp .Or (b::rest) pos) g):QW X (.BoolOp .Or (a::b::rest) pos) (Cy f g) :=
 PW_imp (Gk ha hb) fun σ H Q ⟨P,φ,sl,st,rs,s,k⟩=>⟨P,φ,sl,st,rs,s,by
  obtain ⟨a,st',e1,q⟩:=k.bind (Ra:=RB);refine ⟨a,st',e1,fun P1 φ1 H1 c f1 s1 r1=>?_⟩;obtain ⟨P2,φ2,st2,x,f2,s2,r2,k2⟩:=q P1 φ1 H1 c f1 s1 r1;cases r2;cases c with
  | false=>exact ⟨P2,φ2,sl,st2,rs.frm f2,s2,k2⟩
  | true=>exact k2.pure s2 rfl⟩
theorem CT [My] (ha:QT X a f):QT X (.UnaryOp .Not a pos) (HZ f) :=
 PT_imp (Dj ha) fun σ H Q ⟨P,φ,sl,st,rs,s,k⟩=>⟨P,φ,sl,st,rs,s,by
  obtain ⟨a,st',e1,q⟩:=k.bind (Ra:=RB);refine ⟨a,st',e1,fun P1 φ1 H1 c f1 s1 r1=>?_⟩;obtain ⟨P2,φ2,st2,x,f2,s2,r2,k2⟩:=q P1 φ1 H1 c f1 s1 r1;cases r2;exact k2.pure s2 rfl⟩
end
def Av (f g:EF):EF:=fun sl st=>(f sl st).bind fun p=>match p.1 with
 | .bl true=>g sl p.2
 | .bl false=>some (.bl false,p.2)
 | _=>none
def At (f g:EF):EF:=fun sl st=>(f sl st).bind fun p=>match p.1 with
 | .bl false=>g sl p.2
 | .bl true=>some (.bl true,p.2)
 | _=>none
def IR (f:EF):EF:=fun sl st=>(f sl st).bind fun p=>match p.1 with
 | .bl b=>some (.bl !b,p.2)
 | _=>none
def IS (t:TF) (f g:EF):EF:=fun sl st=>(t sl st).bind fun p=>if p.1=true then f sl p.2 else g sl p.2
section
variable {a b c:Expr}{rest:List Expr}{pos:Pos}{f g:EF}{t:TF}
theorem KG.no [My] {α β:Type}{Ra:Gm->Pr->Hp->List Addr->α->β->Prop}{Q:β->Hp->Prop} (h:KG mg Ra P φ H none Q):False:=by obtain ⟨_,_,e,_⟩:=h;cases e
theorem vd [My] (ha:QE X a f) (hb:QE X (.BoolOp .And (b::rest) pos) g):QE X (.BoolOp .And (a::b::rest) pos) (Av f g) :=
 PE_imp (DC ha hb) fun σ H Q ⟨P,φ,sl,st,rs,s,k⟩=>⟨P,φ,sl,st,rs,s,by
  obtain ⟨a,st',e1,q⟩:=k.bind (Ra:=RA);refine ⟨a,st',e1,fun P1 φ1 H1 c f1 s1 r1=>?_⟩;obtain ⟨P2,φ2,st2,x,f2,s2,r2,k2⟩:=q P1 φ1 H1 c f1 s1 r1;cases x <;> first | exact k2.no.elim | skip
  rename_i d;simp only [RA] at r2;refine ⟨d,r2,?_⟩;cases d with
  | true=>exact ⟨P2,φ2,sl,st2,rs.frm f2,s2,k2⟩
  | false=>exact k2.pure s2 (by simp only [RA])⟩
theorem zn [My] (ha:QE X a f) (hb:QE X (.BoolOp .Or (b::rest) pos) g):QE X (.BoolOp .Or (a::b::rest) pos) (At f g) :=
 PE_imp (Gs ha hb) fun σ H Q ⟨P,φ,sl,st,rs,s,k⟩=>⟨P,φ,sl,st,rs,s,by
  obtain ⟨a,st',e1,q⟩:=k.bind (Ra:=RA);refine ⟨a,st',e1,fun P1 φ1 H1 c f1 s1 r1=>?_⟩;obtain ⟨P2,φ2,st2,x,f2,s2,r2,k2⟩:=q P1 φ1 H1 c f1 s1 r1;cases x <;> first | exact k2.no.elim | skip
  rename_i d;simp only [RA] at r2;refine ⟨d,r2,?_⟩;cases d with
  | false=>exact ⟨P2,φ2,sl,st2,rs.frm f2,s2,k2⟩
  | true=>exact k2.pure s2 (by simp only [RA])⟩
theorem Dc [My] (ha:QE X a f):QE X (.UnaryOp .Not a pos) (IR f) :=
 PE_imp (Dx ha) fun σ H Q ⟨P,φ,sl,st,rs,s,k⟩=>⟨P,φ,sl,st,rs,s,by
  obtain ⟨a,st',e1,q⟩:=k.bind (Ra:=RA);refine ⟨a,st',e1,fun P1 φ1 H1 c f1 s1 r1=>?_⟩;obtain ⟨P2,φ2,st2,x,f2,s2,r2,k2⟩:=q P1 φ1 H1 c f1 s1 r1;cases x <;> first | exact k2.no.elim | skip
  rename_i d;simp only [RA] at r2;exact ⟨d,r2,k2.pure s2 (by simp only [RA])⟩⟩
theorem Gi [My] (hc:QT X c t) (ha:QE X a f) (hb:QE X b g):QE X (.IfExp c a b pos) (IS t f g) :=
 PE_imp (xk hc ha hb) fun σ H Q ⟨P,φ,sl,st,rs,s,k⟩=>⟨P,φ,sl,st,rs,s,by
  obtain ⟨a,st',e1,q⟩:=k.bind (Ra:=RB);refine ⟨a,st',e1,fun P1 φ1 H1 c f1 s1 r1=>?_⟩;obtain ⟨P2,φ2,st2,x,f2,s2,r2,k2⟩:=q P1 φ1 H1 c f1 s1 r1;cases r2;cases c with
  | true=>exact ⟨P2,φ2,sl,st2,rs.frm f2,s2,k2⟩
  | false=>exact ⟨P2,φ2,sl,st2,rs.frm f2,s2,k2⟩⟩
end
def b9 (st:aa) (x y:AV):Option AV:=match lY st x y with
 | some o=>o
 | none=>match y with
  | .int i=>match bn st x with
   | some xs=>fL xs i
   | none=>match ik st x with
    | some xs=>fL xs i
    | none=>match x with
     | .str z=>if Nat.ble z.length 1000000=true then (fL z.cps.toList i).map fun c=>.str ⟨#[c]⟩ else none
     | _=>none
  | _=>none
theorem oh {i:Int} (r:MA mg P H φ xs vs) (h:fL xs i=some x):∃ v,fL vs i=some v/\RA mg P H φ x v:=by
 unfold fL at h ⊢;rw [<- r.length];obtain ⟨j,e1,e2⟩:=zA h;rw [e1,bind_some];exact r.get e2
theorem BZ (hu:X.A.units + 64 < cLine):IxR X (fun x y H Q=>∃ a v,x=.ref a/\DGet H a y (some v)/\Q v H):=by
 rintro value slice Mv s σ H x y v u Q I rx ry ⟨a,t,ex,g,q⟩ hs;subst ex;cases rx;have hT:=rg I g;unfold subscriptTail;refine yE ?_;rw [getitemInPython_of_ne hT.not_modules];refine yE (wpAny_specialOf hT PySem.F.slot_dict_getitem.lookup ?_);have aF:wpAny (model X.prog X.w) X.A (subscripted slice false (.ref a) u) (fun r s₃=>wpAny (model X.prog X.w) X.A (letTemporaryGo value (.ref a) r >>= fun _=>pure r) (EP X Mv σ Q) X.xe s₃) X.xe s:=by
  rw [hs];exact wpAny_operating (v6 oM I g ry fun w' s3 I3 rw'=>yE (wpAny_letTemporaryGo (yF ⟨t,H,I3,rw',q⟩)))
 first
  | exact yF (yE aF)
  | exact yE (yF (yE aF))
  | exact yE aF
theorem JR [My] (hu:X.A.units + 64 < cLine):IxR X (r2 X.gm (jV b9)):=by
 rintro value slice Mv s σ H v w u r Q I ru rr ⟨P,φ,st,x,y,sm,rx,ry,k0⟩ hs;obtain ⟨z,e,k⟩:=k0.map;clear k0;unfold b9 at e;split at e
 ·rename_i o eo
  subst e;obtain ⟨a,o',rfl,g,_,g2⟩:=qt sm eo ry rx;obtain ⟨t,rfl,rt⟩:=g2 z rfl;exact BZ hu value slice Mv s σ H _ _ u r Q I ru rr ⟨a,t,rfl,g,k.pure sm rt⟩ hs
 ·cases y with
  | int i =>
   simp only [RA] at ry;subst ry;dsimp only at e;split at e
   ·rename_i xs el
    obtain ⟨a,vs,rfl,rd,q⟩:=rx.ls sm el;obtain ⟨t,e2,rt⟩:=oh q e;exact qh value slice Mv s σ H _ _ u r Q I ru rr (.inl ⟨a,vs,i,t,rfl,rfl,rd,e2,k.pure sm rt⟩) hs
   ·split at e
    ·rename_i xs el
     obtain ⟨a,vs,rfl,rd,q⟩:=rx.tp sm el;obtain ⟨t,e2,rt⟩:=oh q e;exact qh value slice Mv s σ H _ _ u r Q I ru rr (.inr (.inl ⟨a,vs,i,t,rfl,rfl,.inl (.inl rd),e2,k.pure sm rt⟩)) hs
    ·cases x with
     | str x =>
      dsimp only at e;split at e
      ·rename_i hl
       obtain ⟨c,e1,e2⟩:=zE.mp e;subst e2;simp only [RA] at rx;subst rx;exact qh value slice Mv s σ H _ _ u r Q I ru rr (.inr (.inr ⟨x,i,c,rfl,rfl,z0 (zS hl) dC,e1,k.pure sm (by simp only [RA])⟩)) hs
      ·cases e
     | _=>cases e
  | _=>cases e
theorem Gh [My] (hu:X.A.units + 64 < cLine) (ha:QE X a f) (hb:QE X b g) (hs:om b):QE X (.Subscript a b pos) (a2 f g (jV b9)) :=
 PE_imp (Gw (JR hu) ha hb hs) fun _ _ _ q=>uF q
def IQ (g:AF):EF:=fun sl st=>(g sl st).bind fun p=>if Nat.ble p.1.length 1000=true then some (.tup p.1,p.2) else none
theorem Db [My] {x1:Nat} (h:QA X es g):QE X (.Tuple es x1 pos) (IQ g) :=
 PE_imp (Dv h) fun σ H Q ⟨P,φ,sl,st,rs,s,k⟩=>⟨P,φ,sl,st,rs,s,by
  obtain ⟨a,st',e1,q⟩:=k.bind (Ra:=MA);refine ⟨a,st',e1,fun P1 φ1 H1 vs f1 s1 r1=>?_⟩;obtain ⟨P2,φ2,st2,xs,f2,s2,r2,k2⟩:=q P1 φ1 H1 vs f1 s1 r1;dsimp only at k2;split at k2
  ·rename_i hl
   refine ⟨by rw [<- r2.length];exact z0 (zS hl) dC,fun p hp=>?_⟩;obtain ⟨f3,s3⟩:=mF (o:=.tup vs) s2 hp;obtain ⟨_,_,e5,q5⟩:=k2;cases e5;refine q5 _ _ _ _ f3 s3 ?_;simp only [RA];exact ⟨p,vs,rfl,.inr rfl,au,r2.frm f3⟩
  ·exact k2.no.elim⟩
end
mutual
noncomputable def cB:AV->AV->Bool
 | .non,.non=>true
 | .bl a,.bl b=>a == b
 | .int a,.int b=>a == b
 | .str a,.str b=>a == b
 | .ref a,.ref b=>a == b
 | .tup a,.tup b=>fD a b
 | .fz a,.fz b=>fD a b
 | _,_=>false
noncomputable def fD:List AV->List AV->Bool
 | [],[]=>true
 | x::xs,y::ys=>cB x y && fD xs ys
 | _,_=>false
end
mutual
theorem sP:∀ {x y:AV},cB x y=true->x=y
 | .non,y,h=>by cases y <;> simp only [cB] at h <;> first | rfl | cases h
 | .bl a,y,h=>by cases y <;> simp only [cB] at h <;> first | (rw [yJ h]) | cases h
 | .int a,y,h=>by cases y <;> simp only [cB] at h <;> first | (rw [yJ h]) | cases h
 | .str a,y,h=>by cases y <;> simp only [cB] at h <;> first | (rw [yJ h]) | cases h
 | .ref a,y,h=>by cases y <;> simp only [cB] at h <;> first | (rw [yJ h]) | cases h
 | .tup a,y,h=>by cases y <;> simp only [cB] at h <;> first | (rw [kW h]) | cases h
 | .fz a,y,h=>by cases y <;> simp only [cB] at h <;> first | (rw [kW h]) | cases h
theorem kW:∀ {xs ys:List AV},fD xs ys=true->xs=ys
 | [],ys,h=>by cases ys <;> simp only [fD] at h <;> first | rfl | cases h
 | x::xs,ys,h=>by
  cases ys with
  | nil=>simp only [fD] at h;cases h
  | cons y ys =>
   simp only [fD,zC] at h;rw [sP h.1,kW h.2]
end
mutual
theorem we:∀ x:AV,cB x x=true
 | .non=>by simp only [cB]
 | .bl a=>by simp [cB]
 | .int a=>by simp [cB]
 | .str a=>by simp [cB]
 | .ref a=>by simp [cB]
 | .tup a=>by simp only [cB];exact iB a
 | .fz a=>by simp only [cB];exact iB a
theorem iB:∀ xs:List AV,fD xs xs=true
 | []=>by simp only [fD]
 | x::xs=>by simp only [fD,we x,iB xs,Bool.and_self]
end
abbrev Gd:=List (Nat × Mw)
def uB:Mw->Mw->Bool
 | .lst a,.lst b=>fD a b
 | .dK a,.dK b=>decide (a.map (·.1)=b.map (·.1)) && fD (a.map (·.2)) (b.map (·.2))
 | _,_=>false
def bQ:Gd->aa->Bool
 | [],_=>true
 | g::gs,st=>(match st[g.1]? with | some c=>uB c g.2 | none=>false) && bQ gs st
theorem yf {k:Nat}{xs:List AV}{gs:Gd}{st:aa} (h:bQ ((k,.lst xs)::gs) st=true):st[k]?=some (.lst xs)/\bQ gs st=true:=by
 simp only [bQ,zC] at h;refine ⟨?_,h.2⟩;have h:=h.1;split at h
 ·rename_i c e
  cases c <;> simp only [uB] at h <;> first | (cases h;done) | skip
  rw [e,kW h]
 ·cases h
theorem sG {a b:Gd}{st:aa} (h:bQ (a++b) st=true):bQ a st=true/\bQ b st=true:=by
 induction a with
 | nil=>exact ⟨rfl,h⟩
 | cons g a ih =>
  simp only [List.cons_append,bQ,zC] at h ⊢;exact ⟨⟨h.1,(ih h.2).1⟩,(ih h.2).2⟩
structure Iv where
 Mz:List AV
 gd:Gd
abbrev IF:=Sl->aa->Option (Iv × aa)
structure qX [My] (mg:Gm) (J:It) (iv:Iv) (P:Pr) (φ:List Addr) (H:Hp):Prop where
 go:∀ P2 φ2 H2 st2 (i:Nat) x,Frm P φ H P2 φ2 H2->Sim mg P2 φ2 st2 H2->bQ iv.gd st2=true->iv.Mz[i]?=some x->J.go i H2/\∀ v H3,J.yld i H2 v H3->∃ P3,Frm P2 φ2 H2 P3 φ2 H3/\Sim mg P3 φ2 st2 H3/\RA mg P3 H3 φ2 x v
 stop:∀ P2 φ2 H2 st2,Frm P φ H P2 φ2 H2->Sim mg P2 φ2 st2 H2->bQ iv.gd st2=true->J.stop iv.Mz.length H2
def rI [My] (mg:Gm) (f:IF):TI:=fun σ H R=>∃ P φ sl st,MH mg P H φ sl σ/\Sim mg P φ st H/\∃ iv st',f sl st=some (iv,st')/\∀ P' φ' H' J,Frm P φ H P' φ' H'->Sim mg P' φ' st' H'->qX mg J iv P' φ' H'->R J H'
def QI [My] (X:Cx) (tg iter:Expr) (f:IF):Prop:=PI X tg iter (rI X.gm f)
theorem fW (h:PI X tg iter t) (i:∀ σ H R,t' σ H R->t σ H R):PI X tg iter t':=fun Mv s σ H R I h'=>h Mv s σ H R I (i σ H R h')
def g7 (st:aa) (v:AV):Option Iv:=match dr st v with
 | .fz xs=>some ⟨xs,[]⟩
 | .ref k=>match st[k]? with
  | some (.lst xs)=>some ⟨xs,[(k,.lst xs)]⟩
  | _=>none
 | _=>none
section
variable {mg:Gm}{P:Pr}{φ:List Addr}{st:aa}{H:Hp}{v:AV}{w:V}{iv:Iv}
theorem j8 [My] (s:Sim mg P φ st H) (r:RA mg P H φ v w) (h:g7 st v=some iv):∃ a,w=.ref a/\∀ P2 φ2 H2 st2,Frm P φ H P2 φ2 H2->Sim mg P2 φ2 st2 H2->bQ iv.gd st2=true->∃ vs,bz mg.K H2 a vs/\MA mg P2 H2 φ2 iv.Mz vs:=by
 have r:=r.dr s;unfold g7 at h;split at h
 ·rename_i ys e
  cases h;rw [e] at r;simp only [RA] at r;obtain ⟨a,vs,e1,e2,q⟩:=r;refine ⟨a,e1,fun P2 φ2 H2 st2 f _ _=>⟨vs,(e2.mono f.ext).sq,?_⟩⟩;exact MA.lift (q.mono f.ext fun k a e=>by simp at e)
 ·rename_i k e
  rw [e] at r;simp only [RA] at r;obtain ⟨a,e1,e2⟩:=r;split at h
  ·rename_i ys e3
   cases h;refine ⟨a,e2,fun P2 φ2 H2 st2 f s2 g=>?_⟩;obtain ⟨g1,_⟩:=yf g;obtain ⟨a',e4,c⟩:=s2.at g1;rw [f.ix k a e1] at e4;cases e4;obtain ⟨_,vs,q1,q2⟩:=c;exact ⟨vs,.inl (.inl q1),q2⟩
  ·cases h
 ·cases h
end
section
variable {X:Cx}{tg e a b:Expr}{es:List Expr}{pos p:Pos}
def mP (st:aa) (v:AV):Option Iv:=match v with
 | .str x=>if x.cps.all (· < 128)=true then some ⟨x.cps.toList.map fun c=>.str ⟨#[c]⟩,[]⟩ else none
 | v=>match ik st v with
  | some xs=>some ⟨xs,[]⟩
  | none=>g7 st v
def iE (f:EF):IF:=fun sl st=>(f sl st).bind fun p=>(mP p.2 p.1).map fun iv=>(iv,p.2)
theorem Dr [My] (hl:PE X e tl):PI X tg e (fun σ H R=>tl σ H fun x H1=>(∃ a,x=.ref a/\(∃ xs,bz X.K H1 a xs)/\R (AD X.K a) H1)\/(∃ a,x=.ref a/\(∃ xs,gr X.K H1 a xs)/\R (AB X.K a) H1)\/∃ x':Str,x=.str x'/\x'.cps.all (· < 128)=true/\R (AC x') H1):=by
 intro Mv s σ H R I h;refine aB (hl Mv s σ H _ I h) fun v s1 hq0=>?_
 obtain ⟨x,H1,I1,r1,q1⟩:=hq0;have fp:∀ b ∈ [s1.heap.objs.size],dq X Mv H1 b:=fun b hb=>by
  have e:b=s1.heap.objs.size:=by simpa using hb
  subst e;exact I1.fpOk (zP _) (I1.MB.fresh (zP _))
 rcases q1 with ⟨a,e,⟨xs,hq⟩,q⟩ | ⟨a,e,⟨xs,hq⟩,q⟩ | ⟨y,e,hy,q⟩
 ·subst e
  cases r1;obtain ⟨Mz,rv,p,hz⟩:=I1.list hq;refine wpAny_pyIter_list p.isList ?_;exact ⟨s1.heap.objs.size,[s1.heap.objs.size],_,_,H1,rfl,I1.kept (t':=s1.toks) fun b o e=>zG _ e,uP a _,⟨_,zY _ rfl,rfl,rfl⟩,fp,q⟩
 ·subst e
  cases r1;obtain ⟨Mz,rv,p,hz⟩:=I1.tuple hq;refine wpAny_pyIter_tuple (show s1.heap.IsTuple a Mz.toArray from p) ?_;exact ⟨s1.heap.objs.size,[s1.heap.objs.size],_,_,H1,rfl,I1.kept (t':=s1.toks) fun b o e=>zG _ e,sY a _,⟨_,zY _ rfl,rfl,rfl⟩,fp,q⟩
 ·subst e
  obtain ⟨t,rfl⟩:=r1;refine wpAny_pyIter_ascii hy ?_;exact ⟨s1.heap.objs.size,[s1.heap.objs.size],_,_,H1,rfl,I1.kept (t':=s1.toks) fun b o e=>zG _ e,wD y t _,⟨_,zY _ rfl,rfl,rfl⟩,fp,q⟩
theorem xW [My] {mg:Gm}{P:Pr}{φ:List Addr}{H:Hp}{K:Frag}{a:Addr}{iv:Iv} (h:∀ P2 φ2 H2 st2,Frm P φ H P2 φ2 H2->Sim mg P2 φ2 st2 H2->bQ iv.gd st2=true->∃ vs,bz K H2 a vs/\MA mg P2 H2 φ2 iv.Mz vs):qX mg (AD K a) iv P φ H where
 go:=fun P2 φ2 H2 st2 i x f s g e=>by
  obtain ⟨vs,rd,ra⟩:=h P2 φ2 H2 st2 f s g;obtain ⟨v,e1,r1⟩:=ra.get e;refine ⟨⟨vs,v,rd,e1⟩,fun w H3 hq0=>?_⟩;obtain ⟨hH,hx⟩:=hq0;subst hH
  have:=hx vs rd
  rw [e1] at this;cases this;exact ⟨P2,Frm.refl,s,r1⟩
 stop:=fun P2 φ2 H2 st2 f s g=>by
  obtain ⟨vs,rd,ra⟩:=h P2 φ2 H2 st2 f s g;exact ⟨vs,rd,by rw [<- ra.length];exact zP _⟩
theorem B0 [My] {mg:Gm}{P:Pr}{φ:List Addr}{H:Hp}{K:Frag}{a:Addr}{xs:List AV}{vs:List V} (pa:P a) (ea:H a=some (.tup vs)) (ra:MA mg P H φ xs vs):qX mg (AB K a) ⟨xs,[]⟩ P φ H where
 go:=fun P2 φ2 H2 st2 i x f s g e=>by
  obtain ⟨v,e1,r1⟩:=(ra.frm f).get e;have e2:gr K H2 a vs:=.inl (.inl ((f.ext a pa).2.trans ea));refine ⟨⟨vs,v,e2,e1⟩,fun w H3 hq0=>?_⟩;obtain ⟨hH,hx⟩:=hq0;subst hH
  have:=hx vs e2
  rw [e1] at this;cases this;exact ⟨P2,Frm.refl,s,r1⟩
 stop:=fun P2 φ2 H2 st2 f s g=>⟨vs,.inl (.inl ((f.ext a pa).2.trans ea)),by rw [<- ra.length];exact zP _⟩
theorem B1 [My]:qX mg (AC x) ⟨x.cps.toList.map fun c=>.str ⟨#[c]⟩,[]⟩ P φ H where
 go:=fun P2 φ2 H2 st2 i y f s g e=>by
  rw [zR] at e;obtain ⟨c,e1,e2⟩:=zE.mp e;rw [Array.getElem?_toList] at e1;subst e2;refine ⟨⟨c,e1⟩,fun w H3 hq0=>?_⟩;obtain ⟨hH,c',e3,hw⟩:=hq0;subst hH;rw [e1] at e3;cases e3;exact ⟨P2,Frm.refl,s,by simp only [RA];exact hw⟩
 stop:=fun P2 φ2 H2 st2 f s g=>by
  show x.cps[_]?=none;simp
theorem j7 {st:aa}{v:AV}{iv:Iv} (h:g7 st v=some iv):bQ iv.gd st=true:=by
 unfold g7 at h;split at h
 ·cases h;rfl
 ·split at h
  ·rename_i k _ xs hk
   cases h;simp only [bQ];rw [hk];simp only [uB,iB,Bool.and_self]
  ·cases h
 ·cases h
theorem JE [My] (ha:QE X e f):QI X tg e (iE f):=fW (Dr ha) fun σ H R ⟨P,φ,sl,st,rs,s,iv,st',ef,k⟩=>⟨P,φ,sl,st,rs,s,by
 unfold iE at ef;obtain ⟨p,e1,e2⟩:=zA ef;obtain ⟨iv',e3,e4⟩:=zE.mp e2;cases e4;refine ⟨p.1,p.2,e1,fun P1 φ1 H1 w f1 s1 r1=>?_⟩;unfold mP at e3;have gen:∀ v:AV,p.1=v->(match ik p.2 v with | some xs=>some ⟨xs,[]⟩ | none=>g7 p.2 v)=some iv->((∃ a,w=.ref a/\(∃ xs,bz X.K H1 a xs)/\R (AD X.K a) H1)\/(∃ a,w=.ref a/\(∃ xs,gr X.K H1 a xs)/\R (AB X.K a) H1)\/∃ x':Str,w=.str x'/\x'.cps.all (· < 128)=true/\R (AC x') H1):=by
  intro v ev e3;rw [ev] at r1;split at e3
  ·rename_i xs et
   cases e3;have r2:=r1.dr s1;unfold ik at et;split at et
   ·rename_i ys ed
    cases et;rw [ed] at r2;simp only [RA] at r2;obtain ⟨a,vs,rfl,pa,ea,ra⟩:=r2;exact .inr (.inl ⟨a,rfl,⟨vs,.inl (.inl ea)⟩,k P1 φ1 H1 _ f1 s1 (B0 pa ea ra)⟩)
   ·cases et
  ·obtain ⟨a,rfl,h⟩:=j8 s1 r1 e3
   obtain ⟨vs,rd,_⟩:=h P1 φ1 H1 p.2 Frm.refl s1 (j7 e3);exact .inl ⟨a,rfl,⟨vs,rd⟩,k P1 φ1 H1 _ f1 s1 (xW h)⟩
 cases hv:p.1 with
 | str x =>
  rw [hv] at e3 r1;simp only at e3;split at e3
  ·rename_i hx
   cases e3;simp only [RA] at r1;exact .inr (.inr ⟨x,r1,hx,k P1 φ1 H1 _ f1 s1 B1⟩)
  ·cases e3
 | _=>rw [hv] at e3;exact gen _ hv e3⟩
noncomputable def eO (i:Int):Bool:=Nat.ble i.natAbs.log2 60
noncomputable def cJ (i:Int) (n:Nat):List AV:=(List.range n).map fun k=>.int (i + (k:Nat))
def vT (f:EF):IF:=fun sl st=>(f sl st).bind fun p=>match p.1 with
 | .int j=>if eO j=true then some (⟨cJ 0 j.toNat,[]⟩,p.2) else none
 | _=>none
def Af (f g:EF):IF:=fun sl st=>(f sl st).bind fun p=>(g sl p.2).bind fun q=>match p.1,q.1 with
 | .int i,.int j=>if (eO i && eO j)=true then some (⟨cJ i (j - i).toNat,[]⟩,q.2) else none
 | _,_=>none
theorem fP {i:Int} (h:eO i=true):-(2 ^ 62) <= i/\i < 2 ^ 62:=by
 have:=log2_lt h
 have e:(2:Nat) ^ (60 + 1)=2305843009213693952:=by decide
 rw [e] at this;omega
theorem sx [My] {i:Int}{n:Nat}:qX mg (wv i n) ⟨cJ i n,[]⟩ P φ H where
 go:=fun P2 φ2 H2 st2 k y f s g e=>by
  unfold cJ at e;rw [zR] at e;obtain ⟨c,e1,e2⟩:=zE.mp e;obtain ⟨h1,h2⟩:=zB.mp e1;rw [List.getElem_range] at h2;subst h2 e2;rw [List.length_range] at h1;refine ⟨h1,fun w H3 hq0=>?_⟩;obtain ⟨hH,hw⟩:=hq0;subst hH;exact ⟨P2,Frm.refl,s,by simp only [RA];exact hw⟩
 stop:=fun P2 φ2 H2 st2 f s g=>by
  show n <= (cJ i n).length;simp [cJ]
theorem u7 [My] {mg:Gm}{f:EF}{σ:St}{H:Hp}{Q:List V->Hp->Prop}{P:Pr}{φ:List Addr}{sl:Sl}{st:aa} (rs:MH mg P H φ sl σ) (s:Sim mg P φ st H)
  (h:∃ v st1,f sl st=some (v,st1)/\∀ P1 φ1 H1 w,Frm P φ H P1 φ1 H1->Sim mg P1 φ1 st1 H1->RA mg P1 H1 φ1 v w->Q [w] H1):rA mg (db f dF) σ H Q:=by
 obtain ⟨v,st1,e,k⟩:=h;refine ⟨P,φ,sl,st,rs,s,[v],st1,by simp only [db,dF,e,bind_some],fun P1 φ1 H1 ws f1 s1 r1=>?_⟩;simp only [MA] at r1;obtain ⟨w,us,rfl,r,rfl⟩:=r1;exact k P1 φ1 H1 w f1 s1 r
theorem CQ [My] {mg:Gm}{f g:EF}{σ:St}{H:Hp}{Q:List V->Hp->Prop}{P:Pr}{φ:List Addr}{sl:Sl}{st:aa} (rs:MH mg P H φ sl σ) (s:Sim mg P φ st H)
  (h:∃ v st1 u st2,f sl st=some (v,st1)/\g sl st1=some (u,st2)/\∀ P1 φ1 H1 w w',Frm P φ H P1 φ1 H1->Sim mg P1 φ1 st2 H1->RA mg P1 H1 φ1 v w->RA mg P1 H1 φ1 u w'->Q [w,w'] H1):rA mg (db f (db g dF)) σ H Q:=by
 obtain ⟨v,st1,u,st2,e,e',k⟩:=h;refine ⟨P,φ,sl,st,rs,s,[v,u],st2,by simp only [db,dF,e,e',bind_some],fun P1 φ1 H1 ws f1 s1 r1=>?_⟩;simp only [MA] at r1;obtain ⟨w,us,rfl,r,w',us',rfl,r',rfl⟩:=r1;exact k P1 φ1 H1 w w' f1 s1 r r'
theorem Gb [My] (hg:Gl X "range") (hm:X.mg "range"=none) (ha:QE X a f) (hs:starEach [a] X.env=[(false,eval a X.env)]):QI X tg (.Call (.Name "range" p) [a] [] pos) (vT f) :=
 fW (vm hg hm (bF ha dG (by rw [hs];rfl)) hs) fun σ H R hq0=>by
  obtain ⟨P,φ,sl,st,rs,s,iv,st',ef,k⟩:=hq0;obtain ⟨q,e1,e2⟩:=zA ef;refine u7 rs s ⟨q.1,q.2,e1,fun P1 φ1 H1 w f1 s1 r1=>?_⟩;split at e2
  ·rename_i j ej
   rw [ej] at r1;split at e2
   ·rename_i hb
    cases e2;simp only [RA] at r1;subst r1;exact ⟨j,rfl,(fP hb).1,(fP hb).2,k P1 φ1 H1 _ f1 s1 sx⟩
   ·cases e2
  ·cases e2
theorem Ga [My] (hg:Gl X "range") (hm:X.mg "range"=none) (ha:QE X a f) (hb:QE X b g) (hs:starEach [a,b] X.env=[(false,eval a X.env),(false,eval b X.env)]) (hs2:starEach [b] X.env=[(false,eval b X.env)]) :
  QI X tg (.Call (.Name "range" p) [a,b] [] pos) (Af f g) :=
 fW (vk hg hm (bF ha (bF hb dG (by rw [hs2];rfl)) (by rw [hs,hs2])) hs hs2) fun σ H R hq0=>by
  obtain ⟨P,φ,sl,st,rs,s,iv,st',ef,k⟩:=hq0;obtain ⟨q,e1,e2⟩:=zA ef;obtain ⟨r,e3,e4⟩:=zA e2;refine CQ rs s ⟨q.1,q.2,r.1,r.2,e1,e3,fun P1 φ1 H1 w w' f1 s1 r1 r2=>?_⟩;split at e4
  ·rename_i i j ei ej
   rw [ei] at r1;rw [ej] at r2;split at e4
   ·rename_i hb
    cases e4;obtain ⟨h1,h2⟩:=Bool.and_eq_true_iff.mp hb;simp only [RA] at r1 r2;subst r1;subst r2;exact ⟨i,j,rfl,⟨(fP h1).1,(fP h1).2,(fP h2).1,(fP h2).2⟩,k P1 φ1 H1 _ f1 s1 sx⟩
   ·cases e4
  ·cases e4
def iZ (f g:EF):IF:=fun sl st=>(f sl st).bind fun p=>(g sl p.2).bind fun q=>(g7 q.2 p.1).bind fun x=>(g7 q.2 q.1).bind fun y=>some (⟨(x.Mz.zip y.Mz).map fun z=>.tup [z.1,z.2],x.gd++y.gd⟩,q.2)
theorem rY [My] {mg:Gm}{P:Pr}{φ:List Addr}{st:aa}{H:Hp}{p:Addr}{x y:AV}{u w:V} (s:Sim mg P φ st H) (hp:H p=none) (rx:RA mg P H φ x u) (ry:RA mg P H φ y w) :
  ∃ P3,Frm P φ H P3 φ (af H p (.tup [u,w]))/\Sim mg P3 φ st (af H p (.tup [u,w]))/\RA mg P3 (af H p (.tup [u,w])) φ (.tup [x,y]) (.ref p):=by
 obtain ⟨f3,s3⟩:=mF (o:=.tup [u,w]) s hp;refine ⟨_,f3,s3,?_⟩;simp only [RA];exact ⟨p,[u,w],rfl,.inr rfl,au,aS (rx.frm f3) (aS (ry.frm f3) bg)⟩
theorem C6 [My] {x1:Nat} (hg:Gl X "zip") (hm:X.mg "zip"=none) (ha:QE X a f) (hb:QE X b g) (hs:starEach [a,b] X.env=[(false,eval a X.env),(false,eval b X.env)]) (hs2:starEach [b] X.env=[(false,eval b X.env)]) :
  QI X (.Tuple elts x1 tpos) (.Call (.Name "zip" p) [a,b] [] pos) (iZ f g) :=
 fW (Dq hg hm (bF ha (bF hb dG (by rw [hs2];rfl)) (by rw [hs,hs2])) hs hs2) fun σ H R hq0=>by
  obtain ⟨P,φ,sl,st,rs,s,iv,st',ef,k⟩:=hq0;obtain ⟨q,e1,e2⟩:=zA ef;obtain ⟨r,e3,e4⟩:=zA e2;obtain ⟨x,e5,e6⟩:=zA e4;obtain ⟨y,e7,e8⟩:=zA e6;cases e8;refine CQ rs s ⟨q.1,q.2,r.1,r.2,e1,e3,fun P1 φ1 H1 w w' f1 s1 r1 r2=>?_⟩;obtain ⟨a1,rfl,h1⟩:=j8 s1 r1 e5;obtain ⟨a2,rfl,h2⟩:=j8 s1 r2 e7;obtain ⟨vs,rd1,_⟩:=h1 P1 φ1 H1 r.2 Frm.refl s1 (j7 e5);obtain ⟨us,rd2,_⟩:=h2 P1 φ1 H1 r.2 Frm.refl s1 (j7 e7);refine ⟨a1,a2,rfl,⟨vs,rd1⟩,⟨us,rd2⟩,k P1 φ1 H1 _ f1 s1 ⟨fun P2 φ2 H2 st2 i t f2 s2 g2 et=>?_,fun P2 φ2 H2 st2 f2 s2 g2=>?_⟩⟩
  ·obtain ⟨ga,gb⟩:=sG g2
   obtain ⟨vs2,d1,q1⟩:=h1 P2 φ2 H2 st2 f2 s2 ga;obtain ⟨us2,d2,q2⟩:=h2 P2 φ2 H2 st2 f2 s2 gb;rw [zR] at et;obtain ⟨z,ez,et⟩:=zE.mp et;subst et;obtain ⟨hx,hy⟩:=List.getElem?_zip_eq_some.mp ez;obtain ⟨u1,c1,b1⟩:=q1.get hx;obtain ⟨u2,c2,b2⟩:=q2.get hy;refine ⟨⟨vs2,us2,u1,u2,d1,d2,c1,c2⟩,fun v H3 hq0=>?_⟩;obtain ⟨pp,u,w,k1,k2,hp,hH,hv⟩:=hq0;have k1:=k1 vs2 d1;have k2:=k2 us2 d2;rw [c1] at k1;rw [c2] at k2;cases k1;cases k2;subst hH;subst hv;exact rY s2 hp b1 b2
  ·obtain ⟨ga,gb⟩:=sG g2
   obtain ⟨vs2,d1,q1⟩:=h1 P2 φ2 H2 st2 f2 s2 ga;obtain ⟨us2,d2,q2⟩:=h2 P2 φ2 H2 st2 f2 s2 gb;refine ⟨vs2,us2,d1,d2,?_⟩;rw [<- q1.length,<- q2.length];simp only [zH,List.length_zip];omega
noncomputable def d4 (n0:Nat) (xs:List AV):List AV:=(xs.zipIdx n0).map fun z=>.tup [.int ((z.2:Nat):Int),z.1]
theorem qk [My] {mg:Gm}{P:Pr}{φ:List Addr}{H:Hp}{K:Frag}{a:Addr}{iv:Iv}{n0:Nat} (h:∀ P2 φ2 H2 st2,Frm P φ H P2 φ2 H2->Sim mg P2 φ2 st2 H2->bQ iv.gd st2=true->∃ vs,bz K H2 a vs/\MA mg P2 H2 φ2 iv.Mz vs):qX mg (ww K a n0) ⟨d4 n0 iv.Mz,iv.gd⟩ P φ H where
 go:=fun P2 φ2 H2 st2 i x f s g e=>by
  obtain ⟨vs,rd,ra⟩:=h P2 φ2 H2 st2 f s g;unfold d4 at e;rw [zR,List.getElem?_zipIdx] at e;cases hz:iv.Mz[i]? with
  | none=>rw [hz] at e;cases e
  | some y =>
   rw [hz] at e;cases e;obtain ⟨v,e1,r1⟩:=ra.get hz;refine ⟨⟨vs,v,rd,e1⟩,fun w H3 hq0=>?_⟩;obtain ⟨pp,u,hx,hp,hH,hw⟩:=hq0
   have:=hx vs rd
   rw [e1] at this;cases this;subst hH;subst hw;exact rY s hp (by simp only [RA]) r1
 stop:=fun P2 φ2 H2 st2 f s g=>by
  obtain ⟨vs,rd,ra⟩:=h P2 φ2 H2 st2 f s g;exact ⟨vs,rd,by rw [<- ra.length];simp [d4]⟩
def IG (f:EF):IF:=fun sl st=>(f sl st).bind fun p=>(g7 p.2 p.1).map fun iv=>(⟨d4 0 iv.Mz,iv.gd⟩,p.2)
theorem Gc [My] {x1:Nat} (hg:Gl X "enumerate") (hm:X.mg "enumerate"=none) (ha:QE X a f) (hs:starEach [a] X.env=[(false,eval a X.env)]) :
  QI X (.Tuple elts x1 tpos) (.Call (.Name "enumerate" p) [a] [] pos) (IG f) :=
 fW (Bt hg hm (bF ha dG (by rw [hs];rfl)) hs) fun σ H R hq0=>by
  obtain ⟨P,φ,sl,st,rs,s,iv,st',ef,k⟩:=hq0;obtain ⟨q,e1,e2⟩:=zA ef;obtain ⟨iv',e3,e4⟩:=zE.mp e2;cases e4;refine u7 rs s ⟨q.1,q.2,e1,fun P1 φ1 H1 w f1 s1 r1=>?_⟩;obtain ⟨a1,rfl,h1⟩:=j8 s1 r1 e3;obtain ⟨vs,rd1,_⟩:=h1 P1 φ1 H1 q.2 Frm.refl s1 (j7 e3);exact ⟨a1,rfl,⟨vs,rd1⟩,k P1 φ1 H1 _ f1 s1 (qk h1)⟩
end
end R
namespace L2
open PySem PySem.Spec PyProof.Rows
section
variable {prog:Program}{w:World}{A:Around}{E:Value->Shared->Prop}{s:Shared}
theorem v2 (l:Addr) (items:Array Value) (n:Nat) (dct:Option Addr) (sl:Array (Option Value)) (t:Tok) (i:Int) (hf:Builtin.SmallTypes.fitsIndex i=true) :
  Meets (Builtin.«enumerate.__new__» ⟨[.type "enumerate",.ref l],[("start",.int i t)]⟩) (fun _ R s=>s.heap.get? l=some { cls:=.type "list",dict:=dct,data:=.seq items n,slots:=sl } /\
   R (.ok (.ret (.ref (s.heap.push { cls:=.type "list_iterator",data:=.fields #[.ref l,.int 0 0] }).objs.size)))
    { s with heap:=(s.heap.push { cls:=.type "list_iterator",data:=.fields #[.ref l,.int 0 0] }).push { cls:=.type "enumerate",data:=.fields #[.none,.bool false,.ref s.heap.objs.size,rawInt i,.none,.none] } }):=Meets.of_wp fun prog w A R s h=>by
  obtain ⟨hp,g,d,tk,os⟩:=s;obtain ⟨hl,h⟩:=h;have hsub:=sub_enumerate;have hL:Heap.IsList (Shared.heap ⟨hp,g,d,tk,os⟩) l items:=⟨_,hl,rfl,n,rfl⟩
  wp_walk using AutoSeq1.wpAny_loadPart' hl
  refine wpAny_stack_any fun st=>yF ?_
  split
  ·rename_i c _ _ _ _ _
   cases (c == Value.type "enumerate")
   ·wp_walk using AutoSeq1.wpAny_loadPart' hl,wpAny_pyIter_list hL
    exact ⟨_,rfl,h⟩
   ·wp_walk using AutoSeq1.wpAny_loadPart' hl,wpAny_pyIter_list hL
    exact ⟨_,rfl,h⟩
  ·wp_walk using AutoSeq1.wpAny_loadPart' hl,wpAny_pyIter_list hL
   exact ⟨_,rfl,h⟩
theorem uz {l:Addr}{items:Array Value}{t:Tok}{i:Int}{Q:Value->Shared->Prop} (hf:Builtin.SmallTypes.fitsIndex i=true) (hL:s.heap.IsList l items)
  (h:∀ h',IsEnum h' (s.heap.objs.size + 1) s.heap.objs.size i .none->h'.IsListIter s.heap.objs.size l 0->(∀ b o,s.heap.get? b=some o->h'.get? b=some o)->Q (.ref (s.heap.objs.size + 1)) { s with heap:=h' }) :
  wpAny (model prog w) A (call (.type "enumerate") [.ref l] [("start",.int i t)]) Q E s:=by
 obtain ⟨⟨c0,dct,dt,sl⟩,hl,hc0,n,hd⟩:=hL;dsimp only at hc0 hd;subst hc0 hd;have ft:=F.called_enumerate;obtain ⟨c,tl,hmro⟩:=ft.mro;have hmade:=ft.made;have hsub:=ft.sub;have h1:=ft.notType;have h2:=ft.canCreate;have hct:=pw (.ref l) (.int i t);have hcn:=oU (.ref l) (.int i t);refine wpAny_call (codeAny_of_tree ?_);show wpAny _ _ (callAny (.type "enumerate") _) _ _ _;refine yF ⟨Code.quiet_builtin _ (by decide +kernel),codeAny_builtin F.entry_type_call ?_⟩;rw [Around.under_plain (weight_type_call_type "enumerate" _ _) (units_type_call_type "enumerate" _ _)]
 repeat (any_goals (first | assumption | wp_step))
 have hz:(s.heap.push { cls:=.type "list_iterator",data:=.fields #[.ref l,.int 0 0] }).objs.size=s.heap.objs.size + 1:=Heap.size_push ..;have he:=zY (s.heap.push { cls:=.type "list_iterator",data:=.fields #[.ref l,.int 0 0] }) (o:={ cls:=.type "enumerate",data:=.fields #[.none,.bool false,.ref s.heap.objs.size,rawInt i,.none,.none] }) rfl;rw [hz] at he;refine codeAny_mono (codeAny_call_builtin (R:=wants (fun obj s₁=>s₁.TypeIs obj "enumerate"/\Q obj s₁) E) ft.plain F.entry_enumerate_new (wpAny_of_eq hcn (v2 l items n dct sl t i hf prog w A.in1 _ s ⟨hl,?_⟩))) fun r s₁ hr=>?_
 ·show _/\_
  rw [hz];exact ⟨⟨_,he,rfl⟩,h _ he ⟨_,zG _ (zY _ rfl),rfl,rfl⟩ fun b o x=>zG _ (zG _ x)⟩
 ·cases r with
  | error e=>exact hr
  | ok fl =>
   cases fl with
   | ret obj =>
    obtain ⟨hT,hq0⟩:=hr;have hli:=ft.init.lookup;have hbi:=ft.init.bind obj
    repeat (any_goals (first | assumption | wp_step))
    refine codeAny_mono (codeAny_call_builtin (R:=wants (fun r s₂=>r=.none/\Q obj s₂) E) ft.init.plain F.entry_object_init (ft.init.check _ _ _ _ _ _ _ _ hT (nW obj (.ref l) (.int i t)) (uj ft.init.lookup ft.made dC prog w A.in1 _ s₁ ⟨hT,rfl,hq0⟩))) fun r₂ s₂ hr₂=>?_
    cases r₂ with
    | error e=>exact hr₂
    | ok fl₂ =>
     cases fl₂ with
     | ret r =>
      obtain ⟨rfl,hq⟩:=hr₂
      repeat (any_goals (first | assumption | wp_step))
     | _=>exact hr₂.elim
   | _=>exact hr.elim
end
end L2
namespace R
open PySem PySem.Spec PyProof.Rows L2
open DD (PE_imp PT_imp PA_imp PS_imp PSs_imp OpR_imp PW_imp PG_imp pyOk)
section
variable {X:Cx}{tg e a b:Expr}{es:List Expr}{pos p kp:Pos}
theorem w6 [My] {x1:Nat} (hg:Gl X "enumerate") (hm:X.mg "enumerate"=none) (ha:PA X [a] ta) (hb:PE X b tb) (hs:starEach [a] X.env=[(false,eval a X.env)]) :
  PI X (.Tuple elts x1 tpos) (.Call (.Name "enumerate" p) [a] [⟨some "start",b,kp⟩] pos) (fun σ H R=>ta σ H fun vs H1=>tb σ H1 fun y H2=>∃ l n0,vs=[.ref l]/\y=.int ((n0:Nat):Int)/\n0 <= 1000000/\(∃ xs,bz X.K H2 l xs)/\R (ww X.K l n0) H2):=by
 intro Mv s σ H R I h;refine wpAny_Call_Name_kw (cH I hg hm oK (qK (by rw [hs];rfl) (by rfl) ?_));have hA:=ha pos Mv s σ H _ I h;rw [hs] at hA ⊢;refine PyProof.Rows.evalArgs_kwB (by rfl) (wF hA fun us s1 hq0=>?_);obtain ⟨vs,H1,I1,r1,q1⟩:=hq0;refine PyProof.Rows.kws_cons (aB (hb Mv s1 σ H1 _ I1 q1) fun u s2 ⟨y,H2,I2,r2,l,n0,e1,e2,hn,⟨xs,hq⟩,q⟩=>PyProof.Rows.kws_nil ?_);subst e1;subst e2;obtain ⟨t,rfl⟩:=r2;cases r1 with
 | cons r rr =>
  cases rr;cases r;obtain ⟨Mz,rv,p1,_⟩:=I2.list hq;show wpAny _ _ (call (.type "enumerate") [.ref l] [("start",.int ((n0:Nat):Int) t)]) _ _ _;refine uz (s:=s2) ?_ p1.isList fun h' he hi hk=>?_
  ·unfold Builtin.SmallTypes.fitsIndex
   simp only [zC,yB];omega
  refine wpAny_pyIter_enum (s:={ s2 with heap:=h' }) he ?_;exact qA (t':=s2.toks) (n0:=n0) I2 he hi hk q
def uk (f g:EF):IF:=fun sl st=>(f sl st).bind fun p=>(g sl p.2).bind fun q=>match q.1 with
 | .int i=>if (decide (0 <= i) && Nat.ble i.natAbs 1000000)=true then (g7 q.2 p.1).map fun iv=>(⟨d4 i.toNat iv.Mz,iv.gd⟩,q.2) else none
 | _=>none
theorem C7 [My] {x1:Nat} (hg:Gl X "enumerate") (hm:X.mg "enumerate"=none) (ha:QE X a f) (hb:QE X b g) (hs:starEach [a] X.env=[(false,eval a X.env)]) :
  QI X (.Tuple elts x1 tpos) (.Call (.Name "enumerate" p) [a] [⟨some "start",b,kp⟩] pos) (uk f g) :=
 fW (w6 hg hm (bF ha dG (by rw [hs];rfl)) hb hs) fun σ H R hq0=>by
  obtain ⟨P,φ,sl,st,rs,s,iv,st',ef,k⟩:=hq0;obtain ⟨q,e1,e2⟩:=zA ef;obtain ⟨r,e3,e4⟩:=zA e2;refine u7 rs s ⟨q.1,q.2,e1,fun P1 φ1 H1 w f1 s1 r1=>⟨P1,φ1,sl,q.2,rs.frm f1,s1,r.1,r.2,e3,fun P2 φ2 H2 w2 f2 s2 r2=>?_⟩⟩;split at e4
  ·rename_i i ei
   rw [ei] at r2;simp only [RA] at r2;subst r2;split at e4
   ·rename_i hc
    simp only [zC,yB] at hc;have hc2:=zS hc.2;obtain ⟨iv',e5,e6⟩:=zE.mp e4;cases e6;obtain ⟨a1,rfl,h1⟩:=j8 s2 (r1.frm f2) e5;obtain ⟨vs,rd1,_⟩:=h1 P2 φ2 H2 r.2 Frm.refl s2 (j7 e5);exact ⟨a1,i.toNat,rfl,by rw [Int.toNat_of_nonneg hc.1],by omega,⟨vs,rd1⟩,k P2 φ2 H2 _ (f1.trans f2) s2 (qk h1)⟩
   ·cases e4
  ·cases e4
end
mutual
noncomputable def rf:AV->Bool
 | .ref _=>false
 | .tup xs=>rfs xs
 | _=>true
noncomputable def rfs:List AV->Bool
 | []=>true
 | x::xs=>rf x && rfs xs
end
mutual
theorem RA.rf:∀ {t:AV}{v:V},R.rf t=true->RA mg P H φ t v->RA mg P H ψ t v
 | .non,_,_,h=>by simp only [RA] at h ⊢;exact h
 | .bl _,_,_,h=>by simp only [RA] at h ⊢;exact h
 | .int _,_,_,h=>by simp only [RA] at h ⊢;exact h
 | .str _,_,_,h=>by simp only [RA] at h ⊢;exact h
 | .fz _,_,_,h=>by simp only [RA] at h ⊢;exact h
 | .ref k,_,e,_=>by simp only [R.rf] at e;cases e
 | .tup xs,_,e,h=>by
  simp only [RA,R.rf] at h e ⊢;obtain ⟨a,vs,r,p,e',q⟩:=h;exact ⟨a,vs,r,p,e',MA.rf e q⟩
theorem MA.rf:∀ {ts:List AV}{vs:List V},R.rfs ts=true->MA mg P H φ ts vs->MA mg P H ψ ts vs
 | [],_,_,h=>by simp only [MA] at h ⊢;exact h
 | t::ts,_,e,h=>by
  simp only [MA,R.rfs,zC] at h e ⊢;obtain ⟨v,ws,e',r,q⟩:=h;exact ⟨v,ws,e',RA.rf e.1 r,MA.rf e.2 q⟩
end
abbrev NF:=Sl->aa->Option (List AV × aa)
def rN [My] (mg:Gm) (f:NF):TE:=fun σ H Q=>∃ P φ sl st,MH mg P H φ sl σ/\Sim mg P φ st H/\∃ xs st',f sl st=some (xs,st') /\
 ∀ P' φ' H' p vs,Frm P φ H P' φ' H'->Sim mg P' φ' st' H'->H' p=none->MA mg P' H' φ' xs vs->Q (.ref p) (af H' p (.lst vs))
def QN [My] (X:Cx) (e:Expr) (f:NF):Prop:=PE X e (rN X.gm f)
def Lb (f:NF):EF:=fun sl st=>(f sl st).bind fun p=>if rfs p.1=true then some (.fz p.1,p.2) else none
def La (f:NF):EF:=fun sl st=>(f sl st).bind fun p=>some (.ref p.2.length,p.2++[.lst p.1])
theorem E4 [My] {mg:Gm}{P:Pr}{φ:List Addr}{st:aa}{H:Hp}{p:Addr}{xs:List AV}{vs:List V} (s:Sim mg P φ st H) (hp:H p=none) (hr:rfs xs=true) (r:MA mg P H φ xs vs) :
  ∃ P3,Frm P φ H P3 φ (af H p (.lst vs))/\Sim mg P3 φ st (af H p (.lst vs))/\RA mg P3 (af H p (.lst vs)) φ (.fz xs) (.ref p):=by
 obtain ⟨f3,s3⟩:=mF (o:=.lst vs) s hp;refine ⟨_,f3,s3,?_⟩;simp only [RA];exact ⟨p,vs,rfl,.inl ⟨.inr rfl,.inl au⟩,MA.rf hr (r.frm f3)⟩
theorem Ed [My] {mg:Gm}{P:Pr}{φ:List Addr}{st:aa}{H:Hp}{p:Addr}{xs:List AV}{vs:List V} (s:Sim mg P φ st H) (hp:H p=none) (r:MA mg P H φ xs vs) :
  Frm P φ H P (φ++[p]) (af H p (.lst vs))/\Sim mg P (φ++[p]) (st++[.lst xs]) (af H p (.lst vs))/\RA mg P (af H p (.lst vs)) (φ++[p]) (.ref st.length) (.ref p):=by
 have ne:∀ a,H a ≠ none->a ≠ p:=fun a h e=>h (by rw [e];exact hp)
 obtain ⟨f3,s3⟩:=lQ (c:=.lst xs) (o:=.lst vs) s hp ⟨fun z=>s.dom p z hp,vs,au,r.mono (fun a h=>⟨h,ad (ne a (s.dom a h))⟩) fun k a e=>by rw [zN (zB.mp e).1];exact e⟩;refine ⟨f3,s3,?_⟩;simp only [RA];exact ⟨p,by rw [<- s.len];simp,rfl⟩
section
variable {X:Cx}{e a b:Expr}{es:List Expr}{pos:Pos}{f:NF}
noncomputable def cE (n:Nat):Bool:=Nat.ble n 1000000
theorem iW {n:Nat} (h:cE n=true):n <= sizeLine:=z0 (zS h) dC
def Iw (g:AF):NF:=fun sl st=>(g sl st).bind fun p=>if cE p.1.length=true then some p else none
theorem A7 [My] (h:QA X es g):QN X (.List es pos) (Iw g) :=
 PE_imp (vo h) fun σ H Q hq0=>by
  obtain ⟨P,φ,sl,st,rs,s,xs,st',ef,k⟩:=hq0;obtain ⟨q,e1,e2⟩:=zA ef;split at e2
  ·rename_i hz
   cases e2;exact ⟨P,φ,sl,st,rs,s,xs,st',e1,fun P1 φ1 H1 vs f1 s1 r1=>⟨by rw [<- r1.length];exact iW hz,fun p hp=>k P1 φ1 H1 p vs f1 s1 hp r1⟩⟩
  ·cases e2
def pY (f g:EF):NF:=fun sl st=>(f sl st).bind fun p=>(g sl p.2).bind fun q=>(bn q.2 p.1).bind fun xs=>(bn q.2 q.1).bind fun ys=>if cE (xs.length + ys.length)=true then some (xs++ys,q.2) else none
theorem C5 [My] {f g:EF} (ha:QE X a f) (hb:QE X b g):QN X (.BinOp a .Add b pos) (pY f g) :=
 PE_imp (tM BD ha hb) fun σ H Q hq0=>by
  obtain ⟨P,φ,sl,st,rs,s,xs,st',ef,k⟩:=hq0;obtain ⟨q,e1,e2⟩:=zA ef;obtain ⟨r,e3,e4⟩:=zA e2;obtain ⟨x,e5,e6⟩:=zA e4;obtain ⟨y,e7,e8⟩:=zA e6;split at e8
  ·rename_i hz
   cases e8;refine ⟨P,φ,sl,st,rs,s,q.1,q.2,e1,fun P1 φ1 H1 w f1 s1 r1=>⟨P1,φ1,sl,q.2,rs.frm f1,s1,r.1,r.2,e3,fun P2 φ2 H2 w2 f2 s2 r2=>?_⟩⟩;obtain ⟨a1,vs,rfl,d1,q1⟩:=(r1.frm f2).ls s2 e5;obtain ⟨a2,us,rfl,d2,q2⟩:=r2.ls s2 e7;exact ⟨a1,a2,vs,us,rfl,rfl,d1,d2,by rw [<- q1.length,<- q2.length];exact iW hz,fun p hp=>k P2 φ2 H2 p _ (f1.trans f2) s2 hp (q1.app q2)⟩
  ·cases e8
def tR (g:AF) (f:EF):NF:=fun sl st=>(g sl st).bind fun p=>(f sl p.2).bind fun q=>match q.1 with
 | .int k=>if (eO k && cE (p.1.length * k.toNat) && cE p.1.length)=true then some ((List.replicate k.toNat p.1).flatten,q.2) else none
 | _=>none
theorem MA.rep (h:MA mg P H φ xs vs):∀ k:Nat,MA mg P H φ (List.replicate k xs).flatten (List.replicate k vs).flatten
 | 0=>bg
 | k + 1=>by rw [List.replicate_succ,List.replicate_succ,List.flatten_cons,List.flatten_cons];exact h.app (MA.rep h k)
theorem CZ [My] {g:AF}{f:EF}{pos':Pos} (h:QA X es g) (hb:QE X b f):QN X (.BinOp (.List es pos') .Mult b pos) (tR g f) :=
 PE_imp (tM DJ (vo h) hb) fun σ H Q hq0=>by
  obtain ⟨P,φ,sl,st,rs,s,xs,st',ef,k⟩:=hq0;obtain ⟨q,e1,e2⟩:=zA ef;obtain ⟨r,e3,e4⟩:=zA e2;split at e4
  ·rename_i j ej
   split at e4
   ·rename_i hc
    cases e4;simp only [zC] at hc;refine ⟨P,φ,sl,st,rs,s,q.1,q.2,e1,fun P1 φ1 H1 vs f1 s1 r1=>⟨by rw [<- r1.length];exact iW hc.2,fun p hp=>?_⟩⟩
    -- the list itself is a cell that nobody has
    obtain ⟨f2,s2⟩:=mF (o:=.lst vs) s1 hp;refine ⟨_,φ1,sl,q.2,(rs.frm f1).frm f2,s2,r.1,r.2,e3,fun P3 φ3 H3 w f3 s3 r3=>?_⟩;rw [ej] at r3;simp only [RA] at r3;subst r3;have hH:H3 p=some (.lst vs):=by rw [(f3.ext p (.inr rfl)).2,au]
    have hj:=fP hc.1.1;refine ⟨p,j,vs,rfl,rfl,hH,by omega,by omega,by rw [<- r1.length];exact iW hc.1.2,fun p' hp'=>?_⟩;exact k P3 φ3 H3 p' _ ((f1.trans f2).trans f3) s3 hp' (MA.rep ((r1.frm f2).frm f3) _)
   ·cases e4
  ·cases e4
abbrev OF:=Sl->aa->Option (Option Int × aa)
def rO [My] (mg:Gm) (f:OF):TO:=fun σ H Q=>∃ P φ sl st,MH mg P H φ sl σ/\Sim mg P φ st H/\KG mg RB P φ H (f sl st) Q
def QO [My] (X:Cx) (e:Option Expr) (f:OF):Prop:=PO X e (rO X.gm f)
def Iu:OF:=fun _ st=>some (none,st)
def ox (f:EF):OF:=fun sl st=>(f sl st).bind fun p=>match p.1 with
 | .int i=>some (some i,p.2)
 | _=>none
theorem sS (h:PO X eo t) (i:∀ σ H Q,t' σ H Q->t σ H Q):PO X eo t':=fun Mv s σ H Q I h'=>h Mv s σ H Q I (i σ H Q h')
theorem A6 [My]:QO X none Iu:=sS Bq fun σ H Q ⟨P,φ,sl,st,rs,s,k⟩=>k.pure s rfl
theorem A5 [My] {f:EF} (h:QE X e f):QO X (some e) (ox f):=sS (Bp h) fun σ H Q ⟨P,φ,sl,st,rs,s,k⟩=>⟨P,φ,sl,st,rs,s,by
 obtain ⟨a,st',e1,q⟩:=k.bind (Ra:=RA);refine ⟨a,st',e1,fun P1 φ1 H1 c f1 s1 r1=>?_⟩;obtain ⟨P2,φ2,st2,x,f2,s2,r2,k2⟩:=q P1 φ1 H1 c f1 s1 r1;cases x <;> first | exact k2.no.elim | skip
 rename_i i;simp only [RA] at r2;exact ⟨i,r2,k2.pure s2 rfl⟩⟩
def cut {α:Type} (xs:List α) (lo hi:Option Int):List α:=(xs.drop (HT.M6 xs.length 0 lo)).take (HT.M6 xs.length xs.length hi - HT.M6 xs.length 0 lo)
theorem MA.cut (h:MA mg P H φ xs vs) (lo hi:Option Int):MA mg P H φ (R.cut xs lo hi) (n8 vs lo hi):=by
 unfold R.cut n8;rw [h.length];exact (h.drop _).take _
theorem Jr [My] {mg:Gm}{f:EF}{l h:OF}{σ:St}{H:Hp}{P:Pr}{φ:List Addr}{sl:Sl}{st:aa} (rs:MH mg P H φ sl σ) (s:Sim mg P φ st H) {r:V->Option Int->Option Int->Hp->VK->Prop}{Q:VK}
  (k:∃ v st1 lo st2 hi st3,f sl st=some (v,st1)/\l sl st1=some (lo,st2)/\h sl st2=some (hi,st3)/\∀ P' φ' H' w,Frm P φ H P' φ' H'->Sim mg P' φ' st3 H'->RA mg P' H' φ' v w->r w lo hi H' Q):HY r (rE mg f) (rO mg l) (rO mg h) σ H Q:=by
 obtain ⟨v,st1,lo,st2,hi,st3,e1,e2,e3,k⟩:=k;refine ⟨P,φ,sl,st,rs,s,v,st1,e1,fun P1 φ1 H1 w f1 s1 r1=>⟨P1,φ1,sl,st1,rs.frm f1,s1,lo,st2,e2,fun P2 φ2 H2 lo' f2 s2 r2=>⟨P2,φ2,sl,st2,(rs.frm f1).frm f2,s2,hi,st3,e3,fun P3 φ3 H3 hi' f3 s3 r3=>?_⟩⟩⟩;cases r2;cases r3;exact k P3 φ3 H3 w ((f1.trans f2).trans f3) s3 ((r1.frm f2).frm f3)
def oy (f:EF) (l h:OF):NF:=fun sl st=>(f sl st).bind fun p=>(l sl p.2).bind fun q=>(h sl q.2).bind fun r=>(bn r.2 p.1).map fun xs=>(cut xs q.1 r.1,r.2)
theorem F7 [My] {f:EF}{l h:OF}{lo hi:Option Expr}{p2:Pos} (ha:QE X a f) (hl:QO X lo l) (hh:QO X hi h):QN X (.Subscript a (.Slice lo hi none p2) pos) (oy f l h) :=
 PE_imp (xf AW ha hl hh) fun σ H Q hq0=>by
  obtain ⟨P,φ,sl,st,rs,s,xs,st',ef,k⟩:=hq0;obtain ⟨q,e1,e2⟩:=zA ef;obtain ⟨r,e3,e4⟩:=zA e2;obtain ⟨t,e5,e6⟩:=zA e4;obtain ⟨ys,e7,e8⟩:=zE.mp e6;cases e8;refine Jr rs s ⟨q.1,q.2,r.1,r.2,t.1,t.2,e1,e3,e5,fun P1 φ1 H1 w f1 s1 r1=>?_⟩;obtain ⟨a1,vs,rfl,d1,q1⟩:=r1.ls s1 e7;exact ⟨a1,vs,rfl,d1,fun p hp=>k P1 φ1 H1 p _ f1 s1 hp (q1.cut _ _)⟩
def jp (f:EF):NF:=fun sl st=>(f sl st).bind fun p=>match bn p.2 p.1 with
 | some xs=>some (xs,p.2)
 | none=>(ik p.2 p.1).map fun xs=>(xs,p.2)
theorem C4 [My] {f:EF}{p pos:Pos} (hg:Gl X "list") (hm:X.mg "list"=none) (ha:QE X a f) (hs:starEach [a] X.env=[(false,eval a X.env)]):QN X (.Call (.Name "list" p) [a] [] pos) (jp f) :=
 PE_imp (ou qI hg hm gQ (bF ha dG (by rw [hs];rfl)) (he:=by rw [hs];rfl) (hpl:=rfl)) fun σ H Q hq0=>by
  obtain ⟨P,φ,sl,st,rs,s,xs,st',ef,k⟩:=hq0;obtain ⟨q,e1,e2⟩:=zA ef;refine u7 rs s ⟨q.1,q.2,e1,fun P1 φ1 H1 w f1 s1 r1=>?_⟩;split at e2
  ·rename_i ys e3
   cases e2;obtain ⟨a1,vs,rfl,d1,q1⟩:=r1.ls s1 e3;exact ⟨a1,vs,rfl,.inl d1,fun p hp=>k P1 φ1 H1 p vs f1 s1 hp q1⟩
  ·obtain ⟨ys,e3,e4⟩:=zE.mp e2
   cases e4;obtain ⟨a1,vs,rfl,d1,q1⟩:=r1.tp s1 e3;exact ⟨a1,vs,rfl,.inr (.inl (.inl d1)),fun p hp=>k P1 φ1 H1 p vs f1 s1 hp q1⟩
end
abbrev GF:=AV->Sl->aa->Option (Sl × aa)
abbrev qY:=List AV->Sl->aa->Option (Sl × aa)
def KS [My] (mg:Gm) (P:Pr) (φ:List Addr) (H:Hp) (r:Option (Sl × aa)) (Q:St->Hp->Prop):Prop :=
 ∃ sl' st',r=some (sl',st')/\∀ P' φ' H' σ',Frm P φ H P' φ' H'->Sim mg P' φ' st' H'->MH mg P' H' φ' sl' σ'->Q σ' H'
def rG [My] (mg:Gm) (f:GF):TG:=fun v σ H Q=>∃ P φ sl st x,MH mg P H φ sl σ/\Sim mg P φ st H/\RA mg P H φ x v/\KS mg P φ H (f x sl st) Q
def KB [My] (mg:Gm) (f:qY):lJ:=fun vs σ H Q=>∃ P φ sl st xs,MH mg P H φ sl σ/\Sim mg P φ st H/\MA mg P H φ xs vs/\KS mg P φ H (f xs sl st) Q
def QG [My] (X:Cx) (tg:Expr) (f:GF):Prop:=PG X tg (rG X.gm f)
def wq [My] (X:Cx) (tgs:List Expr) (f:qY):Prop:=oS X tgs (KB X.gm f)
def vY (i:Nat):GF:=fun x sl st=>some (sl.set i (some x),st)
def EY:qY:=fun xs sl st=>match xs with
 | []=>some (sl,st)
 | _=>none
def E1 (f:GF) (g:qY):qY:=fun xs sl st=>match xs with
 | x::xs=>(f x sl st).bind fun p=>g xs p.1 p.2
 | []=>none
def vX (n:Nat) (g:qY):GF:=fun x sl st=>match ik st x with
 | some xs=>if xs.length=n then g xs sl st else none
 | none=>match bn st x with
  | some xs=>if xs.length=n then g xs sl st else none
  | none=>none
theorem qV (h:oS X tgs t) (i:∀ v σ H Q,t' v σ H Q->t v σ H Q):oS X tgs t':=fun Mv s σ H v u Q I rv h'=>h Mv s σ H v u Q I rv (i v σ H Q h')
section
variable {X:Cx}{e a b:Expr}{es:List Expr}{pos:Pos}
theorem KS.pure [My] {mg:Gm}{P:Pr}{φ:List Addr}{H:Hp}{sl:Sl}{st:aa}{σ:St}{Q:St->Hp->Prop} (h:KS mg P φ H (some (sl,st)) Q) (s:Sim mg P φ st H) (r:MH mg P H φ sl σ):Q σ H:=by
 obtain ⟨_,_,e,q⟩:=h;cases e;exact q P φ H σ Frm.refl s r
theorem Bb [My] {i:Nat} (hN:X.N.Nodup) (hi:X.N[i]?=some x) (hx:Loc X.env.scope x) (hf:X.fn x=true\/X.env.scope.names.lookup x=some .local):QG X (.Name x pos) (vY i) :=
 PG_imp (Bx hN hi hx hf) fun v σ H Q ⟨P,φ,sl,st,x,rs,s,rx,k⟩=>k.pure s (rs.set rx i)
theorem Ba [My]:wq X [] EY:=qV Bv fun v σ H Q hq0=>by
 obtain ⟨P,φ,sl,st,xs,rs,s,rx,k⟩:=hq0;cases xs with
 | nil=>simp only [MA] at rx;exact ⟨rx,k.pure s rs⟩
 | cons _ _=>obtain ⟨_,_,e,_⟩:=k;cases e
theorem wT [My] (h1:QG X e f) (h2:wq X es g) (hs:(assignEach (e::es) X.env).map (·.2)=assign e X.env::(assignEach es X.env).map (·.2)):wq X (e::es) (E1 f g) :=
 qV (xa h1 h2 hs) fun v σ H Q hq0=>by
  obtain ⟨P,φ,sl,st,xs,rs,s,rx,k⟩:=hq0;cases xs with
  | nil=>obtain ⟨_,_,e,_⟩:=k;cases e
  | cons x xs =>
   simp only [MA] at rx;obtain ⟨w,ws,rfl,r1,r2⟩:=rx;obtain ⟨sl',st',e,q⟩:=k;obtain ⟨p,e1,e2⟩:=zA e;exact ⟨w,ws,rfl,P,φ,sl,st,x,rs,s,r1,p.1,p.2,e1,fun P1 φ1 H1 σ1 f1 s1 rs1=>⟨P1,φ1,p.1,p.2,xs,rs1,s1,r2.frm f1,sl',st',e2,fun P2 φ2 H2 σ2 f2 s2 rs2=>q P2 φ2 H2 σ2 (f1.trans f2) s2 rs2⟩⟩
theorem Gq (h:PG X tg t) (h':PG X tg t'):PG X tg (fun v σ H Q=>t v σ H Q\/t' v σ H Q):=fun Mv s σ H v u Q I r q=>by
 rcases q with q | q
 ·exact h Mv s σ H v u Q I r q
 ·exact h' Mv s σ H v u Q I r q
theorem C8 [My] {k n:Nat} (hc:X.calm=true) (h:wq X es g) (hn:(assignEach es X.env).length=n) (hst:(assignEach es X.env).findIdx? (·.1)=none):QG X (.Tuple es k pos) (vX n g) :=
 PG_imp (Gq (Ds (k:=k) hc h hn hst) (Bw (k:=k) hc h hn hst)) fun v σ H Q hq0=>by
  obtain ⟨P,φ,sl,st,x,rs,s,rx,kk⟩:=hq0;obtain ⟨sl',st',e,q⟩:=kk;unfold vX at e;split at e
  ·rename_i xs ex
   split at e
   ·rename_i hl
    obtain ⟨a1,vs,rfl,d1,q1⟩:=rx.tp s ex;exact .inl ⟨a1,vs,rfl,.inl (.inl d1),by rw [<- q1.length];exact hl,P,φ,sl,st,xs,rs,s,q1,sl',st',e,q⟩
   ·cases e
  ·split at e
   ·rename_i xs ex
    split at e
    ·rename_i hl
     obtain ⟨a1,vs,rfl,d1,q1⟩:=rx.ls s ex;exact .inr ⟨a1,vs,rfl,d1,by rw [<- q1.length];exact hl,P,φ,sl,st,xs,rs,s,q1,sl',st',e,q⟩
    ·cases e
   ·cases e
noncomputable def lP {κ:Type} [DecidableEq κ] (Mx:List (κ × AV)) (k:κ) (v:AV):List (κ × AV) :=
 if (Mx.any fun kv=>decide (kv.1=k))=true then Mx.map fun kv=>if kv.1=k then (kv.1,v) else kv else Mx++[(k,v)]
theorem pN {P:Pr}{H:Hp}{φ:List Addr}{κ:Type} [DecidableEq κ] {Mx:List (κ × AV)}{ws:List (κ × V)}{k:κ}{v:AV}{w:V} (h:KVR mg P H φ Mx ws) (r:RA mg P H φ v w):KVR mg P H φ (lP Mx k v) (d8 ws k w):=by
 have hany:(Mx.any fun kv=>decide (kv.1=k))=(ws.any fun kv=>decide (kv.1=k)):=by
  have h1:∀ {α:Type} (l:List (κ × α)),(l.any fun kv=>decide (kv.1=k))=((l.map (·.1)).any fun x=>decide (x=k)):=fun l=>by rw [List.any_map];rfl
  rw [h1 Mx,h1 ws,h.1]
 unfold lP d8;rw [hany];split
 ·clear hany
  rename_i hh;clear hh
  induction Mx generalizing ws with
  | nil =>
   have:ws=[]:=by simpa using h.1.symm
   subst this;exact ⟨rfl,bg⟩
  | cons p Mx ih =>
   cases ws with
   | nil=>exact absurd h.1 (by simp)
   | cons q ws =>
    obtain ⟨h1,h2⟩:=h;rw [zO,zO] at h1 h2;injection h1 with h3 h4;simp only [MA] at h2;obtain ⟨u,us,h5,h6,h7⟩:=h2;injection h5 with h8 h9;subst h8;subst h9;have ih:=ih (ws:=ws) ⟨h4,h7⟩;have h3':p.1=q.1:=h3;by_cases e:q.1=k
    ·rw [zO,zO,yH e,yH (h3'.trans e)]
     exact ⟨by rw [zO,zO,ih.1,h3'],aS r ih.2⟩
    ·rw [zO,zO,yG e,yG (fun z=>e (h3'.symm.trans z))]
     exact ⟨by rw [zO,zO,ih.1,h3'],aS h6 ih.2⟩
 ·refine ⟨by rw [List.map_append,List.map_append,h.1];rfl,?_⟩
  rw [List.map_append,List.map_append];exact h.2.app (aS r bg)
def jm (st:aa) (o i v:AV):Option aa:=match o with
 | .ref k=>match st[k]? with
  | some (.lst xs)=>match i with
   | .int j=>(lm xs.length j).map fun n=>st.set k (.lst (xs.set n v))
   | _=>none
  | some (.dK Mx)=>(jt i).bind fun x=>if cE Mx.length=true then some (st.set k (.dK (lP Mx x v))) else none
  | some (.dT Mx)=>match i with
   | .tup is=>(aO jt is).bind fun x=>if cE Mx.length=true then some (st.set k (.dT (lP Mx x v))) else none
   | _=>none
  | _=>none
 | _=>none
theorem zg [My] (hu:X.A.units + 64 < cLine):uG X (fun o i v H Q=>∃ P φ st x y z st',Sim X.gm P φ st H/\RA X.gm P H φ x o/\RA X.gm P H φ y i/\RA X.gm P H φ z v/\jm st x y z=some st'/\∀ P' φ' H',Frm P φ H P' φ' H'->Sim X.gm P' φ' st' H'->Q H'):=by
 rintro Mv s σ H o i v ov iv u Q I ro ri rv ⟨P,φ,st,x,y,z,st',sm,rx,ry,rz,e,k⟩;unfold jm at e;cases x with
 | ref j =>
  simp only [RA] at rx;obtain ⟨a,ea,rfl⟩:=rx;dsimp only at e;split at e
  ·rename_i xs hk
   obtain ⟨a',ea',c⟩:=sm.at hk;rw [ea] at ea';cases ea';obtain ⟨na,vs,q1,q2⟩:=c;cases y with
   | int n =>
    simp only [RA] at ry;subst ry;obtain ⟨m,e1,e2⟩:=zE.mp e;subst e2;have hp:P a->False:=na;obtain ⟨f3,s3⟩:=gU (c:=.lst (xs.set m z)) (o:=.lst (vs.set m v)) sm ea na ⟨na,_,au,(q2.set rz m).mono (fun b h=>⟨h,ad fun e=>na (e ▸ h)⟩) fun _ _ z=>z⟩ (fun _ _ z=>by rw [q1] at z;cases z);exact wL Mv s σ H _ _ v ov iv u Q I ro ri rv ⟨a,vs,n,m,rfl,rfl,q1,by rw [<- q2.length];exact e1,k P φ _ f3 s3⟩
   | _=>cases e
  ·rename_i Mx hk
   obtain ⟨a',ea',c⟩:=sm.at hk;rw [ea] at ea';cases ea';obtain ⟨na,ws,q1,q2⟩:=c;obtain ⟨x,e1,e2⟩:=zA e;split at e2
   ·rename_i hz
    cases e2
    have:=lV e1 ry
    subst this;cases ro;obtain ⟨f3,s3⟩:=gU (c:=.dK (lP Mx x z)) (o:=.dK (d8 ws x v)) sm ea na ⟨na,_,au,(pN q2 rz).mono (fun b h=>⟨h,ad fun e=>na (e ▸ h)⟩) fun _ _ z=>z⟩ (fun _ _ z=>by rw [q1] at z;cases z);refine oJ oM I (DPut.k q1 ?_) ri rv fun s' I'=>⟨_,I',k P φ _ f3 s3⟩
    have:=congrArg List.length q2.1
    rw [zH,zH] at this;rw [<- this];have h1:=zS hz;have h2:(1000000:Nat) < sizeLine:=by decide
    omega
   ·cases e2
  ·rename_i Mx hk
   obtain ⟨a',ea',c⟩:=sm.at hk;rw [ea] at ea';cases ea';obtain ⟨na,ws,q1,q2⟩:=c;cases y with
   | tup is =>
    dsimp only at e;obtain ⟨x,e1,e2⟩:=zA e;split at e2
    ·rename_i hz
     cases e2;simp only [RA] at ry;obtain ⟨b,us,rfl,_,hb,rr⟩:=ry;rw [oA e1 rr] at hb;cases ro;obtain ⟨f3,s3⟩:=gU (c:=.dT (lP Mx x z)) (o:=.dT (d8 ws x v)) sm ea na ⟨na,_,au,(pN q2 rz).mono (fun b h=>⟨h,ad fun e=>na (e ▸ h)⟩) fun _ _ z=>z⟩ (fun _ _ z=>by rw [q1] at z;cases z);refine oJ oM I (DPut.t q1 hb ?_) ri rv fun s' I'=>⟨_,I',k P φ _ f3 s3⟩
     have:=congrArg List.length q2.1
     rw [zH,zH] at this;rw [<- this];have h1:=zS hz;have h2:(1000000:Nat) < sizeLine:=by decide
     omega
    ·cases e2
   | _=>cases e
  ·cases e
 | _=>cases e
def IH (f g:EF):GF:=fun x sl st=>(f sl st).bind fun p=>(g sl p.2).bind fun q=>(jm q.2 p.1 q.1 x).map fun st'=>(sl,st')
theorem C9 [My] (hu:X.A.units + 64 < cLine) (ho:QE X o f) (hi:QE X i g)
  (ha:∀ v,assign (.Subscript o i pos) X.env v=(do
   let ov <- holding [v] (eval o X.env)
   let iv <- holding [v,ov] (eval i X.env)
   standAt pos
   holding [v,ov,iv] (setItem ov iv v)
   release [v,ov,iv] [])):QG X (.Subscript o i pos) (IH f g) :=
 PG_imp (Dt ho hi (zg hu) ha) fun v σ H Q hq0=>by
  obtain ⟨P,φ,sl,st,x,rs,s,rx,sl',st',e,k⟩:=hq0;obtain ⟨q,e1,e2⟩:=zA e;obtain ⟨r,e3,e4⟩:=zA e2;obtain ⟨z,e5,e6⟩:=zE.mp e4;cases e6;exact ⟨P,φ,sl,st,rs,s,q.1,q.2,e1,fun P1 φ1 H1 w f1 s1 r1=>⟨P1,φ1,sl,q.2,rs.frm f1,s1,r.1,r.2,e3,fun P2 φ2 H2 w2 f2 s2 r2=>⟨P2,φ2,r.2,q.1,r.1,x,st',s2,r1.frm f2,r2,(rx.frm f1).frm f2,e5,fun P3 φ3 H3 f3 s3=>k P3 φ3 H3 σ ((f1.trans f2).trans f3) s3 (((rs.frm f1).frm f2).frm f3)⟩⟩⟩
end
def hid (H:Hp) (p:Addr):Hp:=fun b=>if b=p then none else H b
theorem br (h:b ≠ p):hid H p b=H b:=yG h
theorem cY:hid H p p=none:=yH rfl
theorem AI (h:H p=some o):af (hid H p) p o=H:=by
 funext b;by_cases e:b=p
 ·subst e;rw [au,h]
 ·rw [ad e,br e]
theorem sE:hid (af H p o) p=hid H p:=by
 funext b;by_cases e:b=p
 ·subst e;rw [cY,cY]
 ·rw [br e,br e,ad e]
theorem xY (h:H p=none):hid H p=H:=by
 funext b;by_cases e:b=p
 ·subst e;rw [cY,h]
 ·rw [br e]
section
variable {mg:Gm}{P P':Pr}{φ φ':List Addr}{st st':aa}{H H':Hp}{p:Addr}
theorem _root_.L2.fj.sh {P:Addr}{pos:Pos}{q:Str} (h:fj (hid H p) P pos q):fj H P pos q:=by
 obtain ⟨ps,e,t,c⟩:=h;have ne:∀ {a o},hid H p a=some o->H a=some o:=fun {a o} e=>by
  by_cases z:a=p
  ·rw [z,cY] at e;cases e
  ·rw [br z] at e;exact e
 refine ⟨ps,ne e,t,?_⟩;rcases c with c | ⟨c',c1,c2⟩
 ·exact .inl c
 ·exact .inr ⟨c',c1,ne c2⟩
theorem _root_.L2.fj.hd {P:Addr}{pos:Pos}{q:Str} (h:fj H P pos q) (hl:∃ vs,H p=some (.lst vs)):fj (hid H p) P pos q:=by
 obtain ⟨ps,e,t,c⟩:=h;obtain ⟨vs,hv⟩:=hl;refine ⟨ps,by rw [br (tO e hv fun z=>nomatch z)];exact e,t,?_⟩;rcases c with c | ⟨c',c1,c2⟩
 ·exact .inl c
 ·exact .inr ⟨c',c1,by rw [br (tO c2 hv fun z=>nomatch z)];exact c2⟩
theorem Sim.sh [My] (s:Sim mg P φ st (hid H p)) (o:HO) (ho:H p=some o):Sim mg P φ st H/\∀ a,P a->P a/\H a=hid H p a:=by
 have nP:∀ a,P a->a ≠ p:=fun a h e=>s.dom a h (by rw [e];exact cY)
 have nC:∀ a ∈ φ,a ≠ p:=fun a h e=>s.cd a h (by rw [e];exact cY)
 have ex:∀ a,P a->P a/\H a=hid H p a:=fun a h=>⟨h,(br (nP a h)).symm⟩
 exact ⟨s.stay ex (fun a h=>(br (nC a h)).symm) (fun _ _ h=>h) (fun a h=>by rw [(ex a h).2];exact s.dom a h) fun t ht=>⟨(s.tb t ht).1.sh,(s.tb t ht).2⟩,ex⟩
theorem Frm.hd [My] (s0:Sim mg P φ st (hid H p)) (hl:∃ vs,H p=some (.lst vs)) (f:Frm P φ H P' φ' H') (s:Sim mg P' φ' st' H'):Frm P φ (hid H p) P' φ' (hid H' p)/\Sim mg P' φ' st' (hid H' p)/\(∀ a,P' a->P' a/\hid H' p a=H' a)/\H' p=H p:=by
 have nP:∀ a,P a->a ≠ p:=fun a h e=>s0.dom a h (by rw [e];exact cY)
 have nC:∀ a ∈ φ,a ≠ p:=fun a h e=>s0.cd a h (by rw [e];exact cY)
 have hp:H p ≠ none:=fun z=>by obtain ⟨vs,e⟩:=hl;rw [z] at e;cases e
 have kp:H' p=H p:=f.keep p hp (fun h=>nC p h rfl) fun ps z=>by obtain ⟨vs,e⟩:=hl;rw [z] at e;cases e
 obtain ⟨m,em,nm⟩:=f.new;have nP':∀ a,P' a->a ≠ p:=fun a h e=>by
  rcases f.pn a h with z | z | z
  ·exact nP a z e
  ·exact hp (by rw [<- e];exact z)
  ·exact nC a z e
 have nC':∀ a ∈ φ',a ≠ p:=fun a h e=>by
  rw [em] at h;rcases zZ.mp h with z | z
  ·exact nC a z e
  ·exact hp (by rw [<- e];exact nm a z)
 have hn:∀ a,hid H p a ≠ none->a ≠ p:=fun a h e=>h (by rw [e];exact cY)
 have ex:∀ a,P' a->P' a/\hid H' p a=H' a:=fun a h=>⟨h,br (nP' a h)⟩
 refine ⟨⟨fun a h=>⟨(f.ext a h).1,by rw [br (nP a h),br (nP a h)];exact (f.ext a h).2⟩,⟨m,em,fun a h=>?_⟩,fun a h n z=>?_,fun a h=>?_,fun a h=>?_,fun a o u h=>?_⟩,s.stay ex (fun a h=>br (nC' a h)) (fun _ _ h=>h) (fun a h=>by rw [(ex a h).2];exact s.dom a h) (fun t ht=>⟨(s.tb t ht).1.hd (by rw [kp];exact hl),(s.tb t ht).2⟩),ex,kp⟩
 ·rw [br (nC' a (by rw [em];exact zK _ h))];exact nm a h
 ·rw [br (hn a h),br (hn a h)]
  rw [br (hn a h)] at z;rw [br (hn a h)] at h;exact f.keep a h n z
 ·rcases f.pn a h with z | z | z
  ·exact .inl z
  ·exact .inr (.inl (by rw [br (nP' a h)];exact z))
  ·exact .inr (.inr z)
 ·rw [br (hn a h)]
  rw [br (hn a h)] at h;exact f.sm a h
 ·have ne:=hn a (by rw [h];exact fun z=>nomatch z)
  rw [br ne] at h ⊢;exact f.fz a o u h
end
def gC (gd:Gd) (g:GF) (t:TF) (f:EF) (sl:Sl):List AV->aa->Option (List AV × aa)
 | [],st=>if bQ gd st=true then some ([],st) else none
 | x::xs,st=>if bQ gd st=true then (g x sl st).bind fun p=>(t p.1 p.2).bind fun q=>if q.1=true then (f p.1 q.2).bind fun r=>(gC gd g t f sl xs r.2).map fun z=>(r.1::z.1,z.2) else gC gd g t f sl xs q.2 else none
def zw (k:Nat) (it:IF) (g:GF) (t:TF) (f:EF):NF:=fun sl st=>(it sl st).bind fun p=>if cE p.1.Mz.length=true then gC p.1.gd g t f (sl++List.replicate k none) p.1.Mz p.2 else none
def HX:TF:=fun _ st=>some (true,st)
theorem MH.ext0 (h:MH mg P H φ sl σ) (k:Nat):MH mg P H φ (sl++List.replicate k none) (σ++List.replicate k none):=by
 refine ⟨by rw [zV,zV,h.1,List.length_replicate,List.length_replicate],fun i v e=>?_⟩;have hi:i < sl.length:=by
  rcases yR i sl.length with z | z
  ·exact z
  ·rw [z5 z,List.getElem?_replicate] at e
   split at e <;> cases e
 rw [zN hi] at e;rw [zN (by rw [<- h.1];exact hi)];exact h.2 i v e
def pf (n:Nat) (g:GF):Prop:=∀ x sl st sl' st',g x sl st=some (sl',st')->sl'.length=sl.length/\∀ j,j < n->sl'[j]?=sl[j]?
theorem MH.back {k:Nat} (h:MH mg P H φ sl' σ) (hl:sl'.length=(sl++List.replicate k none).length) (hj:∀ j,j < sl.length->sl'[j]?=(sl++List.replicate k none)[j]?):MH mg P H φ (sl++List.replicate k none) σ:=by
 refine ⟨by rw [<- hl];exact h.1,fun i v e=>?_⟩;have hi:i < sl.length:=by
  rcases yR i sl.length with z | z
  ·exact z
  ·rw [z5 z,List.getElem?_replicate] at e
   split at e <;> cases e
 exact h.2 i v (by rw [hj i hi];exact e)
theorem ED [My] {n k:Nat} (hk:pf n g) (hn:σ.length=n) (h:rN mg (zw k it g t f) σ H Q):CB k (rI mg it) (rG mg g) (rT mg t) (rE mg f) σ H Q:=by
 obtain ⟨P,φ,sl,st,rs,s,out,stE,ef,kk⟩:=h;obtain ⟨q,e1,e2⟩:=zA ef;split at e2
 ·rename_i hz
  refine ⟨P,φ,sl,st,rs,s,q.1,q.2,e1,fun P1 φ1 H1 J f1 s1 ij=>fun p hp=>?_⟩;have hsl:sl.length=n:=by rw [rs.1];exact hn
  refine ⟨fun i m σ' H'=>m=q.1.Mz.length - i/\i <= q.1.Mz.length/\∃ P' φ' st' xs vs zs,Frm P1 φ1 H1 P' φ' (hid H' p)/\Sim mg P' φ' st' (hid H' p)/\MH mg P' (hid H' p) φ' (sl++List.replicate k none) σ'/\H' p=some (.lst vs)/\MA mg P' (hid H' p) φ' xs vs/\xs.length <= i /\
    gC q.1.gd g t f (sl++List.replicate k none) (q.1.Mz.drop i) st'=some (zs,stE)/\out=xs++zs,⟨_,rfl,Nat.zero_le _,P1,φ1,q.2,[],[],out,?_⟩,?_⟩
  ·have e:hid (af H1 p (.lst [])) p=H1:=by rw [sE,xY hp]
   rw [e];exact ⟨Frm.refl,s1,(rs.frm f1).ext0 k,au,bg,zP _,by simpa using e2,rfl⟩
  ·rintro i m σ' H' ⟨rfl,hle,P2,φ2,st2,xs,vs,zs,f2,s2,rs2,hv,rx,hlen,eg,eo⟩
   obtain ⟨s2v,ex2⟩:=s2.sh _ hv;have rs2v:MH mg P2 H' φ2 (sl++List.replicate k none) σ':=⟨rs2.1,fun i v e=>let ⟨w,e',r⟩:=rs2.2 i v e;⟨w,e',r.mono ex2 fun _ _ z=>z⟩⟩;have hpn:H' p ≠ none:=by rw [hv];exact fun z=>nomatch z
   -- the iterator's rules hold at the whole heap: it keeps what is out of sight as it is
   have f2v:Frm P1 φ1 H1 P2 φ2 H':=by
    refine ⟨fun a h=>⟨(f2.ext a h).1,?_⟩,f2.new,fun a h n z=>?_,fun a h=>f2.pn a h,fun a h=>?_,fun a o u h=>?_⟩
    ·have ne:a ≠ p:=fun e=>s1.dom a h (by rw [e];exact hp)
     rw [<- br (H:=H') ne];exact (f2.ext a h).2
    ·have ne:a ≠ p:=fun e=>h (by rw [e];exact hp)
     rw [<- br (H:=H') ne];exact f2.keep a h n z
    ·have ne:a ≠ p:=fun e=>h (by rw [e];exact hp)
     rw [<- br (H:=H') ne];exact f2.sm a h
    ·have ne:a ≠ p:=aZ h hp
     rw [<- br (H:=H') ne];exact f2.fz a o u h
   rcases yR i q.1.Mz.length with hi | hi
   ·right
    rw [List.drop_eq_getElem_cons hi] at eg;simp only [gC] at eg;split at eg
    ·rename_i hgd
     obtain ⟨go,yl⟩:=ij.go P2 φ2 H' st2 i _ f2v s2v hgd (zF hi);refine ⟨go,fun x H3 hy=>?_⟩;obtain ⟨P3,f3,s3,r3⟩:=yl x H3 hy;obtain ⟨q4,e4,e5⟩:=zA eg;obtain ⟨q6,e6,e7⟩:=zA e5;obtain ⟨kl,kj⟩:=hk _ _ _ _ _ e4;refine ⟨P3,φ2,sl++List.replicate k none,st2,q.1.Mz[i],rs2v.frm f3,s3,r3,q4.1,q4.2,e4,fun P4 φ4 H4 σ4 f4 s4 rs4=>⟨P4,φ4,q4.1,q4.2,rs4,s4,q6.1,q6.2,e6,fun P5 φ5 H5 c f5 s5 r5=>?_⟩⟩;cases r5;have f35:=(f3.trans f4).trans f5;have back:∀ {P6:Pr}{φ6:List Addr}{H6:Hp},Frm P5 φ5 H5 P6 φ6 H6->MH mg P6 H6 φ6 (sl++List.replicate k none) σ4:=fun f6=>((rs4.frm f5).frm f6).back kl fun j hj=>kj j oM
     cases hc:q6.1 with
     | true =>
      rw [hc] at e7;simp only [if_true] at e7 ⊢;obtain ⟨q8,e8,e9⟩:=zA e7;obtain ⟨z,e10,e11⟩:=zE.mp e9;cases e11;refine ⟨P5,φ5,q4.1,q6.2,rs4.frm f5,s5,q8.1,q8.2,e8,fun P6 φ6 H6 y f6 s6 r6=>?_⟩;obtain ⟨fh,sh,exh,hpe⟩:=Frm.hd s2 ⟨_,hv⟩ (f35.trans f6) s6;refine ⟨vs,by rw [hpe];exact hv,?_,q.1.Mz.length - (i + 1),by omega,rfl,hi,P6,φ6,q8.2,xs++[q8.1],vs++[y],z.1,?_⟩
      ·rw [<- rx.length]
       have h1:=zS hz;have h2:(1000000:Nat) < sizeLine:=by decide
       omega
      ·have eh:hid (af H6 p (.lst (vs++[y]))) p=hid H6 p:=sE
       rw [eh];refine ⟨f2.trans fh,sh,?_,au,(rx.frm fh).app (aS (r6.mono exh fun _ _ z=>z) bg),by rw [zV];simp;omega,e10,by rw [eo,yM];rfl⟩
       have:=back f6
       exact ⟨this.1,fun i v e=>let ⟨w,e',r⟩:=this.2 i v e;⟨w,e',r.mono exh fun _ _ z=>z⟩⟩
     | false =>
      rw [hc] at e7;simp only [yA,if_false] at e7 ⊢;obtain ⟨fh,sh,exh,hpe⟩:=Frm.hd s2 ⟨_,hv⟩ f35 s5;refine ⟨q.1.Mz.length - (i + 1),by omega,rfl,hi,P5,φ5,q6.2,xs,vs,zs,f2.trans fh,sh,?_,by rw [hpe];exact hv,rx.frm fh,by omega,e7,eo⟩
      have:=back Frm.refl
      exact ⟨this.1,fun i v e=>let ⟨w,e',r⟩:=this.2 i v e;⟨w,e',r.mono exh fun _ _ z=>z⟩⟩
    ·cases eg
   ·left
    have ei:i=q.1.Mz.length:=Nat.le_antisymm hle hi;subst ei;rw [List.drop_length] at eg;simp only [gC] at eg;split at eg
    ·rename_i hgd
     cases eg;refine ⟨ij.stop P2 φ2 H' _ f2v s2v hgd,?_⟩
     have:=kk P2 φ2 (hid H' p) p vs (f1.trans f2) s2 cY (by rw [eo,List.append_nil];exact rx)
     rw [AI hv] at this;exact this
    ·cases eg
 ·cases e2
def wp [My] (X:Cx) (ifs:List Expr) (t:TF):Prop:=sU X ifs (rT X.gm t)
section
variable {X:Cx}{elt iter tg:Expr}{ifs:List Expr}{N':List Str}{scope:Scope}{pos:Pos}{it:IF}{g:GF}{t:TF}{f:EF}
theorem A9 [My]:wp X [] HX:=fun Mv s σ H Q I ⟨P,φ,sl,st,rs,sm,k⟩=>Bs Mv s σ H Q I (k.pure sm rfl)
theorem A8 [My] (h:QT X e t):wp X [e] t:=Br h
theorem Fz {e:Expr}{t t':TE} (h:PE X e t) (i:∀ σ H Q,σ.length=X.N.length->t' σ H Q->t σ H Q):PE X e t':=fun Mv s σ H Q I h'=>h Mv s σ H Q I (i σ H Q I.len h')
theorem Fx {st:Stmt}{t t':TS} (h:PS X st t) (i:∀ D σ H,σ.length=X.N.length->t' D σ H->t D σ H):PS X st t':=fun Mv s σ H D I h'=>h Mv s σ H D I (i D σ H I.len h')
theorem F8 [My] (hc:X.calm=true) (T:jF X N' scope) (hi:QI X tg iter it) (hg:∀ cl s H fp Mv,QG (cg X N' scope cl s H fp Mv) tg g) (ht:∀ cl s H fp Mv,wp (cg X N' scope cl s H fp Mv) ifs t)
  (he:∀ cl s H fp Mv,QE (cg X N' scope cl s H fp Mv) elt f) (hk:pf X.N.length g) (hs:∀ x,foldedSetIterable iter X.env x=pure x):QN X (.ListComp elt [⟨tg,iter,ifs,0⟩] scope pos) (zw (N'.length - X.N.length) it g t f) :=
 Fz (Gu (g:=rG X.gm g) (tt:=rT X.gm t) (te:=rE X.gm f) hc T hi (fun cl s H fp Mv=>hg cl s H fp Mv) (fun cl s H fp Mv=>ht cl s H fp Mv) (fun cl s H fp Mv=>he cl s H fp Mv) hs) fun σ H Q hl h=>ED hk hl h
end
inductive Out where
 | nx (sl:Sl) (st:aa) | rt (v:AV) (st:aa) | bk (sl:Sl) (st:aa) | ct (sl:Sl) (st:aa)
abbrev SF:=Sl->aa->Option Out
def ThO [My] (mg:Gm) (P:Pr) (φ:List Addr) (H:Hp) (D:iT):Out->Prop
 | .nx sl st=>∀ P' φ' H' σ',Frm P φ H P' φ' H'->Sim mg P' φ' st H'->MH mg P' H' φ' sl σ'->D.nx σ' H'
 | .bk sl st=>∀ P' φ' H' σ',Frm P φ H P' φ' H'->Sim mg P' φ' st H'->MH mg P' H' φ' sl σ'->D.bk σ' H'
 | .ct sl st=>∀ P' φ' H' σ',Frm P φ H P' φ' H'->Sim mg P' φ' st H'->MH mg P' H' φ' sl σ'->D.ct σ' H'
 | .rt v st=>∀ P' φ' H' w,Frm P φ H P' φ' H'->Sim mg P' φ' st H'->RA mg P' H' φ' v w->D.rt w H'
def KO [My] (mg:Gm) (P:Pr) (φ:List Addr) (H:Hp) (r:Option Out) (D:iT):Prop:=∃ o,r=some o/\ThO mg P φ H D o
def rS [My] (mg:Gm) (f:SF):TS:=fun D σ H=>∃ P φ sl st,MH mg P H φ sl σ/\Sim mg P φ st H/\KO mg P φ H (f sl st) D
def QS [My] (X:Cx) (st:Stmt) (f:SF):Prop:=PS X st (rS X.gm f)
def kA [My] (X:Cx) (sts:List Stmt) (f:SF):Prop:=PSs X sts (rS X.gm f)
theorem ThO.frm [My] (h:ThO mg P φ H D o) (f:Frm P φ H P1 φ1 H1):ThO mg P1 φ1 H1 D o:=by
 cases o with
 | nx sl st=>exact fun P' φ' H' σ' f'=>h P' φ' H' σ' (f.trans f')
 | bk sl st=>exact fun P' φ' H' σ' f'=>h P' φ' H' σ' (f.trans f')
 | ct sl st=>exact fun P' φ' H' σ' f'=>h P' φ' H' σ' (f.trans f')
 | rt v st=>exact fun P' φ' H' σ' f'=>h P' φ' H' σ' (f.trans f')
theorem KO.bindE [My] {α β:Type}{Ra:Gm->Pr->Hp->List Addr->α->β->Prop}{m:Option (α × aa)}{k:α × aa->Option Out} (h:KO mg P φ H (m.bind k) D) :
  KG mg Ra P φ H m fun b H1=>∃ P1 φ1 st1 a,Frm P φ H P1 φ1 H1/\Sim mg P1 φ1 st1 H1/\Ra mg P1 H1 φ1 a b/\KO mg P1 φ1 H1 (k (a,st1)) D:=by
 obtain ⟨o,e,q⟩:=h;cases m with
 | none=>cases e
 | some p=>exact ⟨p.1,p.2,rfl,fun P1 φ1 H1 b f s r=>⟨P1,φ1,p.2,p.1,f,s,r,o,e,q.frm f⟩⟩
theorem KO.nx [My] {mg:Gm}{P:Pr}{φ:List Addr}{H:Hp}{sl:Sl}{st:aa}{D:iT}{σ:St} (h:KO mg P φ H (some (.nx sl st)) D) (s:Sim mg P φ st H) (r:MH mg P H φ sl σ):D.nx σ H:=by
 obtain ⟨o,e,q⟩:=h;cases e;exact q P φ H σ Frm.refl s r
theorem KO.no [My] (h:KO mg P φ H none D):False:=by obtain ⟨_,e,_⟩:=h;cases e
section
variable {X:Cx}{st:Stmt}{rest:List Stmt}{e c tg:Expr}{pos:Pos}{s t:SF}{f:EF}{g:GF}{b:TF}
def Ii:SF:=fun sl st=>some (.nx sl st)
def Ig (s t:SF):SF:=fun sl st=>(s sl st).bind fun o=>match o with
 | .nx sl st=>t sl st
 | o=>some o
theorem A0 [My]:kA X [] Ii:=PSs_imp Bl fun D σ H ⟨P,φ,sl,st,rs,s,k⟩=>k.nx s rs
theorem wR [My] (h1:QS X st s) (h2:kA X rest t):kA X (st::rest) (Ig s t):=PSs_imp (wX h1 h2) fun D σ H hq0=>by
 obtain ⟨P,φ,sl,st,rs,sm,o,e,q⟩:=hq0;obtain ⟨o1,e1,e2⟩:=zA e;refine ⟨P,φ,sl,st,rs,sm,o1,e1,?_⟩;cases o1 with
 | nx sl1 st1=>exact fun P' φ' H' σ' f' s' rs'=>⟨P',φ',sl1,st1,rs',s',o,e2,q.frm f'⟩
 | bk sl1 st1=>cases e2;exact q
 | ct sl1 st1=>cases e2;exact q
 | rt v st1=>cases e2;exact q
def zh:SF:=fun _ _=>none
theorem A3 [My]:QS X st zh:=PS_imp wZ fun D σ H ⟨P,φ,sl,st,rs,s,k⟩=>k.no
theorem wQ [My]:kA X sts zh:=PSs_imp vf fun D σ H ⟨P,φ,sl,st,rs,s,k⟩=>k.no
def Il (f:EF):SF:=fun sl st=>(f sl st).bind fun p=>some (.nx sl p.2)
theorem A2 [My] (he:QE X e f) (hs:swapsWith e none pos.line X.env=pure false):QS X (.Expr e pos) (Il f):=PS_imp (Bn he hs) fun D σ H ⟨P,φ,sl,st,rs,s,k⟩=>⟨P,φ,sl,st,rs,s,by
 obtain ⟨a,st',e1,q⟩:=k.bindE (Ra:=RA);refine ⟨a,st',e1,fun P1 φ1 H1 w f1 s1 r1=>?_⟩;obtain ⟨P2,φ2,st2,x,f2,s2,r2,k2⟩:=q P1 φ1 H1 w f1 s1 r1;exact k2.nx s2 (rs.frm f2)⟩
def Ih (f:EF):SF:=fun sl st=>(f sl st).bind fun p=>some (.rt p.1 p.2)
theorem CV [My] (he:QE X e f):QS X (.Return (some e) pos) (Ih f):=PS_imp (Dl he) fun D σ H ⟨P,φ,sl,st,rs,s,k⟩=>⟨P,φ,sl,st,rs,s,by
 obtain ⟨a,st',e1,q⟩:=k.bindE (Ra:=RA);refine ⟨a,st',e1,fun P1 φ1 H1 w f1 s1 r1=>?_⟩;obtain ⟨P2,φ2,st2,x,f2,s2,r2,o,eo,q2⟩:=q P1 φ1 H1 w f1 s1 r1;cases eo;exact q2 P2 φ2 H1 w Frm.refl s2 r2⟩
def Ij (b:TF) (s t:SF):SF:=fun sl st=>(b sl st).bind fun p=>if p.1=true then s sl p.2 else t sl p.2
theorem F6 [My] (hc:QT X c b) (ha:kA X x s) (hb:kA X y t):QS X (.If c x y pos) (Ij b s t):=PS_imp (Gn hc ha hb) fun D σ H ⟨P,φ,sl,st,rs,sm,k⟩=>⟨P,φ,sl,st,rs,sm,by
 obtain ⟨a,st',e1,q⟩:=k.bindE (Ra:=RB);refine ⟨a,st',e1,fun P1 φ1 H1 w f1 s1 r1=>?_⟩;obtain ⟨P2,φ2,st2,x,f2,s2,r2,k2⟩:=q P1 φ1 H1 w f1 s1 r1;cases r2;cases w with
 | true=>exact ⟨P2,φ2,sl,st2,rs.frm f2,s2,k2⟩
 | false=>exact ⟨P2,φ2,sl,st2,rs.frm f2,s2,k2⟩⟩
def u4 (f:EF) (g:GF):SF:=fun sl st=>(f sl st).bind fun p=>(g p.1 sl p.2).bind fun q=>some (.nx q.1 q.2)
theorem uE [My] (h:rS mg (u4 f g) D σ H):tq (rE mg f) (rG mg g) D σ H:=by
 obtain ⟨P,φ,sl,st,rs,s,o,e,q⟩:=h;obtain ⟨p,e1,e2⟩:=zA e;obtain ⟨r,e3,e4⟩:=zA e2;cases e4;exact ⟨P,φ,sl,st,rs,s,p.1,p.2,e1,fun P1 φ1 H1 w f1 s1 r1=>⟨P1,φ1,sl,p.2,p.1,rs.frm f1,s1,r1,r.1,r.2,e3,fun P2 φ2 H2 σ2 f2 s2 rs2=>q P2 φ2 H2 σ2 (f1.trans f2) s2 rs2⟩⟩
theorem vc [My] (he:QE X e f) (hg:QG X tg g) (hs:swapsWithSole [tg] e pos.line X.env=pure false) (hw:swappedStores [tg] e X.env=pure none) (h1:(assignEach [tg] X.env).map (·.2)=[assign tg X.env]):QS X (.Assign [tg] e pos) (u4 f g) :=
 PS_imp (Dn he hg hs hw h1) fun D σ H h=>uE h
theorem Ea [My] {i:Nat} (h:rG mg (vY i) v σ H Q):mT i v σ H Q:=by
 obtain ⟨P,φ,sl,st,x,rs,s,rx,k⟩:=h;exact k.pure s (rs.set rx i)
theorem u9 [My] {i:Nat} (hN:X.N.Nodup) (hi:X.N[i]?=some x) (hx:Loc X.env.scope x) (he:QE X e f) (hs:swapsWith e (some (.Name x pos')) pos.line X.env=pure false) (hf:X.fn x=true\/X.env.scope.names.lookup x=some .local) :
  QS X (.Assign [.Name x pos'] e pos) (u4 f (vY i)):=PS_imp (Dk hN hi hx he hs hf) fun D σ H h=>by
 obtain ⟨P,φ,sl,st,rs,s,p1,p2,e1,k⟩:=uE h;exact ⟨P,φ,sl,st,rs,s,p1,p2,e1,fun P1 φ1 H1 w f1 s1 r1=>Ea (k P1 φ1 H1 w f1 s1 r1)⟩
def Au (m:Bool) (f:NF):EF:=if m=true then La f else Lb f
theorem DZ [My] {mg:Gm}{m:Bool}{f:NF}{σ:St}{H:Hp}{Q:VK} (h:rE mg (Au m f) σ H Q):rN mg f σ H Q:=by
 obtain ⟨P,φ,sl,st,rs,s,v,st',ev,k⟩:=h;cases m with
 | true =>
  obtain ⟨q,e1,e2⟩:=zA ev;cases e2;refine ⟨P,φ,sl,st,rs,s,q.1,q.2,e1,fun P1 φ1 H1 p vs f1 s1 hp r1=>?_⟩;obtain ⟨f3,s3,r3⟩:=Ed s1 hp r1;exact k P1 _ _ _ (f1.trans f3) s3 r3
 | false =>
  obtain ⟨q,e1,e2⟩:=zA ev;split at e2
  ·rename_i hr
   cases e2;refine ⟨P,φ,sl,st,rs,s,q.1,q.2,e1,fun P1 φ1 H1 p vs f1 s1 hp r1=>?_⟩;obtain ⟨P3,f3,s3,r3⟩:=E4 s1 hp hr r1;exact k P3 φ1 _ _ (f1.trans f3) s3 r3
  ·cases e2
theorem Gg [My] {m:Bool}{f:NF} (h:QN X e f):QE X e (Au m f):=PE_imp h fun _ _ _ q=>DZ q
theorem u8 [My] {i:Nat}{y:Str}{py:Pos}{elt iter tg:Expr}{ifs:List Expr}{N':List Str}{scope:Scope}{pos spos:Pos}{it:IF}{g:GF}{t:TF}{f:EF}{m:Bool} (hN:X.N.Nodup) (hiN:X.N[i]?=some y) (hx:Loc X.env.scope y)
  (hsw:swapsWith (.ListComp elt [⟨tg,iter,ifs,0⟩] scope pos) (some (.Name y py)) spos.line X.env=pure true)
  (hc:X.calm=true) (T:jF X N' scope) (hi:QI X tg iter it) (hg:∀ cl s H fp Mv,QG (cg X N' scope cl s H fp Mv) tg g) (ht:∀ cl s H fp Mv,wp (cg X N' scope cl s H fp Mv) ifs t)
  (he:∀ cl s H fp Mv,QE (cg X N' scope cl s H fp Mv) elt f) (hk:pf X.N.length g) (hs:∀ x,foldedSetIterable iter X.env x=pure x) (hf:X.fn y=true\/X.env.scope.names.lookup y=some .local) :
  QS X (.Assign [.Name y py] (.ListComp elt [⟨tg,iter,ifs,0⟩] scope pos) spos) (u4 (Au m (zw (N'.length - X.N.length) it g t f)) (vY i)) :=
 Fx (vg (g:=rG X.gm g) (tt:=rT X.gm t) (te:=rE X.gm f) hN hiN hx hsw hc T hi (fun cl s H fp Mv=>hg cl s H fp Mv) (fun cl s H fp Mv=>ht cl s H fp Mv) (fun cl s H fp Mv=>he cl s H fp Mv) hs hf) fun D σ H hl h=>by
  obtain ⟨P,φ,sl,st,rs,s,p1,p2,e1,k⟩:=uE h;exact ED hk hl (DZ (m:=m) ⟨P,φ,sl,st,rs,s,p1,p2,e1,fun P1 φ1 H1 w f1 s1 r1=>Ea (k P1 φ1 H1 w f1 s1 r1)⟩)
def uD (o:Operator) (_:aa):AV->AV->Option AV
 | .int a,.int b=>match o with
  | .Add=>some (.int (a + b))
  | .Sub=>some (.int (a - b))
  | _=>none
 | _,_=>none
theorem JS [My] (o:Operator):Az X o (fun x y H Q=>∃ P φ st a b c,Sim X.gm P φ st H/\RA X.gm P H φ a x/\RA X.gm P H φ b y/\uD o st a b=some c/\∀ w,RA X.gm P H φ c w->Q w H):=by
 rintro Mv s σ H x y v u Q I rx ry ⟨P,φ,st,a,b,c,sm,ra,rb,e,k⟩;cases a <;> cases b <;> simp only [uD] at e <;> first | (cases e;done) | skip
 rename_i i j;simp only [RA] at ra rb;subst ra;subst rb;cases o <;> first | (cases e;done) | skip
 ·cases e
  exact ES Mv s σ H _ _ v u Q I rx ry ⟨i,j,rfl,rfl,k _ (by simp only [RA])⟩
 ·cases e
  exact ER Mv s σ H _ _ v u Q I rx ry ⟨i,j,rfl,rfl,k _ (by simp only [RA])⟩
theorem G3 [My]:yw X (fun x y H Q=>∃ P φ st a b c,Sim X.gm P φ st H/\RA X.gm P H φ a x/\RA X.gm P H φ (.int b) y/\(∃ xs,bn st a=some xs/\fL xs b=some c)/\∀ w,RA X.gm P H φ c w->Q w H):=by
 rintro Mv s σ H x y v u Q I rx ry ⟨P,φ,st,a,b,c,sm,ra,rb,⟨xs,e1,e2⟩,k⟩;obtain ⟨p,vs,rfl,d1,q1⟩:=ra.ls sm e1;obtain ⟨w,e3,r3⟩:=oh q1 e2;simp only [RA] at rb;exact yc Mv s σ H _ y v u Q I rx ry ⟨p,vs,b,w,rfl,rb,d1,e3,k w r3⟩
def tE (o:Operator) (f g h:EF):SF:=fun sl st=>(f sl st).bind fun p=>(g sl p.2).bind fun q=>match q.1 with
 | .int i=>(bn q.2 p.1).bind fun xs=>(fL xs i).bind fun x=>(h sl q.2).bind fun r=>(uD o r.2 x r.1).bind fun z=>(jm r.2 p.1 (.int i) z).bind fun st'=>some (.nx sl st')
 | _=>none
theorem A4 [My] {a i:Expr}{f g h:EF}{o:Operator}{tpos:Pos} (hu:X.A.units + 64 < cLine) (ho:QE X a f) (hi:QE X i g) (he:QE X e h)
  (ha:∀ ov iv new,augStore i ov iv new=(do holding [new,ov,iv] (setItem ov iv new);release [new,ov,iv] [];pure .next)):QS X (.AugAssign (.Subscript a i tpos) o e pos) (tE o f g h) :=
 PS_imp (Bo ho hi G3 he (JS o) (zg hu) ha) fun D σ H hq0=>by
  obtain ⟨P,φ,sl,st,rs,s,out,eo,q⟩:=hq0;obtain ⟨p,e1,e2⟩:=zA eo;obtain ⟨r,e3,e4⟩:=zA e2;split at e4
  ·rename_i j hj
   obtain ⟨xs,e5,e6⟩:=zA e4;obtain ⟨x,e7,e8⟩:=zA e6;obtain ⟨t,e9,e10⟩:=zA e8;obtain ⟨z,e11,e12⟩:=zA e10;obtain ⟨st',e13,e14⟩:=zA e12;cases e14;refine ⟨P,φ,sl,st,rs,s,p.1,p.2,e1,fun P1 φ1 H1 w1 f1 s1 r1=>⟨P1,φ1,sl,p.2,rs.frm f1,s1,r.1,r.2,e3,fun P2 φ2 H2 w2 f2 s2 r2=>?_⟩⟩;rw [hj] at r2;refine ⟨P2,φ2,r.2,p.1,j,x,s2,r1.frm f2,r2,⟨xs,e5,e7⟩,fun w3 r3=>⟨P2,φ2,sl,r.2,(rs.frm f1).frm f2,s2,t.1,t.2,e9,fun P3 φ3 H3 w4 f3 s3 r4=>⟨P3,φ3,t.2,x,t.1,z,s3,r3.frm f3,r4,e11,fun w5 r5=>⟨P3,φ3,t.2,p.1,.int j,z,st',s3,(r1.frm f2).frm f3,r2.frm f3,r5,e13,fun P4 φ4 H4 f4 s4=>?_⟩⟩⟩⟩;exact q P4 φ4 H4 σ (((f1.trans f2).trans f3).trans f4) s4 ((((rs.frm f1).frm f2).frm f3).frm f4)
  ·cases e4
end
def cZ (gd:Gd) (g:GF) (s:SF):List AV->Sl->aa->Option Out
 | [],sl,st=>if bQ gd st=true then some (.nx sl st) else none
 | x::xs,sl,st=>if bQ gd st=true then (g x sl st).bind fun p=>(s p.1 p.2).bind fun o=>match o with
  | .nx sl st=>cZ gd g s xs sl st
  | .ct sl st=>cZ gd g s xs sl st
  | .bk sl st=>some (.nx sl st)
  | .rt v st=>some (.rt v st) else none
def Ik (it:IF) (g:GF) (s:SF):SF:=fun sl st=>(it sl st).bind fun p=>cZ p.1.gd g s p.1.Mz sl p.2
def dA (t:TF) (s:SF):Nat->Sl->aa->Option Out
 | 0,_,_=>none
 | n + 1,sl,st=>(t sl st).bind fun p=>if p.1=true then (s sl p.2).bind fun o=>match o with
  | .nx sl st=>dA t s n sl st
  | .ct sl st=>dA t s n sl st
  | .bk sl st=>some (.nx sl st)
  | .rt v st=>some (.rt v st) else some (.nx sl p.2)
open Classical in
def pF (t:TF) (s:SF):SF:=fun sl st=>if h:∃ n,(dA t s n sl st).isSome=true then dA t s (Classical.choose h) sl st else none
theorem dz:∀ {n m:Nat}{sl:Sl}{st:aa}{o:Out},n <= m->dA t s n sl st=some o->dA t s m sl st=some o:=by
 intro n
 induction n with
 | zero=>intro m sl st o _ h;cases h
 | succ n ih =>
  intro m sl st o hm h;cases m with
  | zero=>omega
  | succ m =>
   simp only [dA] at h ⊢;obtain ⟨p,e1,e2⟩:=zA h;rw [e1,bind_some];split at e2
   ·rename_i hc
    rw [yH hc];obtain ⟨q,e3,e4⟩:=zA e2;rw [e3,bind_some];cases q with
    | nx sl st=>exact ih oM e4
    | ct sl st=>exact ih oM e4
    | bk sl st=>exact e4
    | rt v st=>exact e4
   ·rename_i hc
    rw [yG hc];exact e2
theorem mo {t:TF}{s:SF}{n:Nat}{sl:Sl}{st:aa}{o:Out} (h:dA t s n sl st=some o):pF t s sl st=some o:=by
 have hx:∃ n,(dA t s n sl st).isSome=true:=⟨n,by rw [h];rfl⟩;unfold pF;rw [dif_pos hx];obtain ⟨o',e'⟩:=Option.isSome_iff_exists.mp (Classical.choose_spec hx);have h1:=dz (Nat.le_max_left n (Classical.choose hx)) h;have h2:=dz (Nat.le_max_right n (Classical.choose hx)) e';rw [e',<- h1,h2]
theorem vz {t:TF}{s:SF}{sl:Sl}{st:aa}{o:Out} (h:pF t s sl st=some o):∃ n,dA t s n sl st=some o:=by
 unfold pF at h;split at h
 ·exact ⟨_,h⟩
 ·cases h
section
variable {X:Cx}{tg iter c:Expr}{body:List Stmt}{pos:Pos}{it:IF}{g:GF}{s:SF}{t:TF}
theorem CW [My] (hp:PassesOwn (model X.prog X.w) X.A X.env X.xe) (hc:X.calm=true) (hi:QI X tg iter it) (hg:QG X tg g) (hb:kA X body s) (hs:∀ x,foldedSetIterable iter X.env x=pure x):QS X (.For tg iter body [] pos) (Ik it g s) :=
 PS_imp (vh hp hc hi hg hb hs) fun D σ H hq0=>by
  obtain ⟨P,φ,sl,st,rs,sm,o,e,q⟩:=hq0;obtain ⟨p,e1,e2⟩:=zA e;refine ⟨P,φ,sl,st,rs,sm,p.1,p.2,e1,fun P1 φ1 H1 J f1 s1 ij=>?_⟩;have q1:=q.frm f1;refine ⟨fun i m σ' H'=>m=p.1.Mz.length - i/\i <= p.1.Mz.length/\∃ P' φ' sl' st',Frm P1 φ1 H1 P' φ' H'/\Sim X.gm P' φ' st' H'/\MH X.gm P' H' φ' sl' σ'/\cZ p.1.gd g s (p.1.Mz.drop i) sl' st'=some o,⟨_,rfl,Nat.zero_le _,P1,φ1,sl,p.2,Frm.refl,s1,rs.frm f1,by simpa using e2⟩,?_⟩;rintro i m σ' H' ⟨rfl,hle,P2,φ2,sl2,st2,f2,s2,rs2,eg⟩;rcases yR i p.1.Mz.length with hlt | hge
  ·right
   rw [List.drop_eq_getElem_cons hlt] at eg;simp only [cZ] at eg;split at eg
   ·rename_i hgd
    obtain ⟨go,yl⟩:=ij.go P2 φ2 H' st2 i _ f2 s2 hgd (zF hlt);obtain ⟨q4,e4,e5⟩:=zA eg;obtain ⟨o1,e6,e7⟩:=zA e5;refine ⟨go,fun σ' H'=>∃ P' φ' sl' st',Frm P1 φ1 H1 P' φ' H'/\Sim X.gm P' φ' st' H'/\MH X.gm P' H' φ' sl' σ'/\cZ p.1.gd g s (p.1.Mz.drop (i + 1)) sl' st'=some o,fun σ' H' z=>⟨_,by omega,rfl,hlt,z⟩,fun x H3 hy=>?_⟩;obtain ⟨P3,f3,s3,r3⟩:=yl x H3 hy;refine ⟨P3,φ2,sl2,st2,_,rs2.frm f3,s3,r3,q4.1,q4.2,e4,fun P4 φ4 H4 σ4 f4 s4 rs4=>⟨P4,φ4,q4.1,q4.2,rs4,s4,o1,e6,?_⟩⟩;have fa:=(f2.trans f3).trans f4;cases o1 with
    | nx sl5 st5=>exact fun P5 φ5 H5 σ5 f5 s5 rs5=>⟨P5,φ5,sl5,st5,fa.trans f5,s5,rs5,e7⟩
    | ct sl5 st5=>exact fun P5 φ5 H5 σ5 f5 s5 rs5=>⟨P5,φ5,sl5,st5,fa.trans f5,s5,rs5,e7⟩
    | bk sl5 st5=>cases e7;exact fun P5 φ5 H5 σ5 f5 s5 rs5=>q1 P5 φ5 H5 σ5 (fa.trans f5) s5 rs5
    | rt v st5=>cases e7;exact fun P5 φ5 H5 w f5 s5 r5=>q1 P5 φ5 H5 w (fa.trans f5) s5 r5
   ·cases eg
  ·left
   have ei:i=p.1.Mz.length:=Nat.le_antisymm hle hge;subst ei;rw [List.drop_length] at eg;simp only [cZ] at eg;split at eg
   ·rename_i hgd
    cases eg;exact ⟨ij.stop P2 φ2 H' _ f2 s2 hgd,q1 P2 φ2 H' σ' f2 s2 rs2⟩
   ·cases eg
theorem wS [My] (hp:PassesOwn (model X.prog X.w) X.A X.env X.xe) (hc:QT X c t) (hb:kA X body s):QS X (.While c body [] pos) (pF t s) :=
 PS_imp (wY hp hc hb) fun D σ H hq0=>by
  obtain ⟨P,φ,sl,st,rs,sm,o,e,q⟩:=hq0;obtain ⟨n0,e0⟩:=vz e;refine ⟨fun m σ' H'=>∃ P' φ' sl' st',Frm P φ H P' φ' H'/\Sim X.gm P' φ' st' H'/\MH X.gm P' H' φ' sl' σ'/\dA t s m sl' st'=some o,⟨n0,P,φ,sl,st,Frm.refl,sm,rs,e0⟩,?_⟩;rintro m σ' H' ⟨P2,φ2,sl2,st2,f2,s2,rs2,eg⟩;cases m with
  | zero=>cases eg
  | succ m =>
   simp only [dA] at eg;obtain ⟨p,e1,e2⟩:=zA eg;refine ⟨P2,φ2,sl2,st2,rs2,s2,p.1,p.2,e1,fun P3 φ3 H3 b f3 s3 r3=>?_⟩;cases r3;cases hb':p.1 with
   | true =>
    rw [hb'] at e2;simp only [if_true] at e2 ⊢;obtain ⟨o1,e6,e7⟩:=zA e2;refine ⟨fun σ' H'=>∃ P' φ' sl' st',Frm P φ H P' φ' H'/\Sim X.gm P' φ' st' H'/\MH X.gm P' H' φ' sl' σ'/\dA t s m sl' st'=some o,fun σ' H' z=>⟨m,Nat.lt_succ_self m,z⟩,P3,φ3,sl2,p.2,rs2.frm f3,s3,o1,e6,?_⟩;have fa:=f2.trans f3;cases o1 with
    | nx sl5 st5=>exact fun P5 φ5 H5 σ5 f5 s5 rs5=>⟨P5,φ5,sl5,st5,fa.trans f5,s5,rs5,e7⟩
    | ct sl5 st5=>exact fun P5 φ5 H5 σ5 f5 s5 rs5=>⟨P5,φ5,sl5,st5,fa.trans f5,s5,rs5,e7⟩
    | bk sl5 st5=>cases e7;exact fun P5 φ5 H5 σ5 f5 s5 rs5=>q P5 φ5 H5 σ5 (fa.trans f5) s5 rs5
    | rt v st5=>cases e7;exact fun P5 φ5 H5 w f5 s5 r5=>q P5 φ5 H5 w (fa.trans f5) s5 r5
   | false =>
    rw [hb'] at e2;simp only [yA,if_false] at e2 ⊢;cases e2;exact q P3 φ3 H3 σ' (f2.trans f3) s3 (rs2.frm f3)
end
abbrev Fn:=List AV->aa->Option (AV × aa)
def de [My] (mg:Gm) (n:Nat) (fn:Fn):Sp:=fun vs H Q _=>vs.length=n/\∃ P φ args st,MA mg P H φ args vs/\Sim mg P φ st H/\KG mg RA P φ H (fn args st) Q
def cq:Nat->aa->AV->Option AV
 | n + 1,st,.ref k=>match st[k]? with
  | some (.lst xs)=>(aO (cq n st) xs).map .fz
  | some (.al t)=>some t
  | _=>none
 | n + 1,st,.tup xs=>(aO (cq n st) xs).map .tup
 | 0,_,.ref _=>none
 | 0,_,.tup _=>none
 | _,_,t=>some t
def cx:aa->AV->Option AV:=cq 6
mutual
noncomputable def cQ:AV->Bool
 | .ref _=>false
 | .fz _=>false
 | .tup xs=>mW xs
 | _=>true
noncomputable def mW:List AV->Bool
 | []=>true
 | x::xs=>cQ x && mW xs
end
def eE (st:aa) (x:AV):Option (AV × aa):=if rf x=true then some (x,st) else match x with
 | .ref k=>match st[k]? with
  | some (.lst xs)=>if rfs xs=true then some (.fz xs,st.set k (.al (.fz xs))) else none
  | some (.al t)=>some (t,st)
  | _=>none
 | _=>none
def i7:aa->List AV->Option (List AV × aa)
 | st,[]=>some ([],st)
 | st,x::xs=>(eE st x).bind fun p=>(i7 p.2 xs).map fun q=>(p.1::q.1,q.2)
def pm (fn:Fn):Fn:=fun args st=>if rfs args=true then (fn args []).bind fun p=>(cx p.2 p.1).map fun t=>(t,st)
 else (aO (cx st) args).bind fun ts=>(fn ts []).bind fun p=>(cx p.2 p.1).bind fun t=>if cQ t=true then some (t,st) else
  (i7 st args).bind fun q=>(fn q.1 []).bind fun p=>(cx p.2 p.1).map fun t=>(t,q.2)
section
variable {mg:Gm}{P:Pr}{φ:List Addr}{st:aa}{H:Hp}
theorem wO [My] {n:Nat} (ih:∀ v w t,cq n st v=some t->RA mg P H φ v w->RA mg P' H [] t w):∀ {xs:List AV}{vs:List V}{ts:List AV},aO (cq n st) xs=some ts->MA mg P H φ xs vs->MA mg P' H [] ts vs:=by
 intro xs
 induction xs with
 | nil=>intro vs ts e r;cases e;simp only [MA] at r ⊢;exact r
 | cons x xs ihx =>
  intro vs ts e r;simp only [aO] at e;obtain ⟨y,e1,e2⟩:=zA e;obtain ⟨ys,e3,e4⟩:=zE.mp e2;subst e4;simp only [MA] at r;obtain ⟨v,ws,rfl,r1,r2⟩:=r;exact aS (ih x v y e1 r1) (ihx e3 r2)
theorem pH [My] (s:Sim mg P φ st H):∀ (n:Nat) (v:AV) (w:V) (t:AV),cq n st v=some t->RA mg P H φ v w->RA mg (fun a=>P a\/a ∈ φ) H [] t w:=by
 have ex:∀ a,P a->(P a\/a ∈ φ)/\H a=H a:=fun a h=>⟨.inl h,rfl⟩
 have pl:∀ {t:AV}{w:V},R.rf t=true->RA mg P H φ t w->RA mg (fun a=>P a\/a ∈ φ) H [] t w:=fun h r=>(RA.rf (ψ:=[]) h r).mono ex fun _ _ z=>z
 intro n
 induction n with
 | zero =>
  intro v w t e r;cases v <;> simp only [cq] at e <;> first | (cases e;done) | skip
  all_goals cases e;exact pl rfl r
 | succ n ih =>
  intro v w t e r;cases v with
  | ref k =>
   simp only [cq] at e;simp only [RA] at r;obtain ⟨a,ea,rfl⟩:=r;split at e
   ·rename_i xs hk
    obtain ⟨ts,e1,e2⟩:=zE.mp e;subst e2;obtain ⟨a',ea',c⟩:=s.at hk;rw [ea] at ea';cases ea';obtain ⟨_,vs,h1,h2⟩:=c;simp only [RA];exact ⟨a,vs,rfl,.inl ⟨.inr (zW ea),.inl h1⟩,wO ih e1 h2⟩
   ·rename_i t' hk
    cases e;obtain ⟨a',ea',c⟩:=s.at hk;rw [ea] at ea';cases ea';exact c.2.mono ex fun _ _ z=>z
   ·cases e
  | tup xs =>
   simp only [cq] at e;obtain ⟨ts,e1,e2⟩:=zE.mp e;subst e2;simp only [RA] at r;obtain ⟨a,vs,rfl,p,h1,h2⟩:=r;simp only [RA];exact ⟨a,vs,rfl,.inl p,h1,wO ih e1 h2⟩
  | _=>simp only [cq] at e;cases e;exact pl rfl r
mutual
theorem RA.fl [My] (h:∀ a vs,P a->H a=some (.tup vs)->P' a):∀ {t:AV}{w:V},cQ t=true->RA mg P H φ t w->RA mg P' H ψ t w
 | .non,_,_,r=>by simp only [RA] at r ⊢;exact r
 | .bl _,_,_,r=>by simp only [RA] at r ⊢;exact r
 | .int _,_,_,r=>by simp only [RA] at r ⊢;exact r
 | .str _,_,_,r=>by simp only [RA] at r ⊢;exact r
 | .ref _,_,e,_=>by simp only [cQ] at e;cases e
 | .fz _,_,e,_=>by simp only [cQ] at e;cases e
 | .tup xs,_,e,r=>by
  simp only [RA,cQ] at r e ⊢;obtain ⟨a,vs,rfl,p,h1,h2⟩:=r;exact ⟨a,vs,rfl,h a vs p h1,h1,MA.fl h e h2⟩
theorem MA.fl [My] (h:∀ a vs,P a->H a=some (.tup vs)->P' a):∀ {ts:List AV}{ws:List V},mW ts=true->MA mg P H φ ts ws->MA mg P' H ψ ts ws
 | [],_,_,r=>by simp only [MA] at r ⊢;exact r
 | t::ts,_,e,r=>by
  simp only [MA,mW,zC] at r e ⊢;obtain ⟨v,ws,rfl,r1,r2⟩:=r;exact ⟨v,ws,rfl,RA.fl h e.1 r1,MA.fl h e.2 r2⟩
end
theorem E5 [My] (s:Sim mg P φ st H) (e:eE st x=some (t,st')) (r:RA mg P H φ x v):∃ P',Frm P φ H P' φ H/\Sim mg P' φ st' H/\RA mg P' H [] t v:=by
 unfold eE at e;split at e
 ·rename_i h
  cases e;exact ⟨P,Frm.refl,s,RA.rf h r⟩
 ·cases x with
  | ref k =>
   simp only [RA] at r;obtain ⟨a,ea,rfl⟩:=r;dsimp only at e;split at e
   ·rename_i xs hk
    split at e
    ·rename_i hr
     cases e;obtain ⟨a',ea',c⟩:=s.at hk;rw [ea] at ea';cases ea';obtain ⟨na,vs,h1,h2⟩:=c;have ex:∀ b,P b->(P b\/b=a)/\H b=H b:=fun b h=>⟨.inl h,rfl⟩
     have hm:=zW ea;have rr:RA mg (fun b=>P b\/b=a) H [] (.fz xs) (.ref a):=by
      simp only [RA];exact ⟨a,vs,rfl,.inl ⟨.inr rfl,.inl h1⟩,(MA.rf hr h2).mono ex fun _ _ z=>z⟩
     have dm:∀ b,(P b\/b=a)->H b ≠ none:=fun b h=>by
      rcases h with h | h
      ·exact s.dom b h
      ·rw [h];exact s.cd a hm
     refine ⟨fun b=>P b\/b=a,⟨ex,⟨[],by simp,by simp⟩,fun _ _ _ _=>rfl,fun b h=>?_,fun _ h=>h,fun _ _ _ h=>h⟩,⟨by rw [List.length_set];exact s.len,s.nd,dm,s.cd,fun j c b e1 e2=>?_,fun t ht=>⟨(s.tb t ht).1,fun z=>z.elim (s.tb t ht).2 fun z=>s.tnc ht (by rw [z];exact hm)⟩⟩,rr⟩
     ·rcases h with h | h
      ·exact .inl h
      ·exact .inr (.inr (by rw [h];exact hm))
     ·by_cases hj:j=k
      ·subst hj
       rw [ea] at e2;cases e2;rw [List.getElem?_set_self (by rw [<- s.len];exact (zB.mp ea).1)] at e1;cases e1;exact ⟨.inr rfl,rr⟩
      ·rw [List.getElem?_set_ne (Ne.symm hj)] at e1
       refine (s.cell j c b e1 e2).mono ex (fun _ _ z=>z) rfl fun n z=>?_
       rcases z with z | z
       ·exact n z
       ·refine hj ?_
        subst z;obtain ⟨h1,e1⟩:=zB.mp e2;obtain ⟨h2,e2⟩:=zB.mp ea;exact (List.getElem_inj s.nd).mp (e1.trans e2.symm)
    ·cases e
   ·rename_i t' hk
    cases e;obtain ⟨a',ea',c⟩:=s.at hk;rw [ea] at ea';cases ea';exact ⟨P,Frm.refl,s,c.2⟩
   ·cases e
  | _=>cases e
theorem E3 [My]:∀ {xs ts:List AV}{st st':aa}{P:Pr}{vs:List V},Sim mg P φ st H->i7 st xs=some (ts,st')->MA mg P H φ xs vs->∃ P',Frm P φ H P' φ H/\Sim mg P' φ st' H/\MA mg P' H [] ts vs:=by
 intro xs
 induction xs with
 | nil=>intro ts st st' P vs s e r;cases e;simp only [MA] at r;subst r;exact ⟨P,Frm.refl,s,bg⟩
 | cons x xs ih =>
  intro ts st st' P vs s e r;simp only [i7] at e;obtain ⟨p,e1,e2⟩:=zA e;obtain ⟨q,e3,e4⟩:=zE.mp e2;cases e4;simp only [MA] at r;obtain ⟨v,ws,rfl,r1,r2⟩:=r;obtain ⟨P1,f1,s1,q1⟩:=E5 s e1 r1;obtain ⟨P2,f2,s2,q2⟩:=ih s1 e3 (r2.frm f1);exact ⟨P2,f1.trans f2,s2,aS (q1.mono f2.ext fun _ _ z=>z) q2⟩
theorem Io [My] {fn:Fn}{args:List AV}{vs:List V}{Q:VK} (s:Sim mg P φ st H) (r:MA mg P H [] args vs) (h:KG mg RA P φ H ((fn args []).bind fun p=>(cx p.2 p.1).map fun t=>(t,st)) Q):∃ P φ args st,MA mg P H φ args vs/\Sim mg P φ st H/\KG mg RA P φ H (fn args st) Q:=by
 obtain ⟨t,st',e,k⟩:=h;obtain ⟨p,e1,e2⟩:=zA e;obtain ⟨t',e3,e4⟩:=zE.mp e2;cases e4;refine ⟨P,[],args,[],r,Sim.nil s.dom s.tb,p.1,p.2,e1,fun P1 φ1 H1 w f1 s1 r1=>?_⟩;obtain ⟨m,em,nm⟩:=f1.new;have kp:∀ a,H a ≠ none->(∀ ps,H a ≠ some (.tbl ps))->H1 a=H a:=fun a h=>f1.keep a h (by simp)
 have kc:=s.ckeep (fun a h=>(f1.ext a h).2) kp;have nn:∀ a,(P1 a\/a ∈ φ1)->P a\/H a=none:=fun a h=>by
  rcases h with h | h
  ·rcases f1.pn a h with z | z | z
   ·exact .inl z
   ·exact .inr z
   ·cases z
  ·rw [em] at h;exact .inr (nm a h)
 refine k (fun a=>P1 a\/a ∈ φ1) φ H1 w ⟨fun a h=>⟨.inl (f1.ext a h).1,(f1.ext a h).2⟩,⟨[],by simp,by simp⟩,fun a h _ z=>kp a h z,fun a h=>?_,f1.sm,f1.fz⟩ (s.stay (fun a h=>⟨.inl (f1.ext a h).1,(f1.ext a h).2⟩) kc (fun a h n z=>?_) (fun a h=>?_) fun t ht=>⟨(s1.tb t ht).1,fun z=>z.elim (s1.tb t ht).2 (s1.tnc ht)⟩) (RA.lift (pH s1 6 _ _ _ e3 r1))
 ·rcases nn a h with z | z
  ·exact .inl z
  ·exact .inr (.inl z)
 ·rcases nn a z with z | z
  ·exact n z
  ·exact s.cd a h z
 ·rcases h with h | h
  ·exact s1.dom a h
  ·exact s1.cd a h
theorem Go [My] {n:Nat} (h:de mg n (pm fn) vs H Q E):de mg n fn vs H Q E:=by
 obtain ⟨hl,P,φ,args,st,r,s,k⟩:=h;refine ⟨hl,?_⟩;unfold pm at k;split at k
 ·rename_i hr
  exact Io s (MA.rf hr r) k
 ·obtain ⟨t,st',e,k⟩:=k
  obtain ⟨ts,e1,e2⟩:=zA e;obtain ⟨p,e3,e4⟩:=zA e2;obtain ⟨t',e5,e6⟩:=zA e4;split at e6
  ·rename_i hf
   cases e6;have dm:∀ a,(P a\/a ∈ φ)->H a ≠ none:=fun a h=>by
    rcases h with h | h
    ·exact s.dom a h
    ·exact s.cd a h
   refine ⟨fun a=>P a\/a ∈ φ,[],ts,[],wO (fun v w t e r=>pH s 6 v w t e r) e1 r,Sim.nil dm (fun t ht=>⟨(s.tb t ht).1,fun z=>z.elim (s.tb t ht).2 (s.tnc ht)⟩),p.1,p.2,e3,fun P1 φ1 H1 w f1 s1 r1=>?_⟩;obtain ⟨m,em,nm⟩:=f1.new;have kp:∀ a,H a ≠ none->(∀ ps,H a ≠ some (.tbl ps))->H1 a=H a:=fun a h=>f1.keep a h (by simp)
   have kc:=s.ckeep (fun a h=>(f1.ext a (.inl h)).2) kp;have ext:∀ a,P a->((P1 a\/a ∈ φ1)/\(a ∈ φ->P a))/\H1 a=H a:=fun a h=>⟨⟨.inl (f1.ext a (.inl h)).1,fun _=>h⟩,(f1.ext a (.inl h)).2⟩
   refine k (fun a=>(P1 a\/a ∈ φ1)/\(a ∈ φ->P a)) φ H1 w ⟨ext,⟨[],by simp,by simp⟩,fun a h _ z=>kp a h z,fun a h=>?_,f1.sm,f1.fz⟩ (s.stay ext kc (fun a h n z=>n (z.2 h)) (fun a h=>?_) fun t ht=>⟨(s1.tb t ht).1,fun z=>z.1.elim (s1.tb t ht).2 (s1.tnc ht)⟩) (RA.fl (fun a us hP hT=>⟨hP,fun hm=>?_⟩) hf (pH s1 6 _ _ _ e5 r1))
   ·rcases h.1 with z | z
    ·rcases f1.pn a z with z | z | z
     ·rcases z with z | z
      ·exact .inl z
      ·exact .inr (.inr z)
     ·exact .inr (.inl z)
     ·cases z
    ·rw [em] at z;exact .inr (.inl (nm a z))
   ·rcases h.1 with h | h
    ·exact s1.dom a h
    ·exact s1.cd a h
   ·obtain ⟨j,hj⟩:=z7 hm
    obtain ⟨c,hc⟩:∃ c,st[j]?=some c:=⟨_,zF (by rw [<- s.len];exact (zB.mp hj).1)⟩;have cr:=s.cell j c a hc hj;have hT':H a=some (.tup us):=by rw [<- kc a hm];exact hT
    cases c with
    | lst xs=>obtain ⟨_,_,z,_⟩:=cr;rw [hT'] at z;cases z
    | al t=>exact cr.1
    | dK Mx=>obtain ⟨_,_,z,_⟩:=cr;rw [hT'] at z;cases z
    | dT Mx=>obtain ⟨_,_,z,_⟩:=cr;rw [hT'] at z;cases z
    | ins c fs=>obtain ⟨_,_,_,_,_,z,_⟩:=cr;rw [hT'] at z;cases z
    | wk Mx=>obtain ⟨_,_,_,z,_⟩:=cr;rw [hT'] at z;cases z
  ·obtain ⟨q,e7,e8⟩:=zA e6
   obtain ⟨P1,f1,s1,r1⟩:=E3 s e7 r;exact Io s1 r1 ⟨t,st',e8,fun P2 φ2 H2 w f2 s2 r2=>k P2 φ2 H2 w (f1.trans f2) s2 r2⟩
end
theorem FnOk.pm [My] {P:Program}{w:World}{K:Frag}{mg:Str->Option Value}{base:Heap}{k:Nat}{f:Addr}{fd:FuncData}{ps:List Str}{n:Nat}{fn:Fn} (F:FnOk P w K mg base d5 k f fd ps (de ⟨K,mg⟩ n fn)):FnOk P w K mg base d5 k f fd ps (de ⟨K,mg⟩ n (R.pm fn)) :=
 F.imp fun _ _ _ _ h=>Go h
def run (n:Nat) (b:SF):Fn:=fun args st=>(b (args.map some++List.replicate (n - args.length) none) st).bind fun o=>match o with
 | .rt v st=>some (v,st)
 | .nx _ st=>some (.non,st)
 | _=>none
theorem AU [My] (h:MA mg P H φ args vs):MH mg P H φ (args.map some++List.replicate (N.length - args.length) none) (L2.start N vs):=by
 have hl:=h.length;unfold L2.start;refine ⟨by simp [hl],fun i v e=>?_⟩;have hi:i < args.length:=by
  rcases yR i args.length with z | z
  ·exact z
  ·rw [z5 (by simpa using z),List.getElem?_replicate] at e
   split at e <;> cases e
 rw [zN (by simpa using hi),zR] at e;rw [zN (by rw [zH,<- hl];exact hi),zR];cases ha:args[i]? with
 | none=>rw [ha] at e;cases e
 | some x =>
  rw [ha] at e;cases e;obtain ⟨w,e1,r1⟩:=h.get ha;exact ⟨w,by rw [e1];rfl,r1⟩
def wm (fn:Fn) (g:AF):EF:=fun sl st=>(g sl st).bind fun p=>fn p.1 p.2
section
variable {X:Cx}{x:Str}{p pos:Pos}{e o:Expr}{es:List Expr}{k:Nat}{f:Addr}{fd:FuncData}{ps:List Str}{fn:Fn}{g:AF}{h:EF}
theorem J5 [My] {n:Nat} (hn:∀ sl st xs st',g sl st=some (xs,st')->xs.length=n) (q:rE mg (wm fn g) σ H Q):tj (de mg n fn) [] E (rA mg g) σ H Q:=by
 obtain ⟨P,φ,sl,st,rs,s,kk⟩:=q;refine ⟨P,φ,sl,st,rs,s,?_⟩;obtain ⟨a,st',e1,q⟩:=kk.bind (Ra:=MA);refine ⟨a,st',e1,fun P1 φ1 H1 b f1 s1 r1=>?_⟩;obtain ⟨P2,φ2,st2,xs,f2,s2,r2,k2⟩:=q P1 φ1 H1 b f1 s1 r1;rw [List.append_nil];exact ⟨by rw [<- r1.length];exact hn _ _ _ _ e1,P2,φ2,xs,st2,r2,s2,k2⟩
theorem Bh [My] (F:FnOk X.prog X.w X.K X.mg X.base d5 k f fd ps (de X.gm ps.length fn)) (hr:Room k X.A) (hg:Gl X x) (hm:X.mg x=some (.ref f)) (hk:keepIn X.K (.ref f)=true) (hb:Binds X.K fd ps [])
  (ha:QA X (e::es) g) (hn:∀ sl st xs st',g sl st=some (xs,st')->xs.length=ps.length) (hdb:(x == ("__debug__":Str))=false) (he:starEach (e::es) X.env=(false,eval e X.env)::starEach es X.env) (hpl:(backTo pos (starEach es X.env)).any (·.1)=false) :
  QE X (.Call (.Name x p) (e::es) [] pos) (wm fn g):=PE_imp (BC (E:=E0) F hr hg hm hk hb .nil mC ha hdb he hpl) fun _ _ _ q=>J5 hn q
theorem wV [My] (F:FnOk X.prog X.w X.K X.mg X.base d5 k f fd ps (de X.gm ps.length fn)) (hr:Room k X.A) (hg:Gl X x) (hm:X.mg x=some (.ref f)) (hk:keepIn X.K (.ref f)=true) (hb:Binds X.K fd ps [])
  (hn:ps.length=0) (hdb:(x == ("__debug__":Str))=false):QE X (.Call (.Name x p) [] [] pos) (wm fn dF):=PE_imp (xo (E:=E0) F hr hg hm hk hb .nil mC hdb) fun σ H Q q=>by
 obtain ⟨P,φ,sl,st,rs,s,kk⟩:=q;exact ⟨by simp [hn],P,φ,[],st,bg,s,kk⟩
def iJ (st:aa) (c:Str):AV->Option (List (Str × AV))
 | .ref k=>match st[k]? with
  | some (.ins c' fs)=>if c'=c then some fs else none
  | _=>none
 | _=>none
theorem mL (h:KVR mg P H φ fs ws) (f:Str):(fs.lookup f=none->ws.lookup f=none)/\∀ v,fs.lookup f=some v->∃ w,ws.lookup f=some w/\RA mg P H φ v w:=by
 induction fs generalizing ws with
 | nil =>
  have:ws=[]:=by simpa using h.1.symm
  subst this;exact ⟨fun _=>rfl,fun v e=>by cases e⟩
 | cons p fs ih =>
  cases ws with
  | nil=>exact absurd h.1 (by simp)
  | cons q ws =>
   obtain ⟨h1,h2⟩:=h;rw [zO,zO] at h1 h2;injection h1 with h3 h4;simp only [MA] at h2;obtain ⟨v,vs,h5,h6,h7⟩:=h2;injection h5 with h8 h9;subst h8;subst h9;obtain ⟨a,b⟩:=p;obtain ⟨c,d⟩:=q;dsimp only at h3 h6;subst h3;rw [yN,yN];cases hb:f == a with
   | true=>exact ⟨fun z=>(by cases z),fun v z=>(by cases z;exact ⟨d,rfl,h6⟩)⟩
   | false=>exact ih ⟨h4,h7⟩
theorem lX [My] {mg:Gm}{P:Pr}{φ:List Addr}{st:aa}{H:Hp}{c:Str}{v:AV}{w:V}{fs:List (Str × AV)} (s:Sim mg P φ st H) (h:iJ st c v=some fs) (r:RA mg P H φ v w) :
  ∃ k a C dx ws,v=.ref k/\φ[k]?=some a/\¬ P a/\w=.ref a/\mg.mg c=some (.ref C)/\H a=some (.ins C dx ws)/\KVR mg P H φ fs ws:=by
 cases v with
 | ref k =>
  simp only [iJ] at h;split at h
  ·rename_i c' fs' hk
   split at h
   ·rename_i hc
    cases h;subst hc;simp only [RA] at r;obtain ⟨a,ea,rfl⟩:=r;obtain ⟨a',ea',cr⟩:=s.at hk;rw [ea] at ea';cases ea';obtain ⟨na,C,dx,ws,h1,h2,h3⟩:=cr;exact ⟨k,a,C,dx,ws,rfl,ea,na,rfl,h1,h2,h3⟩
   ·cases h
  ·cases h
 | _=>cases h
def wl (c m:Str) (fn:Fn) (h:EF) (g:AF):EF:=fun sl st=>(h sl st).bind fun p=>(iJ p.2 c p.1).bind fun fs=>if (fs.lookup m).isNone=true then (g sl p.2).bind fun q=>fn (p.1::q.1) q.2 else none
theorem Er [My] {n:Nat} (hC:mg.mg c=some (.ref C)) (hn:∀ sl st xs st',g sl st=some (xs,st')->xs.length + 1=n) (q:rE mg (wl c m fn h g) σ H Q):tf C m (de mg n fn) [] E (rE mg h) (rA mg g) σ H Q:=by
 obtain ⟨P,φ,sl,st,rs,s,v,st',e,k⟩:=q;obtain ⟨p,e1,e2⟩:=zA e;obtain ⟨fs,e3,e4⟩:=zA e2;split at e4
 ·rename_i hm
  obtain ⟨q,e5,e6⟩:=zA e4;refine ⟨P,φ,sl,st,rs,s,p.1,p.2,e1,fun P1 φ1 H1 w f1 s1 r1=>?_⟩;obtain ⟨j,a,C',dx,ws,h1,h2,h3,rfl,h5,h6,h7⟩:=lX s1 e3 r1;rw [hC] at h5;cases h5;refine ⟨a,dx,ws,rfl,h6,(mL h7 m).1 (by simpa using hm),P1,φ1,sl,p.2,rs.frm f1,s1,q.1,q.2,e5,fun P2 φ2 H2 vs f2 s2 r2=>?_⟩;show de mg n fn (V.ref a::(vs++[])) H2 Q E;rw [List.append_nil];exact ⟨by rw [yU,<- r2.length];exact hn _ _ _ _ e5,P2,φ2,p.1::q.1,q.2,aS (r1.frm f2) r2,s2,v,st',e6,fun P3 φ3 H3 w3 f3 s3 r3=>k P3 φ3 H3 w3 ((f1.trans f2).trans f3) s3 r3⟩
 ·cases e4
theorem Bf [My] (ho:QE X o h) (cl:Cls X.K C) (hC:X.mg c=some (.ref C)) (hm:jC X.K C m f) (F:FnOk X.prog X.w X.K X.mg X.base d5 k f fd ps (de X.gm ps.length fn)) (hr:Room k X.A) (hb:Binds X.K fd ps [])
  (ha:QA X (e::es) g) (hn:∀ sl st xs st',g sl st=some (xs,st')->xs.length + 1=ps.length) (hst:starEach (e::es) X.env=(false,eval e X.env)::starEach es X.env) (hpl:(backTo pos (starEach es X.env)).any (·.1)=false)
  (ht:eval (.Call (.Attribute o m apos) (e::es) [] pos) X.env=(do
   let ov <- eval o X.env
   standAt apos.atName
   let (f,first) <- holding [ov] (getMethod ov m pl)
   callWith pos f first (backTo pos (starEach (e::es) X.env)) (backToKw pos (keywordEach [] X.env)))):QE X (.Call (.Attribute o m apos) (e::es) [] pos) (wl c m fn h g) :=
 PE_imp (By (E:=E0) ho cl hm F hr hb .nil mC ha hst hpl ht) fun _ _ _ q=>Er hC hn q
theorem wU [My] (ho:QE X o h) (cl:Cls X.K C) (hC:X.mg c=some (.ref C)) (hm:jC X.K C m f) (F:FnOk X.prog X.w X.K X.mg X.base d5 k f fd ps (de X.gm ps.length fn)) (hr:Room k X.A) (hb:Binds X.K fd ps [])
  (hn:ps.length=1)
  (ht:eval (.Call (.Attribute o m apos) [] [] pos) X.env=(do
   let ov <- eval o X.env
   standAt apos.atName
   let (f,first) <- holding [ov] (getMethod ov m pl)
   callWith pos f first (backTo pos (starEach [] X.env)) (backToKw pos (keywordEach [] X.env)))):QE X (.Call (.Attribute o m apos) [] [] pos) (wl c m fn h dF) :=
 PE_imp (xg (E:=E0) ho cl hm F hr hb .nil mC ht) fun σ H Q q=>by
  obtain ⟨P,φ,sl,st,rs,s,v,st',e,k⟩:=Er (E:=E0) (C:=C) hC (g:=dF) (n:=1) (fun sl st xs st' e=>by cases e;rfl) q;refine ⟨P,φ,sl,st,rs,s,v,st',e,fun P1 φ1 H1 w f1 s1 r1=>?_⟩;obtain ⟨a,dx,fs,h1,h2,h3,h4⟩:=k P1 φ1 H1 w f1 s1 r1;refine ⟨a,dx,fs,h1,h2,h3,?_⟩;obtain ⟨P2,φ2,sl2,st2,rs2,s2,xs,st3,e3,k3⟩:=h4;cases e3
  have:=k3 P2 φ2 H1 [] Frm.refl s2 bg
  rw [hn];exact this
def wj (c:Str) (fn:Fn) (g:AF):EF:=fun sl st=>(g sl st).bind fun p=>(fn (.ref p.2.length::p.1) (p.2++[.ins c []])).bind fun q=>match q.1 with
 | .non=>some (.ref p.2.length,q.2)
 | _=>none
theorem BN [My] {mg:Gm}{P:Pr}{φ:List Addr}{st:aa}{H:Hp}{c:Str}{C x dx:Addr} (s:Sim mg P φ st H) (hC:mg.mg c=some (.ref C)) (hx:H x=none) (hd:H dx=none) (ne:dx ≠ x) :
  Frm P φ H P (φ++[x]) (af (af H dx (.own x)) x (.ins C dx []))/\Sim mg P (φ++[x]) (st++[.ins c []]) (af (af H dx (.own x)) x (.ins C dx [])):=by
 have nd:∀ a,H a ≠ none->a ≠ dx:=fun a h e=>h (by rw [e];exact hd)
 have f1:Frm P φ H P φ (af H dx (.own x)):=⟨fun a h=>⟨h,ad (nd a (s.dom a h))⟩,⟨[],by simp,by simp⟩,fun a h _ _=>ad (nd a h),fun a h=>.inl h,fun a h=>by rw [ad (nd a h)];exact h,fun a o u h=>by rw [ad (aZ h hd)];exact h⟩;have s1:Sim mg P φ st (af H dx (.own x)):=s.stay f1.ext (fun a h=>ad (nd a (s.cd a h))) (fun _ _ h=>h) (fun a h=>f1.sm a (s.dom a h)) fun t ht=>⟨(s.tb t ht).1.new hd,(s.tb t ht).2⟩
 have hx1:af H dx (.own x) x=none:=by rw [ad (Ne.symm ne)];exact hx
 obtain ⟨f2,s2⟩:=lQ (c:=.ins c []) (o:=.ins C dx []) s1 hx1 ⟨fun z=>s1.dom x z hx1,C,dx,[],hC,au,rfl,bg⟩;exact ⟨f1.trans f2,s2⟩
theorem JG [My] {mg:Gm}{c:Str}{C:Addr}{n:Nat}{E:XK}{σ:St}{H:Hp}{Q:VK} (hC:mg.mg c=some (.ref C)) (hn:∀ sl st xs st',g sl st=some (xs,st')->xs.length + 1=n) (q:rE mg (wj c fn g) σ H Q):zd C (de mg n fn) [] E (rA mg g) σ H Q:=by
 obtain ⟨P,φ,sl,st,rs,s,v,st',e,k⟩:=q;obtain ⟨p,e1,e2⟩:=zA e;obtain ⟨q,e3,e4⟩:=zA e2;refine ⟨P,φ,sl,st,rs,s,p.1,p.2,e1,fun P1 φ1 H1 vs f1 s1 r1=>fun x dx hx hd ne=>?_⟩;obtain ⟨f2,s2⟩:=BN s1 hC hx hd ne;have rx:RA mg P1 (af (af H1 dx (.own x)) x (.ins C dx [])) (φ1++[x]) (.ref p.2.length) (.ref x):=by simp only [RA];exact ⟨x,by rw [<- s1.len];simp,rfl⟩
 rw [List.append_nil];refine ⟨by rw [yU,<- r1.length];exact hn _ _ _ _ e1,P1,φ1++[x],_,_,aS rx (r1.frm f2),s2,q.1,q.2,e3,fun P3 φ3 H3 w f3 s3 r3=>?_⟩;cases hq:q.1 with
 | non =>
  rw [hq] at e4 r3;cases e4;simp only [RA] at r3;exact ⟨r3,k P3 φ3 H3 (.ref x) ((f1.trans f2).trans f3) s3 (rx.frm f3)⟩
 | _=>rw [hq] at e4;cases e4
theorem Dd [My] (M:Mk X.K C f) (F:FnOk X.prog X.w X.K X.mg X.base d5 k f fd ps (de X.gm ps.length fn)) (hr:Room (k + 1) X.A) (hg:Gl X c) (hm:X.mg c=some (.ref C)) (hb:Binds X.K fd ps [])
  (ha:QA X (e::es) g) (hn:∀ sl st xs st',g sl st=some (xs,st')->xs.length + 1=ps.length) (hdb:(c == ("__debug__":Str))=false) (he:starEach (e::es) X.env=(false,eval e X.env)::starEach es X.env) (hpl:(backTo pos (starEach es X.env)).any (·.1)=false) :
  QE X (.Call (.Name c p) (e::es) [] pos) (wj c fn g):=PE_imp (Bz (E:=E0) M F hr hg hm hb .nil mC ha hdb he hpl) fun _ _ _ q=>JG hm hn q
def IT (c fl:Str) (h:EF):EF:=fun sl st=>(h sl st).bind fun p=>(iJ p.2 c p.1).bind fun fs=>(fs.lookup fl).map fun v=>(v,p.2)
theorem De [My] (ho:QE X o h) (cl:Cls X.K C) (hC:X.mg c=some (.ref C)) (na:NoAttr X.K C fl) (hb:attributeBase o fl X.env (eval o X.env)=eval o X.env):QE X (.Attribute o fl apos) (IT c fl h) :=
 PE_imp (DA ho hb) fun σ H Q hq0=>by
  obtain ⟨P,φ,sl,st,rs,s,v,st',e,k⟩:=hq0;obtain ⟨p,e1,e2⟩:=zA e;obtain ⟨fs,e3,e4⟩:=zA e2;obtain ⟨t,e5,e6⟩:=zE.mp e4;cases e6;refine ⟨P,φ,sl,st,rs,s,p.1,p.2,e1,fun P1 φ1 H1 w f1 s1 r1=>?_⟩;obtain ⟨j,a,C',dx,ws,h1,h2,h3,rfl,h5,h6,h7⟩:=lX s1 e3 r1;have:C'=C:=by rw [show X.gm.mg c=X.mg c from rfl,hC] at h5;cases h5;rfl
  subst this;obtain ⟨w,hw,rw'⟩:=(mL h7 fl).2 _ e5;exact ⟨a,C',dx,ws,w,rfl,h6,cl,na,hw,k P1 φ1 H1 w f1 s1 rw'⟩
noncomputable def im (f:Str) (v:AV):List (Str × AV)->List (Str × AV)
 | []=>[(f,v)]
 | (g,x)::r=>if g=f then (g,v)::r else (g,x)::im f v r
theorem ve {mg:Gm}{P:Pr}{H:Hp}{φ:List Addr}{f:Str}{v:AV}{w:V} (r:RA mg P H φ v w):∀ {fs:List (Str × AV)}{ws:List (Str × V)},KVR mg P H φ fs ws->KVR mg P H φ (im f v fs) (dD f w ws):=by
 intro fs
 induction fs with
 | nil =>
  intro ws h;have:ws=[]:=by simpa using h.1.symm
  subst this;exact ⟨rfl,aS r bg⟩
 | cons p fs ih =>
  intro ws h;cases ws with
  | nil=>exact absurd h.1 (by simp)
  | cons q ws =>
   obtain ⟨h1,h2⟩:=h;rw [zO,zO] at h1 h2;injection h1 with h3 h4;simp only [MA] at h2;obtain ⟨u,us,h5,h6,h7⟩:=h2;injection h5 with h8 h9;subst h8;subst h9;obtain ⟨a,b⟩:=p;obtain ⟨c,d⟩:=q;dsimp only at h3 h6;subst h3;have i:=ih (ws:=ws) ⟨h4,h7⟩;unfold im dD;by_cases e:a=f
   ·rw [yH e,yH e]
    exact ⟨by rw [zO,zO,h4],aS r h7⟩
   ·rw [yG e,yG e]
    exact ⟨by rw [zO,zO,i.1],aS h6 i.2⟩
def u0 (c fl:Str) (h f:EF):SF:=fun sl st=>(f sl st).bind fun p=>(h sl p.2).bind fun q=>match q.1 with
 | .ref k=>(iJ q.2 c (.ref k)).bind fun fs=>if Nat.ble fs.length 900=true then some (.nx sl (q.2.set k (.ins c (im fl p.1 fs)))) else none
 | _=>none
theorem CY [My] (ho:QE X o h) (hv:QE X e f') (cl:Cls X.K C) (hC:X.mg c=some (.ref C)) (na:NoAttr X.K C fl) (hs:swapsWith e (some (.Attribute o fl pos')) pos.line X.env=pure false):QS X (.Assign [.Attribute o fl pos'] e pos) (u0 c fl h f') :=
 PS_imp (Dm ho hv hs) fun D σ H hq0=>by
  obtain ⟨P,φ,sl,st,rs,s,out,eo,q⟩:=hq0;obtain ⟨p,e1,e2⟩:=zA eo;obtain ⟨r,e3,e4⟩:=zA e2;split at e4
  ·rename_i j hj
   obtain ⟨fs,e5,e6⟩:=zA e4;split at e6
   ·rename_i hl
    cases e6;refine ⟨P,φ,sl,st,rs,s,p.1,p.2,e1,fun P1 φ1 H1 w1 f1 s1 r1=>⟨P1,φ1,sl,p.2,rs.frm f1,s1,r.1,r.2,e3,fun P2 φ2 H2 w2 f2 s2 r2=>?_⟩⟩;rw [hj] at r2;obtain ⟨j',a,C',dx,ws,h1,h2,h3,rfl,h5,h6,h7⟩:=lX s2 e5 r2;cases h1;have:C'=C:=by rw [show X.gm.mg c=X.mg c from rfl,hC] at h5;cases h5;rfl
    subst this;have ln:ws.length < 1000:=by
     have z:=congrArg List.length h7.1;rw [zH,zH] at z
     have:=zS hl
     omega
    obtain ⟨f3,s3⟩:=gU (c:=.ins c (im fl p.1 fs)) (o:=.ins C' dx (dD fl w1 ws)) s2 h2 h3 ⟨h3,C',dx,_,hC,au,(ve (r1.frm f2) h7).mono (fun b h=>⟨h,ad fun e=>h3 (e ▸ h)⟩) fun _ _ z=>z⟩ (fun _ _ z=>by rw [h6] at z;cases z);exact ⟨a,C',dx,ws,rfl,h6,cl,na,ln,q P2 φ2 _ σ ((f1.trans f2).trans f3) s3 (((rs.frm f1).frm f2).frm f3)⟩
   ·cases e6
  ·cases e4
end
end R
namespace R
open PySem PySem.Spec PyProof.Rows L2
open DD (PE_imp PT_imp PA_imp PS_imp PSs_imp OpR_imp PW_imp PG_imp pyOk obj_list obj_tup minL minL_eq cnt_vals)
abbrev BF:=List AV->aa->Option (AV × aa)
def rB [My] (mg:Gm) (k:BF):List V->Hp->VK->Prop:=fun vs H Q=>∃ P φ st xs,Sim mg P φ st H/\MA mg P H φ xs vs/\KG mg RA P φ H (k xs st) Q
def qT (k:BF) (g:AF):EF:=fun sl st=>(g sl st).bind fun p=>k p.1 p.2
theorem yp [My] (q:rE mg (qT k g) σ H Q):CC (rB mg k) (rA mg g) σ H Q:=by
 obtain ⟨P,φ,sl,st,rs,s,kk⟩:=q;refine ⟨P,φ,sl,st,rs,s,?_⟩;obtain ⟨a,st',e1,q⟩:=kk.bind (Ra:=MA);refine ⟨a,st',e1,fun P1 φ1 H1 b f1 s1 r1=>?_⟩;obtain ⟨P2,φ2,st2,xs,f2,s2,r2,k2⟩:=q P1 φ1 H1 b f1 s1 r1;exact ⟨P2,φ2,st2,xs,s2,r2,k2⟩
def bw (h:aa->List AV->Option AV):BF:=fun xs st=>(h st xs).map fun z=>(z,st)
section
variable {X:Cx}{x:Str}{p pos:Pos}{e o a:Expr}{es:List Expr}{g:AF}{k:BF}{bid T:String}
theorem kF [My] (hc:bZ X (.builtin bid) (rB X.gm k)) (hg:Gl X x) (hm:X.mg x=none) (hv:bootBuiltins x=some (.builtin bid)) (ha:QA X (e::es) g) (hn:x ≠ "__name__") (hdb:(x == ("__debug__":Str))=false)
  (he:starEach (e::es) X.env=(false,eval e X.env)::starEach es X.env) (hpl:(backTo pos (starEach es X.env)).any (·.1)=false):QE X (.Call (.Name x p) (e::es) [] pos) (qT k g) :=
 PE_imp (xn hc hg hm hv ha hn hdb he hpl) fun _ _ _ q=>yp q
theorem zm [My] (hc:bZ X (.type T) (rB X.gm k)) (hg:Gl X x) (hm:X.mg x=none) (hv:bootBuiltins x=some (.type T)) (ha:QA X (e::es) g) (hn:x ≠ "__name__") (hdb:(x == ("__debug__":Str))=false)
  (he:starEach (e::es) X.env=(false,eval e X.env)::starEach es X.env) (hpl:(backTo pos (starEach es X.env)).any (·.1)=false):QE X (.Call (.Name x p) (e::es) [] pos) (qT k g) :=
 PE_imp (ou hc hg hm hv ha hn hdb he hpl) fun _ _ _ q=>yp q
theorem MA.one {mg:Gm}{P:Pr}{H:Hp}{φ:List Addr}{x:AV}{vs:List V} (h:MA mg P H φ [x] vs):∃ v,vs=[v]/\RA mg P H φ x v:=by
 simp only [MA] at h;obtain ⟨v,ws,rfl,r,rfl⟩:=h;exact ⟨v,rfl,r⟩
theorem MA.two {mg:Gm}{P:Pr}{H:Hp}{φ:List Addr}{x y:AV}{vs:List V} (h:MA mg P H φ [x,y] vs):∃ v w,vs=[v,w]/\RA mg P H φ x v/\RA mg P H φ y w:=by
 simp only [MA] at h;obtain ⟨v,ws,rfl,r,w,us,rfl,r',rfl⟩:=h;exact ⟨v,w,rfl,r,r'⟩
theorem nD (h:bZ X f r) (i:∀ xs H Q,r' xs H Q->r xs H Q):bZ X f r':=fun Mv s σ H xs us Q I rv h'=>h Mv s σ H xs us Q I rv (i xs H Q h')
def dL (st:aa):List AV->Option AV
 | [v]=>match bn st v with
  | some xs=>some (.int xs.length)
  | none=>match ik st v with
   | some xs=>some (.int xs.length)
   | none=>match v with
    | .str x=>if cE x.length=true then some (.int x.length) else none
    | v=>match iz st v with
     | some Mx=>some (.int Mx.length)
     | none=>(lB st v).map fun Mx=>.int Mx.length
 | _=>none
theorem uy:bZ X (.builtin "len") (fun xs H Q=>∃ a Mx,xs=[V.ref a]/\H a=some (.dK Mx)/\Q (.int Mx.length) H):=by
 intro Mv s σ H xs us Q I r h;obtain ⟨a,Mx,rfl,ha,q⟩:=h;obtain ⟨u,rfl,ru⟩:=dB r;cases ru;obtain ⟨z,hd,vs,rel,dd⟩:=Ao I.MB ha;have hl:Mx.length=vs.length:=Paired.length rel;have hz:sizeLine=16777216:=sizeLine_eq;exact call_len_dict hd dd oM ⟨.int _,H,I.tok _,⟨_,by rw [hl]⟩,q⟩
theorem Hm [My]:bZ X (.builtin "len") (rB X.gm (bw dL)):=by
 rintro Mv s σ H vs us Q I rv ⟨P,φ,st,xs,sm,r,k0⟩;obtain ⟨z,e,k⟩:=k0.map;clear k0;unfold dL at e;split at e
 ·rename_i v
  obtain ⟨w,ew,r9⟩:=r.one;clear r;subst ew;have r:=r9;clear r9;have aF:∀ n:Nat,z=.int n->Q (.int n) H:=fun n h=>by subst h;exact k.pure sm (by simp only [RA])
  split at e
  ·rename_i ys e1
   cases e;obtain ⟨a,vs,rfl,d1,q1⟩:=r.ls sm e1;exact kt Mv s σ H _ us Q I rv ⟨a,vs,rfl,.inl d1,by rw [<- q1.length];exact aF _ rfl⟩
  ·split at e
   ·rename_i ys e1
    cases e;obtain ⟨a,vs,rfl,d1,q1⟩:=r.tp sm e1;exact kt Mv s σ H _ us Q I rv ⟨a,vs,rfl,.inr (.inl (.inl d1)),by rw [<- q1.length];exact aF _ rfl⟩
   ·cases v with
    | str x =>
     dsimp only at e;split at e
     ·rename_i hz
      cases e;simp only [RA] at r;subst r;exact qJ Mv s σ H _ us Q I rv ⟨x,rfl,iW hz,aF _ rfl⟩
     ·cases e
    | ref j =>
     simp only [RA] at r;obtain ⟨a,ea,rfl⟩:=r;dsimp only [iz,lB] at e;cases hj:st[j]? with
     | none=>rw [hj] at e;cases e
     | some c =>
      rw [hj] at e;obtain ⟨a',ea',c'⟩:=sm.at hj;rw [ea] at ea';cases ea';cases c with
      | dK Mx =>
       cases e;obtain ⟨_,ws,q1,q2⟩:=c'
       have:=congrArg List.length q2.1
       rw [zH,zH] at this;exact uy Mv s σ H _ us Q I rv ⟨a,ws,rfl,q1,by rw [<- this];exact aF _ rfl⟩
      | dT Mx =>
       cases e;obtain ⟨_,ws,q1,q2⟩:=c'
       have:=congrArg List.length q2.1
       rw [zH,zH] at this;exact wc Mv s σ H _ us Q I rv ⟨a,ws,rfl,q1,by rw [<- this];exact aF _ rfl⟩
      | _=>cases e
    | _=>cases e
 ·cases e
def jv:List AV->Option (List Int):=aO fun x=>match x with
 | .int i=>some i
 | _=>none
theorem oC (h:jv xs=some ns):xs=ns.map .int:=by
 unfold jv at h
 induction xs generalizing ns with
 | nil=>cases h;rfl
 | cons x xs ih =>
  simp only [aO] at h;obtain ⟨y,e1,e2⟩:=zA h;obtain ⟨ys,e3,e4⟩:=zE.mp e2;subst e4;cases x <;> first | (cases e1;done) | skip
  cases e1;rw [ih e3];rfl
def lsI (st:aa) (v:AV):Option (List Int):=(bn st v).bind jv
theorem RA.lsI [My] {mg:Gm}{P:Pr}{H:Hp}{φ:List Addr}{st:aa}{v:AV}{w:V}{ns:List Int} (s:Sim mg P φ st H) (r:RA mg P H φ v w) (h:R.lsI st v=some ns):∃ a,w=.ref a/\bz mg.K H a (ns.map .int):=by
 obtain ⟨xs,e1,e2⟩:=zA h;obtain ⟨a,vs,rfl,d1,q1⟩:=r.ls s e1
 have:=oC e2
 subst this;rw [q1.ints] at d1;exact ⟨a,rfl,d1⟩
def pB (st:aa):List AV->Option AV
 | [v]=>(lsI st v).map fun ns=>.int ns.sum
 | _=>none
theorem Hi [My] (hc:X.calm=true):bZ X (.builtin "sum") (rB X.gm (bw pB)):=by
 rintro Mv s σ H vs us Q I rv ⟨P,φ,st,xs,sm,r,k0⟩;obtain ⟨z,e,k⟩:=k0.map;clear k0;unfold pB at e;split at e
 ·rename_i v
  obtain ⟨w,ew,r9⟩:=r.one;clear r;subst ew;have r:=r9;clear r9;obtain ⟨ns,e1,rfl⟩:=zE.mp e;obtain ⟨a,rfl,d1⟩:=r.lsI sm e1;obtain ⟨u,rfl,ru⟩:=dB rv;cases ru;obtain ⟨Mz,r',pl,_⟩:=I.list d1;have hi:IntsAre Mz ns:=ju r';obtain ⟨ys,hy⟩:=hi.allInts.items;refine sum_intListG (xs:=ys) (I.ok.hd hc) (by rw [<- hy];exact pl.isList) fun h' tk t' hk=>⟨.int ns.sum,H,I.kept hk,?_,k.pure sm (by simp only [RA])⟩
  have:(preSum (numAt ys) ys.size)=ns.sum:=by
   rw [preSum_eq,List.take_of_length_le (by simp),<- nums_intItems,<- hy];rw [show Mz.toArray.toList=Mz from rfl,hi.numsOf]
  rw [this];exact ⟨t',rfl⟩
 ·cases e
noncomputable def uT:AV->Option Bool
 | .bl b=>some b
 | .int i=>some (i != 0)
 | _=>none
def qR (st:aa):List AV->Option AV
 | [v]=>(bn st v).bind fun xs=>(aO uT xs).map fun bs=>.bl (bs.any id)
 | _=>none
theorem Cu [My]:∀ {xs:List AV}{vs:List V}{us:List Value}{bs:List Bool},aO uT xs=some bs->MA mg P H φ xs vs->Vals vs us->bs.length=us.length/\∀ (i:Nat) u,us[i]?=some u->u=.bool (bs.getD i true)\/∃ n t,u=.int n t/\(n != 0)=bs.getD i true:=by
 intro xs
 induction xs with
 | nil=>intro vs us bs e r q;cases e;simp only [MA] at r;subst r;cases q;exact ⟨rfl,fun i u h=>by simp at h⟩
 | cons x xs ih =>
  intro vs us bs e r q;simp only [aO] at e;obtain ⟨y,e1,e2⟩:=zA e;obtain ⟨ys,e3,e4⟩:=zE.mp e2;subst e4;simp only [MA] at r;obtain ⟨v,ws,rfl,r1,r2⟩:=r;cases q with
  | cons q1 q2 =>
   obtain ⟨h1,h2⟩:=ih e3 r2 q2;refine ⟨by simp [h1],fun i u h=>?_⟩;cases i with
   | zero =>
    simp at h;subst h;cases x <;> first | (cases e1;done) | skip
    ·cases e1;simp only [RA] at r1;subst r1;cases q1;exact .inl rfl
    ·cases e1;simp only [RA] at r1;subst r1;obtain ⟨t,rfl⟩:=q1;exact .inr ⟨_,t,rfl,rfl⟩
   | succ i=>simpa using h2 i u (by simpa using h)
theorem Ch (bs:List Bool) (n:Nat) (h:bs.length=n):(List.range n).any (fun i=>bs.getD i true)=bs.any id:=by
 subst h;rw [Bool.eq_iff_iff,List.any_eq_true,List.any_eq_true];constructor
 ·rintro ⟨i,hi,h⟩
  have hi':i < bs.length:=by simpa using hi
  exact ⟨bs[i],List.getElem_mem hi',by simpa [hi'] using h⟩
 ·rintro ⟨x,hx,h⟩
  obtain ⟨i,hi,rfl⟩:=List.getElem_of_mem hx;exact ⟨i,by simp [hi],by simpa [hi] using h⟩
theorem Ho [My] (hc:X.calm=true):bZ X (.builtin "any") (rB X.gm (bw qR)):=by
 rintro Mv s σ H vs us Q I rv ⟨P,φ,st,xs,sm,r,k0⟩;obtain ⟨z,e,k⟩:=k0.map;clear k0;unfold qR at e;split at e
 ·rename_i v
  obtain ⟨w,ew,r9⟩:=r.one;clear r;subst ew;have r:=r9;clear r9;obtain ⟨ys,e1,e2⟩:=zA e;obtain ⟨bs,e3,rfl⟩:=zE.mp e2;obtain ⟨a,vs,rfl,d1,q1⟩:=r.ls sm e1;obtain ⟨u,rfl,ru⟩:=dB rv;cases ru;obtain ⟨Mz,r',pl,_⟩:=I.list d1;obtain ⟨hl1,hat⟩:=Cu e3 q1 r';have hl:=pl.isList;have hlt:a < s.heap.objs.size:=by obtain ⟨_,e,_⟩:=hl;exact yI e
  refine call_any_walk (wpAny_pyIter_list hl ⟨_,_,_,_,_,_,fun i=>bs.getD i true,rfl,Walks.list (A:=X.A.in1) (I.ok.hd hc) _ a (zU hlt) Mz.toArray,⟨⟨_,zY _ rfl,rfl,rfl⟩,hl.push _⟩,?_,fun h' tk hk=>?_⟩)
  ·intro i v s2 Q2 E2 hP hQ
   rcases hat i v (by simpa using hP) with rfl | ⟨n,t,rfl,hn⟩
   ·exact wpAny_truthy_bool hQ
   ·exact PySem.P.truthy_int (by rw [hn];exact hQ)
  ·refine ⟨.bl (bs.any id),H,I.kept (old_kept hk),?_,k.pure sm (by simp only [RA])⟩
   rw [Ch bs _ (by simpa using hl1)];rfl
 ·cases e
def qS (_:aa):List AV->Option AV
 | [.int i]=>some (.int (if i < 0 then -i else i))
 | _=>none
theorem Hq [My]:bZ X (.builtin "abs") (rB X.gm (bw qS)):=nD yn fun vs H Q hq0=>by
 obtain ⟨P,φ,st,xs,sm,r,k0⟩:=hq0;obtain ⟨z,e,k⟩:=k0.map;unfold qS at e;split at e
 ·cases e
  obtain ⟨w,ew,r9⟩:=r.one;clear r;subst ew;have r:=r9;clear r9;simp only [RA] at r;exact ⟨_,by rw [r],k.pure sm (by simp only [RA])⟩
 ·cases e
def nT (st:aa):List AV->Option AV
 | [.int i,.int j]=>some (.int (if j < i then j else i))
 | [v]=>(lsI st v).bind fun ns=>(minL ns).map .int
 | _=>none
noncomputable def Es:List Int->Option Int
 | []=>none
 | x::xs=>some (xs.foldl (fun a b=>if a < b then b else a) x)
theorem JH:∀ (xs:List Int) (x:Int),(xs.foldl (fun a b=>if a < b then b else a) x ∈ x::xs)/\∀ a ∈ x::xs,a <= xs.foldl (fun a b=>if a < b then b else a) x:=by
 intro xs
 induction xs with
 | nil=>intro x;exact ⟨by simp,by simp⟩
 | cons y xs ih =>
  intro x;rw [List.foldl_cons];obtain ⟨h1,h2⟩:=ih (if x < y then y else x);refine ⟨?_,fun a ha=>?_⟩
  ·rcases zT.mp h1 with h | h
   ·rw [h];split <;> simp
   ·exact zQ _ (zQ _ h)
  ·have h3:=h2 _ z6
   rcases zT.mp ha with rfl | ha
   ·refine Int.le_trans ?_ h3;split <;> omega
   ·rcases zT.mp ha with rfl | ha
    ·refine Int.le_trans ?_ h3;split <;> omega
    ·exact h2 a (zQ _ ha)
theorem BR {m x:Int} (h:Es ns=some m) (h1:x ∈ ns) (h2:∀ a ∈ ns,a <= x):x=m:=by
 cases ns with
 | nil=>cases h
 | cons y ns =>
  obtain ⟨a,b⟩:=JH ns y;have e:ns.foldl (fun a b=>if a < b then b else a) y=m:=by injection h
  rw [e] at a b
  have:=h2 m a
  have:=b x h1
  omega
def tW (st:aa):List AV->Option AV
 | [.int i,.int j]=>some (.int (if j > i then j else i))
 | [v]=>(lsI st v).bind fun ns=>(Es ns).map .int
 | _=>none
theorem Hk [My] (hc:X.calm=true):bZ X (.builtin "min") (rB X.gm (bw nT)):=by
 rintro Mv s σ H vs us Q I rv ⟨P,φ,st,xs,sm,r,k0⟩;obtain ⟨z,e,k⟩:=k0.map;clear k0;unfold nT at e;split at e
 ·rename_i i j
  cases e;obtain ⟨w,w',ew,r8,r9⟩:=r.two;clear r;subst ew;have r:=r8;have r':=r9;clear r8 r9;simp only [RA] at r r';subst r;subst r';exact v8 hc Mv s σ H _ us Q I rv ⟨i,j,rfl,k.pure sm (by simp only [RA])⟩
 ·rename_i v
  obtain ⟨w,ew,r9⟩:=r.one;clear r;subst ew;have r:=r9;clear r9;obtain ⟨ns,e1,e2⟩:=zA e;obtain ⟨m,hm,rfl⟩:=zE.mp e2;obtain ⟨a,rfl,d1⟩:=r.lsI sm e1;obtain ⟨u,rfl,ru⟩:=dB rv;cases ru;obtain ⟨Mz,r',pl,_⟩:=I.list d1;have hi:IntsAre Mz ns:=ju r';obtain ⟨ys,hy⟩:=hi.allInts.items;have hns':ns=ys.toList.map (·.1):=by rw [<- hi.numsOf,<- nums_intItems,<- hy]
  have hsz:0 < ys.size:=by
   cases ns with
   | nil=>cases hm
   | cons n ns =>
    have:(n::ns).length=ys.size:=by rw [hns',zH,Array.length_toList]
    simp at this;omega
  refine min_intList (xs:=ys) (I.ok.hd hc) (by rw [<- hy];exact pl.isList) hsz fun v h' tk hv hk=>?_
  obtain ⟨t,rfl⟩:=intItems_at hv;obtain ⟨h1,h2⟩:=argBest_lt (numAt ys) (ys.size - 1);refine ⟨.int m,H,I.kept hk,?_,k.pure sm (by simp only [RA])⟩;have e:numAt ys (argBest (fun i j=>decide (numAt ys i < numAt ys j)) (ys.size - 1))=m:=by
   refine minL_eq hm ?_ fun a ha=>?_
   ·rw [hns',numAt_eq];exact getD_mem (by rw [zH,Array.length_toList];omega)
   ·rw [hns'] at ha
    obtain ⟨j,hj,rfl⟩:=mem_getD ha;rw [zH,Array.length_toList] at hj;rw [<- numAt_eq];exact h2 j oM
  exact ⟨t,by rw [e]⟩
 ·cases e
theorem Hl [My] (hc:X.calm=true):bZ X (.builtin "max") (rB X.gm (bw tW)):=by
 rintro Mv s σ H vs us Q I rv ⟨P,φ,st,xs,sm,r,k0⟩;obtain ⟨z,e,k⟩:=k0.map;clear k0;unfold tW at e;split at e
 ·rename_i i j
  cases e;obtain ⟨w,w',ew,r8,r9⟩:=r.two;clear r;subst ew;have r:=r8;have r':=r9;clear r8 r9;simp only [RA] at r r';subst r;subst r';exact wa hc Mv s σ H _ us Q I rv ⟨i,j,rfl,k.pure sm (by simp only [RA])⟩
 ·rename_i v
  obtain ⟨w,ew,r9⟩:=r.one;clear r;subst ew;have r:=r9;clear r9;obtain ⟨ns,e1,e2⟩:=zA e;obtain ⟨m,hm,rfl⟩:=zE.mp e2;obtain ⟨a,rfl,d1⟩:=r.lsI sm e1;obtain ⟨u,rfl,ru⟩:=dB rv;cases ru;obtain ⟨Mz,r',pl,_⟩:=I.list d1;have hi:IntsAre Mz ns:=ju r';obtain ⟨ys,hy⟩:=hi.allInts.items;have hns':ns=ys.toList.map (·.1):=by rw [<- hi.numsOf,<- nums_intItems,<- hy]
  have hsz:0 < ys.size:=by
   cases ns with
   | nil=>cases hm
   | cons n ns =>
    have:(n::ns).length=ys.size:=by rw [hns',zH,Array.length_toList]
    simp at this;omega
  refine max_intList (xs:=ys) (I.ok.hd hc) (by rw [<- hy];exact pl.isList) hsz fun v h' tk hv hk=>?_
  obtain ⟨t,rfl⟩:=intItems_at hv;obtain ⟨h1,h2⟩:=argBest_gt (numAt ys) (ys.size - 1);refine ⟨.int m,H,I.kept hk,?_,k.pure sm (by simp only [RA])⟩;have e:numAt ys (argBest (fun i j=>decide (numAt ys i > numAt ys j)) (ys.size - 1))=m:=by
   refine BR hm ?_ fun a ha=>?_
   ·rw [hns',numAt_eq];exact getD_mem (by rw [zH,Array.length_toList];omega)
   ·rw [hns'] at ha
    obtain ⟨j,hj,rfl⟩:=mem_getD ha;rw [zH,Array.length_toList] at hj;rw [<- numAt_eq];exact h2 j oM
  exact ⟨t,by rw [e]⟩
 ·cases e
def lW (_:aa):List AV->Option AV
 | [.int i]=>some (.int i)
 | [.bl b]=>some (.int (if b then 1 else 0))
 | _=>none
theorem Hn [My]:bZ X (.type "int") (rB X.gm (bw lW)):=nD wd fun vs H Q hq0=>by
 obtain ⟨P,φ,st,xs,sm,r,k0⟩:=hq0;obtain ⟨z,e,k⟩:=k0.map;unfold lW at e;split at e
 ·cases e
  obtain ⟨w,ew,r9⟩:=r.one;clear r;subst ew;have r:=r9;clear r9;simp only [RA] at r;exact .inl ⟨_,by rw [r],k.pure sm (by simp only [RA])⟩
 ·cases e
  obtain ⟨w,ew,r9⟩:=r.one;clear r;subst ew;have r:=r9;clear r9;simp only [RA] at r;exact .inr ⟨_,by rw [r],k.pure sm (by simp only [RA])⟩
 ·cases e
end
end R
namespace R
open PySem PySem.Spec PyProof.Rows L2
open DD (PE_imp PT_imp PA_imp PS_imp PSs_imp OpR_imp PW_imp PG_imp pyOk reads_each cnt_vals)
abbrev MF:=AV->List AV->aa->Option (AV × aa)
def rM [My] (mg:Gm) (k:MF):V->List V->Hp->VK->Prop:=fun x vs H Q=>∃ P φ st a xs,Sim mg P φ st H/\RA mg P H φ a x/\MA mg P H φ xs vs/\KG mg RA P φ H (k a xs st) Q
def k7 (T:String) (st:aa) (v:AV):Bool:=match v with
 | .str _=>T == "str"
 | .int _=>T == "int"
 | v=>if T="list" then (bn st v).isSome else if T="dict" then (iz st v).isSome || (lB st v).isSome else false
def ji (T:String) (k:MF) (f:EF) (g:AF):EF:=fun sl st=>(f sl st).bind fun p=>if k7 T p.2 p.1=true then (g sl p.2).bind fun q=>k p.1 q.1 q.2 else none
section
variable {X:Cx}{e o:Expr}{es:List Expr}{f:EF}{g:AF}{k:MF}{name:Str}{apos cpos:Pos}{T mid:String}
theorem AK [My] {P:Pr}{φ:List Addr}{st:aa}{H:Hp}{v:AV}{w:V} (s:Sim X.gm P φ st H) (r:RA X.gm P H φ v w) (h:k7 T st v=true):uO X.K T w H:=by
 have gen:(if T="list" then (bn st v).isSome else if T="dict" then (iz st v).isSome || (lB st v).isSome else false)=true->uO X.K T w H:=fun h=>by
  split at h
  ·rename_i hT
   obtain ⟨xs,e⟩:=Option.isSome_iff_exists.mp h;obtain ⟨a,vs,rfl,d1,_⟩:=r.ls s e;exact .inl ⟨hT,vs,d1⟩
  ·split at h
   ·rename_i hT
    cases v with
    | ref j =>
     simp only [RA] at r;obtain ⟨a,ea,rfl⟩:=r;simp only [iz,lB] at h;cases hj:st[j]? with
     | none=>rw [hj] at h;simp at h
     | some c =>
      rw [hj] at h;obtain ⟨a',ea',c'⟩:=s.at hj;rw [ea] at ea';cases ea';cases c with
      | dK Mx=>obtain ⟨_,ws,q1,_⟩:=c';exact .inr (.inr (.inl ⟨hT,.inl ⟨ws,q1⟩⟩))
      | dT Mx=>obtain ⟨_,ws,q1,_⟩:=c';exact .inr (.inr (.inl ⟨hT,.inr ⟨ws,q1⟩⟩))
      | _=>simp at h
    | _=>simp [iz,lB] at h
   ·cases h
 unfold k7 at h;cases v with
 | str x=>simp only [RA] at r;subst r;exact yJ h
 | int x=>simp only [RA] at r;subst r;exact yJ h
 | _=>exact gen h
theorem Ee [My] (q:rE X.gm (ji T k f g) σ H Q):H0 X.K T (rM X.gm k) (rE X.gm f) (rA X.gm g) σ H Q:=by
 obtain ⟨P,φ,sl,st,rs,s,v,st',ev,kk⟩:=q;obtain ⟨p,e1,e2⟩:=zA ev;split at e2
 ·rename_i hT
  obtain ⟨r,e3,e4⟩:=zA e2;exact ⟨P,φ,sl,st,rs,s,p.1,p.2,e1,fun P1 φ1 H1 w f1 s1 r1=>⟨AK s1 r1 hT,P1,φ1,sl,p.2,rs.frm f1,s1,r.1,r.2,e3,fun P2 φ2 H2 ws f2 s2 r2=>⟨P2,φ2,r.2,p.1,r.1,s2,r1.frm f2,r2,v,st',e4,fun P3 φ3 H3 w3 f3 s3 r3=>kk P3 φ3 H3 w3 ((f1.trans f2).trans f3) s3 r3⟩⟩⟩
 ·cases e2
theorem o0 [My] (pa:PlainAttrs T) (slot:Slot T name mid) (hty:typeOf (.builtin mid)=pure (.type "method_descriptor")) (hm:lK X mid (rM X.gm k)) (ho:QE X o f) (ha:QA X (e::es) g)
  (hbase:attributeBase o name X.env (eval o X.env)=eval o X.env)
  (hfew:((backTo cpos (starEach (e::es) X.env)).all (fun x=>!x.1) && (backToKw cpos (keywordEach [] X.env)).all (fun x=>x.1.isSome)
   && decide ((e::es).length + ([]:List Keyword).length + (if ([]:List Keyword).isEmpty then 0 else 1) < 30))=true)
  (hline:(apos.endLine == cpos.line)=true) (hs:starEach (e::es) X.env=(false,eval e X.env)::starEach es X.env) (hplain:(backTo cpos (starEach es X.env)).any (·.1)=false) :
  QE X (.Call (.Attribute o name apos) (e::es) [] cpos) (ji T k f g):=PE_imp (Gx pa slot hty hm ho ha hbase hfew hline hs hplain) fun _ _ _ q=>Ee q
theorem mB [My] (pa:PlainAttrs T) (slot:Slot T name mid) (hty:typeOf (.builtin mid)=pure (.type "method_descriptor")) (hm:lK X mid (rM X.gm k)) (ho:QE X o f)
  (hbase:attributeBase o name X.env (eval o X.env)=eval o X.env) (hline:(apos.endLine == cpos.line)=true):QE X (.Call (.Attribute o name apos) [] [] cpos) (ji T k f dF) :=
 PE_imp (DB pa slot hty hm ho hbase hline) fun σ H Q q=>by
  obtain ⟨P,φ,sl,st,rs,s,v,st',ev,kk⟩:=Ee q;refine ⟨P,φ,sl,st,rs,s,v,st',ev,fun P1 φ1 H1 w f1 s1 r1=>?_⟩;obtain ⟨h1,P2,φ2,sl2,st2,rs2,s2,xs,st3,e3,k3⟩:=kk P1 φ1 H1 w f1 s1 r1;cases e3;exact ⟨h1,k3 P2 φ2 H1 [] Frm.refl s2 bg⟩
theorem mf (h:lK X mid r) (i:∀ x xs H Q,r' x xs H Q->r x xs H Q):lK X mid r':=fun Mv s σ H x xs v us Q I rx rv h'=>h Mv s σ H x xs v us Q I rx rv (i x xs H Q h')
def eJ (st:aa):AV->Option (Nat × List AV)
 | .ref k=>match st[k]? with
  | some (.lst xs)=>some (k,xs)
  | _=>none
 | _=>none
theorem kr [My] {mg:Gm}{P:Pr}{φ:List Addr}{st:aa}{H:Hp}{v:AV}{w:V}{j:Nat}{xs:List AV} (s:Sim mg P φ st H) (r:RA mg P H φ v w) (h:eJ st v=some (j,xs)):∃ a vs,w=.ref a/\φ[j]?=some a/\¬ P a/\H a=some (.lst vs)/\MA mg P H φ xs vs:=by
 cases v with
 | ref i =>
  simp only [eJ] at h;split at h
  ·rename_i ys hj
   cases h;simp only [RA] at r;obtain ⟨a,ea,rfl⟩:=r;obtain ⟨a',ea',na,vs,h1,h2⟩:=s.at hj;rw [ea] at ea';cases ea';exact ⟨a,vs,rfl,ea,na,h1,h2⟩
  ·cases h
 | _=>cases h
theorem nG [My] {mg:Gm}{P:Pr}{φ:List Addr}{st:aa}{H:Hp}{j:Nat}{a:Addr}{ys:List AV}{us:List V} (s:Sim mg P φ st H) (ea:φ[j]?=some a) (na:¬ P a) (nz:∃ vs,H a=some (.lst vs)) (r:MA mg P H φ ys us) :
  Frm P φ H P φ (af H a (.lst us))/\Sim mg P φ (st.set j (.lst ys)) (af H a (.lst us))/\∀ {t:AV}{w:V},RA mg P H φ t w->RA mg P (af H a (.lst us)) φ t w:=by
 have ex:∀ b,P b->P b/\af H a (.lst us) b=H b:=fun b h=>⟨h,ad fun e=>na (e ▸ h)⟩
 obtain ⟨f3,s3⟩:=gU (c:=.lst ys) (o:=.lst us) s ea na ⟨na,us,au,r.mono ex fun _ _ z=>z⟩ (fun _ _ z=>by obtain ⟨vs,q⟩:=nz;rw [q] at z;cases z);exact ⟨f3,s3,fun h=>h.mono ex fun _ _ z=>z⟩
def j4:MF:=fun x xs st=>match xs with
 | [y]=>(eJ st x).bind fun c=>if cE c.2.length=true then some (.non,st.set c.1 (.lst (c.2++[y]))) else none
 | _=>none
theorem FX {n:Nat} (h:cE n=true):n < sizeLine:=yL (zS h) dC
theorem Ad [My]:lK X "list.append" (rM X.gm j4):=mf oz fun x vs H Q hq0=>by
 obtain ⟨P,φ,st,a,xs,s,r,rr,v,st',e,kk⟩:=hq0;unfold j4 at e;split at e
 ·rename_i y
  obtain ⟨c,e1,e2⟩:=zA e;split at e2
  ·rename_i hz
   cases e2;obtain ⟨b,us,rfl,ea,na,h1,h2⟩:=kr s r e1;obtain ⟨w,rfl,r1⟩:=rr.one;obtain ⟨f3,s3,_⟩:=nG s ea na ⟨_,h1⟩ (h2.app (aS r1 bg));exact ⟨b,us,w,rfl,rfl,h1,by rw [<- h2.length];exact FX hz,kk P φ _ _ f3 s3 (by simp only [RA])⟩
  ·cases e2
 ·cases e
def t0:MF:=fun x xs st=>match xs with
 | []=>(eJ st x).bind fun c=>(c.2[c.2.length - 1]?).map fun y=>(y,st.set c.1 (.lst c.2.dropLast))
 | _=>none
theorem MA.dropLast (h:MA mg P H φ xs vs):MA mg P H φ xs.dropLast vs.dropLast:=by
 rw [List.dropLast_eq_take,List.dropLast_eq_take,h.length];exact h.take _
theorem Aa [My]:lK X "list.pop" (rM X.gm t0):=mf Eg fun x vs H Q hq0=>by
 obtain ⟨P,φ,st,a,xs,s,r,rr,v,st',e,kk⟩:=hq0;unfold t0 at e;split at e
 ·obtain ⟨c,e1,e2⟩:=zA e
  obtain ⟨y,e3,e4⟩:=zE.mp e2;cases e4;obtain ⟨b,us,rfl,ea,na,h1,h2⟩:=kr s r e1;simp only [MA] at rr;obtain ⟨w,e5,r5⟩:=h2.get e3;obtain ⟨f3,s3,lf⟩:=nG s ea na ⟨_,h1⟩ h2.dropLast;exact ⟨b,us,w,rfl,rr,h1,by rw [<- h2.length];exact e5,kk P φ _ _ f3 s3 (lf r5)⟩
 ·cases e
def t8:MF:=fun x xs st=>match xs with
 | [y]=>(eJ st x).bind fun c=>(bn st y).bind fun ys=>if cE (c.2.length + ys.length)=true then some (.non,st.set c.1 (.lst (c.2++ys))) else none
 | _=>none
theorem Ab [My]:lK X "list.extend" (rM X.gm t8):=mf BQ fun x vs H Q hq0=>by
 obtain ⟨P,φ,st,a,xs,s,r,rr,v,st',e,kk⟩:=hq0;unfold t8 at e;split at e
 ·rename_i y
  obtain ⟨c,e1,e2⟩:=zA e;obtain ⟨ys,e3,e4⟩:=zA e2;split at e4
  ·rename_i hz
   cases e4;obtain ⟨b,us,rfl,ea,na,h1,h2⟩:=kr s r e1;obtain ⟨w,rfl,r1⟩:=rr.one;obtain ⟨b2,us2,rfl,d2,q2⟩:=r1.ls s e3;obtain ⟨f3,s3,_⟩:=nG s ea na ⟨_,h1⟩ (h2.app q2);exact ⟨b,b2,us,us2,rfl,rfl,h1,d2,by rw [<- h2.length,<- q2.length];exact iW hz,kk P φ _ _ f3 s3 (by simp only [RA])⟩
  ·cases e4
 ·cases e
def xJ:MF:=fun x xs st=>match xs with
 | [y]=>(bE 9 st x).bind fun p=>(bE 9 st y).bind fun q=>match p with
  | .list ps=>if (ps.all fun r=>pyOk r q)=true then some (.int ((ps.countP fun r=>PyData.eqv r q:Nat):Int),st) else none
  | _=>none
 | _=>none
theorem Ac [My] (hu:X.A.units + 64 < cLine):lK X "list.count" (rM X.gm xJ):=by
 rintro Mv s σ H x vs v us Q I rx rv ⟨P,φ,st,a,xs,sm,r,rr,z,st',e,kk⟩;unfold xJ at e;split at e
 ·rename_i y
  obtain ⟨p,e1,e2⟩:=zA e;obtain ⟨q,e3,e4⟩:=zA e2;split at e4
  ·rename_i ps
   split at e4
   ·rename_i MB
    cases e4;obtain ⟨w,rfl,r1⟩:=rr.one;obtain ⟨u,rfl,ru⟩:=rv.one;obtain ⟨as,ra⟩:=dO I sm 9 _ _ _ _ r e1 rx;obtain ⟨bs,rb⟩:=dO I sm 9 _ _ _ _ r1 e3 ru;cases ra with
    | @list a o items n xs as' hg hc hdt rall =>
     obtain ⟨ocl,odi,oda,osl⟩:=o;dsimp only at hc hdt;subst hc;subst hdt
     classical
     have uq:∀ z p' az,Reads s.heap z p' az->decide (∃ p as,Reads s.heap z p as/\PyData.eqv p q=true)=PyData.eqv p' q:=by
      intro z p' az rz;rcases he:PyData.eqv p' q with _ | _
      ·refine z9 ?_
       rintro ⟨p2,as',r',e'⟩
       have:=(PySem.Reads.unique rz p2 as' r').1
       rw [<- this,he] at e';cases e'
      ·exact yS ⟨p',az,rz,he⟩
     refine call_meets PySem.F.slot_list_count ⟨_,hg,rfl⟩ PySem.F.entry_list_count (PySem.F.args_list_count_2 _ _) (PySem.SeqAt.list_countAt a items n odi osl u (fun z=>decide (∃ p as,Reads s.heap z p as/\PyData.eqv p q=true))) ⟨hg,?_,?_⟩
     ·intro z hz
      obtain ⟨pz,az,hpz,rz⟩:=reads_each rall z (by simpa using hz);obtain ⟨k1,k2,k3⟩:=nO (yO.mp MB pz hpz);rw [uq z pz az rz];exact PySem.SeqAt.eqAt_reads pz q _ s z u az bs rz rb k1 k2 (by simp only [Around.in1_units];omega)
     ·have hc:=cnt_vals (q:=q) (e:=fun z=>decide (∃ p as,Reads s.heap z p as/\PyData.eqv p q=true)) (h:=s.heap) (vs:=items.toList) (ps:=ps) (fun v p as rv=>uq v p as rv) rall
      rw [hc];exact ⟨.int _,H,I.kept (fun _ _ e=>e),⟨_,rfl⟩,kk P φ H _ Frm.refl sm (by simp only [RA])⟩
   ·cases e4
  ·cases e4
 ·cases e
def IU (t:Bool):EF:=fun _ st=>some (.ref st.length,st++[if t=true then .dT [] else .dK []])
theorem Bg [My] (hm:PE X (.Dict [] [] pos) uW):QE X (.Dict [] [] pos) (IU false):=PE_imp hm fun σ H Q hq0=>by
 obtain ⟨P,φ,sl,st,rs,s,v,st',e,kk⟩:=hq0;cases e;intro d hd;obtain ⟨f3,s3⟩:=lQ (c:=.dK []) (o:=.dK []) s hd ⟨fun z=>s.dom d z hd,[],au,rfl,bg⟩;refine kk P _ _ _ f3 s3 ?_;simp only [RA];exact ⟨d,by rw [<- s.len];simp,rfl⟩
end
end R
namespace R
open PySem PySem.Spec PyProof.Rows L2
open DD (PE_imp PT_imp PA_imp PS_imp PSs_imp OpR_imp PW_imp PG_imp pyOk obj_list obj_tup minL minL_eq cnt_vals)
theorem qL:bootBuiltins "min"=some (.builtin "min"):=by decide +kernel
def xH (ns:List Int):AV:=match minL ns with
 | some m=>.int m
 | none=>.non
def mJ (st:aa):List AV->Option AV
 | [v]=>(lsI st v).map xH
 | _=>none
theorem Em (a:Value):argsOk "min" ⟨[a],[(Str.ofString "default",.none)]⟩:=by unfold argsOk;kernel_rfl
theorem El (a v:Value):argsOk "min" ⟨[a],[(Str.ofString "key",v),(Str.ofString "default",.none)]⟩:=by unfold argsOk;kernel_rfl
theorem Ep {α:Type}{l:List α}{x:α} (h:x ∈ l):∃ i:Nat,l[i]?=some x:=z7 h
section
variable {X:Cx}{a:Expr}{f:EF}{p pos kp pc:Pos}{j:Nat}
theorem Be [My] (hc:X.calm=true) (hg:Gl X "min") (hm:X.mg "min"=none) (ha:QE X a f) (hs:starEach [a] X.env=[(false,eval a X.env)]) :
  QE X (.Call (.Name "min" p) [a] [⟨some "default",.Constant .none j pc,kp⟩] pos) (qT (bw mJ) (db f dF)):=by
 intro Mv s σ H Q I h;have hb:=yp h;refine wpAny_Call_Name_kw (cH I hg hm qL (callWith_kw (aB ((bF ha dG (by rw [hs];rfl)) pos Mv s σ H _ I hb) fun us s1 ⟨vs,H1,I1,r1,q1⟩=>?_) (by rw [hs];rfl) (by rw [hs];rfl) (by rfl) (by rfl)));refine kws_cons (Constant_none (kws_nil ?_));obtain ⟨P,φ,st,xs,sm,r,k0⟩:=q1;obtain ⟨z,e,k⟩:=k0.map;unfold mJ at e;split at e
 ·rename_i v
  obtain ⟨w,rfl,rv⟩:=r.one;obtain ⟨ns,e1,e2⟩:=zE.mp e;obtain ⟨l,rfl,hl⟩:=rv.lsI sm e1;obtain ⟨u,rfl,ru⟩:=dB r1;cases ru;refine p6 (ko:=none) (ns:=ns) (I.ok.hd hc) (fun i=>ns.getD i 0) (fun _ H=>H=H1) (fun i H e=>by rw [e];exact hl) rfl (Em _) (fun i n u pl s H en ru eH I=>.inl ⟨rfl,by simp [en],eH⟩) (fun i n H en hmin eH=>?_) (fun en=>?_) I1 rfl
  ·subst eH
   have:minL ns=some n:=by
    cases hM:minL ns with
    | none =>
     cases ns with
     | nil=>simp at en
     | cons _ _=>cases hM
    | some m =>
     rw [minL_eq hM (zW en) fun b hb=>?_];obtain ⟨i',hi'⟩:=Ep hb;have h1:=(hmin i' (zB.mp hi').1).1;simpa [en,hi'] using h1
   have ez:z=.int n:=by rw [<- e2];unfold xH;rw [this]
   subst ez;exact k.pure sm (by simp only [RA])
  ·subst en
   have ez:z=.non:=by rw [<- e2];rfl
   subst ez;exact k.pure sm (by simp only [RA])
 ·cases e
end
def vM (key:EF) (sl:Sl) (st:aa) (n:Int):Option Int:=match key (sl++[some (.int n)]) st with
 | some (.int k,_)=>some k
 | _=>none
noncomputable def iQ:Int->Int->List (Int × Int)->Int
 | n,_,[]=>n
 | n,k,(m,j)::r=>if j < k then iQ m j r else iQ n k r
def oi:List (Int × Int)->AV
 | []=>.non
 | (n,k)::r=>.int (iQ n k r)
def pb (f key:EF):EF:=fun sl st=>(f sl st).bind fun p=>(lsI p.2 p.1).bind fun ns=>(aO (vM key sl p.2) ns).map fun ks=>(oi (ns.zip ks),p.2)
def Ay (f:EF):Prop:=∀ sl st v st',f sl st=some (v,st')->st'=st
theorem oj:∀ (r:List (Int × Int)) (n k:Int),∃ (i:Nat) (κ:Int),((n,k)::r)[i]?=some (iQ n k r,κ)/\∀ (j:Nat) q,((n,k)::r)[j]?=some q->κ <= q.2/\(j < i->κ < q.2)
 | [],n,k=>⟨0,k,rfl,fun j q e=>by
   cases j with
   | zero=>cases e;exact ⟨Int.le_refl _,fun h=>absurd h (yW _)⟩
   | succ j=>simp at e⟩
 | (m,j0)::r,n,k=>by
  by_cases hb:j0 < k
  ·obtain ⟨i,κ,e1,e2⟩:=oj r m j0
   refine ⟨i + 1,κ,by rw [List.getElem?_cons_succ];simpa [iQ,hb] using e1,fun j q e=>?_⟩;cases j with
   | zero =>
    cases e
    have:=(e2 0 (m,j0) rfl).1
    exact ⟨by show κ <= k;omega,fun _=>by show κ < k;omega⟩
   | succ j =>
    rw [List.getElem?_cons_succ] at e;exact ⟨(e2 j q e).1,fun h=>(e2 j q e).2 oM⟩
  ·obtain ⟨i,κ,e1,e2⟩:=oj r n k
   have ea:iQ n k ((m,j0)::r)=iQ n k r:=by simp [iQ,hb]
   have hk:=(e2 0 (n,k) rfl).1;refine ⟨if i=0 then 0 else i + 1,κ,?_,fun j q e=>?_⟩
   ·rw [ea]
    cases i with
    | zero=>simpa using e1
    | succ i=>simpa using e1
   ·cases j with
    | zero =>
     cases e;refine ⟨hk,fun h=>?_⟩;cases i with
     | zero=>simp at h
     | succ i=>exact (e2 0 (n,k) rfl).2 (Nat.succ_pos i)
    | succ j =>
     rw [List.getElem?_cons_succ] at e;cases j with
     | zero =>
      cases e;refine ⟨by show κ <= j0;omega,fun h=>?_⟩;cases i with
      | zero=>simp at h
      | succ i =>
       have:=(e2 0 (n,k) rfl).2 (Nat.succ_pos i)
       show κ < j0;have:κ < k:=this;omega
     | succ j =>
      rw [List.getElem?_cons_succ] at e
      have:=e2 (j + 1) q (by rw [List.getElem?_cons_succ];exact e)
      refine ⟨this.1,fun h=>this.2 ?_⟩;cases i with
      | zero=>simp at h
      | succ i=>simp at h;omega
theorem Cg {ns ks:List Int}{i:Nat}{n:Int} (hl:ns.length=ks.length) (hn:ns[i]?=some n) (hm:∀ j,j < ns.length->ks.getD i 0 <= ks.getD j 0/\(j < i->ks.getD i 0 < ks.getD j 0)):oi (ns.zip ks)=.int n:=by
 have hi:i < ns.length:=(zB.mp hn).1;obtain ⟨k,hk⟩:∃ k,ks[i]?=some k:=⟨_,zF oM⟩;have hz:(ns.zip ks)[i]?=some (n,k):=by rw [List.getElem?_zip_eq_some];exact ⟨hn,hk⟩
 have hd:ks.getD i 0=k:=by simp [hk]
 cases e:ns.zip ks with
 | nil=>rw [e] at hz;simp at hz
 | cons q r =>
  obtain ⟨n0,k0⟩:=q;obtain ⟨i',κ,e1,e2⟩:=oj r n0 k0;rw [<- e] at e1 e2;have e3:=List.getElem?_zip_eq_some.mp e1;have hi':i' < ns.length:=(zB.mp e3.1).1;have hd':ks.getD i' 0=κ:=by simp [e3.2]
  have m1:=hm i' hi';have m2:=e2 i (n,k) hz;rw [hd,hd'] at m1;have m2a:κ <= k:=m2.1;have m2b:i < i'->κ < k:=m2.2;have:i=i':=by
   rcases Nat.lt_trichotomy i i' with h | h | h
   ·have:=m2b h;omega
   ·exact h
   ·have:=m1.2 h;omega
  subst this;rw [hn] at e3
  have:=e3.1
  simp only [oi];cases this;rfl
theorem p9 {α β:Type}{f:α->Option β}:∀ {l:List α}{r:List β},aO f l=some r->l.length=r.length/\∀ (i:Nat) x,l[i]?=some x->∃ y,r[i]?=some y/\f x=some y
 | [],r,h=>by cases h;exact ⟨rfl,fun i x e=>by simp at e⟩
 | x::l,r,h=>by
  simp only [aO] at h;obtain ⟨y,e1,e2⟩:=zA h;obtain ⟨ys,e3,e4⟩:=zE.mp e2;subst e4;obtain ⟨h1,h2⟩:=p9 e3;refine ⟨by simp [h1],fun i z e=>?_⟩;cases i with
  | zero=>cases e;exact ⟨y,rfl,e1⟩
  | succ i=>exact h2 i z (by simpa using e)
section
variable {X:Cx}{a body:Expr}{f key:EF}{p pos kp lp kp2 pc:Pos}{j:Nat}{params:Arguments}{scope:Scope}{N':List Str}{x:Str}{c P:Addr}
theorem MH.snoc [My] {mg:Gm}{P:Pr}{H:Hp}{φ:List Addr}{sl:Sl}{σ:St}{v:AV}{w:V} (h:MH mg P H φ sl σ) (r:RA mg P H φ v w):MH mg P H φ (sl++[some v]) (σ++[some w]):=by
 refine ⟨by rw [zV,zV,h.1];rfl,fun i u e=>?_⟩;rcases yR i sl.length with hi | hi
 ·rw [zN hi] at e
  rw [zN (by rw [<- h.1];exact hi)];exact h.2 i u e
 ·rw [z5 hi] at e
  rw [z5 (by rw [<- h.1];exact hi),<- h.1];cases hk:i - sl.length with
  | zero=>rw [hk] at e;cases e;exact ⟨w,rfl,r⟩
  | succ m=>rw [hk] at e;simp at e
theorem Bc [My] (hc:X.calm=true) (hg:Gl X "min") (hm:X.mg "min"=none) (ha:QE X a f) (hs:starEach [a] X.env=[(false,eval a X.env)]) (hdef:defaultsOf params X.env=([],[])) (hcode:X.env.code=.ref c) (C:CodeHd X.base c P) (B:ig X.mg X.base)
  (ht:(P,lp,X.env.qual++"<lambda>") ∈ My.tb) (T:uH X N' scope x) (hp:plainA params=true) (hps:params.args.map (·.arg)=[x]) (hd:X.A.in1.depth < recursionLimit) (pu:Ay key)
  (he:∀ cl f c' s H,QE (qE X N' scope cl f (X.env.qual++"<lambda>") (.ref c') X.A.in1 s H) body key)
  (hdj:∀ t ∈ My.tb,t.1=P->t=(P,lp,X.env.qual++"<lambda>")) :
  QE X (.Call (.Name "min" p) [a] [⟨some "key",.Lambda params body scope lp,kp⟩,⟨some "default",.Constant .none j pc,kp2⟩] pos) (pb f key):=by
 rintro Mv s σ H Q I ⟨Pr0,φ,sl,st,rs,sm,v,st',ev,k⟩;obtain ⟨p1,e1,e2⟩:=zA ev;obtain ⟨ns,e3,e4⟩:=zA e2;obtain ⟨ks,e5,e6⟩:=zE.mp e4;cases e6;have hra:rA X.gm (db f dF) σ H (fun vs H1=>∃ P1 φ1 w,vs=[w]/\Frm Pr0 φ H P1 φ1 H1/\Sim X.gm P1 φ1 p1.2 H1/\RA X.gm P1 H1 φ1 p1.1 w) :=
  u7 rs sm ⟨p1.1,p1.2,e1,fun P1 φ1 H1 w f1 s1 r1=>⟨P1,φ1,w,rfl,f1,s1,r1⟩⟩
 refine wpAny_Call_Name_kw (cH I hg hm qL (callWith_kw (aB ((bF ha dG (by rw [hs];rfl)) pos Mv s σ H _ I hra) fun us s1 ⟨vs,H1,I1,r1,P1,φ1,w,ew,f1,s1',rw1⟩=>?_) (by rw [hs];rfl) (by rw [hs];rfl) (by rfl) (by rfl)));subst ew;obtain ⟨l,rfl,hl0⟩:=rw1.lsI s1' e3;obtain ⟨u,rfl,ru⟩:=dB r1;cases ru;obtain ⟨cl,hcl,hcl1,hcl2⟩:=jy (scope:=scope) (env:=X.env) (fun y hy=>by
  rcases T.cy.free y hy with h | h
  ·exact I1.ok.has y (.inl h)
  ·exact I1.ok.has y (.inr h))
 refine kws_cons (xS I1 hdef hcode C B hcl (s1'.tb _ ht).1 fun q c' ctv H2 s2 hH2 Cv hx2 I2=>kws_cons (Constant_none (kws_nil ?_)))
 -- the heap behind the making
 have fs:Frm P1 φ1 H1 P1 φ1 H2/\Sim X.gm P1 φ1 p1.2 H2:=by
  rcases hH2 with rfl | ⟨ps,more,hP,hn,hne,rfl⟩
  ·exact ⟨Frm.refl,s1'⟩
  ·have nP:∀ b,P1 b->b ≠ P:=fun b h e=>(s1'.tb _ ht).2 (by rw [<- e];exact h)
   have nc:∀ b,H1 b ≠ none->b ≠ c':=fun b h e=>h (by rw [e];exact hn)
   have ncell:∀ b ∈ φ1,b ≠ P:=fun b h e=>s1'.tnc ht (by rw [<- e];exact h)
   have eq:∀ b,b ≠ P->b ≠ c'->af (af H1 P (.tbl (ps++more))) c' (fC c' (X.env.qual++"<lambda>")) b=H1 b:=fun b h1 h2=>by rw [ad h2,ad h1]
   have ex:∀ b,P1 b->P1 b/\af (af H1 P (.tbl (ps++more))) c' (fC c' (X.env.qual++"<lambda>")) b=H1 b:=fun b h=>⟨h,eq b (nP b h) (nc b (s1'.dom b h))⟩
   refine ⟨⟨ex,⟨[],by simp,by simp⟩,fun b h _ z=>eq b (fun e=>z ps (by rw [e];exact hP)) (nc b h),fun b h=>.inl h,fun b h=>?_,fun b o u h=>?_⟩,s1'.stay ex (fun b h=>eq b (ncell b h) (nc b (s1'.cd b h))) (fun _ _ h=>h) (fun b h=>by rw [(ex b h).2];exact s1'.dom b h) fun t ht'=>⟨?_,(s1'.tb t ht').2⟩⟩
   ·by_cases e:b=P
    ·subst e;rw [ad hne,au];exact fun z=>nomatch z
    ·rw [eq b e (nc b h)];exact h
   ·rw [eq b (fun e=>by rw [e,hP] at h;cases h) (nc b (by rw [h];exact fun z=>nomatch z))];exact h
   ·by_cases e:t.1=P
    ·rw [hdj t ht' e];exact Cv
    ·obtain ⟨qs,g1,g2,g3⟩:=(s1'.tb t ht').1
     refine ⟨qs,by rw [eq t.1 e (nc _ (by rw [g1];exact fun z=>nomatch z))];exact g1,g2,?_⟩;rcases g3 with g3 | ⟨c2,g4,g5⟩
     ·exact .inl g3
     ·exact .inr ⟨c2,g4,by rw [eq c2 (fun z=>by rw [z,hP] at g5;cases g5) (nc _ (by rw [g5];exact fun z=>nomatch z))];exact g5⟩
 obtain ⟨hlen,hget⟩:=p9 e5;have aF:∀ H',(∃ P' φ',Frm P1 φ1 H2 P' φ' H'/\Sim X.gm P' φ' p1.2 H')->∀ z,oi (ns.zip ks)=z->∀ w,(∀ P' φ',RA X.gm P' H' φ' z w)->Q w H':=fun H' hq0 z hz w r=>by
  obtain ⟨P',φ',f',s'⟩:=hq0;rw [hz] at k;exact k P' φ' H' w ((f1.trans fs.1).trans f') s' (r P' φ')
 have hmc:=p6 (X:=X) (Mv:=Mv++[(q,ud X.mg (X.env.qual++"<lambda>") params body scope cl (.ref c') ctv)]) (σ:=σ) (ko:=some (.ref q)) (kws:=[(Str.ofString "key",.ref q),(Str.ofString "default",.none)]) (l:=l) (ns:=ns) (H:=H2) (s:=s2) (Q:=Q) (E:=X.xe)
  (I.ok.hd hc) (fun i=>ks.getD i 0) (fun _ H'=>∃ P' φ',Frm P1 φ1 H2 P' φ' H'/\Sim X.gm P' φ' p1.2 H') (fun i H' ⟨P',φ',f',s'⟩=>?_) rfl (El _ _) (fun i n u pl s3 H3 en ru ⟨P3,φ3,f3,s3'⟩ I3=>.inr ⟨q,rfl,?_⟩) (fun i n H' en hmin hJ=>?_) (fun en=>?_) I2 ⟨P1,φ1,Frm.refl,fs.2⟩
 ·exact aB hmc fun u s9 ⟨v9,H9,I9,r9,q9⟩=>⟨v9,H9,I9.pins_of fun p hp=>I9.pin p (zK _ (zL _ hp)),r9,q9⟩
 ·obtain ⟨b,eb,hb⟩:=(rw1.frm (fs.1.trans f')).lsI s' e3
  cases eb;exact hb
 ·obtain ⟨kv,ek,hk⟩:=hget i n en
  unfold vM at hk;split at hk
  ·rename_i k0 st0 ekey
   cases hk
   have:=pu _ _ _ _ ekey
   subst this;have hpin:=I3.pin (q,ud X.mg (X.env.qual++"<lambda>") params body scope cl (.ref c') ctv) (zK _ (zL _ (zK _ (zM.mpr rfl))));have hcx:H3 c'=some (fC c' (X.env.qual++"<lambda>")):=fs.2.okeep f3 hx2;have hcr:s3.heap.CodeRec (.ref c') (X.env.qual++"<lambda>"):=(I3.MB c' _ hcx).1;refine xT (te:=rE X.gm key) T I3 I.ok.frames (I.ok.hd hc) hd hcl1 hcl2 hp hps hpin.1 hcr (fun s H=>he cl q c' s H) ru ?_;have ksl:MH X.gm P3 H3 φ3 (sl++[some (.int n)]) (σ++[some (.int n)]):=MH.snoc (((rs.frm f1).frm fs.1).frm f3) (by simp only [RA]);refine ⟨P3,φ3,sl++[some (.int n)],p1.2,ksl,s3',.int kv,p1.2,ekey,fun P4 φ4 H4 b f4 s4 r4=>?_⟩;simp only [RA] at r4;exact ⟨by rw [r4];simp [ek],P4,φ4,f3.trans f4,s4⟩
  ·cases hk
 ·exact aF H' hJ _ (Cg hlen en hmin) _ fun P' φ'=>by simp only [RA]
 ·subst en
  exact aF H2 ⟨P1,φ1,Frm.refl,fs.2⟩ _ rfl _ fun P' φ'=>by simp only [List.zip_nil_left,oi,RA]
end
section
variable {X:Cx}{a b:Expr}{f g:EF}{pos p1 p2 pos2:Pos}
noncomputable def ot (i:Int):Bool:=decide (0 <= i) && decide (i <= 1000)
def tT (f:EF):NF:=fun sl st=>(f sl st).bind fun p=>match p.1 with
 | .int j=>if ot j=true then some (cJ 0 j.toNat,p.2) else none
 | _=>none
def tS (f g:EF):NF:=fun sl st=>(f sl st).bind fun p=>(g sl p.2).bind fun q=>match p.1,q.1 with
 | .int i,.int j=>if (ot i && ot j && decide (i <= j))=true then some (cJ i (j - i).toNat,q.2) else none
 | _,_=>none
theorem MA.rng (i:Nat):∀ n:Nat,MA mg P H φ (cJ (i:Int) n) ((List.range' i n).map fun (q:Nat)=>V.int (q:Int)):=by
 have key:∀ (l:List Nat),MA mg P H φ (l.map fun (k:Nat)=>AV.int ((i:Int) + (k:Int))) (l.map fun (k:Nat)=>V.int ((i:Int) + (k:Int))):=by
  intro l
  induction l with
  | nil=>exact bg
  | cons x l ih=>exact aS (by simp only [RA]) ih
 intro n;have:((List.range' i n).map fun (q:Nat)=>V.int (q:Int))=(List.range n).map fun (k:Nat)=>V.int ((i:Int) + (k:Int)):=by
  rw [List.range'_eq_map_range,List.map_map];refine List.map_congr_left fun k _=>?_
  simp
 rw [this];exact key _
theorem C3 [My] (hc:X.calm=true) (hgl:Gl X "list") (hml:X.mg "list"=none) (hgr:Gl X "range") (hmr:X.mg "range"=none) (ha:QE X a f)
  (hs:starEach [a] X.env=[(false,eval a X.env)]):QN X (.Call (.Name "list" p1) [.Call (.Name "range" p2) [a] [] pos2] [] pos) (tT f) :=
 PE_imp (xh hc hgl hml hgr hmr ha hs) fun σ H Q hq0=>by
  obtain ⟨P,φ,sl,st,rs,s,xs,st',ef,k⟩:=hq0;obtain ⟨q,e1,e2⟩:=zA ef;refine ⟨P,φ,sl,st,rs,s,q.1,q.2,e1,fun P1 φ1 H1 w f1 s1 r1=>?_⟩;show ∃ j:Nat,[w]=[.int (j:Int)]/\j <= 1000/\∀ p,H1 p=none->Q (.ref p) (af H1 p (.lst ((List.range' 0 j).map fun (q:Nat)=>V.int (q:Int))));split at e2
  ·rename_i j ej
   split at e2
   ·rename_i hb
    cases e2;rw [ej] at r1;simp only [RA] at r1;subst r1;obtain ⟨h1,h2⟩:=Bool.and_eq_true_iff.mp hb;have h1:=of_decide_eq_true h1;have h2:=of_decide_eq_true h2;refine ⟨j.toNat,by rw [Int.toNat_of_nonneg h1],by omega,fun p hp=>?_⟩;exact k P1 φ1 H1 p _ f1 s1 hp (MA.rng 0 j.toNat)
   ·cases e2
  ·cases e2
theorem C2 [My] (hc:X.calm=true) (hgl:Gl X "list") (hml:X.mg "list"=none) (hgr:Gl X "range") (hmr:X.mg "range"=none) (ha:QE X a f) (hb:QE X b g)
  (hs:starEach [a,b] X.env=[(false,eval a X.env),(false,eval b X.env)]) (hs2:starEach [b] X.env=[(false,eval b X.env)]):QN X (.Call (.Name "list" p1) [.Call (.Name "range" p2) [a,b] [] pos2] [] pos) (tS f g) :=
 PE_imp (vp hc hgl hml hgr hmr (bF ha (bF hb dG (by rw [hs2];rfl)) (by rw [hs,hs2])) hs hs2) fun σ H Q hq0=>by
  obtain ⟨P,φ,sl,st,rs,s,xs,st',ef,k⟩:=hq0;obtain ⟨q,e1,e2⟩:=zA ef;obtain ⟨r,e3,e4⟩:=zA e2;refine CQ rs s ⟨q.1,q.2,r.1,r.2,e1,e3,fun P1 φ1 H1 w w' f1 s1 r1 r2=>?_⟩;split at e4
  ·rename_i i j ei ej
   split at e4
   ·rename_i hb
    cases e4;rw [ei] at r1;rw [ej] at r2;simp only [RA] at r1 r2;subst r1;subst r2;simp only [ot,zC,yB] at hb;obtain ⟨⟨⟨h1,h2⟩,h3,h4⟩,h5⟩:=hb;refine ⟨i.toNat,j.toNat,by rw [Int.toNat_of_nonneg h1,Int.toNat_of_nonneg h3],by omega,by omega,fun p hp=>?_⟩;refine k P1 φ1 H1 p _ f1 s1 hp ?_;have e1:(j - i).toNat=j.toNat - i.toNat:=by omega
    have e2:i=((i.toNat:Nat):Int):=by omega
    have:=MA.rng (mg:=X.gm) (P:=P1) (H:=H1) (φ:=φ1) i.toNat (j.toNat - i.toNat)
    rw [<- e2,<- e1] at this;rw [<- e1];exact this
   ·cases e4
  ·cases e4
end
def mN:aW->AV
 | .inl i=>.int i
 | .inr x=>.str x
noncomputable def zb (k:Nat):Out->Option Out
 | .nx sl st=>match st[k]? with
  | some (.wk Mx)=>some (.nx sl (st.set k (.dK Mx)))
  | _=>none
 | .rt v st=>match st[k]? with
  | some (.wk Mx)=>some (.rt v (st.set k (.dK Mx)))
  | _=>none
 | _=>none
def tD (f:EF) (g:GF) (s:SF):SF:=fun sl st=>(f sl st).bind fun p=>match p.1 with
 | .ref k=>match p.2[k]? with
  | some (.dK Mx)=>(cZ [] g s (Mx.map fun q=>mN q.1) sl (p.2.set k (.wk Mx))).bind (zb k)
  | _=>none
 | _=>none
section
variable {X:Cx}{tg iter:Expr}{body:List Stmt}{pos:Pos}{f:EF}{g:GF}{s:SF}
theorem A1 [My] (hp:PassesOwn (model X.prog X.w) X.A X.env X.xe) (hc:X.calm=true) (hi:QE X iter f) (hg:QG X tg g) (hb:kA X body s) (hs:∀ x,foldedSetIterable iter X.env x=pure x):QS X (.For tg iter body [] pos) (tD f g s) :=
 PS_imp (Bm (vh hp hc (Bu hi) hg hb hs)) fun D σ H hq0=>by
  obtain ⟨P,φ,sl,st,rs,sm,o,e,q⟩:=hq0;obtain ⟨p,e1,e2⟩:=zA e;refine ⟨P,φ,sl,st,rs,sm,p.1,p.2,e1,fun P1 φ1 H1 w f1 s1 r1=>?_⟩;split at e2
  ·rename_i k ek
   rw [ek] at r1;simp only [RA] at r1;obtain ⟨a,ea,rfl⟩:=r1;split at e2
   ·rename_i Mx hk
    obtain ⟨o1,e3,e4⟩:=zA e2;obtain ⟨na,ws,h1,h2⟩:=s1.cell k _ a hk ea;refine ⟨a,ws,rfl,h1,fun ob hn=>?_⟩;have hkeys:(Mx.map fun q=>mN q.1).length=ws.length:=by
     have:=congrArg List.length h2.1
     rw [zH,zH] at this;rw [zH];exact this
    obtain ⟨fw,sw⟩:=gU (c:=.wk Mx) (o:=.frz ob (.dK ws)) s1 ea na ⟨na,ob,ws,au,h2.mono (fun b h=>⟨h,ad fun e=>na (e ▸ h)⟩) fun _ _ z=>z⟩ (fun _ _ z=>by rw [h1] at z;cases z);have rsw:MH X.gm P1 (af H1 a (.frz ob (.dK ws))) φ1 sl σ:=(rs.frm f1).frm fw
    -- behind the loop
    have back:∀ {P5 φ5 H5 st5},Frm P1 φ1 (af H1 a (.frz ob (.dK ws))) P5 φ5 H5->Sim X.gm P5 φ5 st5 H5->∀ {kvs'},st5[k]?=some (.wk kvs')->∃ o5 ws5,H5 a=some (.frz o5 (.dK ws5)) /\
      Frm P φ H P5 φ5 (af H5 a (.dK ws5))/\Sim X.gm P5 φ5 (st5.set k (.dK kvs')) (af H5 a (.dK ws5))/\∀ b,P5 b->P5 b/\af H5 a (.dK ws5) b=H5 b:=by
     intro P5 φ5 H5 st5 f5 s5 kvs' hw;have ea5:φ5[k]?=some a:=f5.ix k a ea;obtain ⟨na5,o5,ws5,g1,g2⟩:=s5.cell k _ a hw ea5;have ex5:∀ b,P5 b->P5 b/\af H5 a (.dK ws5) b=H5 b:=fun b h=>⟨h,ad fun e=>na5 (e ▸ h)⟩
     refine ⟨o5,ws5,g1,?_,?_,ex5⟩
     ·have fall:=(f1.trans fw).trans f5
      obtain ⟨m,em,nm⟩:=fall.new;have hna:H a=none\/a ∈ φ:=by
       rcases zZ.mp (show a ∈ φ++f1.new.choose by rw [<- f1.new.choose_spec.1];exact zW ea) with z | z
       ·exact .inr z
       ·exact .inl (f1.new.choose_spec.2 a z)
      refine ⟨fun b h=>⟨(fall.ext b h).1,?_⟩,⟨m,em,nm⟩,fun b h n z=>?_,fall.pn,fun b h=>?_,fun b o u h=>?_⟩
      ·rw [(ex5 b (fall.ext b h).1).2];exact (fall.ext b h).2
      ·have nb:b ≠ a:=fun e=>by
        rcases hna with y | y
        ·exact h (by rw [e];exact y)
        ·exact n (by rw [e];exact y)
       rw [ad nb];exact fall.keep b h n z
      ·by_cases e:b=a
       ·rw [e,au];exact fun z=>nomatch z
       ·rw [ad e];exact fall.sm b h
      ·have nb:b ≠ a:=fun e=>by
        have:=f1.fz b o u h
        rw [e,h1] at this;cases this
       rw [ad nb];exact fall.fz b o u h
     ·have hs5:st5[k]?=some (.wk kvs'):=hw
      refine ⟨by rw [List.length_set];exact s5.len,s5.nd,fun b h=>by rw [(ex5 b h).2];exact s5.dom b h,fun b h=>?_,fun j c b e5 e6=>?_,fun t ht=>⟨(s5.tb t ht).1.wr (s5.notb ea5 na5),(s5.tb t ht).2⟩⟩
      ·by_cases e:b=a
       ·rw [e,au];exact fun z=>nomatch z
       ·rw [ad e];exact s5.cd b h
      ·by_cases hj:j=k
       ·subst hj
        rw [ea5] at e6;cases e6;rw [List.getElem?_set_self (by rw [<- s5.len];exact (zB.mp ea5).1)] at e5;cases e5;exact ⟨na5,ws5,au,g2.mono ex5 fun _ _ z=>z⟩
       ·rw [List.getElem?_set_ne (Ne.symm hj)] at e5
        have hb:b ≠ a:=fun e=>hj (by
         subst e;obtain ⟨l1,q1⟩:=zB.mp e6;obtain ⟨l2,q2⟩:=zB.mp ea5;exact (List.getElem_inj s5.nd).mp (q1.trans q2.symm))
        exact (s5.cell j c b e5 e6).mono ex5 (fun _ _ z=>z) (ad hb) fun z=>z
    have endN:∀ {P5 φ5 H5 σ5 sl5 st5},o1=.nx sl5 st5->Frm P1 φ1 (af H1 a (.frz ob (.dK ws))) P5 φ5 H5->Sim X.gm P5 φ5 st5 H5->MH X.gm P5 H5 φ5 sl5 σ5->(oW X.H₀ D).nx σ5 H5:=by
     intro P5 φ5 H5 σ5 sl5 st5 eo f5 s5 rs5;subst eo;simp only [zb] at e4;split at e4
     ·rename_i kvs' hw
      cases e4;obtain ⟨o5,ws5,g1,g2,g3,g4⟩:=back f5 s5 hw;exact ⟨a,o5,ws5,g1,hn,q P5 φ5 _ σ5 g2 g3 ⟨rs5.1,fun i v e=>let ⟨w,e',r⟩:=rs5.2 i v e;⟨w,e',r.mono g4 fun _ _ z=>z⟩⟩⟩
     ·cases e4
    have endR:∀ {P5 φ5 H5 v5 st5 w5},o1=.rt v5 st5->Frm P1 φ1 (af H1 a (.frz ob (.dK ws))) P5 φ5 H5->Sim X.gm P5 φ5 st5 H5->RA X.gm P5 H5 φ5 v5 w5->(oW X.H₀ D).rt w5 H5:=by
     intro P5 φ5 H5 v5 st5 w5 eo f5 s5 r5;subst eo;simp only [zb] at e4;split at e4
     ·rename_i kvs' hw
      cases e4;obtain ⟨o5,ws5,g1,g2,g3,g4⟩:=back f5 s5 hw;exact ⟨a,o5,ws5,g1,hn,q P5 φ5 _ w5 g2 g3 (r5.mono g4 fun _ _ z=>z)⟩
     ·cases e4
    refine ⟨fun i m σ' H'=>m=ws.length - i/\i <= ws.length/\∃ P' φ' sl' st',Frm P1 φ1 (af H1 a (.frz ob (.dK ws))) P' φ' H'/\Sim X.gm P' φ' st' H'/\MH X.gm P' H' φ' sl' σ'/\cZ [] g s ((Mx.map fun q=>mN q.1).drop i) sl' st'=some o1,
     ⟨_,rfl,Nat.zero_le _,P1,φ1,sl,_,Frm.refl,sw,rsw,by simpa using e3⟩,?_⟩
    rintro i m σ' H' ⟨rfl,hle,P2,φ2,sl2,st2,f2,s2,rs2,eg⟩;have hfz:H' a=some (.frz ob (.dK ws)):=f2.fz a _ _ au;rcases yR i ws.length with hlt | hge
    ·right
     rw [List.drop_eq_getElem_cons (by rw [hkeys];exact hlt)] at eg;simp only [cZ,bQ,if_true] at eg;obtain ⟨q4,e5,e6⟩:=zA eg;obtain ⟨o2,e7,e8⟩:=zA e6;refine ⟨⟨hfz,hlt⟩,fun σ' H'=>∃ P' φ' sl' st',Frm P1 φ1 (af H1 a (.frz ob (.dK ws))) P' φ' H'/\Sim X.gm P' φ' st' H'/\MH X.gm P' H' φ' sl' σ'/\cZ [] g s ((Mx.map fun q=>mN q.1).drop (i + 1)) sl' st'=some o1,fun σ' H' z=>⟨_,by omega,rfl,hlt,z⟩,fun x H3 hy=>?_⟩;obtain ⟨rfl,hx⟩:=hy;have rx:RA X.gm P2 H3 φ2 ((Mx.map fun q=>mN q.1)[i]'(by rw [hkeys];exact hlt)) x:=by
      have hkw:Mx[i]?.map (·.1)=ws[i]?.map (·.1):=by rw [<- zR,<- zR,h2.1]
      have hlt':i < Mx.length:=by rw [zH] at hkeys;omega
      rw [zR,zF hlt] at hx;rw [zF hlt',zF hlt] at hkw;simp only [map_some,Option.some.injEq] at hx hkw;rw [List.getElem_map,hkw,<- hx];cases ws[i].1 with
      | inl n=>simp only [mN,RA,kV]
      | inr z=>simp only [mN,RA,kV]
     refine ⟨P2,φ2,sl2,st2,_,rs2,s2,rx,q4.1,q4.2,e5,fun P4 φ4 H4 σ4 f4 s4 rs4=>⟨P4,φ4,q4.1,q4.2,rs4,s4,o2,e7,?_⟩⟩;have fa:=f2.trans f4;cases o2 with
     | nx sl5 st5=>exact fun P5 φ5 H5 σ5 f5 s5 rs5=>⟨P5,φ5,sl5,st5,fa.trans f5,s5,rs5,e8⟩
     | ct sl5 st5=>exact fun P5 φ5 H5 σ5 f5 s5 rs5=>⟨P5,φ5,sl5,st5,fa.trans f5,s5,rs5,e8⟩
     | bk sl5 st5=>exact fun P5 φ5 H5 σ5 f5 s5 rs5=>endN (yD e8).symm (fa.trans f5) s5 rs5
     | rt v st5=>exact fun P5 φ5 H5 w f5 s5 r5=>endR (yD e8).symm (fa.trans f5) s5 r5
    ·left
     have ei:i=ws.length:=Nat.le_antisymm hle hge;subst ei;rw [<- hkeys,List.drop_length] at eg;simp only [cZ,bQ,if_true] at eg;exact ⟨⟨hfz,zP _⟩,endN (yD eg).symm f2 s2 rs2⟩
   ·cases e2
  ·cases e2
end
end R
namespace R
open PySem PySem.Spec PyProof.Rows L2
noncomputable def aU:Expr->Bool
 | .Starred _ _=>false
 | _=>true
noncomputable def i4:Expr->Bool
 | .Slice _ _ _ _=>false
 | _=>true
noncomputable def tQ:Expr->Bool
 | .Set _ _ _=>false
 | _=>true
noncomputable def lS:Expr->Bool
 | .Call (.Name _ _) [] [] _=>false
 | _=>true
noncomputable def kJ:Expr->Bool
 | .ListComp _ _ _ _=>false
 | .SetComp _ _ _ _=>false
 | .DictComp _ _ _ _ _=>false
 | _=>true
noncomputable def xA:Expr->Bool
 | .Tuple _ _ _=>false
 | _=>true
noncomputable def vj:Expr->Bool
 | .UnaryOp .Not _ _=>false
 | .BoolOp _ _ _=>false
 | .IfExp _ _ _ _=>false
 | .Compare _ _ _ _=>false
 | _=>true
section
variable {env:Env}{e o i a b:Expr}{es:List Expr}{pos cpos apos:Pos}{f:Str}
theorem aq (h:aU e=true):starEach (e::es) env=(false,eval e env)::starEach es env:=by
 cases e <;> first | rfl | cases h
theorem gY (h:es.all aU=true):(backTo pos (starEach es env)).any (·.1)=false:=by
 induction es with
 | nil=>rfl
 | cons e es ih =>
  rw [List.all_cons,zC] at h;rw [aq h.1];show (false || (backTo pos (starEach es env)).any (·.1))=false;rw [ih h.2];rfl
theorem wJ (h:es.all aU=true):(backTo pos (starEach es env)).all (fun x=>!x.1)=true:=by
 induction es with
 | nil=>rfl
 | cons e es ih =>
  rw [List.all_cons,zC] at h;rw [aq h.1];show (true && (backTo pos (starEach es env)).all (fun x=>!x.1))=true;rw [ih h.2];rfl
theorem IK (h:es.all aU=true) (hl:es.length < 30):((backTo cpos (starEach es env)).all (fun x=>!x.1) && (backToKw cpos (keywordEach [] env)).all (fun x=>x.1.isSome) && decide (es.length + ([]:List Keyword).length + (if ([]:List Keyword).isEmpty then 0 else 1) < 30))=true:=by
 rw [wJ h];have:decide (es.length + ([]:List Keyword).length + (if ([]:List Keyword).isEmpty then 0 else 1) < 30)=true:=yS (by simpa using hl);rw [this];rfl
theorem fi (w:Sem Value) (h:lS o=true):attributeBase o f env w=w:=by
 unfold attributeBase;split
 ·simp [lS] at h
 ·rfl
theorem sj (hb:lS o=true) (hs:es.all aU=true) (hl:es.length < 30) (hline:(apos.endLine == pos.line)=true):eval (.Call (.Attribute o f apos) es [] pos) env=(do
   let ov <- eval o env
   standAt apos.atName
   let (f,first) <- holding [ov] (getMethod ov f (do return (<- importBound o env).getD true))
   callWith pos f first (backTo pos (starEach es env)) (backToKw pos (keywordEach [] env))):=by
 rw [arm_eval_Call,fi _ hb];have hform:methodCallForm (es.length + ([]:List Keyword).length) (backTo pos (starEach es env)) (backToKw pos (keywordEach [] env))=true:=IK hs hl;have hpos:methodCallPos true o env apos pos=pure pos:=by unfold methodCallPos;simp [hline]
 unfold methodCall;rw [hform,hpos];rfl
theorem mj (h:tQ e=true) (x:Value):foldedSetIterable e env x=pure x:=by
 cases e <;> first | rfl | cases h
theorem GU (h:i4 i=true):om i:=fun _ _=>by
 cases i <;> first | rfl | cases h
theorem CG (h:i4 i=true) (v:Value):assign (.Subscript o i pos) env v=(do
   let ov <- holding [v] (eval o env)
   let iv <- holding [v,ov] (eval i env)
   standAt pos
   holding [v,ov,iv] (setItem ov iv v)
   release [v,ov,iv] []):=by
 cases i <;> first | rfl | cases h
theorem Ft (h:i4 i=true) (ov iv new:Value):augStore i ov iv new=(do holding [new,ov,iv] (setItem ov iv new);release [new,ov,iv] [];pure .next):=by
 cases i <;> first | rfl | cases h
theorem rn {l:Nat} (h:kJ e=true):swapsWith e t l env=pure false:=by
 cases e <;> first | rfl | cases h
theorem wG {l:Nat}:swapsWith e (some (.Attribute o f p)) l env=pure false:=by
 cases e <;> rfl
noncomputable def Ib (nm:List (Str × NameKind)) (t:Str) (tl:Nat) (sc:Scope) (vl:Nat):Bool:=decide (nm.lookup t=some .local) && (tl == vl) && !(sc.names.any fun (n,k)=>n == t && (k == .local || k == .cell))
theorem CF {l:Nat} (hk:env.scope.kind=.function) :
  swapsWith (.ListComp elt gens sc pos) (some (.Name t p)) l env=pure (Ib env.scope.names t p.line sc pos.line):=by
 have hb:env.blockKind=.function:=by unfold Env.blockKind;rw [hk];rfl
 show (pure (env.blockKind == .function && env.kindOf t == some .local && p.line == pos.line && !(sc.names.any fun (n,k)=>n == t && (k == .local || k == .cell))):Sem Bool)=_;rw [hb];have:(env.kindOf t == some NameKind.local)=decide (env.scope.names.lookup t=some .local):=by
  show (env.scope.names.lookup t == some NameKind.local)=_;cases h:env.scope.names.lookup t with
  | none=>rfl
  | some k=>cases k <;> rfl
 rw [this];rfl
theorem wI:swappedStores [.Subscript a b p] e env=pure none:=by cases e <;> rfl
theorem wH {k:Nat} (h:xA e=true):swappedStores [.Tuple ts k p] e env=pure none:=by cases e <;> first | rfl | cases h
theorem sJ (h:aU e=true):(assignEach [e] env).map (·.2)=[assign e env]:=by
 cases e <;> first | rfl | cases h
theorem yg (h:aU e=true):(assignEach (e::es) env).map (·.2)=assign e env::(assignEach es env).map (·.2):=by
 cases e <;> first | rfl | cases h
theorem yh:(assignEach es env).length=es.length:=by
 induction es with
 | nil=>rfl
 | cons e es ih=>cases e <;> (show (assignEach es env).length + 1=es.length + 1;rw [ih])
theorem yi (h:es.all aU=true):(assignEach es env).findIdx? (·.1)=none:=by
 have:∀ p ∈ assignEach es env,p.1=false:=by
  induction es with
  | nil=>intro p hp;cases hp
  | cons e es ih =>
   rw [List.all_cons,zC] at h;have e1:assignEach (e::es) env=(false,assign e env)::assignEach es env:=by
    cases e <;> first | rfl | cases h.1
   rw [e1];intro p hp;rcases zT.mp hp with rfl | hp
   ·rfl
   ·exact ih h.2 p hp
 rw [List.findIdx?_eq_none_iff];intro p hp;rw [this p hp]
theorem AM (h:vj e=true) (whole:Sem Value):isTrue e env whole=(do let v <- whole;standAt e.pos;holding [v] (truthy v)):=by
 cases e with
 | UnaryOp op x p=>cases op <;> first | rfl | cases h
 | BoolOp=>cases h
 | IfExp=>cases h
 | Compare=>cases h
 | _=>rfl
end
noncomputable def FG (a c:Int) (n:Nat):It:=⟨fun i _=>i < n,fun i H x H'=>H'=H/\x=.int (a + (i:Int) * c),fun i _=>n <= i⟩
theorem Cr {P:Program}{w:World}{K:Frag}{tg:Expr} (it:Addr) (a c:Int) (n:Nat):iR P w K tg (FG a c n) [it] it (fun i h=>IsRangeIter h it (a + (i:Nat) * c) ((n:Int) - (i:Nat)) c) where
 mem:=by simp
 obj:=fun i h st b hb=>by
  obtain rfl:b=it:=by simpa using hb
  exact ⟨_,st,fun v z=>nomatch (show Data.fields _=Data.cell v from z)⟩
 keep:=fun i h h' st k=>k it (by simp) _ st
 item:=by
  intro X hP hw hK hc i Mv s σ H E I hf st hg;subst hP hw hK;obtain ⟨f0,f1,f2,f3,f4,f5⟩:=hf it (by simp);refine (Walks.range (prog:=X.prog) (w:=X.w) (I.ok.hd hc) it a c n).item i s _ _ hg st fun v h' tk hv st' kk=>?_
  obtain ⟨t,rfl⟩:=hv;have I1:Inv X Mv σ H { s with heap:=h',toks:=tk }:=I.turned (fun b o hb e=>kk b o (by simpa using hb) e) f0 f1 f3 f4 f5;exact ⟨_,rfl,kQ (s:={ s with heap:=h',toks:=tk }) (n:="range_iterator") st' rfl rfl dC ⟨.int (a + (i:Int) * c),H,I1,⟨t,rfl⟩,⟨rfl,rfl⟩,st',fun b hb=>(hf b hb).1⟩⟩
 done:=by
  intro X hP hw hK hc i Mv s σ H E I hf st hg;subst hP hw hK;obtain ⟨f0,f1,f2,f3,f4,f5⟩:=hf it (by simp);exact wpAny_pyNext_range_end (I.ok.hd hc) st (by have:n <= i:=hg;omega) fun h' eb=>⟨rfl,I.turned (t':=s.toks) (fun b o hb e=>eb b o hb e) f0 f1 f3 f4 f5⟩
 self:=fun _ _ _ _ _ st h=>wpAny_pyIter_rangeiter st h
noncomputable def mw (a b c:Int):Bool:=decide (0 < c) && Nat.ble c.natAbs 1000000 && Builtin.Range.small a b c
noncomputable def dN (a b c:Int):Nat:=(Builtin.Range.rangeSize a b c).toNat
def nN (a b c:Int):List AV:=(List.range (dN a b c)).map fun (i:Nat)=>.int (a + (i:Int) * c)
theorem rp {a b c:Int} (hc:0 < c):0 <= Builtin.Range.rangeSize a b c:=by
 unfold Builtin.Range.rangeSize;rw [yH (show c > 0 from hc)];split
 ·have:=Int.ediv_nonneg (a:=b - a - 1) (b:=c) oM oM;omega
 ·exact Int.le_refl _
section
variable {X:Cx}{tg:Expr}{mg:Gm}{P:Pr}{φ:List Addr}{H:Hp}{a b c:Expr}{f g h:EF}{p pos:Pos}
def KM (ta:TA):TI:=fun σ H R=>ta σ H fun vs H1=>∃ i j k:Int,vs=[.int i,.int j,.int k]/\mw i j k=true/\R (FG i k (dN i j k)) H1
theorem JF {ta:TA} (hg:Gl X "range") (hm:X.mg "range"=none) (ha:PA X [a,b,c] ta) (hs:starEach [a,b,c] X.env=[(false,eval a X.env),(false,eval b X.env),(false,eval c X.env)])
  (hs2:starEach [b,c] X.env=[(false,eval b X.env),(false,eval c X.env)]):PI X tg (.Call (.Name "range" p) [a,b,c] [] pos) (KM ta):=by
 intro Mv s σ H R I h;refine Call_ (cH I hg hm boot_range (PyProof.Rows.callWith_type1 (aB (ha pos Mv s σ H _ I h) fun us s1 hq0=>?_) (by rw [hs,hs2]) (by rw [hs2];rfl)));obtain ⟨vs,H1,I1,r1,i,j,k,e,hb,q⟩:=hq0;subst e;unfold mw at hb;simp only [zC,yB] at hb;obtain ⟨⟨h1,h2⟩,h3⟩:=hb;have h2:=zS h2;obtain ⟨u1,us1,rfl,ru1,r2⟩:∃ u us',us=u::us'/\RelV (.int i) u/\Vals [.int j,.int k] us':=by cases r1 with | cons r rr=>exact ⟨_,_,rfl,r,rr⟩
 obtain ⟨u2,us2,rfl,ru2,r3⟩:∃ u us',us1=u::us'/\RelV (.int j) u/\Vals [.int k] us':=by cases r2 with | cons r rr=>exact ⟨_,_,rfl,r,rr⟩
 obtain ⟨u3,us3,rfl,ru3,r4⟩:∃ u us',us2=u::us'/\RelV (.int k) u/\Vals [] us':=by cases r3 with | cons r rr=>exact ⟨_,_,rfl,r,rr⟩
 cases r4;obtain ⟨t1,rfl⟩:=ru1;obtain ⟨t2,rfl⟩:=ru2;obtain ⟨t3,rfl⟩:=ru3;refine call_range_3 oM ?_ (Or.inl (PyProof.noPylong_small oM));refine wpAny_pyIter_range (IsRange.new ..) h3 ?_;have I2:Inv X Mv σ H1 { s1 with heap:=s1.heap.push { cls:=.type "range",data:=.fields #[.int i t1,.int j t2,.int k t3] },toks:=s1.toks }:=I1.kept fun b o e=>zG _ e
 refine ⟨(s1.heap.push { cls:=.type "range",data:=.fields #[.int i t1,.int j t2,.int k t3] }).objs.size,[(s1.heap.push { cls:=.type "range",data:=.fields #[.int i t1,.int j t2,.int k t3] }).objs.size],_,_,H1,rfl,I2.kept (t':=s1.toks) fun b o e=>zG _ e,Cr _ i k (dN i j k),?_,fun b hb=>?_,q⟩
 ·have e1:i + ((0:Nat):Int) * k=i:=by simp
  have e2:((dN i j k:Nat):Int) - ((0:Nat):Int)=Builtin.Range.rangeSize i j k:=by have:=rp (a:=i) (b:=j) h1;unfold dN;omega
  show IsRangeIter _ _ (i + ((0:Nat):Int) * k) (((dN i j k:Nat):Int) - ((0:Nat):Int)) k;rw [e1,e2];exact zY _ rfl
 ·obtain rfl:b=(s1.heap.push { cls:=.type "range",data:=.fields #[.int i t1,.int j t2,.int k t3] }).objs.size:=by simpa using hb
  exact I2.fpOk (zP _) (I2.MB.fresh (zP _))
theorem GV [My] {i k:Int}{j:Int}:qX mg (FG i k (dN i j k)) ⟨nN i j k,[]⟩ P φ H where
 go:=fun P2 φ2 H2 st2 m y f s g e=>by
  unfold nN at e;rw [zR] at e;obtain ⟨c,e1,e2⟩:=zE.mp e;obtain ⟨h1,h2⟩:=zB.mp e1;rw [List.getElem_range] at h2;subst h2 e2;rw [List.length_range] at h1;refine ⟨h1,fun w H3 hq=>?_⟩;obtain ⟨hH,hw⟩:=hq;subst hH;exact ⟨P2,Frm.refl,s,by simp only [RA];exact hw⟩
 stop:=fun P2 φ2 H2 st2 f s g=>by
  show dN i j k <= (nN i j k).length;simp [nN]
theorem Im [My] {σ:St}{Q:List V->Hp->Prop}{sl:Sl}{st:aa} (rs:MH mg P H φ sl σ) (s:Sim mg P φ st H)
  (hh:∃ v st1 u st2 x st3,f sl st=some (v,st1)/\g sl st1=some (u,st2)/\h sl st2=some (x,st3)/\∀ P1 φ1 H1 w w' w'',Frm P φ H P1 φ1 H1->Sim mg P1 φ1 st3 H1->RA mg P1 H1 φ1 v w->RA mg P1 H1 φ1 u w'->RA mg P1 H1 φ1 x w''->Q [w,w',w''] H1):rA mg (db f (db g (db h dF))) σ H Q:=by
 obtain ⟨v,st1,u,st2,x,st3,e,e',e'',k⟩:=hh;refine ⟨P,φ,sl,st,rs,s,[v,u,x],st3,by simp only [db,dF,e,e',e'',bind_some],fun P1 φ1 H1 ws f1 s1 r1=>?_⟩;simp only [MA] at r1;obtain ⟨w,us,rfl,r,w',us',rfl,r',w'',us'',rfl,r'',rfl⟩:=r1;exact k P1 φ1 H1 w w' w'' f1 s1 r r' r''
def EU (f g h:EF):IF:=fun sl st=>(f sl st).bind fun p=>(g sl p.2).bind fun q=>(h sl q.2).bind fun r=>match p.1,q.1,r.1 with
 | .int i,.int j,.int k=>if mw i j k=true then some (⟨nN i j k,[]⟩,r.2) else none
 | _,_,_=>none
theorem F9 [My] (hg:Gl X "range") (hm:X.mg "range"=none) (ha:QE X a f) (hb:QE X b g) (hc:QE X c h) (hs:starEach [a,b,c] X.env=[(false,eval a X.env),(false,eval b X.env),(false,eval c X.env)]) (hs2:starEach [b,c] X.env=[(false,eval b X.env),(false,eval c X.env)]) (hs3:starEach [c] X.env=[(false,eval c X.env)]) :
  QI X tg (.Call (.Name "range" p) [a,b,c] [] pos) (EU f g h) :=
 fW (JF hg hm (bF ha (bF hb (bF hc dG (by rw [hs3];rfl)) (by rw [hs2,hs3])) (by rw [hs,hs2])) hs hs2) fun σ H R hq=>by
  obtain ⟨P,φ,sl,st,rs,s,iv,st',ef,k⟩:=hq;obtain ⟨q,e1,e2⟩:=zA ef;obtain ⟨r,e3,e4⟩:=zA e2;obtain ⟨t,e5,e6⟩:=zA e4;refine Im rs s ⟨q.1,q.2,r.1,r.2,t.1,t.2,e1,e3,e5,fun P1 φ1 H1 w w' w'' f1 s1 r1 r2 r3=>?_⟩;split at e6
  ·rename_i i j m ei ej em
   rw [ei] at r1;rw [ej] at r2;rw [em] at r3;split at e6
   ·rename_i hb
    cases e6;simp only [RA] at r1 r2 r3;subst r1;subst r2;subst r3;exact ⟨i,j,m,rfl,hb,k P1 φ1 H1 _ f1 s1 GV⟩
   ·cases e6
  ·cases e6
end
end R
namespace R
open PySem PySem.Spec PyProof.Rows L2 DD
theorem uL (a c:Int):∀ (l:List Value) (k:Nat),(∀ (j:Nat) (v:Value),l[j]?=some v->∃ t,v=.int (a + ((k + j:Nat):Int) * c) t)->Vals ((List.range' k l.length).map fun (q:Nat)=>V.int (a + (q:Int) * c)) l
 | [],_,_=>.nil
 | u::l,k,h=>by
  rw [yU,List.range'_succ,zO];refine .cons ?_ (uL a c l (k + 1) fun j v e=>?_)
  ·obtain ⟨t,e⟩:=h 0 u rfl
   exact ⟨t,e⟩
  ·obtain ⟨t,e2⟩:=h (j + 1) v (by simpa using e)
   exact ⟨t,by rw [e2,show k + (j + 1)=k + 1 + j by omega]⟩
def xM (i j k:Int):Bool:=mw i j k && Nat.ble (dN i j k) 1000
section
variable {X:Cx}{a b c:Expr}{f g h:EF}{p1 p2 pos pos2:Pos}
def CA (ta:TA):TE:=fun σ H Q=>ta σ H fun vs H1=>∃ i j k:Int,vs=[.int i,.int j,.int k]/\xM i j k=true/\∀ p,H1 p=none->Q (.ref p) (af H1 p (.lst ((List.range (dN i j k)).map fun (q:Nat)=>V.int (i + (q:Int) * k))))
theorem xj {ta:TA} (hc:X.calm=true) (hgl:Gl X "list") (hml:X.mg "list"=none) (hgr:Gl X "range") (hmr:X.mg "range"=none) (ha:PA X [a,b,c] ta)
  (hs:starEach [a,b,c] X.env=[(false,eval a X.env),(false,eval b X.env),(false,eval c X.env)]) (hs2:starEach [b,c] X.env=[(false,eval b X.env),(false,eval c X.env)]) :
  PE X (.Call (.Name "list" p1) [.Call (.Name "range" p2) [a,b,c] [] pos2] [] pos) (CA ta):=by
 intro Mv s σ H Q I h;have hs1:starEach [.Call (.Name "range" p2) [a,b,c] [] pos2] X.env=[(false,eval (.Call (.Name "range" p2) [a,b,c] [] pos2) X.env)]:=rfl;refine Call_ (cH I hgl hml gQ (PyProof.Rows.callWith_type1 ?_ (by rw [hs1];rfl) (by rfl)));rw [hs1];refine Calls.spliced_cons (Call_ (cH I hgr hmr boot_range (PyProof.Rows.callWith_type1 (aB (ha pos2 Mv s σ H _ I h) fun us s1 hq0=>?_) (by rw [hs,hs2]) (by rw [hs2];rfl))));obtain ⟨vs,H1,I1,r1,i,j,k,e,hb,q⟩:=hq0;subst e;unfold xM mw at hb;simp only [zC,yB] at hb;obtain ⟨⟨⟨h1,h2⟩,h3⟩,h4⟩:=hb;have h2:=zS h2;have h4:=zS h4;obtain ⟨u1,us1,rfl,ru1,r2⟩:∃ u us',us=u::us'/\RelV (.int i) u/\Vals [.int j,.int k] us':=by cases r1 with | cons r rr=>exact ⟨_,_,rfl,r,rr⟩
 obtain ⟨u2,us2,rfl,ru2,r3⟩:∃ u us',us1=u::us'/\RelV (.int j) u/\Vals [.int k] us':=by cases r2 with | cons r rr=>exact ⟨_,_,rfl,r,rr⟩
 obtain ⟨u3,us3,rfl,ru3,r4⟩:∃ u us',us2=u::us'/\RelV (.int k) u/\Vals [] us':=by cases r3 with | cons r rr=>exact ⟨_,_,rfl,r,rr⟩
 cases r4;obtain ⟨t1,rfl⟩:=ru1;obtain ⟨t2,rfl⟩:=ru2;obtain ⟨t3,rfl⟩:=ru3;refine call_range_3 oM (Calls.spliced_nil ?_) (Or.inl (PyProof.noPylong_small oM));have I2:Inv X Mv σ H1 { s1 with heap:=s1.heap.push { cls:=.type "range",data:=.fields #[.int i t1,.int j t2,.int k t3] },toks:=s1.toks }:=I1.kept fun b o e=>zG _ e
 refine call_list_range (n:=dN i j k) (I.ok.hd hc) (IsRange.new ..) h3 (by have:=rp (a:=i) (b:=j) h1;unfold dN;omega) oM fun h' tk acc' c' hk hS hacc=>?_
 have hv:=uL i k acc'.toList 0 (fun i v e=>by
  obtain ⟨t,e2⟩:=hacc.2 i v (by simpa using e);exact ⟨t,by rw [e2,Nat.zero_add]⟩)
 rw [show acc'.toList.length=dN i j k by simpa using hacc.1,<- List.range_eq_range'] at hv;exact ⟨.ref _,_,I2.laid (o:=.lst ((List.range (dN i j k)).map fun (q:Nat)=>V.int (i + (q:Int) * k))) hk (zP _) ⟨yV (jU (by simp;omega)),acc'.toList,c',hv,hS⟩,rfl,q _ I2.fresh⟩
def xB (f g h:EF):NF:=fun sl st=>(f sl st).bind fun p=>(g sl p.2).bind fun q=>(h sl q.2).bind fun r=>match p.1,q.1,r.1 with
 | .int i,.int j,.int k=>if xM i j k=true then some (nN i j k,r.2) else none
 | _,_,_=>none
theorem Ax {mg:Gm}{P:Pr}{H:Hp}{φ:List Addr} (i k:Int):∀ l:List Nat,MA mg P H φ (l.map fun (q:Nat)=>AV.int (i + (q:Int) * k)) (l.map fun (q:Nat)=>V.int (i + (q:Int) * k))
 | []=>bg
 | x::l=>aS (by simp only [RA]) (Ax i k l)
theorem C1 [My] (hc:X.calm=true) (hgl:Gl X "list") (hml:X.mg "list"=none) (hgr:Gl X "range") (hmr:X.mg "range"=none) (ha:QE X a f) (hb:QE X b g) (hh:QE X c h)
  (hs:starEach [a,b,c] X.env=[(false,eval a X.env),(false,eval b X.env),(false,eval c X.env)]) (hs2:starEach [b,c] X.env=[(false,eval b X.env),(false,eval c X.env)]) (hs3:starEach [c] X.env=[(false,eval c X.env)]):QN X (.Call (.Name "list" p1) [.Call (.Name "range" p2) [a,b,c] [] pos2] [] pos) (xB f g h) :=
 PE_imp (xj hc hgl hml hgr hmr (bF ha (bF hb (bF hh dG (by rw [hs3];rfl)) (by rw [hs2,hs3])) (by rw [hs,hs2])) hs hs2) fun σ H Q hq0=>by
  obtain ⟨P,φ,sl,st,rs,s,xs,st',ef,k⟩:=hq0;obtain ⟨q,e1,e2⟩:=zA ef;obtain ⟨r,e3,e4⟩:=zA e2;obtain ⟨t,e5,e6⟩:=zA e4;refine Im rs s ⟨q.1,q.2,r.1,r.2,t.1,t.2,e1,e3,e5,fun P1 φ1 H1 w w' w'' f1 s1 r1 r2 r3=>?_⟩;split at e6
  ·rename_i i j m ei ej em
   rw [ei] at r1;rw [ej] at r2;rw [em] at r3;split at e6
   ·rename_i hb
    cases e6;simp only [RA] at r1 r2 r3;subst r1;subst r2;subst r3;exact ⟨i,j,m,rfl,hb,fun p hp=>k P1 φ1 H1 p _ f1 s1 hp (Ax i m _)⟩
   ·cases e6
  ·cases e6
end
end R
namespace R
open PySem PySem.Spec PyProof.Rows L2
noncomputable def zf (d:PyData):Bool:=PyData.layable0 d && d.intsShort 13 && d.showable && decide (d.depth <= 40)
def tx:PyData->Option AV
 | .list xs=>if zf (.list xs)=true then some (.str (PyData.shown (.list xs))) else none
 | _=>none
def pC (st:aa):List AV->Option AV
 | [x]=>(bE 9 st x).bind tx
 | _=>none
section
variable {X:Cx}
theorem Hj [My] (gd:X.A.guards=some []) (hu:X.A.units + 64 < cLine):bZ X (.type "str") (rB X.gm (bw pC)):=by
 rintro Mv s σ H vs us Q I rv ⟨P,φ,st,xs,sm,r,k0⟩;obtain ⟨z,e,k⟩:=k0.map;unfold pC at e;split at e
 ·obtain ⟨d,h1,h2⟩:=zA e
  obtain ⟨w,ew,r9⟩:=r.one;clear r;subst ew;obtain ⟨u,rfl,ru⟩:=dB rv;obtain ⟨as,ra⟩:=dO I sm 9 _ _ _ _ r9 h1 ru;unfold tx at h2;split at h2
  ·split at h2
   ·rename_i ys hb
    cases h2;unfold zf at hb;simp only [zC,yB] at hb;obtain ⟨⟨⟨b1,b2⟩,b3⟩,b4⟩:=hb;obtain ⟨a,rfl⟩:∃ a,u=.ref a:=by cases ra with | list=>exact ⟨_,rfl⟩
    exact str_of_reads ra b3 (PyData.noDict_hsm (PyData.hasDict_of_layable b1)) gd oM (fun _ _ e=>e) (fun h' u tk hk=>⟨.str _,H,I.kept hk,⟨_,rfl⟩,k.pure sm (by simp only [RA])⟩) (z0 (shown_le13 b1 b2) dC)
   ·cases h2
  ·cases h2
 ·cases e
end
set_option genInjectivity false
set_option genSizeOf false
set_option genSizeOfSpec false
inductive Bi where
 | len | sum | any | abs | min | max | int | str
inductive Mi where
 | app | pop | ext | cnt
mutual
inductive Ex where
 | n | b (x:Bool) | i (x:Int) | s (x:Str) | v (k:Nat) | g (x:Str) (c:AV) | bin (o:Operator) (a b:Ex) | cmp (o:CmpOp) (a b:Ex) | un (o:UnaryOp) (a:Ex) | no (a:Ex) | an (a b:Ex) | or (a b:Ex) | ife (t:Tx) (a b:Ex) | ix (a b:Ex) | tu (es:Exs) | nw (m:Bool) (x:Nx) | ca (p:Bool) (j:Nat) (es:Exs) | me (c m:Str) (j:Nat) (o:Ex) (es:Exs) | ne (c:Str) (j:Nat) (es:Exs) | fd (c f:Str) (o:Ex) | bi (b:Bi) (es:Exs) | mt (m:Mi) (o:Ex) (es:Exs) | dn | mnd (a:Ex) | mnk (a key:Ex)
inductive Tx where
 | va (e:Ex) | cmp (o:CmpOp) (a b:Ex) | no (t:Tx) | an (t u:Tx) | or (t u:Tx)
inductive Exs where
 | nil | cons (e:Ex) (es:Exs)
inductive Nx where
 | li (es:Exs) | cat (a b:Ex) | rep (es:Exs) (b:Ex) | sl (a:Ex) (l h:Ox) | lof (a:Ex) | lc (k:Nat) (it:Ix) (t:Tg) (c:Cx') (e:Ex) | lr1 (a:Ex) | lr2 (a b:Ex) | lr3 (a b c:Ex)
inductive Ox where
 | no | so (e:Ex)
inductive Cx' where
 | no | so (t:Tx)
inductive Ix where
 | e (a:Ex) | r1 (a:Ex) | r2 (a b:Ex) | zi (a b:Ex) | en (a:Ex) | es (a b:Ex) | r3 (a b c:Ex)
inductive Tg where
 | nm (k:Nat) | tu (n:Nat) (ts:Tgs) | su (a b:Ex)
inductive Tgs where
 | nil | cons (t:Tg) (ts:Tgs)
end
mutual
inductive Sx where
 | ex (e:Ex) | as (e:Ex) (t:Tg) | aus (o:Operator) (a b e:Ex) | fl (c f:Str) (o e:Ex) | rt (e:Ex) | iff (t:Tx) (a b:MC) | fo (it:Ix) (t:Tg) (b:MC) | wh (t:Tx) (b:MC) | dead | fd (a:Ex) (t:Tg) (b:MC)
inductive MC where
 | nil | cons (s:Sx) (ss:MC) | dead
end
def ku:Bi->BF
 | .len=>bw dL
 | .sum=>bw pB
 | .any=>bw qR
 | .abs=>bw qS
 | .min=>bw nT
 | .max=>bw tW
 | .int=>bw lW
 | .str=>bw pC
def k8:Mi->MF
 | .app=>j4
 | .pop=>t0
 | .ext=>t8
 | .cnt=>xJ
noncomputable def k9:Mi->String
 | _=>"list"
def kf (ks:List Fn) (j:Nat):Fn:=ks.getD j fun _ _=>none
def f9 (p:Bool) (fn:Fn):Fn:=if p=true then pm fn else fn
section
variable (ks:List Fn)
mutual
noncomputable def ev:Ex->EF
 | .n=>aC .non
 | .b x=>aC (.bl x)
 | .i x=>aC (.int x)
 | .s x=>aC (.str x)
 | .v k=>aV k
 | .g _ c=>aC c
 | .bin o a b=>a2 (ev a) (ev b) (jV (ci o))
 | .cmp o a b=>a2 (ev a) (ev b) (jV (lZ o))
 | .un o a=>a1 (ev a) (CK (pv o))
 | .no a=>IR (ev a)
 | .an a b=>Av (ev a) (ev b)
 | .or a b=>At (ev a) (ev b)
 | .ife t a b=>IS (tv t) (ev a) (ev b)
 | .ix a b=>a2 (ev a) (ev b) (jV b9)
 | .tu es=>IQ (a0 es)
 | .nw m x=>Au m (gh x)
 | .ca p j es=>wm (f9 p (kf ks j)) (a0 es)
 | .me c m j o es=>wl c m (kf ks j) (ev o) (a0 es)
 | .ne c j es=>wj c (kf ks j) (a0 es)
 | .fd c f o=>IT c f (ev o)
 | .bi b es=>qT (ku b) (a0 es)
 | .mt m o es=>ji (k9 m) (k8 m) (ev o) (a0 es)
 | .dn=>IU false
 | .mnd a=>qT (bw mJ) (db (ev a) dF)
 | .mnk a key=>pb (ev a) (ev key)
noncomputable def tv:Tx->TF
 | .va e=>tV (ev e)
 | .cmp o a b=>CD (ev a) (ev b) o
 | .no a=>HZ (tv a)
 | .an a b=>Ia (tv a) (tv b)
 | .or a b=>Cy (tv a) (tv b)
noncomputable def a0:Exs->AF
 | .nil=>dF
 | .cons e es=>db (ev e) (a0 es)
noncomputable def gh:Nx->NF
 | .li es=>Iw (a0 es)
 | .cat a b=>pY (ev a) (ev b)
 | .rep es b=>tR (a0 es) (ev b)
 | .sl a l h=>oy (ev a) (qz l) (qz h)
 | .lof a=>jp (ev a)
 | .lc k it t c e=>zw k (dg it) (bW t) (jI c) (ev e)
 | .lr1 a=>tT (ev a)
 | .lr2 a b=>tS (ev a) (ev b)
 | .lr3 a b c=>xB (ev a) (ev b) (ev c)
noncomputable def qz:Ox->OF
 | .no=>Iu
 | .so e=>ox (ev e)
noncomputable def jI:Cx'->TF
 | .no=>HX
 | .so e=>tv e
noncomputable def dg:Ix->IF
 | .e a=>iE (ev a)
 | .r1 a=>vT (ev a)
 | .r2 a b=>Af (ev a) (ev b)
 | .zi a b=>iZ (ev a) (ev b)
 | .en a=>IG (ev a)
 | .es a b=>uk (ev a) (ev b)
 | .r3 a b c=>EU (ev a) (ev b) (ev c)
noncomputable def bW:Tg->GF
 | .nm k=>vY k
 | .tu n ts=>vX n (iM ts)
 | .su a b=>IH (ev a) (ev b)
noncomputable def iM:Tgs->qY
 | .nil=>EY
 | .cons t ts=>E1 (bW t) (iM ts)
end
mutual
noncomputable def cR:Sx->SF
 | .ex e=>Il (ev ks e)
 | .as e t=>u4 (ev ks e) (bW ks t)
 | .aus o a b e=>tE o (ev ks a) (ev ks b) (ev ks e)
 | .fl c f o e=>u0 c f (ev ks o) (ev ks e)
 | .rt e=>Ih (ev ks e)
 | .iff t a b=>Ij (tv ks t) (ak a) (ak b)
 | .fo it t b=>Ik (dg ks it) (bW ks t) (ak b)
 | .wh t b=>pF (tv ks t) (ak b)
 | .dead=>zh
 | .fd a t b=>tD (ev ks a) (bW ks t) (ak b)
noncomputable def ak:MC->SF
 | .nil=>Ii
 | .cons s ss=>Ig (cR s) (ak ss)
 | .dead=>zh
end
end
inductive Ke where
 | f (x:Str) (n:Nat) | m (c m:Str) (n:Nat) | k (c:Str) (n:Nat)
structure SC where
 N:List Str
 nm:List (Str × NameKind)
 cf:List Str
 ke:List Ke
 gs:List (Str × AV)
 cl:List (Str × List Str)
 la:List Pos
noncomputable def kd (C:SC) (x:Str):Option NameKind:=C.nm.lookup x
def wA (C:SC) (x:Str):Bool:=match kd C x with
 | some .local=>true
 | some .cell=>true
 | some .free=>true
 | _=>false
def t9 (C:SC) (x:Str):Bool:=match kd C x with
 | some .local=>true
 | some .cell=>C.cf.contains x
 | _=>false
def d3 (C:SC) (x:Str):Bool:=(match kd C x with
 | some .globalImplicit=>true
 | _=>false) && !(x == ("__debug__":Str))
noncomputable def vE (C:SC) (k:Nat) (x:Str):Bool:=(match C.N[k]? with
 | some y=>y == x
 | none=>false) && !(x == ("__debug__":Str)) && !(x == ("__classdict__":Str))
def EX (C:SC) (x:Str) (c:AV):Bool:=C.gs.any fun p=>p.1 == x && cB p.2 c && (mn c).isSome
noncomputable def Ap (C:SC) (c f:Str):Bool:=C.cl.any fun p=>p.1 == c && p.2.contains f
noncomputable def qg (C:SC) (j:Nat) (x:Str) (n:Nat):Bool:=match C.ke[j]? with
 | some (.f y m)=>y == x && m == n
 | _=>false
noncomputable def IC (C:SC) (j:Nat) (c m:Str) (n:Nat):Bool:=match C.ke[j]? with
 | some (.m c' m' k)=>c' == c && m' == m && k == n
 | _=>false
noncomputable def ID (C:SC) (j:Nat) (c:Str) (n:Nat):Bool:=match C.ke[j]? with
 | some (.k c' k)=>c' == c && k == n
 | _=>false
noncomputable def bnames:List Str:=["len","sum","all","any","abs","min","max","int","tuple","range","zip","enumerate","list","isinstance","bool","str","sorted"]
noncomputable def Bi.nm:Bi->Str
 | .len=>"len"
 | .sum=>"sum"
 | .any=>"any"
 | .abs=>"abs"
 | .min=>"min"
 | .max=>"max"
 | .int=>"int"
 | .str=>"str"
noncomputable def Mi.nm:Mi->Str
 | .app=>"append"
 | .pop=>"pop"
 | .ext=>"extend"
 | .cnt=>"count"
noncomputable def DF (sc:Scope):List Str:=(sc.names.filter fun p=>(match p.2 with | .local=>true | .cell=>true | _=>false) && !(p.1 == (".0":Str))).map (·.1)
noncomputable def vR (sc:Scope) (x:Str):Bool:=match sc.names.lookup x with
 | some .free=>true
 | _=>false
def dP (C:SC) (sc:Scope):List Str:=(C.N.map fun x=>if vR sc x=true then x else x++("!":Str))++DF sc
noncomputable def II:NameKind->Bool
 | .free=>true
 | _=>false
noncomputable def Aq:Option NameKind->Bool
 | some .cell=>true
 | _=>false
def blk (C:SC) (sc:Scope):SC:={ C with N:=dP C sc,nm:=sc.names.map fun p=>if (II p.2 && Aq (kd C p.1))=true then (p.1,.cell) else (p.1,p.2),cf:=(sc.names.filter fun p=>Aq (some p.2)).map (·.1),la:=[] }
def qM (C:SC) (sc:Scope):Bool :=
 (match sc.kind with | .function=>true | _=>false) && decide (sc.names.map (·.1)).Nodup && decide (dP C sc).Nodup &&
 (sc.names.all fun p=>match p.2 with | .free=>(match kd C p.1 with | some .cell=>true | some .free=>true | _=>false) | _=>true) &&
 ((List.range C.N.length).all fun i=>match (dP C sc)[i]? with
  | some x=>(match sc.names.lookup x with
   | some .free=>decide (C.N[i]?=some x)
   | some _=>false
   | none=>true)
  | none=>false)
mutual
noncomputable def nJ (n:Nat):Tg->Bool
 | .nm k=>Nat.ble n k
 | .tu _ ts=>oX n ts
 | .su _ _=>false
noncomputable def oX (n:Nat):Tgs->Bool
 | .nil=>true
 | .cons t ts=>nJ n t && oX n ts
end
def EG (C:SC) (sc:Scope):SC:={ C with N:=dP C sc,nm:=sc.names,cf:=[],ke:=[],la:=[] }
noncomputable def KJ (C:SC) (p:Pos):Bool:=C.la.any fun q=>q.line == p.line && q.col == p.col && q.endLine == p.endLine && q.endCol == p.endCol
def xU (C:SC) (sc:Scope) (ps:Arguments):Bool:=qM C sc && !sc.isCoroutine && !sc.isGenerator && plainA ps && ps.defaults.isEmpty && ps.kw_defaults.isEmpty &&
 (match DF sc,ps.args.map (·.arg) with
  | [x],[y]=>x == y && (match sc.names.lookup x with | some .local=>true | _=>false)
  | _,_=>false) && sc.names.all fun p=>!(Aq (some p.2))
noncomputable def kG:Ex->Bool
 | .v _=>true
 | .i _=>true
 | .ix a b=>kG a && kG b
 | .fd _ _ o=>kG o
 | _=>false
theorem aM {P:Prop} (h:false=true):P:=nomatch h
theorem bx {a b:Bool}{P:Prop} (h:(a && b)=true) (H:a=true->b=true->P):P:=by cases a;exact aM h;exact H rfl h
section
variable {e:Expr}{s:Stmt}
noncomputable def ow (e:Expr) (k:Str->Bool):Bool:=match e with | .Name x _=>k x | _=>false
@[elab_as_elim] theorem gZ {k:Str->Bool}{P:Expr->Prop} (h:ow e k=true) (H:∀ x p,k x=true->P (.Name x p)):P e:=by cases e with | Name x p=>exact H x p h | _=>exact aM h
noncomputable def pR (e:Expr) (k:Const->Bool):Bool:=match e with | .Constant c _ _=>k c | _=>false
@[elab_as_elim] theorem iY {k:Const->Bool}{P:Expr->Prop} (h:pR e k=true) (H:∀ c a p,k c=true->P (.Constant c a p)):P e:=by cases e with | Constant c a p=>exact H c a p h | _=>exact aM h
noncomputable def kN (c:Const):Bool:=match c with | .none=>true | _=>false
noncomputable def kB (x:Bool) (c:Const):Bool:=match c with | .bool y=>x == y | _=>false
noncomputable def kI (x:Int) (c:Const):Bool:=match c with | .int y=>x == y | _=>false
noncomputable def kS (x:Str) (c:Const):Bool:=match c with | .str y=>x == y | _=>false
theorem uh {c:Const} (h:kN c=true):c=.none:=by cases c with | none=>rfl | _=>exact aM h
theorem GT {x:Bool}{c:Const} (h:kB x c=true):c=.bool x:=by cases c with | bool y=>rw [yJ h] | _=>exact aM h
theorem GS {x:Int}{c:Const} (h:kI x c=true):c=.int x:=by cases c with | int y=>rw [yJ h] | _=>exact aM h
theorem GR {x:Str}{c:Const} (h:kS x c=true):c=.str x:=by cases c with | str y=>rw [yJ h] | _=>exact aM h
noncomputable def zr (e:Expr) (k:Expr->Operator->Expr->Bool):Bool:=match e with | .BinOp a o b _=>k a o b | _=>false
@[elab_as_elim] theorem pT {k:Expr->Operator->Expr->Bool}{P:Expr->Prop} (h:zr e k=true) (H:∀ a o b p,k a o b=true->P (.BinOp a o b p)):P e:=by cases e with | BinOp a o b p=>exact H a o b p h | _=>exact aM h
noncomputable def df {α:Type} (l:List α) (k:α->Bool):Bool:=match l with | []=>false | a::r=>r.isEmpty && k a
@[elab_as_elim] theorem bG {α:Type}{l:List α}{k:α->Bool}{P:List α->Prop} (h:df l k=true) (H:∀ a,k a=true->P ([a])):P l:=by
 rcases l with _ | ⟨a,_ | ⟨b,r⟩⟩
 ·exact aM h
 ·exact H a h
 ·exact aM h
def nQ {α:Type} (l:List α) (k:α->α->Bool):Bool:=match l with | []=>false | a::r=>df r (k a)
@[elab_as_elim] theorem iX {α:Type}{l:List α}{k:α->α->Bool}{P:List α->Prop} (h:nQ l k=true) (H:∀ a b,k a b=true->P ([a,b])):P l:=by
 cases l with
 | nil=>exact aM h
 | cons a r=>exact bG h fun b h=>H a b h
def DQ (e:Expr) (k:Expr->CmpOp->Expr->Bool):Bool:=match e with | .Compare a os bs _=>df os fun o=>df bs fun b=>k a o b | _=>false
@[elab_as_elim] theorem vx {k:Expr->CmpOp->Expr->Bool}{P:Expr->Prop} (h:DQ e k=true) (H:∀ a o b p,k a o b=true->P (.Compare a [o] [b] p)):P e:=by
 cases e with
 | Compare a os bs p=>refine bG h fun o h=>?_;refine bG h fun b h=>?_;exact H a o b p h
 | _=>exact aM h
def xu {α:Type} (l:List α) (k:α->α->α->Bool):Bool:=match l with | []=>false | a::r=>nQ r (k a)
@[elab_as_elim] theorem rQ {α:Type}{l:List α}{k:α->α->α->Bool}{P:List α->Prop} (h:xu l k=true) (H:∀ a b c,k a b c=true->P [a,b,c]):P l:=by
 cases l with
 | nil=>exact aM h
 | cons a r=>exact iX h fun b c h=>H a b c h
noncomputable def zq (e:Expr) (k:UnaryOp->Expr->Bool):Bool:=match e with | .UnaryOp o a _=>k o a | _=>false
@[elab_as_elim] theorem pO {k:UnaryOp->Expr->Bool}{P:Expr->Prop} (h:zq e k=true) (H:∀ o a p,k o a=true->P (.UnaryOp o a p)):P e:=by cases e with | UnaryOp o a p=>exact H o a p h | _=>exact aM h
noncomputable def rL (o:BoolOp) (e:Expr) (k:Expr->Expr->Bool):Bool:=match e with | .BoolOp o' es p=>decide (o=o') && (match es with | x::y::r=>k x (if r.isEmpty=true then y else .BoolOp o (y::r) p) | _=>false) | _=>false
noncomputable def rK (e:Expr) (k:List Expr->Bool):Bool:=match e with | .Tuple es _ _=>k es | _=>false
@[elab_as_elim] theorem jZ {k:List Expr->Bool}{P:Expr->Prop} (h:rK e k=true) (H:∀ es a p,k es=true->P (.Tuple es a p)):P e:=by cases e with | Tuple es a p=>exact H es a p h | _=>exact aM h
noncomputable def xt (e:Expr) (k:List Expr->Bool):Bool:=match e with | .List es _=>k es | _=>false
@[elab_as_elim] theorem rP {k:List Expr->Bool}{P:Expr->Prop} (h:xt e k=true) (H:∀ es p,k es=true->P (.List es p)):P e:=by cases e with | List es p=>exact H es p h | _=>exact aM h
noncomputable def vw (e:Expr) (k:Expr->Expr->Bool):Bool:=match e with | .Subscript a b _=>k a b | _=>false
@[elab_as_elim] theorem mD {k:Expr->Expr->Bool}{P:Expr->Prop} (h:vw e k=true) (H:∀ a b p,k a b=true->P (.Subscript a b p)):P e:=by cases e with | Subscript a b p=>exact H a b p h | _=>exact aM h
noncomputable def Ip (e:Expr) (k:Option Expr->Option Expr->Option Expr->Bool):Bool:=match e with | .Slice a b c _=>k a b c | _=>false
@[elab_as_elim] theorem DN {k:Option Expr->Option Expr->Option Expr->Bool}{P:Expr->Prop} (h:Ip e k=true) (H:∀ a b c p,k a b c=true->P (.Slice a b c p)):P e:=by cases e with | Slice a b c p=>exact H a b c p h | _=>exact aM h
noncomputable def rV (e:Expr) (k:Expr->List Expr->List Keyword->Pos->Bool):Bool:=match e with | .Call f es ks p=>k f es ks p | _=>false
@[elab_as_elim] theorem j1 {k:Expr->List Expr->List Keyword->Pos->Bool}{P:Expr->Prop} (h:rV e k=true) (H:∀ f es ks p,k f es ks p=true->P (.Call f es ks p)):P e:=by cases e with | Call f es ks p=>exact H f es ks p h | _=>exact aM h
noncomputable def zt (e:Expr) (k:Expr->Str->Pos->Bool):Bool:=match e with | .Attribute o f p=>k o f p | _=>false
@[elab_as_elim] theorem pU {k:Expr->Str->Pos->Bool}{P:Expr->Prop} (h:zt e k=true) (H:∀ o f p,k o f p=true->P (.Attribute o f p)):P e:=by cases e with | Attribute o f p=>exact H o f p h | _=>exact aM h
def gB (e:Expr) (k:Str->List Expr->Bool):Bool:=rV e fun f es ks _=>ow f fun x=>ks.isEmpty && k x es
@[elab_as_elim] theorem cO {k:Str->List Expr->Bool}{P:Expr->Prop} (h:gB e k=true) (H:∀ x p es q,k x es=true->P (.Call (.Name x p) es [] q)):P e:=by
 refine j1 h fun f es ks q h=>?_
 refine gZ h fun x p h=>?_
 cases ks with
 | nil=>exact H x p es q h
 | cons _ _=>exact aM h
def xx (e:Expr) (k:Expr->Str->Pos->List Expr->Pos->Bool):Bool:=rV e fun f es ks p=>zt f fun o m ap=>ks.isEmpty && k o m ap es p
@[elab_as_elim] theorem rW {k:Expr->Str->Pos->List Expr->Pos->Bool}{P:Expr->Prop} (h:xx e k=true) (H:∀ o m ap es p,k o m ap es p=true->P (.Call (.Attribute o m ap) es [] p)):P e:=by
 refine j1 h fun f es ks q h=>?_
 refine pU h fun o m p h=>?_
 cases ks with
 | nil=>exact H o m p es q h
 | cons _ _=>exact aM h
def DM (e:Expr) (k:Expr->Option Expr->Option Expr->Bool):Bool:=vw e fun a b=>Ip b fun l h c=>c.isNone && k a l h
@[elab_as_elim] theorem BG {k:Expr->Option Expr->Option Expr->Bool}{P:Expr->Prop} (h:DM e k=true) (H:∀ a l r p q,k a l r=true->P (.Subscript a (.Slice l r none p) q)):P e:=by
 refine mD h fun a b q h=>?_
 refine DN h fun l r c p h=>?_
 cases c with
 | none=>exact H a l r p q h
 | some _=>exact aM h
noncomputable def pQ (w:Keyword) (k:Str->Expr->Bool):Bool:=match w with | ⟨some y,v,_⟩=>k y v | ⟨none,_,_⟩=>false
@[elab_as_elim] theorem kH {w:Keyword}{k:Str->Expr->Bool}{P:Keyword->Prop} (h:pQ w k=true) (H:∀ y v p,k y v=true->P (⟨some y,v,p⟩)):P w:=by
 obtain ⟨o,v,p⟩:=w;cases o with
 | some y=>exact H y v p h
 | none=>exact aM h
noncomputable def DS (e:Expr) (k:Expr->Expr->Expr->Bool):Bool:=match e with | .IfExp a b c _=>k a b c | _=>false
@[elab_as_elim] theorem BJ {k:Expr->Expr->Expr->Bool}{P:Expr->Prop} (h:DS e k=true) (H:∀ a b c p,k a b c=true->P (.IfExp a b c p)):P e:=by cases e with | IfExp a b c p=>exact H a b c p h | _=>exact aM h
noncomputable def EO (e:Expr):Bool:=match e with | .Dict a b _=>a.isEmpty && b.isEmpty | _=>false
theorem B3 (h:EO e=true):∃ p,e=.Dict [] [] p:=by
 cases e with
 | Dict a b p =>
  cases a with
  | nil=>cases b with
   | nil=>exact ⟨p,rfl⟩
   | cons _ _=>exact aM h
  | cons _ _=>exact aM h
 | _=>exact aM h
noncomputable def DR (e:Expr) (k:Arguments->Expr->Scope->Pos->Bool):Bool:=match e with | .Lambda a b s p=>k a b s p | _=>false
@[elab_as_elim] theorem BI {k:Arguments->Expr->Scope->Pos->Bool}{P:Expr->Prop} (h:DR e k=true) (H:∀ a b s p,k a b s p=true->P (.Lambda a b s p)):P e:=by cases e with | Lambda a b s p=>exact H a b s p h | _=>exact aM h
def Ir (e:Expr) (k:Expr->Expr->Expr->List Expr->Scope->Bool):Bool:=match e with | .ListComp a gs sc _=>df gs (fun g=>decide (g.is_async=0) && k a g.target g.iter g.ifs sc) | _=>false
@[elab_as_elim] theorem DU {k:Expr->Expr->Expr->List Expr->Scope->Bool}{P:Expr->Prop} (h:Ir e k=true) (H:∀ a t it cs sc p,k a t it cs sc=true->P (.ListComp a [⟨t,it,cs,0⟩] sc p)):P e:=by
 cases e with
 | ListComp a gs sc p =>
  refine bG h fun g h=>?_
  obtain ⟨t,it,cs,i⟩:=g;refine bx h fun h1 h=>?_
  cases of_decide_eq_true h1;exact H a t it cs sc p h
 | _=>exact aM h
theorem fF {a b c:Bool}{P:Prop} (h:(a && b && c)=true) (H:a=true->b=true->c=true->P):P:=bx h fun x y=>bx x fun h0 h1=>H h0 h1 y
theorem fE {a b c d:Bool}{P:Prop} (h:(a && b && c && d)=true) (H:a=true->b=true->c=true->d=true->P):P:=bx h fun x y=>fF x fun h0 h1 h2=>H h0 h1 h2 y
theorem iD {a b c d e:Bool}{P:Prop} (h:(a && b && c && d && e)=true) (H:a=true->b=true->c=true->d=true->e=true->P):P:=bx h fun x y=>fE x fun h0 h1 h2 h3=>H h0 h1 h2 h3 y
end
mutual
noncomputable def aX:Ex->SC->Expr->Bool
 | .n,_,e=>pR e kN
 | .b x,_,e=>pR e (kB x)
 | .i x,_,e=>pR e (kI x)
 | .s x,_,e=>pR e (kS x)
 | .v k,C,e=>ow e fun x=>vE C k x && wA C x
 | .g x c,C,e=>ow e fun y=>x == y && d3 C x && EX C x c
 | .bin o a b,C,e=>zr e fun a' o' b'=>decide (o=o') && aX a C a' && aX b C b'
 | .cmp o a b,C,e=>DQ e fun a' o' b'=>decide (o=o') && aX a C a' && aX b C b' && kK o b'
 | .un o a,C,e=>zq e fun o' a'=>decide (o=o') && aX a C a'
 | .no a,C,e=>zq e fun o' a'=>decide (UnaryOp.Not=o') && aX a C a'
 | .an a b,C,e=>rL .And e fun x y=>aX a C x && aX b C y
 | .or a b,C,e=>rL .Or e fun x y=>aX a C x && aX b C y
 | .ife t a b,C,e=>DS e fun t' a' b'=>j2 t C t' && aX a C a' && aX b C b'
 | .ix a b,C,e=>vw e fun a' b'=>aX a C a' && aX b C b' && i4 b'
 | .tu es,C,e=>rK e fun es'=>jG es C es'
 | .nw _ x,C,e=>zy x C e
 | .ca _ j es,C,e=>gB e fun x es'=>qg C j x es'.length && d3 C x && jG es C es' && es'.all aU
 | .me c m j o es,C,e=>xx e fun o' m' ap es' p=>m == m' && IC C j c m (es'.length + 1) && aX o C o' && jG es C es' && (es'.all aU && Nat.blt es'.length 30 && lS o' && (ap.endLine == p.line))
 | .ne c j es,C,e=>gB e fun x es'=>c == x && ID C j c (es'.length + 1) && d3 C c && jG es C es' && (es'.all aU && !es'.isEmpty)
 | .fd c f o,C,e=>zt e fun o' f' _=>f == f' && Ap C c f && aX o C o' && lS o'
 | .bi b es,C,e=>gB e fun x es'=>x == b.nm && d3 C x && jG es C es' && es'.all aU && !es'.isEmpty
 | .mt m o es,C,e=>xx e fun o' m' ap es' p=>m.nm == m' && aX o C o' && jG es C es' && (es'.all aU && Nat.blt es'.length 30 && lS o' && (ap.endLine == p.line))
 | .dn,_,e=>EO e
 | .mnd a,C,e=>rV e fun f es ks _=>ow f fun x=>df es fun a'=>df ks fun w=>pQ w fun y d=>pR d fun c=>kN c && (x == ("min":Str) && y == ("default":Str) && d3 C x && aX a C a' && aU a')
 | .mnk a key,C,e=>rV e fun f es ks _=>ow f fun x=>df es fun a'=>nQ ks fun w u=>pQ w fun y l=>pQ u fun z d=>DR l fun ps body sc lp=>pR d fun c=>kN c && (x == ("min":Str) && y == ("key":Str) && z == ("default":Str) && d3 C x && aX a C a') && (aU a' && KJ C lp && xU C sc ps && kG key && aX key (EG C sc) body)
noncomputable def j2:Tx->SC->Expr->Bool
 | .va a,C,e=>vj e && aX a C e
 | .cmp o a b,C,e=>DQ e fun a' o' b'=>decide (o=o') && aX a C a' && aX b C b' && kK o b'
 | .no a,C,e=>zq e fun o' a'=>decide (UnaryOp.Not=o') && j2 a C a'
 | .an a b,C,e=>rL .And e fun x y=>j2 a C x && j2 b C y
 | .or a b,C,e=>rL .Or e fun x y=>j2 a C x && j2 b C y
noncomputable def jG:Exs->SC->List Expr->Bool
 | .nil,_,es=>es.isEmpty
 | .cons a as,C,es=>match es with
  | e::es=>aU e && aX a C e && jG as C es
  | _=>false
noncomputable def zy:Nx->SC->Expr->Bool
 | .li es,C,e=>xt e fun es'=>jG es C es'
 | .cat a b,C,e=>zr e fun a' o' b'=>decide (Operator.Add=o') && aX a C a' && aX b C b'
 | .rep es b,C,e=>zr e fun a' o' b'=>decide (Operator.Mult=o') && xt a' fun es'=>jG es C es' && aX b C b'
 | .sl a l h,C,e=>DM e fun a' l' h'=>aX a C a' && zx l C l' && zx h C h'
 | .lof a,C,e=>gB e fun x es=>df es fun a'=>x == ("list":Str) && d3 C x && aX a C a' && aU a'
 | .lc k it t c a,C,e=>Ir e fun a' t' it' cs sc=>Ej it C t' it' && tQ it' && qM C sc && (k == (dP C sc).length - C.N.length) && (nJ C.N.length t && sf t (blk C sc) t' && Iz c (blk C sc) cs && aX a (blk C sc) a')
 | .lr1 a,C,e=>gB e fun x es=>df es fun d=>gB d fun y es=>df es fun a'=>(x == ("list":Str) && y == ("range":Str)) && d3 C x && d3 C y && aX a C a' && aU a'
 | .lr2 a b,C,e=>gB e fun x es=>df es fun d=>gB d fun y es=>nQ es fun a' b'=>(x == ("list":Str) && y == ("range":Str)) && (d3 C x && d3 C y) && aX a C a' && aX b C b' && (aU a' && aU b')
 | .lr3 a b c,C,e=>gB e fun x es=>df es fun d=>gB d fun y es=>xu es fun a' b' c'=>(x == ("list":Str) && y == ("range":Str)) && (d3 C x && d3 C y) && (aX a C a' && aX b C b' && aX c C c') && (aU a' && aU b' && aU c')
noncomputable def zx:Ox->SC->Option Expr->Bool
 | .no,_,e=>e.isNone
 | .so a,C,e=>match e with
  | some e=>aX a C e
  | none=>false
noncomputable def Iz:Cx'->SC->List Expr->Bool
 | .no,_,e=>e.isEmpty
 | .so t,C,e=>df e fun e=>j2 t C e
noncomputable def Ej:Ix->SC->Expr->Expr->Bool
 | .e a,C,_,e=>aX a C e
 | .r1 a,C,_,e=>gB e fun x es=>df es fun a'=>x == ("range":Str) && d3 C x && aX a C a' && aU a'
 | .r2 a b,C,_,e=>gB e fun x es=>nQ es fun a' b'=>x == ("range":Str) && d3 C x && aX a C a' && aX b C b' && (aU a' && aU b')
 | .zi a b,C,t,e=>rK t fun _=>gB e fun x es=>nQ es fun a' b'=>x == ("zip":Str) && d3 C x && aX a C a' && aX b C b' && (aU a' && aU b')
 | .en a,C,t,e=>rK t fun _=>gB e fun x es=>df es fun a'=>x == ("enumerate":Str) && d3 C x && aX a C a' && aU a'
 | .es a b,C,t,e=>rK t fun _=>rV e fun f es ks _=>ow f fun x=>df es fun a'=>df ks fun w=>pQ w fun y b'=>(x == ("enumerate":Str) && y == ("start":Str)) && d3 C x && aX a C a' && aX b C b' && aU a'
 | .r3 a b c,C,_,e=>gB e fun x es=>xu es fun a' b' c'=>x == ("range":Str) && d3 C x && (aX a C a' && aX b C b' && aX c C c') && (aU a' && aU b' && aU c')
noncomputable def sf:Tg->SC->Expr->Bool
 | .nm k,C,e=>ow e fun x=>vE C k x && t9 C x
 | .tu n ts,C,e=>rK e fun es=>(es.length == n) && es.all aU && xD ts C es
 | .su a b,C,e=>vw e fun a' b'=>aX a C a' && aX b C b' && i4 b'
noncomputable def xD:Tgs->SC->List Expr->Bool
 | .nil,_,es=>es.isEmpty
 | .cons t ts,C,es=>match es with
  | e::es=>aU e && sf t C e && xD ts C es
  | _=>false
end
theorem pP {o:BoolOp}{e:Expr}{k:Expr->Expr->Bool}{Q:Prop} (h:rL o e k=true) (H1:∀ x y p,e=.BoolOp o [x,y] p->k x y=true->Q) (H2:∀ x y z r p,e=.BoolOp o (x::y::z::r) p->k x (.BoolOp o (y::z::r) p)=true->Q):Q:=by
 cases e with
 | BoolOp o' es p =>
  refine bx h fun h1 h2=>?_
  clear h;cases of_decide_eq_true h1;rcases es with _ | ⟨x,_ | ⟨y,_ | ⟨z,r⟩⟩⟩
  ·exact aM h2
  ·exact aM h2
  ·exact H1 x y p rfl h2
  ·exact H2 x y z r p rfl h2
 | _=>exact aM h
@[elab_as_elim] theorem mE {o:BoolOp}{e:Expr}{k:Expr->Expr->Bool}{P:Expr->Prop} (h:rL o e k=true) (H1:∀ x y p,k x y=true->P (.BoolOp o [x,y] p)) (H2:∀ x y z r p,k x (.BoolOp o (y::z::r) p)=true->P (.BoolOp o (x::y::z::r) p)):P e :=
 pP h (fun x y p e h=>e ▸ H1 x y p h) fun x y z r p e h=>e ▸ H2 x y z r p h
section
variable {s:Stmt}
def xy (s:Stmt) (k:Expr->Expr->Bool):Bool:=match s with | .Assign ts e _=>df ts fun t=>k t e | _=>false
@[elab_as_elim] theorem rX {k:Expr->Expr->Bool}{P:Stmt->Prop} (h:xy s k=true) (H:∀ t e p,k t e=true->P (.Assign [t] e p)):P s:=by
 cases s with
 | Assign ts e p=>exact bG h fun t h=>H t e p h
 | _=>exact aM h
noncomputable def DW (s:Stmt) (k:Expr->Operator->Expr->Bool):Bool:=match s with | .AugAssign t o e _=>k t o e | _=>false
@[elab_as_elim] theorem BL {k:Expr->Operator->Expr->Bool}{P:Stmt->Prop} (h:DW s k=true) (H:∀ t o e p,k t o e=true->P (.AugAssign t o e p)):P s:=by cases s with | AugAssign t o e p=>exact H t o e p h | _=>exact aM h
noncomputable def xw (s:Stmt) (k:Expr->Expr->List Stmt->Bool):Bool:=match s with | .For t it b r _=>r.isEmpty && k t it b | _=>false
@[elab_as_elim] theorem rR {k:Expr->Expr->List Stmt->Bool}{P:Stmt->Prop} (h:xw s k=true) (H:∀ t it b p,k t it b=true->P (.For t it b [] p)):P s:=by
 cases s with
 | For t it b r p=>cases r with
  | nil=>exact H t it b p h
  | cons _ _=>exact aM h
 | _=>exact aM h
noncomputable def DL (s:Stmt) (k:Expr->List Stmt->Bool):Bool:=match s with | .While t b r _=>r.isEmpty && k t b | _=>false
@[elab_as_elim] theorem BE {k:Expr->List Stmt->Bool}{P:Stmt->Prop} (h:DL s k=true) (H:∀ t b p,k t b=true->P (.While t b [] p)):P s:=by
 cases s with
 | While t b r p=>cases r with
  | nil=>exact H t b p h
  | cons _ _=>exact aM h
 | _=>exact aM h
noncomputable def Iq (s:Stmt) (k:Expr->List Stmt->List Stmt->Bool):Bool:=match s with | .If t a b _=>k t a b | _=>false
@[elab_as_elim] theorem DT {k:Expr->List Stmt->List Stmt->Bool}{P:Stmt->Prop} (h:Iq s k=true) (H:∀ t a b p,k t a b=true->P (.If t a b p)):P s:=by cases s with | If t a b p=>exact H t a b p h | _=>exact aM h
noncomputable def DV (s:Stmt) (k:Expr->Bool):Bool:=match s with | .Expr e _=>k e | _=>false
@[elab_as_elim] theorem BK {k:Expr->Bool}{P:Stmt->Prop} (h:DV s k=true) (H:∀ e p,k e=true->P (.Expr e p)):P s:=by cases s with | Expr e p=>exact H e p h | _=>exact aM h
noncomputable def DO (s:Stmt) (k:Option Expr->Bool):Bool:=match s with | .Return e _=>k e | _=>false
@[elab_as_elim] theorem BH {k:Option Expr->Bool}{P:Stmt->Prop} (h:DO s k=true) (H:∀ e p,k e=true->P (.Return e p)):P s:=by cases s with | Return e p=>exact H e p h | _=>exact aM h
end
noncomputable def xX (e:Expr):Bool:=match e with | .ListComp _ _ _ _=>true | _=>false
@[elab_as_elim] theorem B2 {e:Expr}{P:Expr->Prop} (h:xX e=true) (H:∀ a g s p,P (.ListComp a g s p)):P e:=by cases e with | ListComp a g s p=>exact H a g s p | _=>exact aM h
def IP (t e:Expr):Bool:=match t with | .Name _ _=>kJ e || xX e | .Subscript _ _ _=>true | .Tuple _ _ _=>xA e && kJ e | _=>false
@[elab_as_elim] theorem Fu {t e:Expr}{P:Expr->Prop} (h:IP t e=true) (H1:(kJ e || xX e)=true->∀ x p,P (.Name x p)) (H2:∀ a b p,P (.Subscript a b p)) (H3:(xA e && kJ e)=true->∀ es k p,P (.Tuple es k p)):P t:=by
 cases t with
 | Name x p=>exact H1 h x p
 | Subscript a b p=>exact H2 a b p
 | Tuple es k p=>exact H3 h es k p
 | _=>exact aM h
@[elab_as_elim] theorem KI {a:Ex}{C:SC}{elt:Expr}{g:List Comprehension}{sc:Scope}{p:Pos}{P:Ex->Prop} (h:aX a C (.ListComp elt g sc p)=true) (H:∀ m k it t c b,zy (.lc k it t c b) C (.ListComp elt g sc p)=true->P (.nw m (.lc k it t c b))):P a:=by
 cases a with
 | nw m n=>cases n with
  | lc k it t c b=>exact H m k it t c b h
  | _=>exact aM h
 | _=>exact aM h
mutual
noncomputable def Iy:Sx->SC->Stmt->Bool
 | .ex a,C,s=>DV s fun e=>aX a C e && kJ e
 | .as a t,C,s=>xy s fun t' e=>aX a C e && sf t C t' && IP t' e
 | .aus o a b c,C,s=>DW s fun t o' e=>vw t fun a' b'=>decide (o=o') && aX a C a' && aX b C b' && aX c C e && i4 b'
 | .fl c f o a,C,s=>xy s fun t e=>zt t fun o' f' _=>f == f' && Ap C c f && aX o C o' && aX a C e
 | .rt a,C,s=>DO s fun e=>zx (.so a) C e
 | .iff t a b,C,s=>Iq s fun e x y=>j2 t C e && j3 a C x && j3 b C y
 | .fo it t b,C,s=>xw s fun t' it' x=>Ej it C t' it' && tQ it' && sf t C t' && j3 b C x
 | .wh t b,C,s=>DL s fun e x=>j2 t C e && j3 b C x
 | .dead,_,_=>true
 | .fd a t b,C,s=>xw s fun t' it' x=>aX a C it' && tQ it' && sf t C t' && j3 b C x
noncomputable def j3:MC->SC->List Stmt->Bool
 | .nil,_,s=>s.isEmpty
 | .cons a as,C,s=>match s with
  | s::ss=>Iy a C s && j3 as C ss
  | _=>false
 | .dead,_,_=>true
end
def FF [My] (P:Program) (w:World) (K:Frag) (mg:Str->Option Value) (base:Heap) (A:Around) (fn:Fn):Ke->Prop
 | .f x n=>∃ d f fd ps,ps.length=n/\FnOk P w K mg base d5 d f fd ps (de ⟨K,mg⟩ ps.length fn)/\Room d A/\mg x=some (.ref f)/\keepIn K (.ref f)=true/\Binds K fd ps []
 | .m c m n=>∃ d f fd ps C,ps.length=n/\FnOk P w K mg base d5 d f fd ps (de ⟨K,mg⟩ ps.length fn)/\Room d A/\mg c=some (.ref C)/\Cls K C/\jC K C m f/\Binds K fd ps []
 | .k c n=>∃ d f fd ps C,ps.length=n/\FnOk P w K mg base d5 d f fd ps (de ⟨K,mg⟩ ps.length fn)/\Room (d + 1) A/\mg c=some (.ref C)/\Mk K C f/\Binds K fd ps []
structure Fit [My] (X:Cx) (C:SC) (ks:List Fn):Prop where
 N:X.N=C.N
 nm:X.env.scope.names=C.nm
 nd:C.N.Nodup
 kind:X.env.scope.kind=.function
 calm:X.calm=true
 cf:∀ x ∈ C.cf,X.fn x=true
 hu:X.A.units + 64 < cLine
 gd:X.A.guards=some []
 bl:∀ x ∈ bnames,X.mg x=none
 po:PassesOwn (model X.prog X.w) X.A X.env X.xe
 ke:∀ (j:Nat) k,C.ke[j]?=some k->FF X.prog X.w X.K X.mg X.base X.A (kf ks j) k
 gs:∀ p ∈ C.gs,∀ w,mn p.2=some w->∃ u,X.mg p.1=some u/\RelV w u
 cl:∀ p ∈ C.cl,∃ Ca,X.mg p.1=some (.ref Ca)/\Cls X.K Ca/\∀ f ∈ p.2,NoAttr X.K Ca f
 la:∀ p ∈ C.la,Room 2 X.A/\∃ c P,X.env.code=.ref c/\CodeHd X.base c P/\ig X.mg X.base/\(P,p,X.env.qual++"<lambda>") ∈ My.tb/\∀ t ∈ My.tb,t.1=P->t=(P,p,X.env.qual++"<lambda>")
section
variable {X:Cx}{C:SC}{ks:List Fn}
theorem Fit.kdO [My] (F:Fit X C ks) (x:Str):X.env.kindOf x=kd C x:=by unfold kd;rw [<- F.nm];rfl
theorem Fit.vis [My] (F:Fit X C ks) (h:wA C x=true):wn X.env.scope x:=by
 unfold wA kd at h;rw [<- F.nm] at h;unfold wn;split at h
 ·rename_i e;exact .inl e
 ·rename_i e;exact .inr (.inl e)
 ·rename_i e;exact .inr (.inr e)
 ·cases h
theorem Fit.loc [My] (F:Fit X C ks) (h:t9 C x=true):L2.Loc X.env.scope x/\(X.fn x=true\/X.env.scope.names.lookup x=some .local):=by
 unfold t9 kd at h;rw [<- F.nm] at h;unfold L2.Loc;split at h
 ·rename_i e;exact ⟨.inl e,.inr e⟩
 ·rename_i e;exact ⟨.inr e,.inl (F.cf x (by simpa using h))⟩
 ·cases h
theorem Fit.gl [My] (F:Fit X C ks) (h:d3 C x=true):Gl X x/\(x == ("__debug__":Str))=false:=by
 unfold d3 at h;obtain ⟨h1,h2⟩:=Bool.and_eq_true_iff.mp h;refine ⟨?_,by simpa using h2⟩;unfold Gl;rw [F.kdO];split at h1
 ·rename_i e;exact e
 ·cases h1
theorem Fit.nmb [My] (F:Fit X C ks) {k:Nat} (h:vE C k x=true):X.N[k]?=some x/\(x == ("__debug__":Str))=false/\(x == ("__classdict__":Str))=false:=by
 unfold vE at h;obtain ⟨h12,h3⟩:=Bool.and_eq_true_iff.mp h;obtain ⟨h1,h2⟩:=Bool.and_eq_true_iff.mp h12;refine ⟨?_,by simpa using h2,by simpa using h3⟩;rw [F.N];split at h1
 ·rename_i y e;rw [e,yJ h1]
 ·cases h1
theorem Fit.gc [My] (F:Fit X C ks) (h:EX C x c=true):∃ w u,mn c=some w/\X.mg x=some u/\RelV w u:=by
 unfold EX at h;obtain ⟨p,hp,e⟩:=List.any_eq_true.mp h;simp only [zC] at e;obtain ⟨⟨e1,e2⟩,e3⟩:=e;obtain ⟨w,hw⟩:=Option.isSome_iff_exists.mp e3;have e4:=sP e2;obtain ⟨u,h1,h2⟩:=F.gs p hp w (by rw [e4];exact hw);exact ⟨w,u,hw,by rw [<- yJ e1];exact h1,h2⟩
theorem Fit.clb [My] (F:Fit X C ks) (h:Ap C c f=true):∃ Ca,X.mg c=some (.ref Ca)/\Cls X.K Ca/\NoAttr X.K Ca f:=by
 unfold Ap at h;obtain ⟨p,hp,e⟩:=List.any_eq_true.mp h;simp only [zC] at e;obtain ⟨Ca,h1,h2,h3⟩:=F.cl p hp;exact ⟨Ca,by rw [<- yJ e.1];exact h1,h2,h3 f (by simpa using e.2)⟩
theorem Fit.blt [My] (F:Fit X C ks) (h:x ∈ bnames):X.mg x=none:=F.bl x h
theorem E9 (b:NameKind):II b=(b == NameKind.free):=by cases b <;> rfl
theorem Fo (o:Option NameKind):Aq o=(o == some NameKind.cell):=by
 cases o with
 | none=>rfl
 | some k=>cases k <;> rfl
theorem Fit.blk [My] (F:Fit X C ks) (h:qM C sc=true):jF X (dP C sc) sc/\∀ cl s H fp Mv,Fit (cg X (dP C sc) sc cl s H fp Mv) (R.blk C sc) ks:=by
 unfold qM at h;simp only [zC,yB] at h;obtain ⟨⟨⟨⟨h1,h2⟩,h3⟩,h4⟩,h5⟩:=h;have hk:sc.kind=.function:=by
  split at h1
  ·rename_i e;exact e
  ·cases h1
 have hlen:C.N.length <= (dP C sc).length:=by unfold dP;rw [zV,zH];omega
 have free:∀ x,(x,NameKind.free) ∈ sc.names->X.env.kindOf x=some .cell\/X.env.kindOf x=some .free:=fun x hx=>by
  have:=yO.mp h4 _ hx
  simp only at this;rw [F.kdO];split at this
  ·rename_i e;exact .inl e
  ·rename_i e;exact .inr e
  ·cases this
 have at5:∀ i x,i < X.N.length->(dP C sc)[i]?=some x->(∀ k,(x,k) ∈ sc.names->k=.free/\X.N[i]?=some x):=fun i x hi e k hm=>by
  rw [F.N] at hi ⊢
  have:=yO.mp h5 i (List.mem_range.mpr hi)
  rw [e] at this;simp only at this;have hl:=cL h2 hm;rw [hl] at this;cases k <;> simp only at this <;> first | (cases this;done) | exact ⟨rfl,of_decide_eq_true this⟩
 refine ⟨⟨hk,h2,by rw [F.N];exact hlen,free,fun i x hi e hm=>(at5 i x hi e _ hm).2,fun i x hi e hq0=>by obtain ⟨k,hm⟩:=hq0;have:=(at5 i x hi e k hm).1;subst this;exact hm⟩,fun cl s H fp Mv=>?_⟩;refine ⟨rfl,?_,h3,hk,F.calm,fun x hx=>?_,F.hu,F.gd,F.bl,PassesOwn.never,F.ke,F.gs,F.cl,fun p hp=>absurd (show p ∈ ([]:List Pos) from hp) (by simp)⟩
 ·show (relabel sc X.env).names=_
  unfold relabel R.blk;dsimp only;rw [F.kind];apply List.map_congr_left;intro p _;obtain ⟨a,b⟩:=p;simp only [F.kdO,E9,Fo];simp
 ·unfold R.blk at hx
  obtain ⟨p,hp,e⟩:=yC.mp hx;obtain ⟨hp1,hp2⟩:=List.mem_filter.mp hp;obtain ⟨a,b⟩:=p;dsimp only at e hp2;subst e;have:b=.cell:=by cases b <;> first | rfl | cases hp2
  subst this;show (sc.names.lookup a == some NameKind.cell)=true;rw [cL h2 hp1];rfl
end
section
variable {X:Cx}{C:SC}{ks:List Fn}
theorem Fit.lam [My] (F:Fit X C ks) (rm:Room 2 X.A) (h:xU C sc ps=true):∃ x,uH X (dP C sc) sc x/\plainA ps=true/\ps.args.map (·.arg)=[x]/\defaultsOf ps X.env=([],[]) /\
  ∀ cl f q cd s H,Fit (qE X (dP C sc) sc cl f q cd X.A.in1 s H) (EG C sc) ks:=by
 unfold xU at h;simp only [zC] at h;obtain ⟨⟨⟨⟨⟨⟨⟨h1,h2⟩,h3⟩,h4⟩,h5⟩,h6⟩,h7⟩,h8⟩:=h;obtain ⟨cy,_⟩:=F.blk h1;split at h7
 ·rename_i x y ex ey
  simp only [zC] at h7;have exy:=yJ h7.1;subst exy;have hl:sc.names.lookup x=some .local:=by
   have:=h7.2
   split at this
   ·rename_i e;exact e
   ·cases this
  have hN:dP C sc=(C.N.map fun x=>if vR sc x=true then x else x++("!":Str))++[x]:=by unfold dP;rw [ex]
  refine ⟨x,⟨cy,by simpa using h2,by simpa using h3,by rw [hN,F.N];simp,by rw [hN,F.N];simp,hl,fun y hy e=>?_⟩,h4,ey,?_,fun cl f q cd s H=>?_⟩
  ·have:=yO.mp h8 y hy
   rw [e] at this;cases this
  ·obtain ⟨a1,a2,a3,a4,a5,a6,a7⟩:=ps
   have e5:a7=[]:=List.isEmpty_iff.mp h5;have e6:a5=[]:=List.isEmpty_iff.mp h6;subst e5;subst e6;rfl
  ·have hnd:(dP C sc).Nodup:=by
    unfold qM at h1;simp only [zC,yB] at h1;exact h1.1.1.2
   have hkd:sc.kind=.function:=cy.kind;have r1:Room 1 X.A.in1:=rm.in1;have r0:=Room.deeper r1 (newEnv sc s.heap.objs.size mainGlobals cl (q++".<locals>.") (some f) cd none builtinsNs);refine ⟨rfl,rfl,hnd,hkd,rfl,fun x hx=>absurd (show x ∈ ([]:List Str) from hx) (by simp),r0.units,r0.gd,F.bl,PassesOwn.never,fun j k e=>absurd (show ([]:List Ke)[j]?=some k from e) (by simp),F.gs,F.cl,fun p hp=>absurd (show p ∈ ([]:List Pos) from hp) (by simp)⟩
 ·cases h7
end
mutual
theorem nH {n:Nat}:∀ {t:Tg},nJ n t=true->pf n (bW ks t)
 | .nm k,h=>by
  simp only [nJ] at h;have hk:=zS h;simp only [bW];intro x sl st sl' st' e;cases e;exact ⟨List.length_set,fun j hj=>List.getElem?_set_ne oM⟩
 | .tu m ts,h=>by
  simp only [nJ] at h;simp only [bW];intro x sl st sl' st' e;unfold vX at e;split at e
  ·split at e
   ·exact lO h _ _ _ _ _ e
   ·cases e
  ·split at e
   ·split at e
    ·exact lO h _ _ _ _ _ e
    ·cases e
   ·cases e
 | .su _ _,h=>by simp only [nJ] at h;cases h
theorem lO {n:Nat}:∀ {ts:Tgs},oX n ts=true->∀ xs sl st sl' st',iM ks ts xs sl st=some (sl',st')->sl'.length=sl.length/\∀ j,j < n->sl'[j]?=sl[j]?
 | .nil,_,xs,sl,st,sl',st',e=>by
  simp only [iM] at e;cases xs with
  | nil=>cases e;exact ⟨rfl,fun _ _=>rfl⟩
  | cons _ _=>cases e
 | .cons t ts,h,xs,sl,st,sl',st',e=>by
  simp only [oX,zC] at h;simp only [iM] at e;cases xs with
  | nil=>cases e
  | cons x xs =>
   obtain ⟨p,e1,e2⟩:=zA e;obtain ⟨a1,a2⟩:=nH h.1 _ _ _ _ _ e1;obtain ⟨b1,b2⟩:=lO h.2 _ _ _ _ _ e2;exact ⟨b1.trans a1,fun j hj=>(b2 j hj).trans (a2 j hj)⟩
end
theorem fe:∀ (as:Exs) {es:List Expr},jG as C es=true->∀ sl st xs st',a0 ks as sl st=some (xs,st')->xs.length=es.length
 | .nil,es,h,sl,st,xs,st',e=>by
  cases e;cases es with
  | nil=>rfl
  | cons _ _=>exact aM h
 | .cons a as,es,h,sl,st,xs,st',e=>by
  cases es with
  | nil=>exact aM h
  | cons x es =>
   obtain ⟨p,e1,e2⟩:=zA e;obtain ⟨q,e3,e4⟩:=zA e2;cases e4;rw [yU,yU,fe as (bx h fun _ x=>x) _ _ _ _ e3]
theorem HH:bootBuiltins "len"=some (.builtin "len"):=by decide +kernel
theorem HC:bootBuiltins "sum"=some (.builtin "sum"):=by decide +kernel
theorem HJ:bootBuiltins "any"=some (.builtin "any"):=by decide +kernel
theorem HK:bootBuiltins "abs"=some (.builtin "abs"):=by decide +kernel
theorem HF:bootBuiltins "min"=some (.builtin "min"):=by decide +kernel
theorem HG:bootBuiltins "max"=some (.builtin "max"):=by decide +kernel
theorem HI:bootBuiltins "int"=some (.type "int"):=by decide +kernel
theorem HE:bootBuiltins "str"=some (.type "str"):=by decide +kernel
section
variable {X:Cx}{C:SC}{ks:List Fn}
theorem HB [My] (F:Fit X C ks) (b:Bi) {e:Expr}{es:List Expr}{g:AF}{p pos:Pos} (hg:d3 C b.nm=true) (ha:QA X (e::es) g) (hs:(e::es).all aU=true):QE X (.Call (.Name b.nm p) (e::es) [] pos) (qT (ku b) g):=by
 have gl:=F.gl hg;rw [List.all_cons,zC] at hs;have he:=aq (env:=X.env) (es:=es) hs.1;have hpl:=gY (env:=X.env) (pos:=pos) hs.2;cases b with
 | len=>exact kF Hm gl.1 (F.blt dC) HH ha dC gl.2 he hpl
 | sum=>exact kF (Hi F.calm) gl.1 (F.blt dC) HC ha dC gl.2 he hpl
 | any=>exact kF (Ho F.calm) gl.1 (F.blt dC) HJ ha dC gl.2 he hpl
 | abs=>exact kF Hq gl.1 (F.blt dC) HK ha dC gl.2 he hpl
 | min=>exact kF (Hk F.calm) gl.1 (F.blt dC) HF ha dC gl.2 he hpl
 | max=>exact kF (Hl F.calm) gl.1 (F.blt dC) HG ha dC gl.2 he hpl
 | int=>exact zm Hn gl.1 (F.blt dC) HI ha dC gl.2 he hpl
 | str=>exact zm (Hj F.gd F.hu) gl.1 (F.blt dC) HE ha dC gl.2 he hpl
theorem GD [My] (F:Fit X C ks) (m:Mi) {o:Expr}{es:List Expr}{f:EF}{g:AF}{ap p:Pos} (ho:QE X o f) (ha:QA X es g) (h0:es=[]->g=dF) (hs:es.all aU=true) (hl:es.length < 30) (hb:lS o=true) (hline:(ap.endLine == p.line)=true) :
  QE X (.Call (.Attribute o m.nm ap) es [] p) (ji (k9 m) (k8 m) f g):=by
 cases es with
 | nil =>
  have:=h0 rfl
  subst this;have hbase:=fi (env:=X.env) (f:=m.nm) (eval o X.env) hb;cases m with
  | app=>exact mB PySem.F.plainAttrs_list PySem.F.slot_list_append PySem.F.type_list_append Ad ho hbase hline
  | pop=>exact mB PySem.F.plainAttrs_list PySem.F.slot_list_pop PySem.F.type_list_pop Aa ho hbase hline
  | ext=>exact mB PySem.F.plainAttrs_list PySem.F.slot_list_extend PySem.F.type_list_extend Ab ho hbase hline
  | cnt=>exact mB PySem.F.plainAttrs_list PySem.F.slot_list_count PySem.F.type_list_count (Ac F.hu) ho hbase hline
 | cons e es =>
  have hbase:=fi (env:=X.env) (f:=m.nm) (eval o X.env) hb;have hfew:=IK (env:=X.env) (cpos:=p) hs hl;rw [List.all_cons,zC] at hs;have he:=aq (env:=X.env) (es:=es) hs.1;have hpl:=gY (env:=X.env) (pos:=p) hs.2;cases m with
  | app=>exact o0 PySem.F.plainAttrs_list PySem.F.slot_list_append PySem.F.type_list_append Ad ho ha hbase hfew hline he hpl
  | pop=>exact o0 PySem.F.plainAttrs_list PySem.F.slot_list_pop PySem.F.type_list_pop Aa ho ha hbase hfew hline he hpl
  | ext=>exact o0 PySem.F.plainAttrs_list PySem.F.slot_list_extend PySem.F.type_list_extend Ab ho ha hbase hfew hline he hpl
  | cnt=>exact o0 PySem.F.plainAttrs_list PySem.F.slot_list_count PySem.F.type_list_count (Ac F.hu) ho ha hbase hfew hline he hpl
theorem Dp [My] {P:Program}{w:World}{K:Frag}{mg:Str->Option Value}{base:Heap}{k:Nat}{f:Addr}{fd:FuncData}{ps:List Str}{n:Nat}{fn:Fn} (b:Bool) (F:FnOk P w K mg base d5 k f fd ps (de ⟨K,mg⟩ n fn)):FnOk P w K mg base d5 k f fd ps (de ⟨K,mg⟩ n (f9 b fn)):=by
 cases b
 ·exact F
 ·exact FnOk.pm F
theorem nY {as:Exs}{es:List Expr} (h:jG as C es=true) (he:es=[]):a0 ks as=dF:=by
 subst he;cases as with
 | nil=>rfl
 | cons a as=>exact aM h
end
theorem jo {ks:List Fn}:∀ {e:Ex},kG e=true->Ay (ev ks e)
 | .v k,_=>fun sl st v st' e=>by
  have e:aV k sl st=some (v,st'):=e;unfold aV at e;split at e
  ·cases e;rfl
  ·cases e
 | .i k,_=>fun sl st v st' e=>by
  cases e;rfl
 | .ix a b,h=>fun sl st v st' e=>by
  refine bx h fun h1 h2=>?_
  obtain ⟨p,e1,e2⟩:=zA e;obtain ⟨q,e3,e4⟩:=zA e2;obtain ⟨z,e5,e6⟩:=zE.mp e4;cases e6;rw [jo h2 _ _ _ _ e3,jo h1 _ _ _ _ e1]
 | .fd c f o,h=>fun sl st v st' e=>by
  obtain ⟨p,e1,e2⟩:=zA e;obtain ⟨q,e3,e4⟩:=zA e2;obtain ⟨z,e5,e6⟩:=zE.mp e4;cases e6;rw [jo (show kG o=true from h) _ _ _ _ e1]
mutual
theorem ag [My] {ks:List Fn}:∀ (a:Ex) {X:Cx}{C:SC} (_:Fit X C ks) {e:Expr},aX a C e=true->QE X e (ev ks a)
 | .n,X,C,F,e,h=>by
  refine iY h fun c a p h=>?_
  rw [uh h];exact pM (w:=.non) rfl Dy fun _ _ _ h=>h
 | .b x,X,C,F,e,h=>by
  refine iY h fun c a p h=>?_
  rw [GT h];exact pM rfl Gy fun _ _ _ h=>h
 | .i x,X,C,F,e,h=>by
  refine iY h fun c a p h=>?_
  rw [GS h];exact pM rfl Dz fun _ _ _ h=>h
 | .s x,X,C,F,e,h=>by
  refine iY h fun c a p h=>?_
  rw [GR h];exact pM rfl Dw fun _ _ _ h=>h
 | .v k,X,C,F,e,h=>by
  refine gZ h fun x p h=>?_
  refine bx h fun h0 h=>?_
  obtain ⟨h1,h2,h3⟩:=F.nmb h0;exact Da h1 (F.vis h) h2 h3
 | .g x c,X,C,F,e,h=>by
  refine gZ h fun y p h=>?_
  refine fF h fun h0 h1 h2=>?_
  rw [<- yJ h0];obtain ⟨w,u,h1',h2',h3⟩:=F.gc h2;obtain ⟨g1,g2⟩:=F.gl h1;exact pM h1' (BA g1 h2' h3 g2) fun _ _ _ h=>h
 | .bin o a b,X,C,F,e,h=>by
  refine pT h fun a' o' b' p h=>?_
  refine fF h fun h0 h1 h2=>?_
  cases of_decide_eq_true h0;exact Dg (ag a F h1) (ag b F h2)
 | .cmp o a b,X,C,F,e,h=>by
  refine vx h fun a' o' b' p h=>?_
  refine fE h fun h0 h1 h2 h3=>?_
  cases of_decide_eq_true h0;exact Df F.hu (ag a F h1) (ag b F h2) h3
 | .un o a,X,C,F,e,h=>by
  refine pO h fun o' a' p h=>?_
  refine bx h fun h0 h1=>?_
  cases of_decide_eq_true h0;exact Gf (ag a F h1)
 | .no a,X,C,F,e,h=>by
  refine pO h fun o' a' p h=>?_
  refine bx h fun h0 h1=>?_
  cases of_decide_eq_true h0;exact Dc (ag a F h1)
 | .an a b,X,C,F,e,h=>by
  refine mE h (fun x y p h=>?_) fun x y z r p h=>?_
  ·refine bx h fun h0 h1=>?_
   exact vd (ag a F h0) (vn (ag b F h1))
  ·refine bx h fun h0 h1=>?_
   exact vd (ag a F h0) (ag b F h1)
 | .or a b,X,C,F,e,h=>by
  refine mE h (fun x y p h=>?_) fun x y z r p h=>?_
  ·refine bx h fun h0 h1=>?_
   exact zn (ag a F h0) (vn (ag b F h1))
  ·refine bx h fun h0 h1=>?_
   exact zn (ag a F h0) (ag b F h1)
 | .ife t a b,X,C,F,e,h=>by
  refine BJ h fun t' a' b' p h=>?_
  refine fF h fun h0 h1 h2=>?_
  exact Gi (cw t F h0) (ag a F h1) (ag b F h2)
 | .ix a b,X,C,F,e,h=>by
  refine mD h fun a' b' p h=>?_
  refine fF h fun h0 h1 h2=>?_
  exact Gh F.hu (ag a F h0) (ag b F h1) (GU h2)
 | .tu es,X,C,F,e,h=>by
  refine jZ h fun es' a p h=>?_
  exact Db (fu es F h)
 | .nw m x,X,C,F,e,h=>Gg (Ei x F h)
 | .ca p j es,X,C,F,e,h=>by
  refine cO h fun x p1 es' p2 h=>?_
  refine fE h fun h1 h2 h3 h4=>?_
  unfold qg at h1;split at h1
  ·rename_i y m hk
   refine bx h1 fun h1 h0=>?_
   obtain ⟨d,f,fd,ps,hl,Fn,hr,hm,kp,hb⟩:=F.ke j _ hk;obtain ⟨g1,g2⟩:=F.gl h2;rw [yJ h1] at hm;have hn:ps.length=es'.length:=by rw [hl];exact yJ h0
   cases es' with
   | nil=>show QE X _ (wm _ (a0 ks es));rw [nY h3 rfl];exact wV (Dp p Fn) hr g1 hm kp hb hn g2
   | cons e1 es1 =>
    refine bx h4 fun h4 h5=>?_
    exact Bh (Dp p Fn) hr g1 hm kp hb (fu es F h3) (fun sl st xs st' e=>by rw [hn];exact fe es h3 _ _ _ _ e) g2 (aq h4) (gY h5)
  ·exact aM h1
 | .me c m j o es,X,C,F,e,h=>by
  refine rW h fun o' m' ap es' p h=>?_
  refine iD h fun h0 h1 h2 h3 h=>?_
  refine fE h fun h4 h5 h6 h7=>?_
  rw [<- yJ h0];unfold IC at h1;split at h1
  ·rename_i c' m'' k hk
   refine fF h1 fun a1 a2 a3=>?_
   obtain ⟨d,f,fd,ps,Ca,hl,Fn,hr,hC,cl,hm,hb⟩:=F.ke j _ hk;rw [yJ a1] at hC;rw [yJ a2] at hm;have hn:ps.length=es'.length + 1:=by rw [hl];exact yJ a3
   have h5:es'.length < 30:=zJ (Nat.lt_succ_self _) (zS h5);cases es' with
   | nil=>show QE X _ (wl _ _ _ _ (a0 ks es));rw [nY h3 rfl];exact wU (ag o F h2) cl hC hm Fn hr hb hn (sj h6 h4 h5 h7)
   | cons e1 es1 =>
    have ht:=sj (env:=X.env) (f:=m) (o:=o') (es:=e1::es1) h6 h4 h5 h7;refine bx h4 fun h4 h8=>?_
    exact Bf (ag o F h2) cl hC hm Fn hr hb (fu es F h3) (fun sl st xs st' e=>by rw [hn,fe es h3 _ _ _ _ e]) (aq h4) (gY h8) ht
  ·exact aM h1
 | .ne c j es,X,C,F,e,h=>by
  refine cO h fun x p1 es' p2 h=>?_
  refine iD h fun h0 h1 h2 h3 h=>?_
  refine bx h fun h4 h5=>?_
  rw [<- yJ h0];unfold ID at h1;split at h1
  ·rename_i c' k hk
   refine bx h1 fun a1 a2=>?_
   obtain ⟨d,f,fd,ps,Ca,hl,Fn,hr,hC,M,hb⟩:=F.ke j _ hk;rw [yJ a1] at hC;obtain ⟨g1,g2⟩:=F.gl h2;cases es' with
   | nil=>exact aM h5
   | cons e1 es1 =>
    have hn:ps.length=es1.length + 2:=by rw [hl];exact yJ a2
    refine bx h4 fun h4 h6=>?_
    exact Dd M Fn hr g1 hC hb (fu es F h3) (fun sl st xs st' e=>by rw [hn,fe es h3 _ _ _ _ e];rfl) g2 (aq h4) (gY h6)
  ·exact aM h1
 | .fd c f o,X,C,F,e,h=>by
  refine pU h fun o' f' p h=>?_
  refine fE h fun h0 h1 h2 h3=>?_
  rw [<- yJ h0];obtain ⟨Ca,hC,cl,na⟩:=F.clb h1;exact De (ag o F h2) cl hC na (fi _ h3)
 | .bi b es,X,C,F,e,h=>by
  refine cO h fun x p1 es' p2 h=>?_
  refine iD h fun h0 h1 h2 h3 h4=>?_
  cases es' with
  | nil=>exact aM h4
  | cons e1 es1 =>
   have e0:=yJ h0;subst e0;exact HB F b h1 (fu es F h2) h3
 | .mt m o es,X,C,F,e,h=>by
  refine rW h fun o' m' ap es' p h=>?_
  refine fE h fun h0 h1 h2 h=>?_
  refine fE h fun h3 h4 h5 h6=>?_
  rw [<- yJ h0];exact GD F m (ag o F h1) (fu es F h2) (fun e=>nY h2 e) h3 (zJ (Nat.lt_succ_self _) (zS h4)) h5 h6
 | .mnd a,X,C,F,e,h=>by
  refine j1 h fun f es kws p h=>?_
  refine gZ h fun x p1 h=>?_
  refine bG h fun a' h=>?_
  refine bG h fun w h=>?_
  refine kH h fun y d p2 h=>?_
  refine iY h fun c c1 c2 h=>?_
  refine bx h fun hc h=>?_
  refine iD h fun h0 h1 h2 h3 h4=>?_
  have e0:=yJ h0;have e1:=yJ h1;subst e0;subst e1;rw [uh hc];exact Be F.calm (F.gl h2).1 (F.blt dC) (ag a F h3) (aq h4)
 | .mnk a key,X,C,F,e,h=>by
  refine j1 h fun f es kws p h=>?_
  refine gZ h fun x p1 h=>?_
  refine bG h fun a' h=>?_
  refine iX h fun w u h=>?_
  refine kH h fun y l p2 h=>?_
  refine kH h fun z d p3 h=>?_
  refine BI h fun ps body sc lp h=>?_
  refine iY h fun c c1 c2 h=>?_
  refine fF h fun hc h h'=>?_
  refine iD h fun h0 h1 h2 h3 h4=>?_
  refine iD h' fun h5 h6 h7 h8 h9=>?_
  have e0:=yJ h0;have e1:=yJ h1;have e2:=yJ h2;subst e0;subst e1;subst e2;rw [uh hc];obtain ⟨q,hq,hqe⟩:=List.any_eq_true.mp h6;have eqp:q=lp:=by
   refine fE hqe fun q1 q2 q3 q4=>?_
   cases q;cases lp;cases yJ q1;cases yJ q2;cases yJ q3;cases yJ q4;rfl
  subst eqp;obtain ⟨rm,c,P,g1,g2,g3,g4,g5⟩:=F.la q hq;obtain ⟨x,T,hp,hps,hdef,FL⟩:=F.lam rm h7;exact Bc F.calm (F.gl h3).1 (F.blt dC) (ag a F h4) (aq h5) hdef g1 g2 g3 g4 T hp hps rm.in1.depth (jo h8) (fun cl f c' s H=>ag key (FL cl f _ _ s H) h9) g5
 | .dn,X,C,F,e,h=>by
  obtain ⟨p,rfl⟩:=B3 h;exact Bg xm
theorem cw [My] {ks:List Fn}:∀ (a:Tx) {X:Cx}{C:SC} (_:Fit X C ks) {e:Expr},j2 a C e=true->QT X e (tv ks a)
 | .va a,X,C,F,e,h=>by
  refine bx h fun h0 h1=>?_
  exact CS (ag a F h1) (AM h0)
 | .cmp o a b,X,C,F,e,h=>by
  refine vx h fun a' o' b' p h=>?_
  refine fE h fun h0 h1 h2 h3=>?_
  cases of_decide_eq_true h0;exact CU F.hu (ag a F h1) (ag b F h2) h3
 | .no a,X,C,F,e,h=>by
  refine pO h fun o' a' p h=>?_
  refine bx h fun h0 h1=>?_
  cases of_decide_eq_true h0;exact CT (cw a F h1)
 | .an a b,X,C,F,e,h=>by
  refine mE h (fun x y p h=>?_) fun x y z r p h=>?_
  ·refine bx h fun h0 h1=>?_
   exact PW.pt (my (cw a F h0) (mx .And (cw b F h1)))
  ·refine bx h fun h0 h1=>?_
   exact PW.pt (my (cw a F h0) (mI b F h1))
 | .or a b,X,C,F,e,h=>by
  refine mE h (fun x y p h=>?_) fun x y z r p h=>?_
  ·refine bx h fun h0 h1=>?_
   exact PW.pt (oZ (cw a F h0) (mx .Or (cw b F h1)))
  ·refine bx h fun h0 h1=>?_
   exact PW.pt (oZ (cw a F h0) (mI b F h1))
theorem mI [My] {ks:List Fn}:∀ (a:Tx) {X:Cx}{C:SC} (_:Fit X C ks) {op:BoolOp}{x y:Expr}{r:List Expr}{p:Pos},j2 a C (.BoolOp op (x::y::r) p)=true->QW X (.BoolOp op (x::y::r) p) (tv ks a)
 | .va a,X,C,F,op,x,y,r,p,h=>aM h
 | .cmp o a b,X,C,F,op,x,y,r,p,h=>aM h
 | .no a,X,C,F,op,x,y,r,p,h=>aM h
 | .an a b,X,C,F,op,x,y,r,p,h=>by
  refine pP h (fun _ _ _ e h=>?_) fun _ _ _ _ _ e h=>?_
  ·cases e
   refine bx h fun h0 h1=>?_
   exact my (cw a F h0) (mx .And (cw b F h1))
  ·cases e
   refine bx h fun h0 h1=>?_
   exact my (cw a F h0) (mI b F h1)
 | .or a b,X,C,F,op,x,y,r,p,h=>by
  refine pP h (fun _ _ _ e h=>?_) fun _ _ _ _ _ e h=>?_
  ·cases e
   refine bx h fun h0 h1=>?_
   exact oZ (cw a F h0) (mx .Or (cw b F h1))
  ·cases e
   refine bx h fun h0 h1=>?_
   exact oZ (cw a F h0) (mI b F h1)
theorem fu [My] {ks:List Fn}:∀ (as:Exs) {X:Cx}{C:SC} (_:Fit X C ks) {es:List Expr},jG as C es=true->QA X es (a0 ks as)
 | .nil,X,C,F,es,h=>by cases es with | nil=>exact dG | cons _ _=>exact aM h
 | .cons a as,X,C,F,es,h=>by
  cases es with
  | nil=>exact aM h
  | cons e es =>
   refine fF h fun h0 h1 h2=>?_
   exact bF (ag a F h1) (fu as F h2) (aq h0)
theorem Ei [My] {ks:List Fn}:∀ (a:Nx) {X:Cx}{C:SC} (_:Fit X C ks) {e:Expr},zy a C e=true->QN X e (gh ks a)
 | .li es,X,C,F,e,h=>by
  refine rP h fun es' p h=>?_
  exact A7 (fu es F h)
 | .cat a b,X,C,F,e,h=>by
  refine pT h fun a' o' b' p h=>?_
  refine fF h fun h0 h1 h2=>?_
  cases of_decide_eq_true h0;exact C5 (ag a F h1) (ag b F h2)
 | .rep es b,X,C,F,e,h=>by
  refine pT h fun a' o' b' p h=>?_
  refine bx h fun h0 h=>?_
  cases of_decide_eq_true h0;refine rP h fun es' p1 h=>?_
  refine bx h fun h1 h2=>?_
  exact CZ (fu es F h1) (ag b F h2)
 | .sl a l h',X,C,F,e,h=>by
  refine BG h fun a' l' r' p q h=>?_
  refine fF h fun h0 h1 h2=>?_
  exact F7 (ag a F h0) (vG l F h1) (vG h' F h2)
 | .lof a,X,C,F,e,h=>by
  refine cO h fun x p1 es p2 h=>?_
  refine bG h fun a' h=>?_
  refine fE h fun h0 h1 h2 h3=>?_
  have e0:=yJ h0;subst e0;exact C4 (F.gl h1).1 (F.blt dC) (ag a F h2) (aq h3)
 | .lc k it t c a,X,C,F,e,h=>by
  simp only [zy] at h;refine DU h fun a' t' it' cs sc p h=>?_
  refine iD h fun h0 h1 h2 h3 h=>?_
  refine fE h fun h4 h5 h6 h7=>?_
  obtain ⟨T,FB⟩:=F.blk h2;have ek:k=(dP C sc).length - X.N.length:=by rw [yJ h3,F.N]
  subst ek;exact F8 F.calm T (pZ it F h0) (fun cl s H fp Mv=>g6 t (FB cl s H fp Mv) h5) (fun cl s H fp Mv=>vH c (FB cl s H fp Mv) h6) (fun cl s H fp Mv=>ag a (FB cl s H fp Mv) h7) (by rw [F.N];exact nH h4) (mj h1)
 | .lr1 a,X,C,F,e,h=>by
  refine cO h fun x p1 es p2 h1=>?_
  clear h;refine bG h1 fun d h2=>?_
  clear h1;refine cO h2 fun y p3 es p4 h=>?_
  clear h2;refine bG h fun a' h=>?_
  refine iD h fun h0 h2 h3 h4 h5=>?_
  refine bx h0 fun h0 h1=>?_
  have e0:=yJ h0;have e1:=yJ h1;subst e0;subst e1;exact C3 F.calm (F.gl h2).1 (F.blt dC) (F.gl h3).1 (F.blt dC) (ag a F h4) (aq h5)
 | .lr2 a b,X,C,F,e,h=>by
  refine cO h fun x p1 es p2 h1=>?_
  clear h;refine bG h1 fun d h2=>?_
  clear h1;refine cO h2 fun y p3 es p4 h=>?_
  clear h2;refine iX h fun a' b' h=>?_
  refine iD h fun h0 h23 h4 h5 h6=>?_
  refine bx h0 fun h0 h1=>?_
  refine bx h23 fun h2 h3=>?_
  refine bx h6 fun h6 h7=>?_
  have e0:=yJ h0;have e1:=yJ h1;subst e0;subst e1;exact C2 F.calm (F.gl h2).1 (F.blt dC) (F.gl h3).1 (F.blt dC) (ag a F h4) (ag b F h5) ((aq h6).trans (by rw [aq h7];rfl)) (aq h7)
 | .lr3 a b c,X,C,F,e,h=>by
  refine cO h fun x p1 es p2 h1=>?_
  clear h;refine bG h1 fun d h2=>?_
  clear h1;refine cO h2 fun y p3 es p4 h=>?_
  clear h2;refine rQ h fun a' b' c' h=>?_
  refine fE h fun h0 h23 h4 h5=>?_
  refine bx h0 fun h0 h1=>?_
  refine bx h23 fun h2 h3=>?_
  refine fF h4 fun h4 h6 h7=>?_
  refine fF h5 fun h8 h9 h10=>?_
  have e0:=yJ h0;have e1:=yJ h1;subst e0;subst e1;exact C1 F.calm (F.gl h2).1 (F.blt dC) (F.gl h3).1 (F.blt dC) (ag a F h4) (ag b F h6) (ag c F h7) (by rw [aq h8,aq h9,aq h10];rfl) (by rw [aq h9,aq h10];rfl) (aq h10)
theorem vG [My] {ks:List Fn}:∀ (a:Ox) {X:Cx}{C:SC} (_:Fit X C ks) {e:Option Expr},zx a C e=true->QO X e (qz ks a)
 | .no,X,C,F,e,h=>by cases e with | none=>exact A6 | some _=>exact aM h
 | .so a,X,C,F,e,h=>by cases e with | none=>exact aM h | some e=>exact A5 (ag a F h)
theorem vH [My] {ks:List Fn}:∀ (a:Cx') {X:Cx}{C:SC} (_:Fit X C ks) {es:List Expr},Iz a C es=true->wp X es (jI ks a)
 | .no,X,C,F,e,h=>by cases e with | nil=>exact A9 | cons _ _=>exact aM h
 | .so a,X,C,F,e,h=>by
  refine bG h fun e h=>?_
  exact A8 (cw a F h)
theorem pZ [My] {ks:List Fn}:∀ (a:Ix) {X:Cx}{C:SC} (_:Fit X C ks) {t e:Expr},Ej a C t e=true->QI X t e (dg ks a)
 | .e a,X,C,F,t,e,h=>JE (ag a F h)
 | .r1 a,X,C,F,t,e,h=>by
  refine cO h fun x p1 es p2 h=>?_
  refine bG h fun a' h=>?_
  refine fE h fun h0 h1 h2 h3=>?_
  have e0:=yJ h0;subst e0;exact Gb (F.gl h1).1 (F.blt dC) (ag a F h2) (aq h3)
 | .r2 a b,X,C,F,t,e,h=>by
  refine cO h fun x p1 es p2 h=>?_
  refine iX h fun a' b' h=>?_
  refine iD h fun h0 h1 h2 h3 h4=>?_
  refine bx h4 fun h4 h5=>?_
  have e0:=yJ h0;subst e0;exact Ga (F.gl h1).1 (F.blt dC) (ag a F h2) (ag b F h3) (by rw [aq h4,aq h5];rfl) (aq h5)
 | .zi a b,X,C,F,t,e,h=>by
  refine jZ h fun ts k p h=>?_
  refine cO h fun x p1 es p2 h=>?_
  refine iX h fun a' b' h=>?_
  refine iD h fun h0 h1 h2 h3 h4=>?_
  refine bx h4 fun h4 h5=>?_
  have e0:=yJ h0;subst e0;exact C6 (F.gl h1).1 (F.blt dC) (ag a F h2) (ag b F h3) (by rw [aq h4,aq h5];rfl) (aq h5)
 | .en a,X,C,F,t,e,h=>by
  refine jZ h fun ts k p h=>?_
  refine cO h fun x p1 es p2 h=>?_
  refine bG h fun a' h=>?_
  refine fE h fun h0 h1 h2 h3=>?_
  have e0:=yJ h0;subst e0;exact Gc (F.gl h1).1 (F.blt dC) (ag a F h2) (aq h3)
 | .es a b,X,C,F,t,e,h=>by
  refine jZ h fun ts k p h=>?_
  refine j1 h fun f es kws p0 h=>?_
  refine gZ h fun x p1 h=>?_
  refine bG h fun a' h=>?_
  refine bG h fun w h=>?_
  refine kH h fun y d p2 h=>?_
  refine iD h fun h0 h2 h3 h4 h5=>?_
  refine bx h0 fun h0 h1=>?_
  have e0:=yJ h0;have e1:=yJ h1;subst e0;subst e1;exact C7 (F.gl h2).1 (F.blt dC) (ag a F h3) (ag b F h4) (aq h5)
 | .r3 a b c,X,C,F,t,e,h=>by
  refine cO h fun x p1 es p2 h=>?_
  refine rQ h fun a' b' c' h=>?_
  refine fE h fun h0 h1 h2 h3=>?_
  refine fF h2 fun h2 h4 h5=>?_
  refine fF h3 fun h6 h7 h8=>?_
  have e0:=yJ h0;subst e0;exact F9 (F.gl h1).1 (F.blt dC) (ag a F h2) (ag b F h4) (ag c F h5) (by rw [aq h6,aq h7,aq h8];rfl) (by rw [aq h7,aq h8];rfl) (aq h8)
theorem g6 [My] {ks:List Fn}:∀ (t:Tg) {X:Cx}{C:SC} (_:Fit X C ks) {e:Expr},sf t C e=true->QG X e (bW ks t)
 | .nm k,X,C,F,e,h=>by
  refine gZ h fun x p h=>?_
  refine bx h fun h0 h=>?_
  obtain ⟨h1,h2⟩:=F.loc h;exact Bb (by rw [F.N];exact F.nd) (F.nmb h0).1 h1 h2
 | .tu n ts,X,C,F,e,h=>by
  refine jZ h fun es k p h=>?_
  refine fF h fun h0 h1 h2=>?_
  exact C8 F.calm (se ts F h2) (by rw [yh];exact yJ h0) (yi h1)
 | .su a b,X,C,F,e,h=>by
  refine mD h fun a' b' p h=>?_
  refine fF h fun h0 h1 h2=>?_
  exact C9 F.hu (ag a F h0) (ag b F h1) (CG h2)
theorem se [My] {ks:List Fn}:∀ (ts:Tgs) {X:Cx}{C:SC} (_:Fit X C ks) {es:List Expr},xD ts C es=true->wq X es (iM ks ts)
 | .nil,X,C,F,es,h=>by cases es with | nil=>exact Ba | cons _ _=>exact aM h
 | .cons t ts,X,C,F,es,h=>by
  cases es with
  | nil=>exact aM h
  | cons e es =>
   refine fF h fun h0 h1 h2=>?_
   exact wT (g6 t F h1) (se ts F h2) (yg h0)
end
theorem uY {env:Env}{e o i:Expr}{p:Pos}{l:Nat}:swapsWithSole [.Subscript o i p] e l env=pure false:=by cases e <;> rfl
theorem uX {env:Env}{e:Expr}{es:List Expr}{k:Nat}{p:Pos}{l:Nat}:swapsWithSole [.Tuple es k p] e l env=pure false:=by cases e <;> rfl
mutual
theorem Eh [My] {ks:List Fn}:∀ (a:Sx) {X:Cx}{C:SC} (_:Fit X C ks) {s:Stmt},Iy a C s=true->QS X s (cR ks a)
 | .ex a,X,C,F,s,h=>by
  refine BK h fun e p h=>bx h fun h0 h1=>?_
  exact A2 (ag a F h0) (rn h1)
 | .as a t,X,C,F,s,h=>by
  refine rX h fun t' e p2 h=>fF h fun h0 h1 h2=>?_
  refine Fu h2 (fun h2 x p h1=>?_) (fun o i q h1=>?_) (fun h2 es k q h1=>?_) h1
  ·cases t with
   | nm k =>
    refine bx (show (vE C k x && t9 C x)=true from h1) fun g0 g1=>?_
    obtain ⟨l1,l2⟩:=F.loc g1;have hN:X.N.Nodup:=by rw [F.N];exact F.nd
    rcases Bool.or_eq_true_iff.mp h2 with hc | hc
    ·exact u9 hN (F.nmb g0).1 l1 (ag a F h0) (rn hc) l2
    ·refine B2 hc (fun elt gens sc pos h0=>?_) h0
     have hsw:=CF (env:=X.env) (elt:=elt) (gens:=gens) (sc:=sc) (pos:=pos) (t:=x) (p:=p) (l:=p2.line) F.kind;cases hsb:Ib X.env.scope.names x p.line sc pos.line with
     | false=>rw [hsb] at hsw;exact u9 hN (F.nmb g0).1 l1 (ag a F h0) hsw l2
     | true =>
      rw [hsb] at hsw;refine KI h0 fun m k' it t c a' h0=>?_
      have h0:df gens _=true:=h0;refine bG h0 fun g h0=>?_
      obtain ⟨t',it',cs,i⟩:=g;refine bx h0 fun h9 h0=>?_
      cases of_decide_eq_true h9;refine iD h0 fun q0 h1' h2' h3 h=>?_
      refine fE h fun h4 h5 h6 h7=>?_
      obtain ⟨T,FB⟩:=F.blk h2';have ek:k'=(dP C sc).length - X.N.length:=by rw [yJ h3,F.N]
      subst ek;exact u8 hN (F.nmb g0).1 l1 hsw F.calm T (pZ it F q0) (fun cl s H fp Mv=>g6 t (FB cl s H fp Mv) h5) (fun cl s H fp Mv=>vH c (FB cl s H fp Mv) h6) (fun cl s H fp Mv=>ag a' (FB cl s H fp Mv) h7) (by rw [F.N];exact nH h4) (mj h1') l2
   | _=>exact aM h1
  ·exact vc (ag a F h0) (g6 t F h1) uY wI (sJ rfl)
  ·exact bx h2 fun h2 h3=>vc (ag a F h0) (g6 t F h1) uX (wH h2) (sJ rfl)
 | .aus o a b c,X,C,F,s,h=>by
  refine BL h fun t o' e p h=>mD h fun a' b' p h=>iD h fun h0 h1 h2 h3 h4=>?_
  cases of_decide_eq_true h0;exact A4 F.hu (ag a F h1) (ag b F h2) (ag c F h3) (Ft h4)
 | .fl c f o a,X,C,F,s,h=>by
  refine rX h fun t e p h=>pU h fun o' f' p h=>fE h fun h0 h1 h2 h3=>?_
  rw [<- yJ h0];obtain ⟨Ca,hC,cl,na⟩:=F.clb h1;exact CY (ag o F h2) (ag a F h3) cl hC na wG
 | .rt a,X,C,F,s,h=>by
  refine BH h fun e p h=>?_
  cases e with
  | none=>exact aM h
  | some e=>exact CV (ag a F h)
 | .iff t a b,X,C,F,s,h=>by
  refine DT h fun e x y p h=>fF h fun h0 h1 h2=>?_
  exact F6 (cw t F h0) (fT a F h1) (fT b F h2)
 | .fo it t b,X,C,F,s,h=>by
  refine rR h fun t' it' x p h=>fE h fun h0 h1 h2 h3=>?_
  exact CW F.po F.calm (pZ it F h0) (g6 t F h2) (fT b F h3) (mj h1)
 | .fd a t b,X,C,F,s,h=>by
  refine rR h fun t' it' x p h=>fE h fun h0 h1 h2 h3=>?_
  exact A1 F.po F.calm (ag a F h0) (g6 t F h2) (fT b F h3) (mj h1)
 | .wh t b,X,C,F,s,h=>by
  refine BE h fun e x p h=>bx h fun h0 h1=>?_
  exact wS F.po (cw t F h0) (fT b F h1)
 | .dead,X,C,F,s,h=>A3
theorem fT [My] {ks:List Fn}:∀ (as:MC) {X:Cx}{C:SC} (_:Fit X C ks) {ss:List Stmt},j3 as C ss=true->kA X ss (ak ks as)
 | .nil,X,C,F,s,h=>by cases s with | nil=>exact A0 | cons _ _=>exact aM h
 | .cons a as,X,C,F,s,h=>by
  cases s with
  | nil=>exact aM h
  | cons s ss=>exact bx h fun h0 h1=>wR (Eh a F h0) (fT as F h1)
 | .dead,X,C,F,s,h=>wQ
end
section
variable (P:Program) (w:World) (K:Frag) (mg:Str->Option Value) (base:Heap)
def Lo [My] (d:Nat) (x:Str) (n:Nat) (fn:Fn):Prop:=∃ f fd ps,ps.length=n/\FnOk P w K mg base d5 d f fd ps (de ⟨K,mg⟩ ps.length fn)/\mg x=some (.ref f)/\keepIn K (.ref f)=true/\Binds K fd ps []
def Ld [My] (d:Nat) (c m:Str) (n:Nat) (fn:Fn):Prop:=∃ f fd ps C,ps.length=n/\FnOk P w K mg base d5 d f fd ps (de ⟨K,mg⟩ ps.length fn)/\mg c=some (.ref C)/\Cls K C/\jC K C m f/\Binds K fd ps []
def Lc [My] (d:Nat) (c:Str) (n:Nat) (fn:Fn):Prop:=∃ f fd ps C,ps.length=n/\FnOk P w K mg base d5 d f fd ps (de ⟨K,mg⟩ ps.length fn)/\mg c=some (.ref C)/\Mk K C f/\Binds K fd ps []
def KOk [My] (d:Nat) (fn:Fn):Ke->Prop
 | .f x n=>Lo P w K mg base d x n fn
 | .m c m n=>Ld P w K mg base d c m n fn
 | .k c n=>Lc P w K mg base d c n fn
def KsOk [My] (d:Nat):List Ke->List Fn->Prop
 | [],_=>True
 | k::ke,fn::ks=>KOk P w K mg base d fn k/\KsOk d ke ks
 | _::_,[]=>False
structure Ev (gs:List (Str × AV)) (cl:List (Str × List Str)):Prop where
 bl:∀ x ∈ bnames,mg x=none
 gs:∀ p ∈ gs,∀ w,mn p.2=some w->∃ u,mg p.1=some u/\RelV w u
 cl:∀ p ∈ cl,∃ Ca,mg p.1=some (.ref Ca)/\Cls K Ca/\∀ f ∈ p.2,NoAttr K Ca f
end
section
variable {P:Program}{w:World}{K:Frag}{mg:Str->Option Value}{base:Heap}{d d':Nat}{fn:Fn}
theorem KOk.mono [My] (h:d <= d'):∀ {k:Ke},KOk P w K mg base d fn k->KOk P w K mg base d' fn k
 | .f _ _,⟨f,fd,ps,e,F,r⟩=>⟨f,fd,ps,e,F.mono h,r⟩
 | .m _ _ _,⟨f,fd,ps,C,e,F,r⟩=>⟨f,fd,ps,C,e,F.mono h,r⟩
 | .k _ _,⟨f,fd,ps,C,e,F,r⟩=>⟨f,fd,ps,C,e,F.mono h,r⟩
theorem KsOk.at [My]:∀ {ke:List Ke}{ks:List Fn}{j:Nat}{k:Ke},KsOk P w K mg base d ke ks->ke[j]?=some k->KOk P w K mg base d (kf ks j) k
 | [],_,_,_,_,e=>by simp at e
 | k::ke,[],_,_,h,_=>h.elim
 | k::ke,fn::ks,0,_,h,e=>by simp at e;subst e;exact h.1
 | k::ke,fn::ks,j + 1,_,h,e=>by
  have:=KsOk.at (j:=j) h.2 (by simpa using e)
  exact this
theorem KOk.ok [My] (hr:Room (d + 1) A):∀ {k:Ke},KOk P w K mg base d fn k->FF P w K mg base A fn k
 | .f _ _,⟨f,fd,ps,e,F,m,kp,b⟩=>⟨d,f,fd,ps,e,F,hr.mono (Nat.le_succ d),m,kp,b⟩
 | .m _ _ _,⟨f,fd,ps,C,e,F,m,c,me,b⟩=>⟨d,f,fd,ps,C,e,F,hr.mono (Nat.le_succ d),m,c,me,b⟩
 | .k _ _,⟨f,fd,ps,C,e,F,m,mk,b⟩=>⟨d,f,fd,ps,C,e,F,hr,m,mk,b⟩
end
def fQ (st:Stmt):List Str:=(dh st).args.map (·.arg)
noncomputable def E7 (N ps:List Str) (sc:Scope):Bool:=(match sc.kind with | .function=>true | _=>false) && !sc.isCoroutine && !sc.isGenerator && decide N.Nodup && decide (N.take ps.length=ps) &&
 (ps.all fun x=>match sc.names.lookup x with | some .local=>true | some .cell=>true | _=>false) && (sc.names.all fun p=>match p.2 with | .free=>false | _=>true)
theorem E6 (h:E7 N ps sc=true):kZ N ps sc:=by
 unfold E7 at h;simp only [zC,yB] at h;obtain ⟨⟨⟨⟨⟨⟨h1,h2⟩,h3⟩,h4⟩,h5⟩,h6⟩,h7⟩:=h;refine ⟨?_,by simpa using h2,by simpa using h3,h4,h5,fun x hx=>?_,fun y hy e=>?_⟩
 ·split at h1
  ·rename_i e;exact e
  ·cases h1
 ·have:=yO.mp h6 x hx
  split at this
  ·rename_i e;exact .inl e
  ·rename_i e;exact .inr e
  ·cases this
 ·have:=yO.mp h7 y hy
  rw [e] at this;cases this
def chk (N:List Str) (ke:List Ke) (gs:List (Str × AV)) (cl:List (Str × List Str)) (la:List Pos) (b:MC) (st:Stmt):Bool :=
 E7 N (fQ st) (ce st) && plainA (dh st) && decide (fQ st).Nodup && j3 b ⟨N,(ce st).names,N,ke,gs,cl,la⟩ (dJ st)
section
variable {P:Program}{w:World}{K:Frag}{mg:Str->Option Value}{base:Heap}{d:Nat}{x qual:Str}{st:Stmt}{f:Addr}{fd:FuncData}{N:List Str}{ke:List Ke}{ks:List Fn}{gs:List (Str × AV)}{cl:List (Str × List Str)}{la:List Pos}{b:MC}
theorem G9 [My] {N ps:List Str}{k:Nat}{b:SF} (F:Fun K x qual st f fd) (S:kZ N ps (ce st))
  (hbody:∀ (A:Around) (outer:List Env) (s:Shared) (H:Hp) (E:XK),Room k (A.deeper (envOfC qual (ce st) s.heap.objs.size f fd.code))->kA (nZ d5 P w K mg base N qual (ce st) f fd.code A outer s H E).nox (dJ st) b) :
  FnOk P w K mg base d5 (k + 1) f fd ps (de ⟨K,mg⟩ ps.length (run N.length b)):=by
 obtain ⟨oc,od,kV,doc,pm,an,cdv,ct,osl,rfl,lk,hcd⟩:=F.ex;refine G8 lk hcd S (fun vs H Q E h=>h.1) fun A outer s H vs Q E hr h=>?_
 obtain ⟨hl,P,φ,args,st,r,sm,k⟩:=h;have hb:=hbody A outer s H E hr;refine ⟨_,PSs.nox hb,?_⟩;obtain ⟨v,st',e,q⟩:=k;obtain ⟨o,e1,e2⟩:=zA e;refine ⟨P,φ,_,st,AU r,sm,o,e1,?_⟩;cases o with
 | nx sl st1=>cases e2;exact fun P' φ' H' σ' f' s' _=>q P' φ' H' .non f' s' (by simp only [RA])
 | rt v st1=>cases e2;exact fun P' φ' H' w f' s' r'=>q P' φ' H' w f' s' r'
 | bk sl st1=>cases e2
 | ct sl st1=>cases e2
def qW [My] (mg:Str->Option Value) (base:Heap) (qual:Str) (cd:Value) (la:List Pos):Prop:=∀ p ∈ la,∃ c P,cd=.ref c/\CodeHd base c P/\ig mg base/\(P,p,qual++".<locals>."++"<lambda>") ∈ My.tb/\∀ t ∈ My.tb,t.1=P->t=(P,p,qual++".<locals>."++"<lambda>")
theorem mU [My] (F:Fun K x qual st f fd) (E:Ev K mg gs cl) (hl:qW mg base qual fd.code la) (hk:KsOk P w K mg base d ke ks) (h:chk N ke gs cl la b st=true) :
  FnOk P w K mg base d5 (d + 3) f fd (fQ st) (de ⟨K,mg⟩ (fQ st).length (run N.length (ak ks b)))/\Binds K fd (fQ st) []:=by
 unfold chk at h;simp only [zC,yB] at h;obtain ⟨⟨⟨h1,h2⟩,h3⟩,h4⟩:=h;have S:=E6 h1;refine ⟨G9 F S fun A outer s H E' hr=>?_,F.binds fun kV doc pm an cdv ct us hl=>bind_plain h2 rfl h3 hl⟩;refine fT b ⟨rfl,rfl,S.nd,S.kind,rfl,fun _ _=>rfl,hr.units,hr.gd,E.bl,PassesOwn.never,fun j k e=>(hk.at e).ok (hr.mono oM),E.gs,E.cl,fun p hp=>⟨hr.mono oM,hl p hp⟩⟩ h4
end
structure FE where
 ke:Ke
 qual:Str
 st:Stmt
 N:List Str
 cs:List Nat
 d:Nat
 la:List Pos
 b:MC
def FE.fn (e:FE) (fs:List Fn):Fn:=run e.N.length (ak (e.cs.map (kf fs)) e.b)
def FE.ok [My] (e:FE) (K:Frag) (mg:Str->Option Value) (base:Heap):Prop:=match e.ke with
 | .f x _=>∃ f fd,mg x=some (.ref f)/\Fun K x e.qual e.st f fd/\qW mg base e.qual fd.code e.la
 | .m c m _=>∃ f fd C,mg c=some (.ref C)/\Cls K C/\jC K C m f/\Fun K m e.qual e.st f fd/\qW mg base e.qual fd.code e.la
 | .k c _=>∃ f fd C,mg c=some (.ref C)/\Mk K C f/\Fun K "__init__" e.qual e.st f fd/\qW mg base e.qual fd.code e.la
noncomputable def Ke.n:Ke->Nat
 | .f _ n=>n
 | .m _ _ n=>n
 | .k _ n=>n
noncomputable def xV (pre:List FE) (j:Nat):Ke:=match pre[j]? with
 | some e=>e.ke
 | none=>.f "" 0
def FE.chk (gs:List (Str × AV)) (cl:List (Str × List Str)) (pre:List FE) (e:FE):Bool :=
 R.chk e.N (e.cs.map (xV pre)) gs cl e.la e.b e.st && (e.ke.n == (fQ e.st).length) && e.cs.all (fun j=>match pre[j]? with | some g=>Nat.ble (g.d + 3) e.d | none=>false) && Nat.ble 3 e.d
def kq (gs:List (Str × AV)) (cl:List (Str × List Str)):List FE->List FE->Bool
 | _,[]=>true
 | pre,e::r=>e.chk gs cl pre && kq gs cl (pre++[e]) r
def iq:List Fn->List FE->List Fn
 | fs,[]=>fs
 | fs,e::r=>iq (fs++[e.fn fs]) r
section
variable {P:Program}{w:World}{K:Frag}{mg:Str->Option Value}{base:Heap}{gs:List (Str × AV)}{cl:List (Str × List Str)}
def pe [My] (P:Program) (w:World) (K:Frag) (mg:Str->Option Value) (base:Heap) (pre:List FE) (fs:List Fn):Prop:=pre.length=fs.length/\∀ (j:Nat) e,pre[j]?=some e->KOk P w K mg base e.d (kf fs j) e.ke
theorem ue [My] {d:Nat} (h:pe P w K mg base pre fs):∀ cs:List Nat,(cs.all fun j=>match pre[j]? with | some g=>Nat.ble (g.d + 3) (d + 3) | none=>false)=true->KsOk P w K mg base d (cs.map (xV pre)) (cs.map (kf fs))
 | [],_=>trivial
 | j::cs,hc=>by
  rw [List.all_cons,zC] at hc;refine ⟨?_,ue h cs hc.2⟩;have h1:=hc.1;split at h1
  ·rename_i g hg
   have:=h.2 j g hg
   unfold xV;rw [hg];exact this.mono (by have:=zS h1;omega)
  ·cases h1
theorem Ha [My] {pre:List FE}{fs:List Fn}{e:FE} (E:Ev K mg gs cl) (h:pe P w K mg base pre fs) (hf:e.ok K mg base) (hc:e.chk gs cl pre=true):KOk P w K mg base e.d (e.fn fs) e.ke:=by
 unfold FE.chk at hc;simp only [zC] at hc;obtain ⟨⟨⟨h1,h2⟩,h3⟩,h4⟩:=hc;have hn:=yJ h2;obtain ⟨d,hd⟩:∃ d,e.d=d + 3:=⟨e.d - 3,by have:=zS h4;omega⟩;rw [hd] at h3 ⊢;have hk:=ue h e.cs h3;unfold FE.fn;unfold FE.ok at hf;split at hf
 ·rename_i x n ek
  obtain ⟨f,fd,m,F,L⟩:=hf;obtain ⟨a1,a2⟩:=mU F E L hk h1;rw [ek] at hn ⊢;exact ⟨f,fd,fQ e.st,hn.symm,a1,m,F.kp,a2⟩
 ·rename_i c m n ek
  obtain ⟨f,fd,C,hC,hc,hm,F,L⟩:=hf;obtain ⟨a1,a2⟩:=mU F E L hk h1;rw [ek] at hn ⊢;exact ⟨f,fd,fQ e.st,C,hn.symm,a1,hC,hc,hm,a2⟩
 ·rename_i c n ek
  obtain ⟨f,fd,C,hC,hm,F,L⟩:=hf;obtain ⟨a1,a2⟩:=mU F E L hk h1;rw [ek] at hn ⊢;exact ⟨f,fd,fQ e.st,C,hn.symm,a1,hC,hm,a2⟩
theorem vN {j:Nat} (h:j < fs.length):kf (fs++[g]) j=kf fs j:=by
 unfold kf;rw [zD,zD,zN h]
theorem BY:kf (fs++[g]) fs.length=g:=by
 unfold kf;rw [zD];simp
theorem rD [My] (E:Ev K mg gs cl):∀ (rest pre:List FE) (fs:List Fn),pe P w K mg base pre fs->(∀ e ∈ rest,e.ok K mg base)->kq gs cl pre rest=true->pe P w K mg base (pre++rest) (iq fs rest)
 | [],pre,fs,h,_,_=>by rw [List.append_nil];exact h
 | e::r,pre,fs,h,hf,hc=>by
  unfold kq at hc;rw [zC] at hc;have h1:=Ha E h (hf e z6) hc.1
  have:=rD E r (pre++[e]) (fs++[e.fn fs]) ⟨by simp [h.1],fun j g hg=>?_⟩ (fun g hg=>hf g (zQ _ hg)) hc.2
  ·rw [yM] at this;exact this
  ·rcases yR j pre.length with hj | hj
   ·rw [zN hj] at hg
    rw [vN (by rw [<- h.1];exact hj)];exact h.2 j g hg
   ·have ej:j=pre.length:=by
     have:=(zB.mp hg).1
     rw [zV] at this;simp at this;omega
    subst ej;simp at hg;subst hg;rw [h.1,BY];exact h1
end
theorem GN [My] {K:Frag}{mg:Str->Option Value}{H:Hp}{a:Addr}{ns:List Int}{fn:Fn}{E:XK} (hg:∃ st,fn [.fz (ns.map .int)] []=some (.bl true,st)) (hS:bz K H a (ns.map V.int)) (tb:∀ t ∈ My.tb,fj H t.1 t.2.1 t.2.2):de ⟨K,mg⟩ 1 fn [.ref a] H (fun v _=>v=.bl true) E:=by
 obtain ⟨st,e⟩:=hg;refine ⟨rfl,fun c=>∃ vs,Rd H c (.lst vs),[],[.fz (ns.map .int)],[],aS ?_ bg,Sim.nil (fun c h=>?_) (fun t ht=>⟨tb t ht,fun hq0=>by obtain ⟨vs,z⟩:=hq0;obtain ⟨ps,e,_⟩:=tb t ht;rcases z with z | ⟨o,z⟩ <;> (rw [e] at z;cases z)⟩),.bl true,st,e,fun P' φ' H' w f s r=>by simpa only [RA] using r⟩
 ·simp only [RA]
  refine ⟨a,ns.map V.int,rfl,?_,MA.of_ints⟩;rcases hS with h | h
  ·exact .inl ⟨⟨_,h⟩,h⟩
  ·exact .inr fun H'=>.inr h
 ·obtain ⟨vs,h | ⟨o,h⟩⟩:=h <;> (rw [h];exact fun z=>nomatch z)
end R
namespace L2
open PySem PySem.Spec PyProof.Rows
theorem vL {P:Program}{w:World}{K:Frag}{mg mb:Str->Option Value}{CX:kD}{k:Nat}{fa a:Addr}{fd:FuncData}{x:Str}{sp:Sp}{s₁:Shared}{vs:List Value}{ns:List Int}{tabs:List (Addr × Addr)}
  (KX:K.In s₁.heap) (hns:s₁.heap.Ns mainGlobals mg) (hb:s₁.heap.Ns builtinsNs mb) (hbb:∀ x:Str,x ≠ "__name__"->mb x=bootBuiltins x) (hlim:s₁.heap.NoLimit) (hg:s₁.gens=#[])
  (bm:∃ bm ob,mg "__builtins__"=some (.ref bm)/\bm ≠ builtinsNs/\s₁.heap.get? bm=some ob/\ob.cls=.type "module"/\ob.dict=some builtinsNs/\ob.data=.plain)
  (hT:TabsAt tabs s₁.heap) (hK0:noTabs K=true)
  (ha:s₁.heap.get? a=some { cls:=.type "list",data:=.seq vs.toArray }) (hi:IntsAre vs ns) (hl:ns.length <= sizeLine) (hr:Room k callerA)
  (F:∀ base:Heap,K.In base->base.Ns mainGlobals mg->ig mg base->FnOk P w K mg base CX k fa fd [x] sp) (hbind:∀ (s:Shared) (u:Value),BindsTo s fd ⟨[u],[]⟩ [(x,u)])
  (hsp:∀ H:Hp,(∀ q ∈ tabs,H q.2=some (.tbl #[]))->bz K H a (ns.map V.int)->sp [.ref a] H (fun v _=>v=.bl true) fun _ _ _=>False)
  (hCX:∀ H e s',CX [] H s₁ (fun _ _ _=>False) e s'->False) :
  codeAny (model P w) callerA (.call (.ref fa) ⟨[.ref a],[]⟩) (fun r s'=>r=.ok (.ret (.bool true))/\OldK s₁.heap s'.heap/\s'.os=s₁.os/\AllBare s'.gens) s₁:=by
 have rv:=uK hi;have lenV:=hi.length;have core:∀ H:Hp,bz K H a (ns.map V.int)->HOk P w H s₁.heap->(∀ b,H b=none\/(b=a/\K.lookup a=none/\∃ o xs,H b=some (.frz o (.lst xs)))\/(∃ q ∈ tabs,b=q.2/\H b=some (.tbl #[])))->(∀ q ∈ tabs,H q.2=some (.tbl #[])) ->
   codeAny (model P w) callerA (.call (.ref fa) ⟨[.ref a],[]⟩) (fun r s'=>r=.ok (.ret (.bool true))/\OldK s₁.heap s'.heap/\s'.os=s₁.os/\AllBare s'.gens) s₁:=by
  intro H hS MB hA hTb;have fi:∀ {b:Addr}{o:Obj},s₁.heap.get? b=some o->H b=none->(iK s₁.heap H).get? b=some o:=fun e n=>xZ e n
  have none_of:∀ {b:Addr}{o:Obj},s₁.heap.get? b=some o->o.cls ≠ .type "list"->o ≠ tabObj #[]->H b=none:=fun {b o} e n1 n2=>by
   rcases hA b with z | ⟨rfl,_⟩ | ⟨q,hq,rfl,_⟩
   ·exact z
   ·rw [ha] at e;cases e;exact absurd rfl n1
   ·rw [(hT q hq).2] at e;cases e;exact absurd rfl n2
  have dict_of:∀ {b:Addr}{o:Obj}{es:Array DictEntry}{ep:Nat},s₁.heap.get? b=some o->o.data=.dict es ep->H b=none:=fun {b o es ep} e d=>by
   rcases hA b with z | ⟨rfl,_⟩ | ⟨q,hq,rfl,_⟩
   ·exact z
   ·rw [ha] at e;cases e;cases d
   ·rw [(hT q hq).2] at e;cases e;cases d
  have nsK:∀ {b:Addr}{m:Str->Option Value},s₁.heap.Ns b m->(iK s₁.heap H).Ns b m:=fun {b m} ⟨o,es,ep,e,d,r⟩=>⟨o,es,ep,fi e (dict_of e d),d,r⟩
  have hKb:K.In (iK s₁.heap H):=fun b o e=>fi (KX b o e) (by
   rcases hA b with z | ⟨rfl,z,_⟩ | ⟨q,hq,rfl,_⟩
   ·exact z
   ·rw [z] at e;cases e
   ·have e1:=KX _ o e
    rw [(hT q hq).2] at e1;cases e1;have h2:=yO.mp hK0 _ (mem_of_lookupK e);exact absurd (show false=true from h2) Bool.false_ne_true)
  have hM:Mod K mg (iK s₁.heap H):=⟨hKb,nsK hns,⟨mb,nsK hb,hbb⟩,let ⟨mc,h1,h2⟩:=hlim;⟨mc,nsK h1,h2⟩⟩;have hBM:ig mg (iK s₁.heap H):=by
   obtain ⟨bm,ob,b1,b2,b3,b4,b5,b6⟩:=bm;refine ⟨bm,ob,b1,b2,fun z=>?_,fi b3 (none_of b3 (by rw [b4];intro z;injection z with z;exact absurd z dC) (fun z=>by rw [z] at b4;cases b4)),b4,b5,b6⟩;obtain ⟨o,es,ep,e,d,_⟩:=hns;rw [z,e] at b3;cases b3;rw [d] at b6;cases b6
  have e0:Env0 P w K mg (iK s₁.heap H) callerA [] s₁ H:=⟨rfl,hM,fun b o e=>BM e,Nat.le_of_eq (vV _ _),trivial,fun b hb=>absurd (show b ∈ ([]:List Addr) from hb) (by simp),MB,.of_eq hg⟩;refine codeAny_mono ((F _ hKb (nsK hns) hBM).run callerA [] s₁ H ⟨[.ref a],[]⟩ [.ref a] [.ref a] _ _ hr e0 (hbind s₁ (.ref a)) (.cons rfl .nil) (hsp H hTb hS)) fun r s' h=>?_
  cases r with
  | error e=>exact (hCX H e s' h).elim
  | ok fl =>
   cases fl with
   | next=>exact False.elim h
   | brk=>exact False.elim h
   | cont=>exact False.elim h
   | ret u =>
    obtain ⟨v,H',os,bare,un,hok',r',q⟩:=h;have q':v=.bl true:=q;subst q';obtain rfl:u=Value.bool true:=r';have old:∀ b o,s₁.heap.get? b=some o->asItWas s₁.heap s'.heap b o:=fun b o e=>by
     rcases hA b with z | ⟨rfl,_,ob,xs,z⟩ | ⟨q,hq,rfl,z⟩
     ·exact .inl (un.keep b o e z (by intro z;exact absurd (show b ∈ ([]:List Addr) from z) (by simp)) (by simp))
     ·have z2:=un.frzs b ob _ z
      obtain ⟨e1,_⟩:=MB b _ z;obtain ⟨e2,_⟩:=hok' b _ z2;rw [e] at e1;cases e1;exact .inl e2
     ·obtain ⟨more,z2⟩:=un.tbls _ _ z
      have e2:=hok' _ _ z2;rw [(hT q hq).2] at e;cases e;exact .inr (.inl ⟨((hT q hq).1.tab (hT q hq).2).isCodeTable,rfl,#[],more,rfl,e2⟩)
    refine ⟨rfl,⟨old,fun b o e=>?_⟩,os,bare⟩;exact un.there b o e (by simp)
 have natab:∀ q ∈ tabs,q.2 ≠ a:=fun q hq e=>by
  have:=(hT q hq).2
  rw [e,ha] at this;cases this
 cases hk:K.lookup a with
 | some o =>
  have e:=KX a o hk;rw [ha] at e;cases e;refine core (fun b=>if b ∈ tabs.map (·.2) then some (.tbl #[]) else none) (.inr ⟨_,vs.toArray,_,hk,rfl,rfl,rfl,by rw [zI,lenV];exact hl,by simpa using rv⟩) (fun b u z=>?_) (fun b=>?_) fun q hq=>yH (List.mem_map_of_mem hq)
  ·dsimp only at z
   by_cases hb:b ∈ tabs.map (·.2)
   ·rw [yH hb] at z;cases z
    obtain ⟨q,hq,rfl⟩:=yC.mp hb;exact (hT q hq).2
   ·rw [yG hb] at z;cases z
  ·by_cases hb:b ∈ tabs.map (·.2)
   ·obtain ⟨q,hq,rfl⟩:=yC.mp hb
    exact .inr (.inr ⟨q,hq,rfl,yH hb⟩)
   ·exact .inl (yG hb)
 | none =>
  refine core (fun b=>if b ∈ tabs.map (·.2) then some (.tbl #[]) else if b=a then some (.frz { cls:=.type "list",data:=.seq vs.toArray } (.lst (ns.map V.int))) else none) (.inl (.inr ⟨{ cls:=.type "list",data:=.seq vs.toArray },?_⟩)) (fun b u z=>?_) (fun b=>?_) fun q hq=>yH (List.mem_map_of_mem hq)
  ·dsimp only
   rw [yG (fun z=>by obtain ⟨q,hq,e⟩:=yC.mp z;exact natab q hq e),yH rfl]
  ·dsimp only at z
   by_cases hb:b ∈ tabs.map (·.2)
   ·rw [yH hb] at z;cases z
    obtain ⟨q,hq,rfl⟩:=yC.mp hb;exact (hT q hq).2
   ·rw [yG hb] at z
    by_cases hb':b=a
    ·rw [yH hb'] at z;cases z
     subst hb';exact ⟨ha,by rw [zH];exact hl,vs,_,rv,ha⟩
    ·rw [yG hb'] at z;cases z
  ·by_cases hb:b ∈ tabs.map (·.2)
   ·obtain ⟨q,hq,rfl⟩:=yC.mp hb
    exact .inr (.inr ⟨q,hq,rfl,yH hb⟩)
   ·by_cases hb':b=a
    ·exact .inr (.inl ⟨hb',hk,_,_,(yG hb).trans (yH hb')⟩)
    ·exact .inl ((yG hb).trans (yG hb'))
theorem Cm {l:PySem.W.OpenLaw}{n k:Nat}{q:Program}{bK:List Str}{XP:(Str->Option Value)->Heap->Prop}{YP:World->Heap->Prop}{d:DefRec}{K:Params->Frag}{sp:World->Sp}{x:Str}{tabs:List (Addr × Addr)}
  (hn:l.most=some n) (hn2:n <= sizeLine) (hdf:d.params.defaults=[]) (hr:Room k callerA)
  (hY:∀ (w:World) (h:Heap),YP w h->(K w.params).In h/\∀ q ∈ tabs,h.get? q.2=some (tabObj #[])) (hc:∀ (w:World),∀ q ∈ tabs,codeHdIn (K w.params) q.1 q.2=true) (hK0:∀ (w:World),noTabs (K w.params)=true)
  (F:∀ (w:World) (mg:Str->Option Value) (fa:Addr) (h:Heap),(K w.params).In h->h.Ns mainGlobals mg->mg d.name=some (.ref fa) ->
   ∃ fd:FuncData,(∀ (s:Shared) (u:Value),BindsTo s fd ⟨[u],[]⟩ [(x,u)]) /\
    ∀ base:Heap,(K w.params).In base->base.Ns mainGlobals mg->ig mg base->FnOk l.prog w (K w.params) mg base d5 k fa fd [x] (sp w))
  (hsp:∀ (w:World) (H:Hp) (a:Addr) (ns:List Int),ns.length <= n->(∀ q ∈ tabs,H q.2=some (.tbl #[]))->bz (K w.params) H a (ns.map V.int)->sp w [.ref a] H (fun v _=>v=.bl true) fun _ _ _=>False) :
  PySem.W.WalkO q bK XP YP l.row.toRowW d [] (fun f vs=>PySem.call f vs):=by
 refine Att.attach_call hn hdf fun w s₀ s₁ mg mb fa o pm cd doc a vs ns G Y ho hd hcd hmg hobj hints hlen hg=>?_
 obtain ⟨KX,hT0⟩:=hY w _ Y;obtain ⟨fd,hb,hF⟩:=F w mg fa _ KX G.T.g hmg;exact vL (tabs:=tabs) KX G.T.g G.T.b G.T.builtins G.T.nolimit hg G.T.bmain (fun q hq=>⟨codeHd_of_K KX (hc w q hq),hT0 q hq⟩) (hK0 w) hobj hints (z0 hlen hn2) hr hF hb (fun H hO hS=>hsp w H a ns hlen hO hS) fun H e s' z=>z
end L2
namespace R
open PySem PySem.Spec PyProof.Rows L2
abbrev FD [My] (K:Frag) (qual:Str) (cd:Value) (la:List Pos):Prop:=la=[]\/∃ p c P,la=[p]/\cd=.ref c/\codeHdIn K c P=true/\My.tb=[(P,p,qual++".<locals>."++"<lambda>")]
abbrev FactF [My] (K:Frag) (x:Str) (e:FE):Prop:=∃ (f:Addr) (oc:Value) (od:Option Addr) (sl:Array (Option Value)) (kV dc pm:Value) (an:Option Addr) (cd ct:Value),nsIn K mainGlobals x=some (some (.ref f)) /\
 K.lookup f=some ⟨oc,od,.func (fnOf x e.qual (dh e.st) (dJ e.st) (ce e.st) .none kV dc pm an cd ct),sl⟩/\codeIn K cd e.qual=true/\keepIn K (.ref f)=true/\FD K e.qual cd e.la
abbrev FactM [My] (K:Frag) (c m:Str) (e:FE):Prop:=∃ (C f:Addr) (oc:Value) (od:Option Addr) (sl:Array (Option Value)) (kV dc pm:Value) (an:Option Addr) (cd ct:Value),nsIn K mainGlobals c=some (some (.ref C))/\findIn K (.ref C) m=some (some (.ref f)) /\
 K.lookup f=some ⟨oc,od,.func (fnOf m e.qual (dh e.st) (dJ e.st) (ce e.st) .none kV dc pm an cd ct),sl⟩/\codeIn K cd e.qual=true/\keepIn K (.ref f)=true/\isFn K (.ref f)=true/\FD K e.qual cd e.la
abbrev FactN (K:Frag) (c:Str):Prop:=∃ C:Addr,nsIn K mainGlobals c=some (some (.ref C))/\makesIn K C=true/\keepIn K (.ref C)=true
abbrev nA (K:Frag) (c:Str):Prop:=∃ C:Addr,nsIn K mainGlobals c=some (some (.ref C))/\plainGet K C Str.empty=true/\hasDictIn K C=true/\plainOver K C=true/\findIn K (.ref C) "__setattr__"=some (some (.builtin "object.__setattr__"))
abbrev AG (K:Frag) (c:Str) (fs:List Str):Prop:=∃ C:Addr,nsIn K mainGlobals c=some (some (.ref C))/\(fs.all fun f=>match findIn K (.ref C) f with | some none=>true | _=>false)=true
abbrev AA (K:Frag):Prop:=(bnames.all fun x=>match nsIn K mainGlobals x with | some none=>true | _=>false)=true
section
variable [My] {K:Frag}{h base:Heap}{mg:Str->Option Value}
theorem o6 (B:K.In base) (hb:ig mg base) (L:FD K qual cd la):qW mg base qual cd la:=by
 intro p hp;rcases L with rfl | ⟨q,c,P,rfl,e,hc,ht⟩
 ·cases hp
 ·rw [zM.mp hp]
  exact ⟨c,P,e,codeHd_of_K B hc,hb,by rw [ht];simp,fun t h1 _=>by rw [ht] at h1;exact zM.mp h1⟩
theorem FactF.ok {n:Nat} (hk:e.ke=.f x n) (F:FactF K x e) (X:K.In h) (G:h.Ns mainGlobals mg) (B:K.In base) (hb:ig mg base):e.ok K mg base:=by
 obtain ⟨f,oc,od,sl,kV,dc,pm,an,cd,ct,a,l,c,k,L⟩:=F;unfold FE.ok;rw [hk];exact ⟨f,_,mg_of X G a,mV l c k,o6 B hb L⟩
theorem v7 (F:nA K c) (X:K.In h) (G:h.Ns mainGlobals mg) (hC:nsIn K mainGlobals c=some (some (.ref C))):mg c=some (.ref C)/\Cls K C:=by
 obtain ⟨C',a,f1,f2,f3,f4⟩:=F;rw [hC] at a;cases a;exact ⟨mg_of X G hC,⟨f1,f2,f3,f4⟩⟩
theorem FactM.ok {n:Nat} (hk:e.ke=.m c m n) (F:FactM K c m e) (C0:nA K c) (X:K.In h) (G:h.Ns mainGlobals mg) (B:K.In base) (hb:ig mg base):e.ok K mg base:=by
 obtain ⟨C,f,oc,od,sl,kV,dc,pm,an,cd,ct,a,g,l,cc,k,i,L⟩:=F;unfold FE.ok;rw [hk];obtain ⟨m1,m2⟩:=v7 C0 X G a;exact ⟨f,_,C,m1,m2,⟨g,i,k⟩,mV l cc k,o6 B hb L⟩
theorem FactN.ok {n:Nat} (hk:e.ke=.k c n) (F:FactM K c "__init__" e) (N:FactN K c) (X:K.In h) (G:h.Ns mainGlobals mg) (B:K.In base) (hb:ig mg base):e.ok K mg base:=by
 obtain ⟨C,f,oc,od,sl,kV,dc,pm,an,cd,ct,a,g,l,cc,k,i,L⟩:=F;obtain ⟨C',a',m1,m2⟩:=N;rw [a] at a';cases a';unfold FE.ok;rw [hk];exact ⟨f,_,C,mg_of X G a,⟨m1,g,i,m2⟩,mV l cc k,o6 B hb L⟩
abbrev FactG (K:Frag) (p:Str × AV):Prop:=match p.2 with
 | .int i=>∃ t,nsIn K mainGlobals p.1=some (some (.int i t))
 | .str x=>∃ t,nsIn K mainGlobals p.1=some (some (.str x t))
 | _=>False
theorem FactG.ok (F:FactG K p) (X:K.In h) (G:h.Ns mainGlobals mg):∀ w,mn p.2=some w->∃ u,mg p.1=some u/\RelV w u:=by
 obtain ⟨x,c⟩:=p;intro w hw;cases c with
 | int i=>obtain ⟨t,e⟩:=F;cases hw;exact ⟨_,mg_of X G e,t,rfl⟩
 | str y=>obtain ⟨t,e⟩:=F;cases hw;exact ⟨_,mg_of X G e,t,rfl⟩
 | _=>exact F.elim
theorem Hc (X:K.In h) (G:h.Ns mainGlobals mg) (hb:AA K) (hg:∀ p ∈ gs,FactG K p) (hc:∀ p ∈ cl,nA K p.1/\AG K p.1 p.2):Ev K mg gs cl:=by
 refine ⟨fun x hx=>?_,fun p hp=>(hg p hp).ok X G,fun p hp=>?_⟩
 ·have:=yO.mp hb x hx
  split at this
  ·rename_i e;exact mg_none_of X G e
  ·cases this
 ·obtain ⟨C0,C,a,fs⟩:=hc p hp
  obtain ⟨m1,m2⟩:=v7 C0 X G a;refine ⟨C,m1,m2,fun f hf=>?_⟩
  have:=yO.mp fs f hf
  split at this
  ·rename_i e;exact e
  ·cases this
end
theorem law_F [My] {P:Program}{w:World}{K:Frag}{h:Heap}{mg:Str->Option Value}{fa:Addr}{gs:List (Str × AV)}{cl:List (Str × List Str)}{pre:List FE}{e:FE}{fn:Fn} (X:K.In h) (G:h.Ns mainGlobals mg) (hfa:mg "law"=some (.ref fa))
  (hb:AA K) (hg:∀ p ∈ gs,FactG K p) (hc:∀ p ∈ cl,nA K p.1/\AG K p.1 p.2) (hchk:kq gs cl [] pre=true) (hce:e.chk gs cl pre=true)
  (facts:∀ base:Heap,K.In base->ig mg base->∀ e ∈ pre,e.ok K mg base) (hF:FactF K "law" e) (hps:fQ e.st=[("_law_script":Str)]) (hfn:e.fn (iq [] pre)=fn) :
  ∃ fd:FuncData,(∀ (s:Shared) (v:Value),BindsTo s fd ⟨[v],[]⟩ [("_law_script",v)])/\∀ base:Heap,K.In base->base.Ns mainGlobals mg->ig mg base ->
   FnOk P w K mg base d5 e.d fa fd ["_law_script"] (fun vs H Q E=>∀ mg,de ⟨K,mg⟩ 1 fn vs H Q E):=by
 have E:=Hc X G hb hg hc;unfold FE.chk at hce;simp only [zC] at hce;obtain ⟨⟨⟨h1,h2⟩,h3⟩,h4⟩:=hce;obtain ⟨d,hd⟩:∃ d,e.d=d + 3:=⟨e.d - 3,by have:=zS h4;omega⟩;rw [hd] at h3 ⊢;obtain ⟨f,oc,od,sl,kV,dc,pm,an,cd,ct,a,l,c,k,L⟩:=hF;have m:=mg_of X G a;rw [hfa] at m;cases m;have F:=mV l c k;refine ⟨fnOf "law" e.qual (dh e.st) (dJ e.st) (ce e.st) .none kV dc pm an cd ct,fun s v=>?_,fun base B _ hbm=>?_⟩
 ·have hp:plainA (dh e.st)=true:=by
   unfold R.chk at h1;simp only [zC] at h1;exact h1.1.1.2
  refine .of_eq ?_
  have:=bind_plain (fd:=fnOf "law" e.qual (dh e.st) (dJ e.st) (ce e.st) .none kV dc pm an cd ct) (us:=[v]) hp rfl (by show (fQ e.st).Nodup;rw [hps];simp) (by show _=(fQ e.st).length;rw [hps];rfl)
  rw [this];show pure ((fQ e.st).zip [v])=_;rw [hps];rfl
 ·have pk:=rD (P:=P) (w:=w) E pre [] [] ⟨rfl,fun j g hg=>by simp at hg⟩ (facts base B hbm) hchk
  have hk:=ue (d:=d) pk e.cs h3
  have:=(mU F E (o6 B hbm L) hk h1).1
  rw [hps] at this;have hfn':run e.N.length (ak (e.cs.map (kf (iq [] pre))) e.b)=fn:=hfn;rw [hfn'] at this;exact this.imp fun vs H Q E q=>q mg
theorem walk_R [My] {l:PySem.W.OpenLaw}{k:Nat}{q:Program}{bK:List Str}{XP:(Str->Option Value)->Heap->Prop}{YP:World->Heap->Prop}{d:DefRec}{K:Params->Frag}{fn:Fn}{tabs:List (Addr × Addr)}
  (hn:l.most=some 63) (hdf:d.params.defaults=[]) (hr:Room k callerA)
  (hY:∀ (w:World) (h:Heap),YP w h->(K w.params).In h/\∀ q ∈ tabs,h.get? q.2=some (tabObj #[])) (hc:∀ (w:World),∀ q ∈ tabs,codeHdIn (K w.params) q.1 q.2=true) (hK0:∀ (w:World),noTabs (K w.params)=true)
  (ht:∀ t ∈ My.tb,t.1 ∈ tabs.map (·.2)) (hg:∀ ns:List Int,ns.length <= 63->∃ st,fn [.fz (ns.map .int)] []=some (.bl true,st))
  (F:∀ (w:World) (mg:Str->Option Value) (fa:Addr) (h:Heap),(K w.params).In h->h.Ns mainGlobals mg->mg d.name=some (.ref fa) ->
   ∃ fd:FuncData,(∀ (s:Shared) (u:Value),BindsTo s fd ⟨[u],[]⟩ [("_law_script",u)]) /\
    ∀ base:Heap,(K w.params).In base->base.Ns mainGlobals mg->ig mg base->FnOk l.prog w (K w.params) mg base d5 k fa fd ["_law_script"] (fun vs H Q E=>∀ mg,de ⟨K w.params,mg⟩ 1 fn vs H Q E)) :
  PySem.W.WalkO q bK XP YP l.row.toRowW d [] (fun f vs=>PySem.call f vs) :=
 Cm (sp:=fun w vs H Q E=>∀ mg,de ⟨K w.params,mg⟩ 1 fn vs H Q E) hn dC hdf hr hY hc hK0 F fun w H a ns hl hT hS mg=>GN (hg ns hl) hS fun t h=>by
  obtain ⟨q,hq,e⟩:=yC.mp (ht t h);exact ⟨#[],by rw [<- e];exact hT q hq,trivial,.inl rfl⟩
end R
namespace SX
def MN:Nat->(Nat->Int)->Int
 | 0,_=>0
 | n + 1,f=>MN n f + f n
theorem Ic {n:Nat}{f g:Nat->Int} (h:∀ i,i < n->f i=g i):MN n f=MN n g:=by
 induction n with
 | zero=>rfl
 | succ n ih=>simp only [MN];rw [ih fun i hi=>h i oM,h n oM]
theorem abs_sum {n:Nat}{f:Nat->Int}{M:Nat} (h:∀ i,i < n->(f i).natAbs <= M):(MN n f).natAbs <= n * M:=by
 induction n with
 | zero=>simp [MN]
 | succ n ih =>
  simp only [MN];have h1:=ih fun i hi=>h i oM
  have h2:=h n oM;rw [Nat.succ_mul]
  have:=Int.natAbs_add_le (MN n f) (f n)
  omega
structure Pm (w m:Nat) (h s:Nat->Nat):Prop where
 hl:∀ j,j < w->h j < w + m
 sl:∀ i,i < m->s i < w + m
 hi:∀ j k,j < w->k < w->h j=h k->j=k
 si:∀ j k,j < m->k < m->s j=s k->j=k
 hs:∀ j i,j < w->i < m->h j ≠ s i
 cov:∀ q,q < w + m->(∃ i,i < m/\s i=q)\/∃ j,j < w/\h j=q
structure Sh where
 d:Int
 ls:List (List Int)
 hd:List Nat
 sd:List Nat
 gd:List Nat
 nl:List Nat
 tn:List Nat
noncomputable def gI (xs:List Int) (j:Nat):Int:=xs.getD j 0
noncomputable def row (S:Sh) (i:Nat):List Int:=S.ls.getD i []
def Sh.t (S:Sh) (i j:Nat):Int:=gI (row S i) j
noncomputable def Sh.h (S:Sh) (j:Nat):Nat:=S.hd.getD j 0
noncomputable def Sh.s (S:Sh) (i:Nat):Nat:=S.sd.getD i 0
noncomputable def fdvS (a b:Int):Int:=if 0 < b then a / b else a.fdiv b
def chLine (l P:List Int) (c:Nat) (sg d:Int):List Int :=
 if gI l c=0 then (if gI P c=d then l else l.map fun x=>fdvS (x * gI P c) d) else ((l.zip P).map fun z=>fdvS (z.1 * gI P c - gI l c * z.2) d).set c (sg * gI l c)
noncomputable def sgn (x:Int):Int:=if x < 0 then -1 else 1
def pvl (S:Sh) (r c:Nat):List Int:=(row S r).map fun x=>sgn (S.t r c) * x
def MJ (S:Sh) (r c:Nat):Sh:={ S with
 d:=gI (pvl S r c) c
 ls:=(S.ls.map fun l=>chLine l (pvl S r c) c (sgn (S.t r c)) S.d).set r (((pvl S r c).map fun x=>- x).set c (sgn (S.t r c) * S.d))
 hd:=S.hd.set c (S.s r)
 sd:=S.sd.set r (S.h c) }
structure MD (w m:Nat) (S:Sh):Prop where
 ls:S.ls.length=m
 row:∀ l ∈ S.ls,l.length=w + 1
 hd:S.hd.length=w
 sd:S.sd.length=m
theorem gI_set_at {xs:List Int}{j:Nat}{x:Int} (h:j < xs.length):gI (xs.set j x) j=x:=by
 unfold gI;simp [zD,h]
theorem gI_set_ne {j k:Nat}{x:Int} (h:k ≠ j):gI (xs.set j x) k=gI xs k:=by
 unfold gI;simp [zD,yT,h.symm]
theorem getD_mem {α:Type}{xs:List α}{i:Nat}{a:α} (h:i < xs.length):xs.getD i a ∈ xs:=by
 simp [zD,zF h]
theorem MD.rl {w m:Nat} (P:MD w m S) {i:Nat} (h:i < m):(SX.row S i).length=w + 1:=P.row _ (getD_mem (by rw [P.ls];exact h))
theorem uw {c:Nat}{sg d:Int} (h:l.length=P.length):(chLine l P c sg d).length=l.length:=by
 unfold chLine;split
 ·split
  ·rfl
  ·simp
 ·simp [h]
theorem exch_shp {w m:Nat}{r c:Nat} (P:MD w m S) (hr:r < m):MD w m (MJ S r c):=by
 have hp:(pvl S r c).length=w + 1:=by unfold pvl;rw [zH];exact P.rl hr
 refine ⟨by simp [MJ,P.ls],fun l hl=>?_,by simp [MJ,P.hd],by simp [MJ,P.sd]⟩;rcases List.mem_or_eq_of_mem_set hl with h | h
 ·obtain ⟨l',h1,rfl⟩:=yC.mp h
  rw [uw (by rw [P.row _ h1,hp])];exact P.row _ h1
 ·rw [h];simp [hp]
def trn (S:Sh) (p:Nat):Sh:={ S with ls:=S.ls.set p ((row S p).map fun x=>- x),tn:=if S.s p ∈ S.tn then S.tn else S.tn++[S.s p] }
theorem trn_shp {w m p:Nat} (P:MD w m S) (hp:p < m):MD w m (trn S p):=by
 refine ⟨by simp [trn,P.ls],fun l hl=>?_,P.hd,P.sd⟩;rcases List.mem_or_eq_of_mem_set hl with h | h
 ·exact P.row _ h
 ·rw [h,zH];exact P.rl hp
def IV (S:Sh) (w q r i:Nat):Prop:=S.t r w * - S.t i q < S.t i w * - S.t r q\/(S.t r w * - S.t i q=S.t i w * - S.t r q/\S.s r <= S.s i)
def ME (S:Sh) (w q k:Nat) (o:Option Nat):Prop:=(o=none->∀ i,i < k->S.s i ∈ S.gd->¬ S.t i q < 0)/\∀ r,o=some r->r < k/\S.s r ∈ S.gd/\S.t r q < 0/\∀ i,i < k->S.s i ∈ S.gd->S.t i q < 0->IV S w q r i
theorem Ku {A B C x y z:Int}{a b c:Nat} (hx:0 < x) (hy:0 < y) (hz:0 < z) (h1:A * y < B * x\/(A * y=B * x/\a <= b)) (h2:B * z < C * y\/(B * z=C * y/\b <= c)):A * z < C * x\/(A * z=C * x/\a <= c):=by
 have l1:A * y <= B * x:=by omega
 have l2:B * z <= C * y:=by omega
 have l3:(A * y) * z <= (B * x) * z:=Int.mul_le_mul_of_nonneg_right l1 oM;have l4:(B * z) * x <= (C * y) * x:=Int.mul_le_mul_of_nonneg_right l2 oM;have e1:(B * x) * z=(B * z) * x:=by grind
 have e2:(A * y) * z=(A * z) * y:=by grind
 have e3:(C * y) * x=(C * x) * y:=by grind
 have l5:(A * z) * y <= (C * x) * y:=by omega
 have l6:A * z <= C * x:=Int.le_of_mul_le_mul_right l5 hy;by_cases e:A * z=C * x
 ·right
  refine ⟨e,?_⟩;have e4:(A * z) * y=(C * x) * y:=by rw [e]
  have q1:A * y=B * x:=by
   have:(A * y) * z=(B * x) * z:=by omega
   exact Int.eq_of_mul_eq_mul_right oM this
  have q2:B * z=C * y:=by
   have:(B * z) * x=(C * y) * x:=by omega
   exact Int.eq_of_mul_eq_mul_right oM this
  rcases h1 with h1 | h1
  ·omega
  ·rcases h2 with h2 | h2
   ·omega
   ·omega
 ·left;omega
section
variable {S:Sh}{w q k r:Nat}{o:Option Nat}
theorem tt_zero:ME S w q 0 none:=⟨fun _ i h=>by omega,fun r h=>nomatch h⟩
theorem tt_skip (h:¬ (S.t k q < 0/\S.s k ∈ S.gd)) (T:ME S w q k o):ME S w q (k + 1) o:=by
 refine ⟨fun e i hi hg ht=>?_,fun r e=>?_⟩
 ·by_cases z:i=k
  ·subst z;exact h ⟨ht,hg⟩
  ·exact T.1 e i oM hg ht
 ·obtain ⟨a,b,c,d⟩:=T.2 r e
  refine ⟨by omega,b,c,fun i hi hg ht=>?_⟩;by_cases z:i=k
  ·subst z;exact absurd ⟨ht,hg⟩ h
  ·exact d i oM hg ht
theorem tt_first (h:S.t k q < 0) (hg:S.s k ∈ S.gd) (T:ME S w q k none):ME S w q (k + 1) (some k):=by
 refine ⟨(fun e=>nomatch e),fun r e=>?_⟩;cases e;refine ⟨by omega,hg,h,fun i hi hg ht=>?_⟩;by_cases z:i=k
 ·subst z;exact .inr ⟨rfl,zP _⟩
 ·exact absurd ht (T.1 rfl i oM hg)
theorem tt_new (h:S.t k q < 0) (hg:S.s k ∈ S.gd) (ht:S.t k w * - S.t r q < S.t r w * - S.t k q\/(S.t k w * - S.t r q=S.t r w * - S.t k q/\S.s k < S.s r)) (T:ME S w q k (some r)):ME S w q (k + 1) (some k):=by
 refine ⟨(fun e=>nomatch e),fun r' e=>?_⟩;cases e;obtain ⟨a,b,c,d⟩:=T.2 r rfl;refine ⟨by omega,hg,h,fun i hi hg' ht'=>?_⟩;by_cases z:i=k
 ·subst z;exact .inr ⟨rfl,zP _⟩
 ·exact Ku (x:=- S.t k q) (y:=- S.t r q) (z:=- S.t i q) oM oM oM (ht.imp id fun x=>⟨x.1,by omega⟩) (d i oM hg' ht')
theorem tt_old (h:S.t k q < 0) (ht:¬ (S.t k w * - S.t r q < S.t r w * - S.t k q\/(S.t k w * - S.t r q=S.t r w * - S.t k q/\S.s k < S.s r))) (T:ME S w q k (some r)):ME S w q (k + 1) (some r):=by
 refine ⟨(fun e=>nomatch e),fun r' e=>?_⟩;cases e;obtain ⟨a,b,c,d⟩:=T.2 r rfl;refine ⟨by omega,b,c,fun i hi hg' ht'=>?_⟩;by_cases z:i=k
 ·subst z
  unfold IV;have h1:¬ (S.t i w * - S.t r q < S.t r w * - S.t i q):=fun x=>ht (.inl x)
  by_cases e:S.t i w * - S.t r q=S.t r w * - S.t i q
  ·exact .inr ⟨e.symm,Nat.le_of_not_lt fun x=>ht (.inr ⟨e,x⟩)⟩
  ·left;omega
 ·exact d i oM hg' ht'
end
noncomputable def openS (w:Nat) (L:List (List Int)) (k:Nat):Sh:=⟨1,L,List.range w,(List.range L.length).map (w + ·),List.range k,[],[]⟩
end SX
namespace R
open PySem PySem.Spec L2
open DD (pyOk)
section
variable {ks:List Fn}{sl:Sl}{st:aa}
@[simp] theorem Mq:ev ks .n sl st=some (.non,st):=rfl
@[simp] theorem Ms {x:Bool}:ev ks (.b x) sl st=some (.bl x,st):=rfl
@[simp] theorem uM {x:Int}:ev ks (.i x) sl st=some (.int x,st):=rfl
@[simp] theorem HS {x:Str}:ev ks (.s x) sl st=some (.str x,st):=rfl
@[simp] theorem Mr {x:Str}{c:AV}:ev ks (.g x c) sl st=some (c,st):=rfl
@[simp] theorem pj {k:Nat}:ev ks (.v k) sl st=aV k sl st:=rfl
@[simp] theorem md {v:AV}:aV 0 (some v::sl) st=some (v,st):=rfl
@[simp] theorem ma {k:Nat}{x:Option AV}:aV (k + 1) (x::sl) st=aV k sl st:=rfl
@[simp] theorem yY {o:Operator}{a b:Ex}:ev ks (.bin o a b) sl st=(ev ks a sl st).bind fun p=>(ev ks b sl p.2).bind fun q=>(ci o q.2 p.1 q.1).map fun z=>(z,q.2):=rfl
@[simp] theorem FN {o:CmpOp}{a b:Ex}:ev ks (.cmp o a b) sl st=(ev ks a sl st).bind fun p=>(ev ks b sl p.2).bind fun q=>(lZ o q.2 p.1 q.1).map fun z=>(z,q.2):=rfl
@[simp] theorem LI {o:UnaryOp}{a:Ex}:ev ks (.un o a) sl st=(ev ks a sl st).bind fun p=>(pv o p.2 p.1).map fun z=>(z,p.2):=rfl
def KH (x:AV) (st:aa):Option (AV × aa):=match x with
 | .bl b=>some (.bl !b,st)
 | _=>none
def Fw (x:AV) (st:aa) (r:Option (AV × aa)):Option (AV × aa):=match x with
 | .bl b=>if b=true then r else some (.bl false,st)
 | _=>none
def DH (x:AV) (st:aa) (r:Option (AV × aa)):Option (AV × aa):=match x with
 | .bl b=>if b=true then some (.bl true,st) else r
 | _=>none
@[simp] theorem Ly {b:Bool}:KH (.bl b) st=some (.bl !b,st):=rfl
@[simp] theorem LH {b:Bool}{r:Option (AV × aa)}:Fw (.bl b) st r=if b=true then r else some (.bl false,st):=rfl
@[simp] theorem Lx {b:Bool}{r:Option (AV × aa)}:DH (.bl b) st r=if b=true then some (.bl true,st) else r:=rfl
@[simp] theorem LS {a b:Ex}:ev ks (.an a b) sl st=(ev ks a sl st).bind fun p=>Fw p.1 p.2 (ev ks b sl p.2):=by
 show Av (ev ks a) (ev ks b) sl st=_;unfold Av Fw;congr 1;funext p;cases p.1 <;> first | rfl | skip
 rename_i x;cases x <;> rfl
@[simp] theorem LK {a b:Ex}:ev ks (.or a b) sl st=(ev ks a sl st).bind fun p=>DH p.1 p.2 (ev ks b sl p.2):=by
 show At (ev ks a) (ev ks b) sl st=_;unfold At DH;congr 1;funext p;cases p.1 <;> first | rfl | skip
 rename_i x;cases x <;> rfl
@[simp] theorem yX {t:Tx}{a b:Ex}:ev ks (.ife t a b) sl st=(tv ks t sl st).bind fun p=>if p.1=true then ev ks a sl p.2 else ev ks b sl p.2:=rfl
@[simp] theorem wB {a b:Ex}:ev ks (.ix a b) sl st=(ev ks a sl st).bind fun p=>(ev ks b sl p.2).bind fun q=>(b9 q.2 p.1 q.1).map fun z=>(z,q.2):=rfl
@[simp] theorem pq {p:Bool}{j:Nat}{es:Exs}:ev ks (.ca p j es) sl st=(a0 ks es sl st).bind fun q=>f9 p (kf ks j) q.1 q.2:=rfl
@[simp] theorem zp {f:Fn}:f9 true f=pm f:=rfl
@[simp] theorem tL {f:Fn}:f9 false f=f:=rfl
@[simp] theorem qf {f:Fn}:kf (f::ks) 0=f:=rfl
@[simp] theorem qe {f:Fn}{j:Nat}:kf (f::ks) (j + 1)=kf ks j:=rfl
@[simp] theorem jS:a0 ks .nil sl st=some ([],st):=rfl
@[simp] theorem iU {e:Ex}{es:Exs}:a0 ks (.cons e es) sl st=(ev ks e sl st).bind fun p=>(a0 ks es sl p.2).bind fun q=>some (p.1::q.1,q.2):=rfl
@[simp] theorem LJ {es:Exs}:ev ks (.tu es) sl st=(a0 ks es sl st).bind fun p=>if Nat.ble p.1.length 1000=true then some (.tup p.1,p.2) else none:=rfl
@[simp] theorem jT {x:Nx}:ev ks (.nw false x) sl st=(gh ks x sl st).bind fun p=>if rfs p.1=true then some (.fz p.1,p.2) else none:=rfl
@[simp] theorem Cn {x:Nx}:ev ks (.nw true x) sl st=(gh ks x sl st).bind fun p=>some (.ref p.2.length,p.2++[.lst p.1]):=rfl
@[simp] theorem LO {c m:Str}{j:Nat}{o:Ex}{es:Exs}:ev ks (.me c m j o es) sl st=(ev ks o sl st).bind fun p=>(iJ p.2 c p.1).bind fun fs=>if (fs.lookup m).isNone=true then (a0 ks es sl p.2).bind fun q=>kf ks j (p.1::q.1) q.2 else none:=rfl
@[simp] theorem LM {c:Str}{j:Nat}{es:Exs}:ev ks (.ne c j es) sl st=wj c (kf ks j) (a0 ks es) sl st:=rfl
@[simp] theorem LP {c f:Str}{o:Ex}:ev ks (.fd c f o) sl st=(ev ks o sl st).bind fun p=>(iJ p.2 c p.1).bind fun fs=>(fs.lookup f).map fun v=>(v,p.2):=rfl
@[simp] theorem LR {b:Bi}{es:Exs}:ev ks (.bi b es) sl st=(a0 ks es sl st).bind fun p=>ku b p.1 p.2:=rfl
@[simp] theorem K6:ku .len=bw dL:=rfl
@[simp] theorem K2:ku .sum=bw pB:=rfl
@[simp] theorem K9:ku .abs=bw qS:=rfl
@[simp] theorem K4:ku .min=bw nT:=rfl
@[simp] theorem K5:ku .max=bw tW:=rfl
@[simp] theorem K7:ku .int=bw lW:=rfl
@[simp] theorem K3:ku .str=bw pC:=rfl
@[simp] theorem K8:ku .any=bw qR:=rfl
@[simp] theorem LN {m:Mi}{o:Ex}{es:Exs}:ev ks (.mt m o es) sl st=ji (k9 m) (k8 m) (ev ks o) (a0 ks es) sl st:=rfl
@[simp] theorem LQ:ev ks .dn sl st=some (.ref st.length,st++[.dK []]):=rfl
@[simp] theorem Lr {a:Ex}:ev ks (.mnd a) sl st=(ev ks a sl st).bind fun p=>bw mJ [p.1] p.2:=by
 show (db (ev ks a) dF sl st).bind _=_;unfold db dF;cases ev ks a sl st <;> rfl
@[simp] theorem Lq {a k:Ex}:ev ks (.mnk a k) sl st=pb (ev ks a) (ev ks k) sl st:=rfl
@[simp] theorem Md {a b c:Ex}:dg ks (.r3 a b c) sl st=EU (ev ks a) (ev ks b) (ev ks c) sl st:=rfl
@[simp] theorem Mb {es:Exs}:gh ks (.li es) sl st=(a0 ks es sl st).bind fun p=>if cE p.1.length=true then some p else none:=rfl
@[simp] theorem tP {a b:Ex}:gh ks (.cat a b) sl st=pY (ev ks a) (ev ks b) sl st:=rfl
@[simp] theorem GA {es:Exs}{b:Ex}:gh ks (.rep es b) sl st=tR (a0 ks es) (ev ks b) sl st:=rfl
@[simp] theorem Ma {a:Ex}{l h:Ox}:gh ks (.sl a l h) sl st=oy (ev ks a) (qz ks l) (qz ks h) sl st:=rfl
@[simp] theorem LC {a:Ex}:gh ks (.lof a) sl st=jp (ev ks a) sl st:=rfl
@[simp] theorem LB {a:Ex}:gh ks (.lr1 a) sl st=tT (ev ks a) sl st:=rfl
@[simp] theorem Lz {a b c:Ex}:gh ks (.lr3 a b c) sl st=xB (ev ks a) (ev ks b) (ev ks c) sl st:=rfl
@[simp] theorem LA {a b:Ex}:gh ks (.lr2 a b) sl st=tS (ev ks a) (ev ks b) sl st:=rfl
@[simp] theorem Ec {k:Nat}{it:Ix}{t:Tg}{c:Cx'}{e:Ex}:gh ks (.lc k it t c e) sl st=(dg ks it sl st).bind fun p=>if cE p.1.Mz.length=true then gC p.1.gd (bW ks t) (jI ks c) (ev ks e) (sl++List.replicate k none) p.1.Mz p.2 else none:=rfl
@[simp] theorem L9:qz ks .no sl st=some (none,st):=rfl
@[simp] theorem L8 {e:Ex}:qz ks (.so e) sl st=ox (ev ks e) sl st:=rfl
@[simp] theorem Ml:jI ks .no sl st=some (true,st):=rfl
@[simp] theorem J6 {t:Tx}:jI ks (.so t) sl st=tv ks t sl st:=rfl
@[simp] theorem Mt {a:Ex}:dg ks (.e a) sl st=(ev ks a sl st).bind fun p=>(mP p.2 p.1).map fun iv=>(iv,p.2):=rfl
@[simp] theorem Mf {a:Ex}:dg ks (.r1 a) sl st=vT (ev ks a) sl st:=rfl
@[simp] theorem Me {a b:Ex}:dg ks (.r2 a b) sl st=Af (ev ks a) (ev ks b) sl st:=rfl
@[simp] theorem Mc {a b:Ex}:dg ks (.zi a b) sl st=iZ (ev ks a) (ev ks b) sl st:=rfl
@[simp] theorem JT {a:Ex}:dg ks (.en a) sl st=(ev ks a sl st).bind fun p=>(g7 p.2 p.1).map fun iv=>(⟨d4 0 iv.Mz,iv.gd⟩,p.2):=rfl
@[simp] theorem Mg {a b:Ex}:dg ks (.es a b) sl st=uk (ev ks a) (ev ks b) sl st:=rfl
@[simp] theorem ye {k:Nat}{x:AV}:bW ks (.nm k) x sl st=some (sl.set k (some x),st):=rfl
@[simp] theorem Mh {n:Nat}{ts:Tgs}{x:AV}:bW ks (.tu n ts) x sl st=vX n (iM ks ts) x sl st:=rfl
@[simp] theorem Mj {a b:Ex}{x:AV}:bW ks (.su a b) x sl st=(ev ks a sl st).bind fun p=>(ev ks b sl p.2).bind fun q=>(jm q.2 p.1 q.1 x).map fun st'=>(sl,st'):=rfl
@[simp] theorem KN {xs:List AV}:iM ks .nil xs sl st=EY xs sl st:=rfl
@[simp] theorem Ks {t:Tg}{ts:Tgs}{xs:List AV}:iM ks (.cons t ts) xs sl st=E1 (bW ks t) (iM ks ts) xs sl st:=rfl
@[simp] theorem LU {e:Ex}:tv ks (.va e) sl st=(ev ks e sl st).bind fun p=>(d7 p.2 p.1).map fun b=>(b,p.2):=rfl
@[simp] theorem oY {o:CmpOp}{a b:Ex}:tv ks (.cmp o a b) sl st=(ev ks a sl st).bind fun p=>(ev ks b sl p.2).bind fun q=>(cA o q.2 p.1 q.1).map fun b=>(b,q.2):=rfl
@[simp] theorem LX {t:Tx}:tv ks (.no t) sl st=(tv ks t sl st).bind fun p=>some (!p.1,p.2):=rfl
@[simp] theorem LY {t u:Tx}:tv ks (.an t u) sl st=(tv ks t sl st).bind fun p=>if p.1=true then tv ks u sl p.2 else some (false,p.2):=rfl
@[simp] theorem LV {t u:Tx}:tv ks (.or t u) sl st=(tv ks t sl st).bind fun p=>if p.1=true then some (true,p.2) else tv ks u sl p.2:=rfl
@[simp] theorem Lp:ak ks .nil sl st=some (.nx sl st):=rfl
def vD (o:Out) (k:Sl->aa->Option Out):Option Out:=match o with
 | .nx sl st=>k sl st
 | o=>some o
@[simp] theorem vC {k:Sl->aa->Option Out}:vD (.nx sl st) k=k sl st:=rfl
@[simp] theorem DY {v:AV}{k:Sl->aa->Option Out}:vD (.rt v st) k=some (.rt v st):=rfl
@[simp] theorem KF {k:Sl->aa->Option Out}:vD (.bk sl st) k=some (.bk sl st):=rfl
@[simp] theorem KD {k:Sl->aa->Option Out}:vD (.ct sl st) k=some (.ct sl st):=rfl
@[simp] theorem ph {s:Sx}{ss:MC}:ak ks (.cons s ss) sl st=(cR ks s sl st).bind fun o=>vD o (ak ks ss):=by
 show (cR ks s sl st).bind _=(cR ks s sl st).bind _;congr 1
@[simp] theorem wM {e:Ex}:cR ks (.ex e) sl st=(ev ks e sl st).bind fun p=>some (.nx sl p.2):=rfl
@[simp] theorem iH {e:Ex}{t:Tg}:cR ks (.as e t) sl st=(ev ks e sl st).bind fun p=>(bW ks t p.1 sl p.2).bind fun q=>some (.nx q.1 q.2):=rfl
@[simp] theorem F1 {o:Operator}{a b e:Ex}:cR ks (.aus o a b e) sl st=tE o (ev ks a) (ev ks b) (ev ks e) sl st:=rfl
@[simp] theorem L0 {c f:Str}{o e:Ex}:cR ks (.fl c f o e) sl st=u0 c f (ev ks o) (ev ks e) sl st:=rfl
@[simp] theorem Js {e:Ex}:cR ks (.rt e) sl st=(ev ks e sl st).bind fun p=>some (.rt p.1 p.2):=rfl
@[simp] theorem tB {t:Tx}{a b:MC}:cR ks (.iff t a b) sl st=(tv ks t sl st).bind fun p=>if p.1=true then ak ks a sl p.2 else ak ks b sl p.2:=rfl
@[simp] theorem nK {it:Ix}{t:Tg}{b:MC}:cR ks (.fo it t b) sl st=(dg ks it sl st).bind fun p=>cZ p.1.gd (bW ks t) (ak ks b) p.1.Mz sl p.2:=rfl
@[simp] theorem Lu {a:Ex}{t:Tg}{b:MC}:cR ks (.fd a t b) sl st=tD (ev ks a) (bW ks t) (ak ks b) sl st:=rfl
@[simp] theorem LZ {t:Tx}{b:MC}:cR ks (.wh t b) sl st=pF (tv ks t) (ak ks b) sl st:=rfl
@[simp] theorem Kz:cR ks .dead sl st=none:=rfl
def aF (o:Out):Option (AV × aa):=match o with
 | .rt v st=>some (v,st)
 | .nx _ st=>some (.non,st)
 | _=>none
@[simp] theorem KQ {v:AV}:aF (.rt v st)=some (v,st):=rfl
@[simp] theorem KR:aF (.nx sl st)=some (.non,st):=rfl
theorem aG {n:Nat}{b:MC}{args:List AV}:R.run n (ak ks b) args st=(ak ks b (args.map some++List.replicate (n - args.length) none) st).bind aF:=by
 unfold R.run;congr 1
end
@[simp] theorem Lv:rfs []=true:=rfl
@[simp] theorem Lw {x:AV}{xs:List AV}:rfs (x::xs)=(rf x && rfs xs):=by simp only [rfs]
@[simp] theorem L5 {i:Int}:rf (.int i)=true:=rfl
@[simp] theorem L7 {i:Bool}:rf (.bl i)=true:=rfl
@[simp] theorem L3 {i:Str}:rf (.str i)=true:=rfl
@[simp] theorem L4:rf .non=true:=rfl
@[simp] theorem L6 {xs:List AV}:rf (.fz xs)=true:=rfl
@[simp] theorem L1 {xs:List AV}:rf (.tup xs)=rfs xs:=by simp only [rf]
section
variable {st:aa}{a b:Int}
theorem Al:ir st (.int a) (.int b)=some (decide (a=b)):=by
 show (if pyOk (.int a) (.int b)=true then some (PyData.eqv (.int a) (.int b)) else none)=_;rw [yH (by simp [pyOk,PyData.canLay0,PyData.depth])];congr 1
@[simp] theorem J8:cA .Eq st (.int a) (.int b)=some (decide (a=b)):=Al
@[simp] theorem J7:cA .NotEq st (.int a) (.int b)=some (!decide (a=b)):=by show ((ir st (.int a) (.int b)).map fun x=>!x)=_;rw [Al];rfl
@[simp] theorem Mm:cA .Lt st (.int a) (.int b)=some (decide (a < b)):=rfl
@[simp] theorem Mn:cA .LtE st (.int a) (.int b)=some (decide (a <= b)):=rfl
@[simp] theorem Mo:cA .Gt st (.int a) (.int b)=some (decide (b < a)):=rfl
@[simp] theorem Mp:cA .GtE st (.int a) (.int b)=some (decide (b <= a)):=rfl
@[simp] theorem Mu {o:CmpOp}{x y:AV}:lZ o st x y=(cA o st x y).map .bl:=rfl
@[simp] theorem LD:cA .Is st .non .non=some true:=rfl
@[simp] theorem LF:cA .Is st (.int a) .non=some false:=rfl
@[simp] theorem KZ:cA .IsNot st .non .non=some false:=rfl
@[simp] theorem K0:cA .IsNot st (.int a) .non=some true:=rfl
@[simp] theorem LG:ci .Add st (.int a) (.int b)=some (.int (a + b)):=rfl
@[simp] theorem HD:ci .Sub st (.int a) (.int b)=some (.int (a - b)):=rfl
theorem bO (h:cK a b=true):ci .Mult st (.int a) (.int b)=some (.int (a * b)):=by
 show (if cK a b=true then _ else _:Option Int).map _=_;rw [yH h];rfl
theorem jz (h:eP b=true):ci .FloorDiv st (.int a) (.int b)=some (.int (sH a b)):=by
 show (if eP b=true then _ else _:Option Int).map _=_;rw [yH h];rfl
theorem dX (h:b ≠ 0):ci .Mod st (.int a) (.int b)=some (.int (lq a b)):=by
 show (if b=0 then _ else _:Option Int).map _=_;rw [yG h];rfl
@[simp] theorem Ls:pv .USub st (.int a)=some (.int (-a)):=rfl
theorem eC {x y:Int} (h1:x.natAbs < 2 ^ 9000) (h2:y.natAbs < 2 ^ 9000):cK x y=true:=by
 have lg:∀ z:Nat,z < 2 ^ 9000->Nat.ble z.log2 1000000=true:=fun z hz=>by
  by_cases h0:z=0
  ·subst h0;rfl
  ·exact yK (z0 (yV ((Nat.log2_lt h0).mpr hz)) oM)
 unfold cK;rw [lg _ h1,lg _ h2,Bool.and_true,Bool.or_true]
theorem v4 {y:Int} (h0:y ≠ 0) (h2:y.natAbs < 2 ^ 9000):eP y=true:=by
 unfold eP;have:Nat.ble y.natAbs.log2 8999=true:=yK (by have:=(Nat.log2_lt (n:=y.natAbs) oM).mpr h2;omega);rw [this];simp [h0]
end
end R
namespace R
open PySem PySem.Spec L2
open SX (Sh gI)
noncomputable def iL (l:List Int):List AV:=l.map .int
noncomputable def nL (l:List Nat):List AV:=l.map fun q=>.int ((q:Nat):Int)
def kL (l:List Nat):List (aW × AV):=l.map fun q=>(.inl ((q:Nat):Int),.bl true)
def cG (d:Int) (a b c g n u:Nat):List (Str × AV):=[("below",.int d),("lines",.ref a),("heads",.ref b),("sides",.ref c),("guarded",.ref g),("nailed",.ref n),("turned",.ref u)]
section
variable {d:Int}{a b c g n u:Nat}
@[simp] theorem JM:(cG d a b c g n u).lookup ("below":Str)=some (AV.int d):=rfl
@[simp] theorem JK:(cG d a b c g n u).lookup ("lines":Str)=some (AV.ref a):=rfl
@[simp] theorem JL:(cG d a b c g n u).lookup ("heads":Str)=some (AV.ref b):=rfl
@[simp] theorem JJ:(cG d a b c g n u).lookup ("sides":Str)=some (AV.ref c):=rfl
@[simp] theorem GG:(cG d a b c g n u).lookup ("guarded":Str)=some (AV.ref g):=rfl
@[simp] theorem IB:(cG d a b c g n u).lookup ("nailed":Str)=some (AV.ref n):=rfl
@[simp] theorem IA:(cG d a b c g n u).lookup ("turned":Str)=some (AV.ref u):=rfl
@[simp] theorem xO:(cG d a b c g n u).lookup ("loose_columns":Str)=none:=rfl
@[simp] theorem wy:(cG d a b c g n u).lookup ("raising_column":Str)=none:=rfl
@[simp] theorem wx:(cG d a b c g n u).lookup ("tightest_place":Str)=none:=rfl
@[simp] theorem Ck:(cG d a b c g n u).lookup ("is_tighter":Str)=none:=rfl
@[simp] theorem BU:(cG d a b c g n u).lookup ("is_up_first":Str)=none:=rfl
@[simp] theorem FI:(cG d a b c g n u).lookup ("exchange":Str)=none:=rfl
@[simp] theorem Kr:(cG d a b c g n u).lookup ("lift":Str)=none:=rfl
@[simp] theorem FJ:(cG d a b c g n u).lookup ("drive_up":Str)=none:=rfl
@[simp] theorem xN:(cG d a b c g n u).lookup ("moving_column":Str)=none:=rfl
@[simp] theorem JI:(cG d a b c g n u).lookup ("guard":Str)=none:=rfl
@[simp] theorem Kq:(cG d a b c g n u).lookup ("nail":Str)=none:=rfl
@[simp] theorem EA:(cG d a b c g n u).lookup ("turn_line":Str)=none:=rfl
end
def RowR (st:aa) (x:AV) (l:List Int):Prop:=x=.fz (iL l)\/∃ r,x=.ref r/\(st[r]?=some (.lst (iL l))\/st[r]?=some (.al (.fz (iL l))))
structure Rep (st:aa) (k a b c g n u:Nat) (rows:List AV) (S:Sh):Prop where
 hk:st[k]?=some (.ins "Sheet" (cG S.d a b c g n u))
 ha:st[a]?=some (.lst rows)
 hb:st[b]?=some (.lst (nL S.hd))
 hc:st[c]?=some (.lst (nL S.sd))
 hg:st[g]?=some (.dK (kL S.gd))
 hn:st[n]?=some (.dK (kL S.nl))
 hu:st[u]?=some (.dK (kL S.tn))
 len:rows.length=S.ls.length
 row:∀ i x,rows[i]?=some x->RowR st x (SX.row S i)
 ab:a ≠ b
 ac:a ≠ c
 bc:b ≠ c
 gn:g ≠ n
 gu:g ≠ u
 nu:n ≠ u
 ra:∀ (i r:Nat),rows[i]?=some (.ref r)->r ≠ a/\r ≠ b/\r ≠ c
section
variable {st:aa}{x:AV}{xs:List AV}{l:List Int}{i:Int}
theorem RowR.ls (h:RowR st x l):bn st x=some (iL l):=by
 rcases h with rfl | ⟨r,rfl,h | h⟩
 ·rfl
 ·unfold bn dr;simp only [h]
 ·unfold bn dr;simp only [h]
theorem cb (h:bn st x=some xs):b9 st x (.int i)=fL xs i:=by
 have hd:lY st x (.int i)=none:=by
  unfold lY;have h1:iz st x=none:=by
   cases x <;> first | rfl | skip
   rename_i k;unfold bn dr at h;unfold iz;dsimp only at h ⊢;cases e:st[k]? with
   | none=>rfl
   | some c=>cases c <;> first | rfl | (rw [e] at h;simp only [e] at h;cases h)
  have h2:lB st x=none:=by
   cases x <;> first | rfl | skip
   rename_i k;unfold bn dr at h;unfold lB;dsimp only at h ⊢;cases e:st[k]? with
   | none=>rfl
   | some c=>cases c <;> first | rfl | (rw [e] at h;simp only [e] at h;cases h)
  rw [h1,h2]
 unfold b9;rw [hd];dsimp only;rw [h]
theorem bT {α:Type}{xs:List α}{j:Nat}:fL xs ((j:Nat):Int)=xs[j]?:=by
 unfold fL lm;rw [yH oM];by_cases h:j < xs.length
 ·rw [yH oM];simp
 ·rw [yG oM,List.getElem?_eq_none oM];rfl
theorem oe {α:Type}{xs:List α}{n:Nat} (h:xs.length=n + 1):fL xs (-1)=xs[n]?:=by
 unfold fL lm;rw [yG oM,yH oM,h,bind_some];congr 1;omega
theorem bH {j:Nat} (h:j < l.length):(iL l)[j]?=some (.int (gI l j)):=by
 unfold iL gI;simp [h,zD]
theorem fR {l:List Nat}{j:Nat} (h:j < l.length):(nL l)[j]?=some (.int ((l.getD j 0:Nat):Int)):=by
 unfold nL;simp [h,zD]
theorem bq {k:Nat} (h:st[k]?=some (.lst xs)):bn st (.ref k)=some xs:=by unfold bn dr;simp only [h]
theorem sA {g:Nat}{l:List Nat}{q:Nat} (h:st[g]?=some (.dK (kL l))):qp st (.int q) (.ref g)=some (decide (q ∈ l)):=by
 unfold qp lY iz;simp only [h,jt,map_some];congr 1;unfold lN kL;rw [Option.isSome_map,List.find?_map,Option.isSome_map,Bool.eq_iff_iff,List.isSome_find?,List.any_eq_true];simp [Int.ofNat_inj]
end
noncomputable def jW (rows:List AV) (i:Nat):AV:=rows.getD i .non
section
variable {st:aa}{k a b c g n u w m:Nat}{rows:List AV}{S:Sh}{i j:Nat}
theorem Rep.ins (R:Rep st k a b c g n u rows S):iJ st "Sheet" (.ref k)=some (cG S.d a b c g n u):=by
 unfold iJ;simp only [R.hk];rfl
theorem Rep.rx (R:Rep st k a b c g n u rows S) (P:SX.MD w m S) (hi:i < m):rows[i]?=some (jW rows i):=by
 have:i < rows.length:=by rw [R.len,P.ls];exact hi
 unfold jW;rw [zD,zF this];rfl
theorem Rep.line (R:Rep st k a b c g n u rows S) (P:SX.MD w m S) (hi:i < m):b9 st (.ref a) (.int (i:Int))=some (jW rows i):=by
 rw [cb (bq R.ha),bT];exact R.rx P hi
theorem Rep.rowl (R:Rep st k a b c g n u rows S) (P:SX.MD w m S) (hi:i < m):bn st (jW rows i)=some (iL (SX.row S i)):=(R.row i _ (R.rx P hi)).ls
theorem Rep.cell (R:Rep st k a b c g n u rows S) (P:SX.MD w m S) (hi:i < m) (hj:j < w + 1):b9 st (jW rows i) (.int (j:Int))=some (.int (S.t i j)):=by
 rw [cb (R.rowl P hi),bT,bH (by rw [P.rl hi];exact hj)];rfl
theorem Rep.last (R:Rep st k a b c g n u rows S) (P:SX.MD w m S) (hi:i < m):b9 st (jW rows i) (.int (-1))=some (.int (S.t i w)):=by
 rw [cb (R.rowl P hi),oe (n:=w) (by unfold iL;rw [zH];exact P.rl hi),bH (by rw [P.rl hi];omega)];rfl
theorem Rep.side (R:Rep st k a b c g n u rows S) (P:SX.MD w m S) (hi:i < m):b9 st (.ref c) (.int (i:Int))=some (.int (S.s i:Int)):=by
 rw [cb (bq R.hc),bT,fR (by rw [P.sd];exact hi)];rfl
theorem Rep.head (R:Rep st k a b c g n u rows S) (P:SX.MD w m S) (hj:j < w):b9 st (.ref b) (.int (j:Int))=some (.int (S.h j:Int)):=by
 rw [cb (bq R.hb),bT,fR (by rw [P.hd];exact hj)];rfl
theorem Rep.ing (R:Rep st k a b c g n u rows S) {q:Nat}:cA .In st (.int q) (.ref g)=some (decide (q ∈ S.gd)):=sA R.hg
theorem Rep.nin (R:Rep st k a b c g n u rows S) {q:Nat}:cA .NotIn st (.int q) (.ref n)=some (!decide (q ∈ S.nl)):=by show (qp st _ _).map _=_;rw [sA R.hn];rfl
end
theorem fb {α:Type}{em:α->AV}{B:α->Bool}{F:α->AV} (hg:bQ gd st=true):∀ {xs:List α},(∀ x ∈ xs,∃ sl1,g (em x) sl st=some (sl1,st)/\t sl1 st=some (B x,st)/\(B x=true->f sl1 st=some (F x,st)))->gC gd g t f sl (xs.map em) st=some ((xs.filter B).map F,st)
 | [],_=>by show (if bQ gd st=true then _ else _)=_;rw [yH hg];rfl
 | x::xs,h=>by
  obtain ⟨sl1,h1,h2,h3⟩:=h x z6;have ih:=fb hg (xs:=xs) fun y hy=>h y (zQ _ hy)
  show (if bQ gd st=true then (g (em x) sl st).bind _ else none)=_;rw [yH hg,h1,bind_some];dsimp only;rw [h2,bind_some];cases hB:B x with
  | true=>rw [yH rfl];dsimp only;rw [h3 hB,bind_some];dsimp only;rw [ih,List.filter_cons,hB];rfl
  | false=>rw [yG (by simp)];dsimp only;rw [ih,List.filter_cons,hB];rfl
theorem gV:∀ {xs:List AV},(∀ x ∈ xs,rf x=true)->rfs xs=true
 | [],_=>rfl
 | x::xs,h=>by simp only [rfs,zC];exact ⟨h x z6,gV fun y hy=>h y (zQ _ hy)⟩
theorem wP:rfs (iL l)=true:=gV fun x hx=>by obtain ⟨i,_,rfl⟩:=yC.mp hx;rfl
theorem jn:rfs (nL l)=true:=gV fun x hx=>by obtain ⟨i,_,rfl⟩:=yC.mp hx;rfl
mutual
theorem wf:∀ (x:AV),cB x x=true
 | .non=>rfl
 | .bl _=>by simp [cB]
 | .int _=>by simp [cB]
 | .str _=>by simp [cB]
 | .ref _=>by simp [cB]
 | .tup a=>by simp only [cB];exact iC a
 | .fz a=>by simp only [cB];exact iC a
theorem iC:∀ (xs:List AV),fD xs xs=true
 | []=>rfl
 | x::xs=>by simp only [fD,wf x,iC xs,Bool.and_self]
end
theorem fc {k:Nat} (h:st[k]?=some (.lst xs)):bQ [(k,.lst xs)] st=true:=by
 simp only [bQ,h,uB,iC,Bool.and_self]
theorem Hf:d4 0 (nL l)=l.zipIdx.map fun z=>.tup [.int ((z.2:Nat):Int),.int ((z.1:Nat):Int)]:=by
 unfold d4 nL;rw [List.zipIdx_map,List.map_map];rfl
@[simp] theorem Kv:ik st (.tup xs)=some xs:=rfl
@[simp] theorem KK:mP st (.fz xs)=some ⟨xs,[]⟩:=rfl
@[simp] theorem EN:g7 st (.fz xs)=some ⟨xs,[]⟩:=rfl
@[simp] theorem eI:bn st (.fz xs)=some xs:=rfl
theorem i5 {k:Nat} (h:st[k]?=some (.lst xs)):g7 st (.ref k)=some ⟨xs,[(k,.lst xs)]⟩:=by
 unfold g7 dr;simp only [h]
theorem kP {k:Nat} (h:st[k]?=some (.lst xs)):mP st (.ref k)=some ⟨xs,[(k,.lst xs)]⟩:=by
 have:ik st (.ref k)=none:=by unfold ik dr;simp only [h]
 unfold mP;dsimp only;rw [this];exact i5 h
@[simp] theorem dI:bQ [] st=true:=rfl
theorem sy:jv (nL l)=some (l.map fun q=>((q:Nat):Int)):=by
 unfold jv nL;exact cX (f:=fun x=>match x with | .int i=>some i | _=>none) (i:=fun q:Nat=>AV.int q) (g:=fun q=>((q:Nat):Int)) (fun _=>rfl) l
noncomputable def oN:Option Nat->AV
 | none=>.non
 | some c=>.int (c:Int)
noncomputable def bK (S:Sh):List Nat:=(S.hd.zipIdx.filter fun z=>!decide (z.1 ∈ S.nl)).map (·.2)
theorem gf {w m:Nat} (P:SX.MD w m S) {j:Nat}:j ∈ bK S ↔ j < w/\S.h j ∉ S.nl:=by
 unfold bK;simp only [yC,List.mem_filter,Prod.exists];constructor
 ·rintro ⟨q,i,⟨h1,h2⟩,rfl⟩
  have h3:=List.mem_zipIdx' h1;have hi:i < S.hd.length:=h3.1;refine ⟨by rw [<- P.hd];exact hi,?_⟩;have:S.h i=q:=by
   show S.hd.getD i 0=q;rw [zD,zF hi,h3.2];rfl
  rw [this];simpa using h2
 ·rintro ⟨h1,h2⟩
  have hi:j < S.hd.length:=by rw [P.hd];exact h1
  refine ⟨S.h j,j,⟨?_,by simpa using h2⟩,rfl⟩;have e:S.h j=S.hd[j]:=by
   show S.hd.getD j 0=_;rw [zD,zF hi];rfl
  rw [e,List.mem_zipIdx_iff_getElem?];exact zF hi
theorem bt {n:Nat} (h:n <= 1000):cE n=true:=yK oM
theorem Et {l:List Nat}{key:EF}{sl:Sl}{st:aa}{f:Nat->Nat} (h:∀ q ∈ l,key (sl++[some (.int ((q:Nat):Int))]) st=some (.int ((f q:Nat):Int),st)):aO (vM key sl st) (l.map fun q=>((q:Nat):Int))=some (l.map fun q=>((f q:Nat):Int)):=by
 induction l with
 | nil=>rfl
 | cons x l ih =>
  have h1:vM key sl st (x:Int)=some ((f x:Nat):Int):=by unfold vM;rw [h x z6]
  simp only [zO,aO,h1,ih fun q hq=>h q (zQ _ hq),bind_some,map_some]
def fk (gd:Gd) (g:GF) (s:SF) (xs:List AV):Out->Option Out
 | .nx sl st=>cZ gd g s xs sl st
 | .ct sl st=>cZ gd g s xs sl st
 | .bk sl st=>some (.nx sl st)
 | .rt v st=>some (.rt v st)
theorem v1 (hg:bQ gd st=true) (h1:g x sl st=some p) (h2:s p.1 p.2=some o):cZ gd g s (x::xs) sl st=fk gd g s xs o:=by
 show (if bQ gd st=true then (g x sl st).bind _ else none)=_;rw [yH hg,h1,bind_some,h2,bind_some];cases o <;> rfl
theorem nX {gd:Gd}{g:GF}{s:SF}{I:Nat->Sl->aa->Prop}{Post:AV->aa->Prop}{xs:List AV} (hg:∀ i sl st,i <= xs.length->I i sl st->bQ gd st=true)
  (h:∀ i x sl st,xs[i]?=some x->I i sl st->∃ p o,g x sl st=some p/\s p.1 p.2=some o/\((∃ sl2 st2,o=.nx sl2 st2/\I (i + 1) sl2 st2)\/∃ v st2,o=.rt v st2/\Post v st2)) :
  ∀ {sl:Sl}{st:aa},I 0 sl st->(∃ sl' st',cZ gd g s xs sl st=some (.nx sl' st')/\I xs.length sl' st')\/∃ v st',cZ gd g s xs sl st=some (.rt v st')/\Post v st':=by
 have go:∀ (r:Nat) (j:Nat) {sl:Sl}{st:aa},j + r=xs.length->I j sl st->(∃ sl' st',cZ gd g s (xs.drop j) sl st=some (.nx sl' st')/\I xs.length sl' st')\/∃ v st',cZ gd g s (xs.drop j) sl st=some (.rt v st')/\Post v st':=fun r=>by
  induction r with
  | zero =>
   intro j sl st hj hI;left;rw [List.drop_of_length_le oM];refine ⟨sl,st,?_,by rw [show xs.length=j by omega];exact hI⟩;show (if bQ gd st=true then _ else _)=_;rw [yH (hg j sl st oM hI)]
  | succ r ih =>
   intro j sl st hj hI;have hl:j < xs.length:=by omega
   obtain ⟨p,o,h1,h2,h3⟩:=h j xs[j] sl st (zF hl) hI;rw [List.drop_eq_getElem_cons hl];have e:=v1 (xs:=xs.drop (j + 1)) (hg j sl st oM hI) h1 h2;rw [e];rcases h3 with ⟨sl2,st2,rfl,h3⟩ | ⟨v,st2,rfl,h3⟩
   ·exact ih (j + 1) oM h3
   ·exact .inr ⟨v,st2,rfl,h3⟩
 intro sl st h0
 have:=go xs.length 0 oM h0
 rw [List.drop_zero] at this;exact this
theorem dW {gd:Gd}{g:GF}{s:SF}{I:Nat->Sl->aa->Prop}{xs:List AV} (hg:∀ i sl st,i <= xs.length->I i sl st->bQ gd st=true)
  (h:∀ i x sl st,xs[i]?=some x->I i sl st->∃ p sl2 st2,g x sl st=some p/\s p.1 p.2=some (.nx sl2 st2)/\I (i + 1) sl2 st2) {sl:Sl}{st:aa} (h0:I 0 sl st):∃ sl' st',cZ gd g s xs sl st=some (.nx sl' st')/\I xs.length sl' st':=by
 rcases nX (Post:=fun _ _=>False) hg (fun i x sl st hx hI=>by
  obtain ⟨p,sl2,st2,a,b,c⟩:=h i x sl st hx hI;exact ⟨p,_,a,b,.inl ⟨sl2,st2,rfl,c⟩⟩) h0 with h | ⟨_,_,_,h⟩
 ·exact h
 ·exact h.elim
theorem mY {i:Nat} (h:(d4 0 xs)[i]?=some y):∃ x,xs[i]?=some x/\y=.tup [.int ((i:Nat):Int),x]:=by
 unfold d4 at h;rw [zR] at h;obtain ⟨z,h1,rfl⟩:=zE.mp h;rw [List.getElem?_zipIdx] at h1;obtain ⟨x,h2,rfl⟩:=zE.mp h1;exact ⟨x,h2,by simp⟩
theorem kT:(d4 0 xs).length=xs.length:=by unfold d4;simp
section
variable {st:aa}{k a b c g n u w m:Nat}{rows:List AV}{S:Sh}{i j q:Nat}{x:AV}{l:List Int}{e e':Mw}
theorem ar (h:q ≠ j):(st.set q e')[j]?=st[j]?:=by rw [yT];simp [h]
theorem fA (h:st[q]?=some e):(st.set q e')[q]?=some e':=by
 rw [yT];simp [(zB.mp h).1]
theorem ga (h:st[j]?=some e):(st++ys)[j]?=some e:=by
 rw [zN (zB.mp h).1];exact h
theorem gl:(st++[e])[st.length]?=some e:=by simp
theorem bo (h1:st[i]?=some e) (h2:st[j]?=some e') (h:e ≠ e'):i ≠ j:=fun z=>h (by rw [z,h2] at h1;injection h1 with h1;exact h1.symm)
theorem RowR.set (h:RowR st x l) (hq:∀ r,x=.ref r->q ≠ r):RowR (st.set q e') x l:=by
 rcases h with h | ⟨r,h1,h2⟩
 ·exact .inl h
 ·exact .inr ⟨r,h1,by rw [ar (hq r h1)];exact h2⟩
theorem RowR.app (h:RowR st x l):RowR (st++ys) x l:=by
 rcases h with h | ⟨r,h1,h2 | h2⟩
 ·exact .inl h
 ·exact .inr ⟨r,h1,.inl (ga h2)⟩
 ·exact .inr ⟨r,h1,.inr (ga h2)⟩
theorem Rep.app (R:Rep st k a b c g n u rows S):Rep (st++ys) k a b c g n u rows S :=
 ⟨ga R.hk,ga R.ha,ga R.hb,ga R.hc,ga R.hg,ga R.hn,ga R.hu,R.len,fun i x h=>(R.row i x h).app,R.ab,R.ac,R.bc,R.gn,R.gu,R.nu,R.ra⟩
theorem Rep.rowk (R:Rep st k a b c g n u rows S) {r:Nat} (h:rows[i]?=some (.ref r)):r ≠ k/\r ≠ g/\r ≠ n/\r ≠ u:=by
 have hr:=R.row i _ h;rcases hr with h | ⟨r',h1,h2⟩
 ·cases h
 ·cases h1
  rcases h2 with h2 | h2
  ·exact ⟨bo h2 R.hk (fun z=>nomatch z),bo h2 R.hg (fun z=>nomatch z),bo h2 R.hn (fun z=>nomatch z),bo h2 R.hu (fun z=>nomatch z)⟩
  ·exact ⟨bo h2 R.hk (fun z=>nomatch z),bo h2 R.hg (fun z=>nomatch z),bo h2 R.hn (fun z=>nomatch z),bo h2 R.hu (fun z=>nomatch z)⟩
theorem Rep.fields {a':Nat} (R:Rep st k a b c g n u rows S) (ha:st[a']?=some (.lst rows')) (hb:S'.hd=S.hd) (hc:S'.sd=S.sd) (hg:S'.gd=S.gd) (hn:S'.nl=S.nl) (hu:S'.tn=S.tn) (len:rows'.length=S'.ls.length)
  (row:∀ i x,rows'[i]?=some x->RowR st x (SX.row S' i)) (ab:a' ≠ b) (ac:a' ≠ c) (ra:∀ (i r:Nat),rows'[i]?=some (.ref r)->r ≠ a'/\r ≠ b/\r ≠ c):Rep (st.set k (.ins "Sheet" (cG S'.d a' b c g n u))) k a' b c g n u rows' S':=by
 have na:k ≠ a':=bo R.hk ha (fun z=>nomatch z);refine ⟨fA R.hk,by rw [ar na];exact ha,?_,?_,?_,?_,?_,len,fun i x h=>(row i x h).set fun r e=>?_,ab,ac,R.bc,R.gn,R.gu,R.nu,ra⟩
 ·rw [ar (bo R.hk R.hb (fun z=>nomatch z)),hb];exact R.hb
 ·rw [ar (bo R.hk R.hc (fun z=>nomatch z)),hc];exact R.hc
 ·rw [ar (bo R.hk R.hg (fun z=>nomatch z)),hg];exact R.hg
 ·rw [ar (bo R.hk R.hn (fun z=>nomatch z)),hn];exact R.hn
 ·rw [ar (bo R.hk R.hu (fun z=>nomatch z)),hu];exact R.hu
 ·subst e
  rcases row i _ h with z | ⟨r',h1,h2⟩
  ·cases z
  ·cases h1
   rcases h2 with h2 | h2
   ·exact bo R.hk h2 (fun z=>nomatch z)
   ·exact bo R.hk h2 (fun z=>nomatch z)
theorem Rep.heads (R:Rep st k a b c g n u rows S):Rep (st.set b (.lst (nL hd'))) k a b c g n u rows { S with hd:=hd' } :=
 ⟨by rw [ar (bo R.hb R.hk (fun z=>nomatch z))];exact R.hk,by rw [ar (Ne.symm R.ab)];exact R.ha,fA R.hb,by rw [ar R.bc];exact R.hc,by rw [ar (bo R.hb R.hg (fun z=>nomatch z))];exact R.hg,by rw [ar (bo R.hb R.hn (fun z=>nomatch z))];exact R.hn,
  by rw [ar (bo R.hb R.hu (fun z=>nomatch z))];exact R.hu,R.len,fun i x h=>(R.row i x h).set fun r e=>Ne.symm (R.ra i r (by rw [<- e];exact h)).2.1,R.ab,R.ac,R.bc,R.gn,R.gu,R.nu,R.ra⟩
theorem Rep.sides (R:Rep st k a b c g n u rows S):Rep (st.set c (.lst (nL sd'))) k a b c g n u rows { S with sd:=sd' } :=
 ⟨by rw [ar (bo R.hc R.hk (fun z=>nomatch z))];exact R.hk,by rw [ar (Ne.symm R.ac)];exact R.ha,by rw [ar (Ne.symm R.bc)];exact R.hb,fA R.hc,by rw [ar (bo R.hc R.hg (fun z=>nomatch z))];exact R.hg,by rw [ar (bo R.hc R.hn (fun z=>nomatch z))];exact R.hn,
  by rw [ar (bo R.hc R.hu (fun z=>nomatch z))];exact R.hu,R.len,fun i x h=>(R.row i x h).set fun r e=>Ne.symm (R.ra i r (by rw [<- e];exact h)).2.2,R.ab,R.ac,R.bc,R.gn,R.gu,R.nu,R.ra⟩
theorem Rep.guard (R:Rep st k a b c g n u rows S):Rep (st.set g (.dK (kL gd'))) k a b c g n u rows { S with gd:=gd' } :=
 ⟨by rw [ar (bo R.hg R.hk (fun z=>nomatch z))];exact R.hk,by rw [ar (bo R.hg R.ha (fun z=>nomatch z))];exact R.ha,by rw [ar (bo R.hg R.hb (fun z=>nomatch z))];exact R.hb,by rw [ar (bo R.hg R.hc (fun z=>nomatch z))];exact R.hc,fA R.hg,by rw [ar R.gn];exact R.hn,by rw [ar R.gu];exact R.hu,
  R.len,fun i x h=>(R.row i x h).set fun r e=>Ne.symm (R.rowk (i:=i) (by rw [<- e];exact h)).2.1,R.ab,R.ac,R.bc,R.gn,R.gu,R.nu,R.ra⟩
theorem Rep.nail (R:Rep st k a b c g n u rows S):Rep (st.set n (.dK (kL nl'))) k a b c g n u rows { S with nl:=nl' } :=
 ⟨by rw [ar (bo R.hn R.hk (fun z=>nomatch z))];exact R.hk,by rw [ar (bo R.hn R.ha (fun z=>nomatch z))];exact R.ha,by rw [ar (bo R.hn R.hb (fun z=>nomatch z))];exact R.hb,by rw [ar (bo R.hn R.hc (fun z=>nomatch z))];exact R.hc,by rw [ar (Ne.symm R.gn)];exact R.hg,fA R.hn,by rw [ar R.nu];exact R.hu,
  R.len,fun i x h=>(R.row i x h).set fun r e=>Ne.symm (R.rowk (i:=i) (by rw [<- e];exact h)).2.2.1,R.ab,R.ac,R.bc,R.gn,R.gu,R.nu,R.ra⟩
theorem Rep.turned (R:Rep st k a b c g n u rows S):Rep (st.set u (.dK (kL tn'))) k a b c g n u rows { S with tn:=tn' } :=
 ⟨by rw [ar (bo R.hu R.hk (fun z=>nomatch z))];exact R.hk,by rw [ar (bo R.hu R.ha (fun z=>nomatch z))];exact R.ha,by rw [ar (bo R.hu R.hb (fun z=>nomatch z))];exact R.hb,by rw [ar (bo R.hu R.hc (fun z=>nomatch z))];exact R.hc,by rw [ar (Ne.symm R.gu)];exact R.hg,by rw [ar (Ne.symm R.nu)];exact R.hn,fA R.hu,
  R.len,fun i x h=>(R.row i x h).set fun r e=>Ne.symm (R.rowk (i:=i) (by rw [<- e];exact h)).2.2.2,R.ab,R.ac,R.bc,R.gn,R.gu,R.nu,R.ra⟩
theorem rq {p i:Nat}:SX.row { S with ls:=S.ls.set p l } i=if i=p/\p < S.ls.length then l else SX.row S i:=by
 unfold SX.row;simp only [zD,yT];by_cases h:i=p
 ·subst h
  by_cases h2:i < S.ls.length
  ·simp [h2]
  ·simp [h2]
 ·rw [yG fun z=>h z.symm,yG fun z=>h z.1]
theorem Rep.rowset {p:Nat} (R:Rep st k a b c g n u rows S) (hx:RowR st x l) (hr:∀ r,x=.ref r->r ≠ a/\r ≠ b/\r ≠ c):Rep (st.set a (.lst (rows.set p x))) k a b c g n u (rows.set p x) { S with ls:=S.ls.set p l }:=by
 have hs:∀ i y,(rows.set p x)[i]?=some y->(i=p/\p < rows.length/\y=x)\/(i ≠ p/\rows[i]?=some y):=fun i y h=>by
  rw [yT] at h;by_cases e:p=i
  ·rw [yH e] at h
   split at h
   ·cases h;exact .inl ⟨e.symm,by assumption,rfl⟩
   ·cases h
  ·rw [yG e] at h;exact .inr ⟨fun z=>e z.symm,h⟩
 refine ⟨by rw [ar (bo R.ha R.hk (fun z=>nomatch z))];exact R.hk,fA R.ha,by rw [ar R.ab];exact R.hb,by rw [ar R.ac];exact R.hc,by rw [ar (bo R.ha R.hg (fun z=>nomatch z))];exact R.hg,by rw [ar (bo R.ha R.hn (fun z=>nomatch z))];exact R.hn,
  by rw [ar (bo R.ha R.hu (fun z=>nomatch z))];exact R.hu,by simp [R.len],fun i y h=>?_,R.ab,R.ac,R.bc,R.gn,R.gu,R.nu,fun i r h=>?_⟩
 ·rw [rq]
  rcases hs i y h with ⟨h1,h2,rfl⟩ | ⟨h1,h2⟩
  ·rw [yH ⟨h1,by rw [<- R.len];exact h2⟩];exact hx.set fun r e=>Ne.symm (hr r e).1
  ·rw [yG fun z=>h1 z.1];exact (R.row i y h2).set fun r e=>Ne.symm (R.ra i r (by rw [<- e];exact h2)).1
 ·rcases hs i _ h with ⟨h1,h2,h3⟩ | ⟨h1,h2⟩
  ·exact hr r h3.symm
  ·exact R.ra i r h2
theorem Rep.cellset {p r:Nat} (R:Rep st k a b c g n u rows S) (hp:rows[p]?=some (.ref r)) (ho:∀ i,i ≠ p->rows[i]? ≠ some (.ref r)):Rep (st.set r (.lst (iL l))) k a b c g n u rows { S with ls:=S.ls.set p l }:=by
 obtain ⟨n1,n2,n3⟩:=R.ra p r hp;obtain ⟨n4,n5,n6,n7⟩:=R.rowk hp;have hlt:p < S.ls.length:=by rw [<- R.len];exact (zB.mp hp).1
 refine ⟨by rw [ar n4];exact R.hk,by rw [ar n1];exact R.ha,by rw [ar n2];exact R.hb,by rw [ar n3];exact R.hc,by rw [ar n5];exact R.hg,by rw [ar n6];exact R.hn,by rw [ar n7];exact R.hu,by simp [R.len],fun i y h=>?_,R.ab,R.ac,R.bc,R.gn,R.gu,R.nu,R.ra⟩;rw [rq];by_cases e:i=p
 ·subst e
  rw [yH ⟨rfl,hlt⟩];rw [hp] at h;cases h;rcases R.row i _ hp with z | ⟨r',h1,h2⟩
  ·cases z
  ·cases h1
   rcases h2 with h2 | h2
   ·exact .inr ⟨r,rfl,.inl (fA h2)⟩
   ·exact .inr ⟨r,rfl,.inl (fA h2)⟩
 ·rw [yG fun z=>e z.1]
  exact (R.row i y h).set fun r' e' z=>ho i e (by rw [z,<- e'];exact h)
theorem Rep.freeze {r:Nat} (R:Rep st k a b c g n u rows S) (hp:rows[i]?=some (.ref r)) (hr:st[r]?=some (.lst (iL l))):Rep (st.set r (.al (.fz (iL l)))) k a b c g n u rows S:=by
 obtain ⟨n1,n2,n3⟩:=R.ra i r hp;obtain ⟨n4,n5,n6,n7⟩:=R.rowk hp;refine ⟨by rw [ar n4];exact R.hk,by rw [ar n1];exact R.ha,by rw [ar n2];exact R.hb,by rw [ar n3];exact R.hc,by rw [ar n5];exact R.hg,by rw [ar n6];exact R.hn,by rw [ar n7];exact R.hu,R.len,fun j y h=>?_,R.ab,R.ac,R.bc,R.gn,R.gu,R.nu,R.ra⟩;rcases R.row j y h with z | ⟨r',h1,h2⟩
 ·exact .inl z
 ·by_cases e:r=r'
  ·subst e
   refine .inr ⟨r,h1,.inr ?_⟩;rw [fA hr];rcases h2 with h2 | h2
   ·rw [hr] at h2;injection h2 with h2;injection h2 with h2;rw [h2]
   ·rw [hr] at h2;cases h2
  ·exact .inr ⟨r',h1,by rw [ar e];exact h2⟩
theorem RowR.it (h:RowR st x l):∃ gd,mP st x=some ⟨iL l,gd⟩/\bQ gd st=true:=by
 rcases h with rfl | ⟨r,rfl,h | h⟩
 ·exact ⟨[],rfl,rfl⟩
 ·exact ⟨_,kP h,fc h⟩
 ·refine ⟨[],?_,rfl⟩
  have:ik st (.ref r)=none:=by unfold ik dr;simp only [h]
  unfold mP;dsimp only;rw [this];unfold g7 dr;simp only [h]
end
theorem EC {gd:Gd}{g:GF}{t:TF}{f:EF}{sl:Sl}{J:Nat->aa->Prop}{F:Nat->AV}{xs:List AV} (hg:∀ i st,i <= xs.length->J i st->bQ gd st=true)
  (h:∀ i x st,xs[i]?=some x->J i st->∃ sl1 st1,g x sl st=some (sl1,st)/\t sl1 st=some (true,st)/\f sl1 st=some (F i,st1)/\J (i + 1) st1) {st:aa} (h0:J 0 st):∃ st',gC gd g t f sl xs st=some ((List.range xs.length).map F,st')/\J xs.length st':=by
 have go:∀ (r j:Nat) {st:aa},j + r=xs.length->J j st->∃ st',gC gd g t f sl (xs.drop j) st=some ((List.range' j r).map F,st')/\J xs.length st':=fun r=>by
  induction r with
  | zero =>
   intro j st hj hJ;rw [List.drop_of_length_le oM];refine ⟨st,?_,by rw [show xs.length=j by omega];exact hJ⟩;show (if bQ gd st=true then _ else _)=_;rw [yH (hg j st oM hJ)];rfl
  | succ r ih =>
   intro j st hj hJ;have hl:j < xs.length:=by omega
   obtain ⟨sl1,st1,h1,h2,h3,h4⟩:=h j xs[j] st (zF hl) hJ;obtain ⟨st',e,hJ'⟩:=ih (j + 1) oM h4;refine ⟨st',?_,hJ'⟩;rw [List.drop_eq_getElem_cons hl];show (if bQ gd st=true then (g xs[j] sl st).bind _ else none)=_;rw [yH (hg j st oM hJ),h1,bind_some];dsimp only;rw [h2,bind_some,yH rfl];dsimp only;rw [h3,bind_some];dsimp only;rw [e];rfl
 obtain ⟨st',e,hJ⟩:=go xs.length 0 oM h0;rw [List.drop_zero] at e;rw [<- List.range_eq_range'] at e;exact ⟨st',e,hJ⟩
@[simp] theorem fy:(iL l).length=l.length:=by unfold iL;simp
@[simp] theorem mG:(nL l).length=l.length:=by unfold nL;simp
@[simp] theorem fx:rfs (iL l)=true:=wP
@[simp] theorem io:rfs (nL l)=true:=jn
theorem eD {q:Nat}{x:Int}:(iL l).set q (.int x)=iL (l.set q x):=by unfold iL;rw [List.map_set]
theorem vF {q x:Nat}:(nL l).set q (.int (x:Int))=nL (l.set q x):=by unfold nL;rw [List.map_set]
theorem qc {α:Type}{em:α->AV}{F:α->Int}{xs:List α} (hg:bQ gd st=true) (h:∀ x ∈ xs,∃ sl1,g (em x) sl st=some (sl1,st)/\t sl1 st=some (true,st)/\f sl1 st=some (.int (F x),st)):gC gd g t f sl (xs.map em) st=some (iL (xs.map F),st):=by
 rw [fb (B:=fun _=>true) (F:=fun x=>.int (F x)) hg fun x hx=>by obtain ⟨s,a,b,c⟩:=h x hx;exact ⟨s,a,b,fun _=>c⟩];unfold iL;rw [List.map_map,List.filter_eq_self.mpr fun _ _=>rfl];rfl
theorem jr (hg:bQ gd st=true) (h:∀ x ∈ l,∃ sl1,g (.int x) sl st=some (sl1,st)/\t sl1 st=some (true,st)/\f sl1 st=some (.int (F x),st)):gC gd g t f sl (iL l) st=some (iL (l.map F),st):=qc hg h
theorem cW {k q:Nat} (h:st[k]?=some (.lst xs)) (hq:q < xs.length):jm st (.ref k) (.int (q:Int)) x=some (st.set k (.lst (xs.set q x))):=by
 unfold jm;simp only [h];have:lm xs.length (q:Int)=some q:=by unfold lm;rw [yH oM,yH oM];simp
 rw [this];rfl
theorem nU {k q:Nat} (h:st[k]?=some (.dK (kL l))) (hl:l.length <= 1000):jm st (.ref k) (.int (q:Int)) (.bl true)=some (st.set k (.dK (kL (if q ∈ l then l else l++[q])))):=by
 unfold jm;simp only [h,jt,bind_some];rw [yH (bt (by unfold kL;rw [zH];exact hl))];congr 2;unfold lP kL;by_cases hq:q ∈ l
 ·rw [yH hq,yH (by simp only [List.any_map,List.any_eq_true];exact ⟨q,hq,by simp⟩),List.map_map]
  congr 1;refine List.map_congr_left fun x hx=>?_
  show (if _ then _ else _)=_;split
  ·rfl
  ·rfl
 ·rw [yG hq,yG (by
   simp only [List.any_map,List.any_eq_true,Function.comp];rintro ⟨x,hx,e⟩;have:x=q:=by have:((x:Nat):Int)=((q:Nat):Int):=(by simpa using e);omega
   exact hq (this ▸ hx)),List.map_append]
  rfl
theorem aj (h:cR ks s sl st=some (.nx sl' st')) (h2:(ak ks ss sl' st').bind aF=r):(ak ks (.cons s ss) sl st).bind aF=r:=by
 rw [ph,h,bind_some,vC];exact h2
theorem ao (h:cR ks s sl st=some (.nx sl' st')) (h2:ak ks ss sl' st'=r):ak ks (.cons s ss) sl st=r:=by
 rw [ph,h,bind_some,vC];exact h2
theorem dU (h:cR ks s sl st=some (.rt v st')):(ak ks (.cons s ss) sl st).bind aF=some (v,st'):=by
 rw [ph,h,bind_some,DY];rfl
theorem cU (h:rfs args=true) (h1:fn args []=some (v,st')) (h2:cx st' v=some t):pm fn args st=some (t,st):=by
 unfold pm;rw [yH h,h1,bind_some];dsimp only;rw [h2];rfl
section
variable {d:Int}{a b c g n u:Nat}
theorem xc {d':Int}:im "below" (.int d') (cG d a b c g n u)=cG d' a b c g n u:=rfl
theorem xb {a':Nat}:im "lines" (.ref a') (cG d a b c g n u)=cG d a' b c g n u:=rfl
theorem gJ {k:Nat} (h1:ev ks e sl st=some (v,st')) (h2:ev ks o sl st'=some (.ref k,st')) (h3:iJ st' cn (.ref k)=some fs) (h4:Nat.ble fs.length 900=true):cR ks (.fl cn f o e) sl st=some (.nx sl (st'.set k (.ins cn (im f v fs)))):=by
 show u0 cn f (ev ks o) (ev ks e) sl st=_;unfold u0;rw [h1,bind_some];dsimp only;rw [h2,bind_some];dsimp only;rw [h3,bind_some,yH h4]
end
theorem nE (h:t sl st=some (false,st')):dA t s 1 sl st=some (.nx sl st'):=by
 show (t sl st).bind _=_;rw [h,bind_some,yG (by simp)]
theorem mi (h:t sl st=some (true,st')) (h2:s sl st'=some (.rt v st2)):dA t s 1 sl st=some (.rt v st2):=by
 show (t sl st).bind _=_;rw [h,bind_some,yH rfl];dsimp only;rw [h2];rfl
theorem nF {n:Nat} (h:t sl st=some (true,st')) (h2:s sl st'=some (.nx sl2 st2)) (h3:dA t s n sl2 st2=some o):dA t s (n + 1) sl st=some o:=by
 show (t sl st).bind _=_;rw [h,bind_some,yH rfl];dsimp only;rw [h2];exact h3
theorem aE {ks:List Fn}{s:Sx}{ss:MC}{sl sl':Sl}{st st':aa}{Q:AV × aa->Prop} (h:cR ks s sl st=some (.nx sl' st')) (h2:∃ r,(ak ks ss sl' st').bind aF=some r/\Q r):∃ r,(ak ks (.cons s ss) sl st).bind aF=some r/\Q r:=by
 obtain ⟨r,e,q⟩:=h2;exact ⟨r,aj h e,q⟩
def aD (L:List (List Int)):List AV:=L.map fun l=>.fz (iL l)
@[simp] theorem Kt:(aD L).length=L.length:=by unfold aD;simp
@[simp] theorem KP:rfs (aD L)=true:=gV fun x hx=>by obtain ⟨l,_,rfl⟩:=yC.mp hx;rfl
theorem vU:iL a++iL b=iL (a++b):=by unfold iL;rw [List.map_append]
theorem EV {x:Int}:[AV.int x]=iL [x]:=rfl
theorem uc {α:Type}{em:α->AV}{F:α->List Int}{xs:List α} (hg:bQ gd st=true) (h:∀ x ∈ xs,∃ sl1,g (em x) sl st=some (sl1,st)/\t sl1 st=some (true,st)/\f sl1 st=some (.fz (iL (F x)),st)):gC gd g t f sl (xs.map em) st=some (aD (xs.map F),st):=by
 rw [fb (B:=fun _=>true) (F:=fun x=>.fz (iL (F x))) hg fun x hx=>by obtain ⟨s,a,b,c⟩:=h x hx;exact ⟨s,a,b,fun _=>c⟩];unfold aD;rw [List.map_map,List.filter_eq_self.mpr fun _ _=>rfl];rfl
theorem jf (h1:ev ks a sl st=some (x,s1)) (h2:ev ks b sl s1=some (y,s2)) (h3:bn s2 x=some (iL l)) (h4:bn s2 y=some (iL l')) (hl:l.length + l'.length <= 1000):gh ks (.cat a b) sl st=some (iL (l++l'),s2):=by
 rw [tP];unfold pY;rw [h1,bind_some];dsimp only;rw [h2,bind_some];dsimp only;rw [h3,bind_some,h4,bind_some,yH (bt (by simpa using hl)),vU]
theorem mv {n:Nat}:cJ 0 n=nL (List.range n):=by unfold cJ nL;simp
theorem F2 {w n:Nat}:cJ (w:Int) n=nL ((List.range n).map (w + ·)):=by unfold cJ nL;simp [List.map_map,Function.comp_def]
theorem AY {n:Nat}:aO (cq n st) (iL l)=some (iL l):=cX (f:=cq n st) (i:=AV.int) (g:=AV.int) (fun x=>by cases n <;> rfl) l
theorem nM {k:Nat} (h:st[k]?=some (.lst (iL l))):cx st (.ref k)=some (.fz (iL l)):=by
 show cq 6 st (.ref k)=_;unfold cq;simp only [h,AY,map_some]
theorem ms {k:Nat} (h:st[k]?=some (.al t)):cx st (.ref k)=some t:=by
 show cq 6 st (.ref k)=_;unfold cq;simp only [h]
theorem jY {fn:Fn}{rest:List AV}{st st':aa}{x v t:AV}{l:List Int} (hx:RowR st x l) (h0:rfs rest=true) (hm:aO (cx st) rest=some rest) (hf:∀ s,i7 s rest=some (rest,s)) (e1:fn (.fz (iL l)::rest) []=some (v,st')) (e2:cx st' v=some t) (ht:cQ t=false) :
  ∃ st1,pm fn (x::rest) st=some (t,st1)/\(st1=st\/∃ r,x=.ref r/\st[r]?=some (.lst (iL l))/\st1=st.set r (.al (.fz (iL l)))):=by
 have aF:∀ r st1,x=.ref r->cx st (.ref r)=some (.fz (iL l))->eE st (.ref r)=some (.fz (iL l),st1)->pm fn (x::rest) st=some (t,st1):=fun r st1 ex h1 h2=>by
  subst ex;have m:aO (cx st) (.ref r::rest)=some (.fz (iL l)::rest):=by simp only [aO,h1,hm];rfl
  have f:i7 st (.ref r::rest)=some (.fz (iL l)::rest,st1):=by simp only [i7,h2,bind_some,hf];rfl
  unfold pm;rw [yG (by simp [rf]),m,bind_some,e1,bind_some];dsimp only;rw [e2,bind_some,yG (by rw [ht];simp),f,bind_some];dsimp only;rw [e1,bind_some];dsimp only;rw [e2];rfl
 rcases hx with rfl | ⟨r,rfl,h | h⟩
 ·exact ⟨st,cU (by simp [h0]) e1 e2,.inl rfl⟩
 ·exact ⟨_,aF r (st.set r (.al (.fz (iL l)))) rfl (nM h) (by unfold eE;simp [rf,h]),.inr ⟨r,rfl,h,rfl⟩⟩
 ·exact ⟨_,aF r st rfl (ms h) (by unfold eE;simp [rf,h]),.inl rfl⟩
theorem eN:(st++[x]).set st.length y=st++[y]:=by simp
end R
namespace LW
open PySem L2 R
def top (i:Nat):Stmt:=PySem.Challenge.pw_telltight_k36_tables_told_of_locks.main.body.getD i (.Pass ⟨0,0,0,0⟩)
def Hh (s:Stmt):List Stmt:=match s with
 | .ClassDef _ _ _ b _ _ _ _ _ _ _=>b
 | _=>[]
def fU (i j:Nat):Stmt:=(Hh (top i)).getD j (.Pass ⟨0,0,0,0⟩)
def jB:MC:=(.cons (.as (.bin .Mod (.bin .Mult (.bin .Add (.bin .Add (.bin .Mod (.v 0) (.i 2147483647)) (.bin .Mult (.bin .Mult (.v 1) (.v 1)) (.i 7919))) (.i 104729)) (.i 48271)) (.i 2147483647)) (.nm 2))
 (.cons (.rt (.bin .Mod (.bin .Add (.bin .Mult (.v 2) (.v 2)) (.bin .Mult (.i 69621) (.v 1))) (.i 2147483629)))
 .nil))
def nh:FE:=⟨.f "_law_mix" 2,"_law_mix",top 55,["_law_cell","_law_turn","_law_number"],[],3,[],jB⟩
def ic:MC:=(.cons (.as (.nw false (.cat (.nw false (.sl (.v 0) .no (.so (.i 63)))) (.nw false (.li (.cons (.v 1) .nil))))) (.nm 3))
 (.cons (.as (.nw true (.lc 1 (.e (.v 3)) (.nm 9) .no (.bin .FloorDiv (.v 9) (.i 100000)))) (.nm 4))
 (.cons (.as (.nw true (.li .nil)) (.nm 5))
 (.cons (.fo (.r1 (.bin .Add (.v 1) (.v 2))) (.nm 6)
 (.cons (.as (.bin .Mod (.v 6) (.bi .len (.cons (.v 3) .nil))) (.nm 7))
 (.cons (.as (.ca true 0 (.cons (.ix (.v 3) (.v 7)) (.cons (.v 6) .nil))) (.nm 8))
 (.cons (.as (.bin .Mod (.bin .Add (.bin .Mult (.v 8) (.v 8)) (.bin .Mult (.i 7) (.v 6))) (.i 2147483587)) (.nm 8))
 (.cons (.iff (.an (.cmp .GtE (.ix (.v 3) (.v 7)) (.bin .Pow (.i 10) (.i 18))) (.cmp .Gt (.ix (.v 4) (.v 7)) (.i 0)))
 (.cons (.as (.bin .Mod (.ix (.v 4) (.v 7)) (.i 2147483587)) (.nm 8))
 (.cons (.as (.bin .FloorDiv (.ix (.v 4) (.v 7)) (.i 2147483587)) (.su (.v 4) (.v 7)))
 .nil))
 .nil)
 (.cons (.ex (.mt .app (.v 5) (.cons (.v 8) .nil)))
 .nil))))))
 (.cons (.rt (.nw true (.sl (.v 5) (.so (.v 1)) .no)))
 .nil)))))
def ki:FE:=⟨.f "_law_draws" 3,"_law_draws",top 56,["_law_script","_law_turn","_law_many","_law_cells","_law_lefts","_law_found","_law_k","_law_at","_law_number"],[0],6,[],ic⟩
def jA:MC:=(.cons (.iff (.cmp .Eq (.v 0) (.nw false (.li .nil)))
 (.cons (.rt (.i 0))
 .nil)
 .nil)
 (.cons (.rt (.mt .pop (.v 0) .nil))
 .nil))
def m9:FE:=⟨.f "_law_pop" 1,"_law_pop",top 57,["_law_draws_here"],[],3,[],jA⟩
def dZ:MC:=(.cons (.as (.nw true (.li .nil)) (.nm 2))
 (.cons (.fo (.r1 (.bin .Add (.i 1) (.bin .Mod (.ca false 0 (.cons (.v 1) .nil)) (.i 3)))) (.nm 3)
 (.cons (.as (.ca false 0 (.cons (.v 1) .nil)) (.nm 4))
 (.cons (.ex (.mt .app (.v 2) (.cons (.bin .Mult (.bin .Mult (.i 2) (.bin .Add (.i 1) (.bin .Mod (.v 4) (.bin .Sub (.bin .LShift (.i 1) (.bin .Sub (.v 0) (.i 1))) (.i 1))))) (.bi .int (.cons (.cmp .Gt (.bin .Mod (.bin .FloorDiv (.v 4) (.i 8)) (.i 12)) (.i 0)) .nil))) .nil)))
 .nil)))
 (.cons (.rt (.v 2))
 .nil)))
def je:FE:=⟨.f "_law_openers" 2,"_law_openers",top 60,["_law_n","_law_draws_here","_law_found","_law_k","_law_number"],[2],6,[],dZ⟩
def lI:MC:=(.cons (.rt (.bi .len (.cons (.nw false (.lc 1 (.r1 (.i 4)) (.nm 1) (.so (.cmp .Eq (.bin .BitAnd (.bin .RShift (.v 0) (.v 1)) (.i 1)) (.i 1))) (.v 1))) .nil)))
 .nil)
def lA:FE:=⟨.f "_law_bits" 1,"_law_bits",top 58,["_law_group"],[],3,[],lI⟩
def fJ:MC:=(.cons (.as (.nw false (.lc 1 (.r1 (.bin .Sub (.bin .LShift (.i 1) (.v 0)) (.i 1))) (.nm 10) .no (.i 0))) (.nm 2))
 (.cons (.fo (.r1 (.bin .Mod (.ca false 0 (.cons (.v 1) .nil)) (.i 5))) (.nm 3)
 (.cons (.as (.ca false 0 (.cons (.v 1) .nil)) (.nm 4))
 (.cons (.as (.bin .Mod (.v 4) (.bin .LShift (.i 1) (.v 0))) (.nm 5))
 (.cons (.as (.bin .Add (.i 1) (.bin .Mod (.bin .FloorDiv (.v 4) (.i 16)) (.i 3))) (.nm 6))
 (.cons (.as (.ix (.nw false (.li (.cons (.i 1) (.cons (.i 2) (.cons (.bin .Add (.i 1) (.bin .Mod (.bin .FloorDiv (.v 4) (.i 48)) (.i 5))) (.cons (.bin .Add (.i 1) (.bin .FloorDiv (.v 4) (.i 48))) .nil)))))) (.bin .Mod (.bin .FloorDiv (.v 4) (.i 240)) (.i 4))) (.nm 7))
 (.cons (.as (.nw false (.lc 1 (.r1 (.bi .len (.cons (.v 2) .nil))) (.nm 10) .no (.bin .Add (.ix (.v 2) (.v 10)) (.bin .Mult (.v 7) (.bi .min (.cons (.v 6) (.cons (.ca true 1 (.cons (.bin .BitAnd (.v 5) (.bin .Add (.v 10) (.i 1))) .nil)) .nil))))))) (.nm 2))
 .nil))))))
 (.cons (.as (.ca false 0 (.cons (.v 1) .nil)) (.nm 4))
 (.cons (.iff (.an (.cmp .Eq (.v 0) (.i 4)) (.cmp .Eq (.bin .Mod (.v 4) (.i 3)) (.i 0)))
 (.cons (.as (.ix (.nw false (.li (.cons (.i 3) (.cons (.i 5) (.cons (.i 6) (.cons (.i 9) (.cons (.i 10) (.cons (.i 12) .nil)))))))) (.bin .Mod (.bin .FloorDiv (.v 4) (.i 3)) (.i 6))) (.nm 8))
 (.cons (.as (.nw false (.lc 1 (.r1 (.i 15)) (.nm 10) .no (.bin .Add (.ix (.nw false (.li (.cons (.i 2) (.cons (.i 3) (.cons (.i 4) (.cons (.i 4) .nil)))))) (.bin .Sub (.ca true 1 (.cons (.bin .Add (.v 10) (.i 1)) .nil)) (.i 1))) (.bi .int (.cons (.cmp .Eq (.bin .Add (.v 10) (.i 1)) (.v 8)) .nil))))) (.nm 9))
 (.cons (.as (.nw false (.lc 1 (.r1 (.i 15)) (.nm 10) .no (.bin .Add (.ix (.v 2) (.v 10)) (.ix (.v 9) (.v 10))))) (.nm 2))
 .nil)))
 .nil)
 (.cons (.rt (.v 2))
 .nil)))))
def kh:FE:=⟨.f "_law_table" 2,"_law_table",top 59,["_law_n","_law_draws_here","_law_table_here","_law_k","_law_number","_law_mask","_law_most","_law_times","_law_pair","_law_four"],[2,4],6,[],fJ⟩
def lG:MC:=(.cons (.rt (.bin .Sub (.bin .LShift (.i 1) (.v 0)) (.i 1)))
 .nil)
def lz:FE:=⟨.f "all_names" 1,"all_names",top 6,["n"],[],3,[],lG⟩
def jg:MC:=(.cons (.as (.nw true (.rep (.cons (.i 0) .nil) (.ca true 0 (.cons (.v 0) .nil)))) (.nm 2))
 (.cons (.fo (.e (.v 1)) (.tu 2 (.cons (.nm 3) (.cons (.nm 4) .nil)))
 (.cons (.iff (.cmp .NotEq (.v 3) (.i 0))
 (.cons (.aus .Add (.v 2) (.bin .Sub (.v 3) (.i 1)) (.v 4))
 .nil)
 .nil)
 .nil))
 (.cons (.rt (.v 2))
 .nil)))
def i9:FE:=⟨.f "row_of_terms" 2,"row_of_terms",top 11,["n","terms","row","group","number"],[6],6,[],jg⟩
def kz:MC:=(.cons (.rt (.nw false (.lr3 (.i 0) (.ca true 0 (.cons (.v 0) .nil)) (.i 2))))
 .nil)
def kb:FE:=⟨.f "key_groups" 1,"key_groups",top 48,["n"],[6],6,[],kz⟩
def oa:MC:=(.cons (.rt (.bi .any (.cons (.nw false (.lc 1 (.e (.v 0)) (.nm 2) .no (.cmp .Eq (.bin .BitAnd (.v 2) (.un .Invert (.v 1))) (.i 0)))) .nil)))
 .nil)
def sN:FE:=⟨.f "opens" 2,"opens",top 49,["openers","group"],[],3,[],oa⟩
def jR:MC:=(.cons (.iff (.or (.cmp .Lt (.v 0) (.i 1)) (.cmp .Gt (.v 0) (.g "MOST_NAMES" (.int 4))))
 (.cons .dead
 .nil)
 .nil)
 .nil)
def jN:FE:=⟨.f "check_count" 1,"check_count",top 7,["n"],[],3,[],jR⟩
def jQ:MC:=(.cons (.iff (.or (.cmp .Lt (.v 1) (.i 1)) (.cmp .Gt (.v 1) (.ca true 0 (.cons (.v 0) .nil))))
 (.cons .dead
 .nil)
 .nil)
 .nil)
def jM:FE:=⟨.f "check_group" 2,"check_group",top 8,["n","group"],[6],6,[],jQ⟩
def jP:MC:=(.cons (.iff (.cmp .NotEq (.v 1) (.i 0))
 (.cons (.ex (.ca true 0 (.cons (.v 0) (.cons (.v 1) .nil))))
 .nil)
 .nil)
 .nil)
def jL:FE:=⟨.f "check_known" 2,"check_known",top 9,["n","group"],[11],9,[],jP⟩
def nv:MC:=(.cons (.rt (.ca true 0 (.cons (.v 0) (.cons (.nw false (.li (.cons (.tu (.cons (.bin .BitOr (.v 1) (.v 2)) (.cons (.i 1) .nil))) (.cons (.tu (.cons (.v 2) (.cons (.un .USub (.i 1)) .nil))) .nil)))) .nil))))
 .nil)
def m6:FE:=⟨.f "rest_row" 3,"rest_row",top 12,["n","a","b"],[7],9,[],nv⟩
def sQ:MC:=(.cons (.ex (.ca true 0 (.cons (.v 0) .nil)))
 (.cons (.ex (.ca true 1 (.cons (.v 0) (.cons (.v 1) .nil))))
 (.cons (.ex (.ca true 2 (.cons (.v 0) (.cons (.v 2) .nil))))
 (.cons (.rt (.tu (.cons (.ca true 3 (.cons (.v 0) (.cons (.v 2) (.cons (.v 1) .nil)))) (.cons (.s "=") (.cons (.i 0) .nil)))))
 .nil))))
def sL:FE:=⟨.f "tells" 3,"tells",top 44,["n","a","b"],[10,12,11,13],12,[],sQ⟩
def jh:MC:=(.cons (.ex (.ca true 0 (.cons (.v 0) .nil)))
 (.cons (.ex (.ca true 1 (.cons (.v 0) (.cons (.v 1) .nil))))
 (.cons (.ex (.ca true 1 (.cons (.v 0) (.cons (.v 2) .nil))))
 (.cons (.ex (.ca true 2 (.cons (.v 0) (.cons (.v 3) .nil))))
 .nil))))
def jc:FE:=⟨.f "check_shared" 4,"check_shared",top 10,["n","a","b","c"],[10,11,12],12,[],jh⟩
def kx:MC:=(.cons (.rt (.ca true 0 (.cons (.v 0) (.cons (.nw false (.li (.cons (.tu (.cons (.bin .BitOr (.v 1) (.v 3)) (.cons (.i 1) .nil))) (.cons (.tu (.cons (.bin .BitOr (.v 2) (.v 3)) (.cons (.i 1) .nil))) (.cons (.tu (.cons (.bin .BitOr (.bin .BitOr (.v 1) (.v 2)) (.v 3)) (.cons (.un .USub (.i 1)) .nil))) (.cons (.tu (.cons (.v 3) (.cons (.un .USub (.i 1)) .nil))) .nil)))))) .nil))))
 .nil)
def ka:FE:=⟨.f "shared_row" 4,"shared_row",top 13,["n","a","b","c"],[7],9,[],kx⟩
def qQ:MC:=(.cons (.ex (.ca true 0 (.cons (.v 0) (.cons (.v 1) (.cons (.v 2) (.cons (.v 3) .nil))))))
 (.cons (.rt (.tu (.cons (.ca true 1 (.cons (.v 0) (.cons (.v 1) (.cons (.v 2) (.cons (.v 3) .nil))))) (.cons (.s "=") (.cons (.i 0) .nil)))))
 .nil))
def qC:FE:=⟨.f "silent" 4,"silent",top 45,["n","a","b","c"],[15,16],15,[],qQ⟩
def gx:MC:=(.cons (.as (.nw true (.li (.cons (.tu (.cons (.ca true 0 (.cons (.v 0) (.cons (.nw false (.li (.cons (.tu (.cons (.g "LOCK" (.int 1)) (.cons (.i 1) .nil))) .nil))) .nil))) (.cons (.s "=") (.cons (.i 1) .nil)))) .nil))) (.nm 2))
 (.cons (.fo (.e (.ca true 1 (.cons (.v 0) .nil))) (.nm 3)
 (.cons (.iff (.va (.ca true 2 (.cons (.v 1) (.cons (.v 3) .nil))))
 (.cons (.ex (.mt .app (.v 2) (.cons (.ca true 3 (.cons (.v 0) (.cons (.v 3) (.cons (.g "LOCK" (.int 1)) .nil)))) .nil)))
 .nil)
 (.cons (.iff (.cmp .NotEq (.v 3) (.i 0))
 (.cons (.ex (.mt .app (.v 2) (.cons (.ca true 4 (.cons (.v 0) (.cons (.g "LOCK" (.int 1)) (.cons (.v 3) (.cons (.i 0) .nil))))) .nil)))
 .nil)
 .nil)
 .nil))
 .nil))
 (.cons (.rt (.v 2))
 .nil)))
def jJ:FE:=⟨.f "lock_givens" 2,"lock_givens",top 50,["n","openers","givens","group"],[7,8,9,14,17],18,[],gx⟩
def gq:MC:=(.cons (.as (.bin .BitOr (.bin .LShift (.i 1) (.v 1)) (.bin .LShift (.i 1) (.v 2))) (.nm 3))
 (.cons (.rt (.nw false (.lc 1 (.r1 (.bin .Add (.ca true 0 (.cons (.v 0) .nil)) (.i 1))) (.nm 4) (.so (.cmp .Eq (.bin .BitAnd (.v 4) (.v 3)) (.i 0))) (.tu (.cons (.s "pair") (.cons (.v 1) (.cons (.v 2) (.cons (.v 4) .nil))))))))
 .nil))
def gi:FE:=⟨.f "pairs_with_known" 3,"pairs_with_known",top 16,["n","i","j","both"],[6],6,[],gq⟩
def sR:MC:=(.cons (.as (.nw true (.lc 1 (.r1 (.v 0)) (.nm 4) .no (.tu (.cons (.s "last") (.cons (.v 4) .nil))))) (.nm 1))
 (.cons (.fo (.r1 (.v 0)) (.nm 2)
 (.cons (.fo (.r2 (.bin .Add (.v 2) (.i 1)) (.v 0)) (.nm 3)
 (.cons (.ex (.mt .ext (.v 1) (.cons (.ca true 0 (.cons (.v 0) (.cons (.v 2) (.cons (.v 3) .nil)))) .nil)))
 .nil))
 .nil))
 (.cons (.rt (.v 1))
 .nil)))
def sM:FE:=⟨.f "rules" 1,"rules",top 17,["n","found","i","j"],[19],9,[],sR⟩
def nq:MC:=(.cons (.as (.bin .LShift (.i 1) (.ix (.v 1) (.i 1))) (.nm 2))
 (.cons (.iff (.cmp .Eq (.ix (.v 1) (.i 0)) (.s "last"))
 (.cons (.rt (.ca true 1 (.cons (.v 0) (.cons (.v 2) (.cons (.bin .Sub (.ca true 0 (.cons (.v 0) .nil)) (.v 2)) .nil)))))
 .nil)
 .nil)
 (.cons (.rt (.ca true 2 (.cons (.v 0) (.cons (.v 2) (.cons (.bin .LShift (.i 1) (.ix (.v 1) (.i 2))) (.cons (.ix (.v 1) (.i 3)) .nil))))))
 .nil)))
def mZ:FE:=⟨.f "rule_row" 2,"rule_row",top 18,["n","rule","one"],[6,13,16],12,[],nq⟩
def lD:MC:=(.cons (.rt (.nw false (.lc 1 (.e (.ca true 0 (.cons (.v 0) .nil))) (.nm 1) .no (.ca true 1 (.cons (.v 0) (.cons (.v 1) .nil))))))
 .nil)
def lu:FE:=⟨.f "rule_rows" 1,"rule_rows",top 19,["n"],[20,21],15,[],lD⟩
def eW:MC:=(.cons (.fl "Sheet" "below" (.v 0) (.i 1))
 (.cons (.fl "Sheet" "lines" (.v 0) (.nw true (.lc 1 (.e (.v 2)) (.nm 3) .no (.nw false (.lof (.v 3))))))
 (.cons (.fl "Sheet" "heads" (.v 0) (.nw true (.lr1 (.v 1))))
 (.cons (.fl "Sheet" "sides" (.v 0) (.nw true (.lr2 (.v 1) (.bin .Add (.v 1) (.bi .len (.cons (.v 2) .nil))))))
 (.cons (.fl "Sheet" "guarded" (.v 0) .dn)
 (.cons (.fl "Sheet" "nailed" (.v 0) .dn)
 (.cons (.fl "Sheet" "turned" (.v 0) .dn)
 .nil)))))))
def ib:FE:=⟨.k "Sheet" 3,"Sheet.__init__",fU 22 0,["self","width","lines"],[],3,[],eW⟩
def gz:MC:=(.cons (.as (.b true) (.su (.fd "Sheet" "guarded" (.v 0)) (.v 1)))
 .nil)
def jO:FE:=⟨.m "Sheet" "guard" 2,"Sheet.guard",fU 22 1,["self","quantity"],[],3,[],gz⟩
def fG:MC:=(.cons (.as (.nw true (.lc 1 (.e (.ca true 0 (.cons (.v 0) .nil))) (.nm 7) .no (.nw false (.cat (.v 7) (.nw false (.li (.cons (.i 0) .nil))))))) (.nm 3))
 (.cons (.as (.bin .Add (.ca true 1 (.cons (.v 0) .nil)) (.bi .len (.cons (.v 3) .nil))) (.nm 4))
 (.cons (.ex (.mt .ext (.v 3) (.cons (.nw false (.lc 3 (.e (.v 1)) (.tu 3 (.cons (.nm 7) (.cons (.nm 8) (.cons (.nm 9) .nil)))) .no (.nw false (.cat (.nw false (.lof (.v 7))) (.nw false (.li (.cons (.un .USub (.v 9)) .nil))))))) .nil)))
 (.cons (.ex (.mt .app (.v 3) (.cons (.nw false (.cat (.nw false (.lc 1 (.e (.v 2)) (.nm 7) .no (.un .USub (.v 7)))) (.nw false (.li (.cons (.i 0) .nil))))) .nil)))
 (.cons (.as (.ne "Sheet" 2 (.cons (.ca true 1 (.cons (.v 0) .nil)) (.cons (.v 3) .nil))) (.nm 5))
 (.cons (.fo (.r1 (.v 4)) (.nm 6)
 (.cons (.ex (.me "Sheet" "guard" 3 (.v 5) (.cons (.v 6) .nil)))
 .nil))
 (.cons (.rt (.v 5))
 .nil)))))))
def iy:FE:=⟨.f "opening_sheet" 3,"opening_sheet",top 34,["n","givens","goal","lines","guarded","sheet","quantity"],[22,6,23,24],18,[],fG⟩
def eB:MC:=(.cons (.as (.nw false (.lc 1 (.e (.ix (.fd "Sheet" "lines" (.v 0)) (.v 1))) (.nm 2) .no (.un .USub (.v 2)))) (.su (.fd "Sheet" "lines" (.v 0)) (.v 1)))
 (.cons (.as (.b true) (.su (.fd "Sheet" "turned" (.v 0)) (.ix (.fd "Sheet" "sides" (.v 0)) (.v 1))))
 .nil))
def gH:FE:=⟨.m "Sheet" "turn_line" 2,"Sheet.turn_line",fU 22 3,["self","place"],[],3,[],eB⟩
def dk:MC:=(.cons (.rt (.nw false (.lc 2 (.en (.fd "Sheet" "heads" (.v 0))) (.tu 2 (.cons (.nm 1) (.cons (.nm 2) .nil))) (.so (.cmp .NotIn (.v 2) (.fd "Sheet" "nailed" (.v 0)))) (.v 1))))
 .nil)
def fg:FE:=⟨.m "Sheet" "loose_columns" 1,"Sheet.loose_columns",fU 22 5,["self"],[],3,[],dk⟩
def c6:MC:=(.cons (.as (.ix (.fd "Sheet" "lines" (.v 0)) (.v 1)) (.nm 2))
 (.cons (.as (.nw false (.lc 1 (.e (.me "Sheet" "loose_columns" 0 (.v 0) .nil)) (.nm 4) (.so (.cmp .Gt (.ix (.v 2) (.v 4)) (.i 0))) (.v 4))) (.nm 3))
 (.cons (.rt (.mnk (.v 3) (.ix (.fd "Sheet" "heads" (.v 0)) (.v 4))))
 .nil)))
def eG:FE:=⟨.m "Sheet" "raising_column" 2,"Sheet.raising_column",fU 22 6,["self","place","line","found"],[27],6,[⟨109,30,109,63⟩],c6⟩
def dR:MC:=(.cons (.as (.bin .Mult (.ix (.ix (.fd "Sheet" "lines" (.v 0)) (.v 1)) (.un .USub (.i 1))) (.un .USub (.ix (.ix (.fd "Sheet" "lines" (.v 0)) (.v 2)) (.v 3)))) (.nm 4))
 (.cons (.as (.bin .Mult (.ix (.ix (.fd "Sheet" "lines" (.v 0)) (.v 2)) (.un .USub (.i 1))) (.un .USub (.ix (.ix (.fd "Sheet" "lines" (.v 0)) (.v 1)) (.v 3)))) (.nm 5))
 (.cons (.rt (.or (.cmp .Lt (.v 4) (.v 5)) (.an (.cmp .Eq (.v 4) (.v 5)) (.cmp .Lt (.ix (.fd "Sheet" "sides" (.v 0)) (.v 1)) (.ix (.fd "Sheet" "sides" (.v 0)) (.v 2))))))
 .nil)))
def gk:FE:=⟨.m "Sheet" "is_tighter" 4,"Sheet.is_tighter",fU 22 8,["self","one","other","column","ahead","behind"],[],3,[],dR⟩
def c5:MC:=(.cons (.as .n (.nm 2))
 (.cons (.fo (.en (.fd "Sheet" "lines" (.v 0))) (.tu 2 (.cons (.nm 3) (.cons (.nm 4) .nil)))
 (.cons (.iff (.an (.cmp .Lt (.ix (.v 4) (.v 1)) (.i 0)) (.cmp .In (.ix (.fd "Sheet" "sides" (.v 0)) (.v 3)) (.fd "Sheet" "guarded" (.v 0))))
 (.cons (.iff (.or (.cmp .Is (.v 2) .n) (.va (.me "Sheet" "is_tighter" 0 (.v 0) (.cons (.v 3) (.cons (.v 2) (.cons (.v 1) .nil))))))
 (.cons (.as (.v 3) (.nm 2))
 .nil)
 .nil)
 .nil)
 .nil)
 .nil))
 (.cons (.rt (.v 2))
 .nil)))
def eF:FE:=⟨.m "Sheet" "tightest_place" 2,"Sheet.tightest_place",fU 22 9,["self","column","best","place","line"],[29],6,[],c5⟩
def dM:MC:=(.cons (.as (.bin .Mult (.ix (.ix (.fd "Sheet" "lines" (.v 0)) (.v 1)) (.un .USub (.i 1))) (.ix (.ix (.fd "Sheet" "lines" (.v 0)) (.v 2)) (.v 3))) (.nm 4))
 (.cons (.rt (.cmp .LtE (.v 4) (.bin .Mult (.ix (.ix (.fd "Sheet" "lines" (.v 0)) (.v 2)) (.un .USub (.i 1))) (.ix (.ix (.fd "Sheet" "lines" (.v 0)) (.v 1)) (.v 3)))))
 .nil))
def fO:FE:=⟨.m "Sheet" "is_up_first" 4,"Sheet.is_up_first",fU 22 10,["self","place","tight","column","up"],[],3,[],dM⟩
def di:MC:=(.cons (.as (.ix (.v 1) (.v 2)) (.nm 5))
 (.cons (.as (.ix (.v 0) (.v 2)) (.nm 6))
 (.cons (.iff (.cmp .Eq (.v 6) (.i 0))
 (.cons (.rt (.ife (.cmp .Eq (.v 5) (.v 4)) (.v 0) (.nw false (.lc 1 (.e (.v 0)) (.nm 8) .no (.bin .FloorDiv (.bin .Mult (.v 8) (.v 5)) (.v 4))))))
 .nil)
 .nil)
 (.cons (.as (.nw true (.lc 2 (.zi (.v 0) (.v 1)) (.tu 2 (.cons (.nm 8) (.cons (.nm 9) .nil))) .no (.bin .FloorDiv (.bin .Sub (.bin .Mult (.v 8) (.v 5)) (.bin .Mult (.v 6) (.v 9))) (.v 4)))) (.nm 7))
 (.cons (.as (.bin .Mult (.v 3) (.v 6)) (.su (.v 7) (.v 2)))
 (.cons (.rt (.v 7))
 .nil))))))
def jd:FE:=⟨.f "changed_line" 5,"changed_line",top 21,["line","pivot_line","column","sign","below","pivot","factor","changed"],[],3,[],di⟩
def eU:MC:=(.cons (.as (.ife (.cmp .Lt (.ix (.ix (.fd "Sheet" "lines" (.v 0)) (.v 1)) (.v 2)) (.i 0)) (.un .USub (.i 1)) (.i 1)) (.nm 3))
 (.cons (.as (.nw false (.lc 1 (.e (.ix (.fd "Sheet" "lines" (.v 0)) (.v 1))) (.nm 7) .no (.bin .Mult (.v 3) (.v 7)))) (.nm 4))
 (.cons (.as (.fd "Sheet" "below" (.v 0)) (.nm 5))
 (.cons (.fl "Sheet" "lines" (.v 0) (.nw true (.lc 1 (.e (.fd "Sheet" "lines" (.v 0))) (.nm 7) .no (.ca true 0 (.cons (.v 7) (.cons (.v 4) (.cons (.v 2) (.cons (.v 3) (.cons (.v 5) .nil)))))))))
 (.cons (.as (.nw true (.lc 1 (.e (.v 4)) (.nm 7) .no (.un .USub (.v 7)))) (.su (.fd "Sheet" "lines" (.v 0)) (.v 1)))
 (.cons (.as (.bin .Mult (.v 3) (.v 5)) (.su (.ix (.fd "Sheet" "lines" (.v 0)) (.v 1)) (.v 2)))
 (.cons (.fl "Sheet" "below" (.v 0) (.ix (.v 4) (.v 2)))
 (.cons (.as (.ix (.fd "Sheet" "sides" (.v 0)) (.v 1)) (.nm 6))
 (.cons (.as (.ix (.fd "Sheet" "heads" (.v 0)) (.v 2)) (.su (.fd "Sheet" "sides" (.v 0)) (.v 1)))
 (.cons (.as (.v 6) (.su (.fd "Sheet" "heads" (.v 0)) (.v 2)))
 .nil))))))))))
def hZ:FE:=⟨.m "Sheet" "exchange" 3,"Sheet.exchange",fU 22 4,["self","place","column","sign","pivot_line","below","freed"],[32],6,[],eU⟩
def fK:MC:=(.cons (.wh (.cmp .Lt (.ix (.ix (.fd "Sheet" "lines" (.v 0)) (.v 1)) (.un .USub (.i 1))) (.i 0))
 (.cons (.as (.me "Sheet" "raising_column" 0 (.v 0) (.cons (.v 1) .nil)) (.nm 2))
 (.cons (.iff (.cmp .Is (.v 2) .n)
 (.cons (.rt (.b false))
 .nil)
 .nil)
 (.cons (.as (.me "Sheet" "tightest_place" 1 (.v 0) (.cons (.v 2) .nil)) (.nm 3))
 (.cons (.iff (.or (.cmp .Is (.v 3) .n) (.va (.me "Sheet" "is_up_first" 2 (.v 0) (.cons (.v 1) (.cons (.v 3) (.cons (.v 2) .nil))))))
 (.cons (.ex (.me "Sheet" "exchange" 3 (.v 0) (.cons (.v 1) (.cons (.v 2) .nil))))
 (.cons (.rt (.b true))
 .nil))
 .nil)
 (.cons (.ex (.me "Sheet" "exchange" 3 (.v 0) (.cons (.v 3) (.cons (.v 2) .nil))))
 .nil))))))
 (.cons (.rt (.b true))
 .nil))
def kn:FE:=⟨.m "Sheet" "lift" 2,"Sheet.lift",fU 22 11,["self","place","column","tight"],[28,30,31,33],9,[],fK⟩
def dj:MC:=(.cons (.as (.ix (.fd "Sheet" "lines" (.v 0)) (.v 1)) (.nm 2))
 (.cons (.rt (.mnd (.nw false (.lc 1 (.e (.me "Sheet" "loose_columns" 0 (.v 0) .nil)) (.nm 3) (.so (.cmp .NotEq (.ix (.v 2) (.v 3)) (.i 0))) (.v 3)))))
 .nil))
def ff:FE:=⟨.m "Sheet" "moving_column" 2,"Sheet.moving_column",fU 22 7,["self","place","line"],[27],6,[],dj⟩
def ie:MC:=(.cons (.as (.b true) (.su (.fd "Sheet" "nailed" (.v 0)) (.v 1)))
 .nil)
def km:FE:=⟨.m "Sheet" "nail" 2,"Sheet.nail",fU 22 2,["self","quantity"],[],3,[],ie⟩
def iP:MC:=(.cons (.as (.ix (.fd "Sheet" "sides" (.v 0)) (.v 1)) (.nm 2))
 (.cons (.iff (.cmp .Gt (.ix (.ix (.fd "Sheet" "lines" (.v 0)) (.v 1)) (.un .USub (.i 1))) (.i 0))
 (.cons (.ex (.me "Sheet" "turn_line" 0 (.v 0) (.cons (.v 1) .nil)))
 .nil)
 .nil)
 (.cons (.iff (.cmp .Lt (.ix (.ix (.fd "Sheet" "lines" (.v 0)) (.v 1)) (.un .USub (.i 1))) (.i 0))
 (.cons (.iff (.no (.va (.me "Sheet" "lift" 1 (.v 0) (.cons (.v 1) .nil))))
 (.cons (.rt (.b false))
 .nil)
 .nil)
 .nil)
 (.cons (.as (.me "Sheet" "moving_column" 2 (.v 0) (.cons (.v 1) .nil)) (.nm 3))
 (.cons (.iff (.cmp .IsNot (.v 3) .n)
 (.cons (.ex (.me "Sheet" "exchange" 3 (.v 0) (.cons (.v 1) (.cons (.v 3) .nil))))
 .nil)
 .nil)
 .nil)))
 (.cons (.ex (.me "Sheet" "nail" 4 (.v 0) (.cons (.v 2) .nil)))
 (.cons (.rt (.b true))
 .nil)))))
def lx:FE:=⟨.f "keep_just" 2,"keep_just",top 35,["sheet","place","quantity","column"],[26,34,35,33,36],12,[],iP⟩
def dY:MC:=(.cons (.as (.ix (.fd "Sheet" "sides" (.v 0)) (.v 1)) (.nm 2))
 (.cons (.iff (.no (.va (.me "Sheet" "lift" 0 (.v 0) (.cons (.v 1) .nil))))
 (.cons (.rt (.b false))
 .nil)
 .nil)
 (.cons (.ex (.me "Sheet" "guard" 1 (.v 0) (.cons (.v 2) .nil)))
 (.cons (.rt (.b true))
 .nil))))
def jb:FE:=⟨.f "keep_no_less" 2,"keep_no_less",top 36,["sheet","place","quantity"],[34,24],12,[],dY⟩
def ny:MC:=(.cons (.rt (.nw false (.lc 1 (.r1 (.v 0)) (.nm 2) (.so (.cmp .NotEq (.bin .BitAnd (.v 1) (.bin .LShift (.i 1) (.v 2))) (.i 0))) (.v 2))))
 .nil)
def m8:FE:=⟨.f "names_in" 2,"names_in",top 24,["n","group"],[],3,[],ny⟩
def lE:MC:=(.cons (.rt (.tu (.cons (.s "pair") (.cons (.bi .min (.cons (.v 0) (.cons (.v 1) .nil))) (.cons (.bi .max (.cons (.v 0) (.cons (.v 1) .nil))) (.cons (.v 2) .nil))))))
 .nil)
def lv:FE:=⟨.f "pair_rule" 3,"pair_rule",top 25,["one","other","known"],[],3,[],lE⟩
def iG:MC:=(.cons (.as (.nw true (.li .nil)) (.nm 3))
 (.cons (.fo (.e (.ca true 0 (.cons (.v 0) (.cons (.un .Invert (.bin .BitOr (.v 2) (.bin .LShift (.i 1) (.v 1)))) .nil)))) (.nm 4)
 (.cons (.ex (.mt .app (.v 3) (.cons (.ca true 1 (.cons (.v 1) (.cons (.v 4) (.cons (.v 2) .nil)))) .nil)))
 (.cons (.as (.bin .BitOr (.v 2) (.bin .LShift (.i 1) (.v 4))) (.nm 2))
 .nil)))
 (.cons (.ex (.mt .app (.v 3) (.cons (.tu (.cons (.s "last") (.cons (.v 1) .nil))) .nil)))
 (.cons (.rt (.v 3))
 .nil))))
def iw:FE:=⟨.f "rules_of_name" 3,"rules_of_name",top 26,["n","k","known","used","j"],[39,40],6,[],iG⟩
def iF:MC:=(.cons (.as (.nw true (.li .nil)) (.nm 3))
 (.cons (.as (.v 2) (.nm 4))
 (.cons (.fo (.e (.ca true 0 (.cons (.v 0) (.cons (.bin .BitAnd (.v 1) (.un .Invert (.v 2))) .nil)))) (.nm 5)
 (.cons (.ex (.mt .ext (.v 3) (.cons (.ca true 1 (.cons (.v 0) (.cons (.v 5) (.cons (.v 4) .nil)))) .nil)))
 (.cons (.as (.bin .BitOr (.v 4) (.bin .LShift (.i 1) (.v 5))) (.nm 4))
 .nil)))
 (.cons (.rt (.v 3))
 .nil))))
def iu:FE:=⟨.f "rules_of_rest" 3,"rules_of_rest",top 27,["n","a","b","used","known","k"],[39,41],9,[],iF⟩
def lF:MC:=(.cons (.rt (.nw false (.lc 1 (.e (.ca true 0 (.cons (.v 0) .nil))) (.nm 2) .no (.mt .cnt (.v 1) (.cons (.v 2) .nil)))))
 .nil)
def ly:FE:=⟨.f "how_often" 2,"how_often",top 28,["n","used"],[20],12,[],lF⟩
def d9:MC:=(.cons (.as (.nw true (.rep (.cons (.i 0) .nil) (.bin .Add (.bi .len (.cons (.fd "Sheet" "heads" (.v 1)) .nil)) (.bi .len (.cons (.fd "Sheet" "sides" (.v 1)) .nil))))) (.nm 3))
 (.cons (.fo (.en (.fd "Sheet" "heads" (.v 1))) (.tu 2 (.cons (.nm 4) (.cons (.nm 5) .nil)))
 (.cons (.as (.un .USub (.ix (.ix (.fd "Sheet" "lines" (.v 1)) (.v 2)) (.v 4))) (.su (.v 3) (.v 5)))
 .nil))
 (.cons (.as (.fd "Sheet" "below" (.v 1)) (.su (.v 3) (.ix (.fd "Sheet" "sides" (.v 1)) (.v 2))))
 (.cons (.fd (.fd "Sheet" "turned" (.v 1)) (.nm 5)
 (.cons (.as (.un .USub (.ix (.v 3) (.v 5))) (.su (.v 3) (.v 5)))
 .nil))
 (.cons (.as (.nw true (.sl (.v 3) (.so (.ca true 0 (.cons (.v 0) .nil))) (.so (.un .USub (.i 1))))) (.nm 6))
 (.cons (.fo (.r2 (.i 1) (.bin .Add (.ca true 0 (.cons (.v 0) .nil)) (.i 1))) (.nm 7)
 (.cons (.as (.ix (.v 3) (.bin .Sub (.v 7) (.i 1))) (.nm 8))
 (.cons (.iff (.cmp .NotEq (.v 8) (.i 0))
 (.cons (.fo (.en (.ca true 2 (.cons (.v 0) (.cons (.ca true 1 (.cons (.v 0) (.cons (.v 7) (.cons (.i 0) .nil)))) .nil)))) (.tu 2 (.cons (.nm 9) (.cons (.nm 10) .nil)))
 (.cons (.aus .Add (.v 6) (.v 9) (.bin .Mult (.v 8) (.v 10)))
 .nil))
 .nil)
 .nil)
 .nil)))
 (.cons (.rt (.v 6))
 .nil)))))))
def gD:FE:=⟨.f "weights_by_line" 3,"weights_by_line",top 37,["n","sheet","place","taken","column","quantity","weights","group","often","rule","count"],[6,42,43],15,[],d9⟩
def dE:MC:=(.cons (.as (.i 0) (.nm 1))
 (.cons (.fo (.e (.v 0)) (.nm 2)
 (.cons (.as (.bi .abs (.cons (.v 2) .nil)) (.nm 3))
 (.cons (.wh (.cmp .NotEq (.v 3) (.i 0))
 (.cons (.as (.bin .Mod (.v 1) (.v 3)) (.nm 4))
 (.cons (.as (.v 3) (.nm 1))
 (.cons (.as (.v 4) (.nm 3))
 .nil))))
 (.cons (.iff (.cmp .Eq (.v 1) (.i 1))
 (.cons (.rt (.i 1))
 .nil)
 .nil)
 .nil))))
 (.cons (.rt (.v 1))
 .nil)))
def hV:FE:=⟨.f "common_divisor" 1,"common_divisor",top 30,["numbers","divisor","number","other","left"],[],3,[],dE⟩
def c9:MC:=(.cons (.as (.ca true 0 (.cons (.v 0) .nil)) (.nm 1))
 (.cons (.iff (.cmp .Eq (.v 1) (.i 0))
 (.cons (.rt (.nw false (.lof (.v 0))))
 .nil)
 .nil)
 (.cons (.rt (.nw false (.lc 1 (.e (.v 0)) (.nm 2) .no (.bin .FloorDiv (.v 2) (.v 1)))))
 .nil)))
def gG:FE:=⟨.f "in_lowest_terms" 1,"in_lowest_terms",top 31,["numbers","divisor"],[45],6,[],c9⟩
def eV:MC:=(.cons (.as (.me "Sheet" "raising_column" 0 (.v 0) (.cons (.v 1) .nil)) (.nm 2))
 (.cons (.wh (.cmp .IsNot (.v 2) .n)
 (.cons (.as (.me "Sheet" "tightest_place" 1 (.v 0) (.cons (.v 2) .nil)) (.nm 3))
 (.cons (.iff (.cmp .Is (.v 3) .n)
 (.cons (.rt (.v 2))
 .nil)
 .nil)
 (.cons (.ex (.me "Sheet" "exchange" 2 (.v 0) (.cons (.v 3) (.cons (.v 2) .nil))))
 (.cons (.as (.me "Sheet" "raising_column" 0 (.v 0) (.cons (.v 1) .nil)) (.nm 2))
 .nil)))))
 (.cons (.rt .n)
 .nil)))
def ia:FE:=⟨.m "Sheet" "drive_up" 2,"Sheet.drive_up",fU 22 12,["self","place","column","tight"],[28,30,33],9,[],eV⟩
def er:MC:=(.cons (.as (.ca true 0 (.cons (.nw false (.li (.cons (.v 0) (.cons (.v 1) .nil)))) .nil)) (.nm 2))
 (.cons (.rt (.tu (.cons (.ix (.v 2) (.i 0)) (.cons (.ix (.v 2) (.i 1)) .nil))))
 .nil))
def gE:FE:=⟨.f "lowest_fraction" 2,"lowest_fraction",top 32,["top","bottom","numbers"],[46],9,[],er⟩
def dQ:MC:=(.cons (.as (.nw true (.rep (.cons (.i 0) .nil) (.ca true 0 (.cons (.v 0) .nil)))) (.nm 3))
 (.cons (.fo (.en (.fd "Sheet" "sides" (.v 1))) (.tu 2 (.cons (.nm 4) (.cons (.nm 5) .nil)))
 (.cons (.iff (.cmp .Lt (.v 5) (.bi .len (.cons (.v 3) .nil)))
 (.cons (.as (.ix (.ix (.fd "Sheet" "lines" (.v 1)) (.v 4)) (.v 2)) (.su (.v 3) (.v 5)))
 .nil)
 .nil)
 .nil))
 (.cons (.rt (.v 3))
 .nil)))
def gj:FE:=⟨.f "groups_in_column" 3,"groups_in_column",top 38,["n","sheet","column","found","place","quantity"],[6],6,[],dQ⟩
def fV:MC:=(.cons (.as (.ca true 0 (.cons (.nw false (.cat (.v 0) (.nw false (.li (.cons (.v 1) .nil))))) .nil)) (.nm 2))
 (.cons (.rt (.tu (.cons (.nw false (.sl (.v 2) .no (.so (.un .USub (.i 1))))) (.cons (.ix (.v 2) (.un .USub (.i 1))) .nil))))
 .nil))
def ja:FE:=⟨.f "lowest_table" 2,"lowest_table",top 33,["numbers","below","found"],[46],9,[],fV⟩
def eR:MC:=(.cons (.rt (.ca true 1 (.cons (.ca false 0 (.cons (.v 0) (.cons (.v 1) (.cons (.un .USub (.i 1)) .nil)))) (.cons (.fd "Sheet" "below" (.v 1)) .nil))))
 .nil)
def hG:FE:=⟨.f "table_of_sheet" 2,"table_of_sheet",top 39,["n","sheet"],[49,50],12,[],eR⟩
def eS:MC:=(.cons (.as (.ca true 0 (.cons (.un .USub (.ix (.ix (.fd "Sheet" "lines" (.v 1)) (.v 2)) (.un .USub (.i 1)))) (.cons (.fd "Sheet" "below" (.v 1)) .nil))) (.nm 3))
 (.cons (.as (.ca true 2 (.cons (.nw false (.cat (.ca false 1 (.cons (.v 0) (.cons (.v 1) (.cons (.v 2) .nil)))) (.nw false (.li (.cons (.fd "Sheet" "below" (.v 1)) .nil))))) .nil)) (.nm 4))
 (.cons (.rt (.tu (.cons (.s "least") (.cons (.v 3) (.cons (.ca false 3 (.cons (.v 0) (.cons (.v 1) .nil))) (.cons (.ix (.v 4) (.un .USub (.i 1))) (.cons (.nw false (.sl (.v 4) .no (.so (.un .USub (.i 1))))) .nil)))))))
 .nil)))
def hU:FE:=⟨.f "least_of_sheet" 3,"least_of_sheet",top 41,["n","sheet","place","least","weights"],[48,44,46,51],18,[],eS⟩
def fZ:MC:=(.cons (.as (.ca false 0 (.cons (.v 0) (.cons (.v 1) (.cons (.v 2) .nil)))) (.nm 3))
 (.cons (.iff (.cmp .Lt (.ix (.fd "Sheet" "heads" (.v 1)) (.v 2)) (.bi .len (.cons (.v 3) .nil)))
 (.cons (.as (.fd "Sheet" "below" (.v 1)) (.su (.v 3) (.ix (.fd "Sheet" "heads" (.v 1)) (.v 2))))
 .nil)
 .nil)
 (.cons (.rt (.ca true 1 (.cons (.v 3) .nil)))
 .nil)))
def lr:FE:=⟨.f "way_along" 3,"way_along",top 40,["n","sheet","column","way"],[49,46],9,[],fZ⟩
def l7:MC:=(.cons (.as (.ca false 0 (.cons (.v 0) (.cons (.v 1) (.cons (.v 2) .nil)))) (.nm 3))
 (.cons (.as (.bin .Sub (.bi .len (.cons (.fd "Sheet" "lines" (.v 3)) .nil)) (.i 1)) (.nm 4))
 (.cons (.fo (.es (.v 1) (.bin .Sub (.v 4) (.bi .len (.cons (.v 1) .nil)))) (.tu 2 (.cons (.nm 5) (.cons (.nm 6) .nil)))
 (.cons (.as (.ife (.cmp .Eq (.ix (.v 6) (.i 1)) (.s "=")) (.ca false 1 (.cons (.v 3) (.cons (.v 5) .nil))) (.ca false 2 (.cons (.v 3) (.cons (.v 5) .nil)))) (.nm 7))
 (.cons (.iff (.no (.va (.v 7)))
 (.cons (.rt (.tu (.cons (.s "never") (.cons (.ca true 4 (.cons (.ca false 3 (.cons (.v 0) (.cons (.v 3) (.cons (.v 5) .nil)))) .nil)) .nil))))
 .nil)
 .nil)
 .nil)))
 (.cons (.as (.me "Sheet" "drive_up" 5 (.v 3) (.cons (.v 4) .nil)) (.nm 8))
 (.cons (.iff (.cmp .Is (.v 8) .n)
 (.cons (.rt (.ca false 6 (.cons (.v 0) (.cons (.v 3) (.cons (.v 4) .nil)))))
 .nil)
 .nil)
 (.cons (.rt (.tu (.cons (.s "endless") (.cons (.ca false 7 (.cons (.v 0) (.cons (.v 3) .nil))) (.cons (.ca false 8 (.cons (.v 0) (.cons (.v 3) (.cons (.v 8) .nil)))) .nil)))))
 .nil))))))
def qD:FE:=⟨.f "answer" 3,"answer",top 42,["n","givens","goal","sheet","last","place","given","kept","column"],[25,37,38,44,46,47,52,51,53],21,[],l7⟩
def gy:MC:=(.cons (.as (.ca true 0 (.cons (.v 0) (.cons (.nw false (.lc 1 (.r2 (.i 1) (.v 0)) (.nm 3) .no (.tu (.cons (.bin .LShift (.i 1) (.v 3)) (.cons (.i 1) .nil))))) .nil))) (.nm 2))
 (.cons (.rt (.ca true 2 (.cons (.v 0) (.cons (.ca true 1 (.cons (.v 0) (.cons (.v 1) .nil))) (.cons (.v 2) .nil)))))
 .nil))
def jK:FE:=⟨.f "lock_answer" 2,"lock_answer",top 51,["n","openers","keys_alone"],[7,18,54],24,[],gy⟩
def n9:MC:=(.cons (.rt (.bi .sum (.cons (.nw false (.lc 2 (.zi (.v 0) (.v 1)) (.tu 2 (.cons (.nm 2) (.cons (.nm 3) .nil))) .no (.bin .Mult (.v 2) (.v 3)))) .nil)))
 .nil)
def sK:FE:=⟨.f "value" 2,"value",top 14,["row","table"],[],3,[],n9⟩
def eA:MC:=(.cons (.as (.ca true 1 (.cons (.ca true 0 (.cons (.v 0) (.cons (.g "LOCK" (.int 1)) (.cons (.v 3) (.cons (.i 0) .nil))))) (.cons (.v 2) .nil))) (.nm 4))
 (.cons (.rt (.cmp .Eq (.v 4) (.ife (.va (.ca true 2 (.cons (.v 1) (.cons (.v 3) .nil)))) (.ix (.v 2) (.bin .Sub (.g "LOCK" (.int 1)) (.i 1))) (.i 0))))
 .nil))
def gF:FE:=⟨.f "is_told_rightly" 4,"is_told_rightly",top 52,["n","openers","table","group","told"],[16,56,9],12,[],eA⟩
def iO:MC:=(.cons (.rt (.nw false (.lc 1 (.e (.ca true 0 (.cons (.v 0) .nil))) (.nm 3) (.so (.no (.va (.ca true 1 (.cons (.v 0) (.cons (.v 1) (.cons (.v 2) (.cons (.v 3) .nil)))))))) (.v 3))))
 .nil)
def lw:FE:=⟨.f "lock_told" 3,"lock_told",top 53,["n","openers","table"],[8,57],15,[],iO⟩
def fH:MC:=(.cons (.as (.nw true (.li .nil)) (.nm 3))
 (.cons (.fo (.r3 (.i 0) (.bin .LShift (.i 1) (.v 0)) (.i 2)) (.nm 4)
 (.cons (.as (.i 0) (.nm 5))
 (.cons (.iff (.cmp .Gt (.v 4) (.i 0))
 (.cons (.as (.bin .Sub (.bin .Add (.ix (.v 2) (.i 0)) (.ix (.v 2) (.bin .Sub (.v 4) (.i 1)))) (.ix (.v 2) (.bin .Sub (.bin .BitOr (.v 4) (.i 1)) (.i 1)))) (.nm 5))
 .nil)
 .nil)
 (.cons (.as (.i 0) (.nm 6))
 (.cons (.iff (.cmp .NotEq (.nw false (.lc 1 (.e (.v 1)) (.nm 7) (.so (.cmp .Eq (.bin .BitOr (.v 7) (.v 4)) (.v 4))) (.v 7))) (.nw false (.li .nil)))
 (.cons (.as (.ix (.v 2) (.i 0)) (.nm 6))
 .nil)
 .nil)
 (.cons (.iff (.cmp .NotEq (.v 5) (.v 6))
 (.cons (.ex (.mt .app (.v 3) (.cons (.v 4) .nil)))
 .nil)
 .nil)
 .nil))))))
 (.cons (.rt (.v 3))
 .nil)))
def kg:FE:=⟨.f "_law_wrong" 3,"_law_wrong",top 61,["_law_n","_law_openers_here","_law_table_here","_law_found","_law_group","_law_share","_law_due"],[],3,[],fH⟩
def o8:MC:=(.cons (.as (.ca false 0 (.cons (.v 0) (.cons (.i 1) (.cons (.i 80) .nil)))) (.nm 1))
 (.cons (.as (.bin .Add (.i 2) (.bin .Mod (.ca false 1 (.cons (.v 1) .nil)) (.i 3))) (.nm 2))
 (.cons (.as (.ca false 2 (.cons (.v 2) (.cons (.v 1) .nil))) (.nm 3))
 (.cons (.as (.nw true (.li (.cons (.ca false 3 (.cons (.v 2) (.cons (.v 1) .nil))) (.cons (.nw false (.lc 1 (.r1 (.bin .Sub (.bin .LShift (.i 1) (.v 2)) (.i 1))) (.nm 11) .no (.bi .min (.cons (.bin .Sub (.v 2) (.i 1)) (.cons (.ca true 4 (.cons (.bin .Add (.v 11) (.i 1)) .nil)) .nil))))) .nil)))) (.nm 4))
 (.cons (.as (.ca true 5 (.cons (.v 2) (.cons (.v 3) .nil))) (.nm 5))
 (.cons (.iff (.cmp .Eq (.ix (.v 5) (.i 0)) (.s "least"))
 (.cons (.ex (.mt .app (.v 4) (.cons (.ix (.ix (.v 5) (.i 2)) (.i 0)) .nil)))
 (.cons (.iff (.cmp .NotEq (.ca true 6 (.cons (.v 2) (.cons (.v 3) (.cons (.ix (.ix (.v 5) (.i 2)) (.i 0)) .nil)))) (.nw false (.li .nil)))
 (.cons (.rt (.b false))
 .nil)
 .nil)
 .nil))
 .nil)
 (.cons (.as (.nw true (.lof (.ix (.v 4) (.bin .Mod (.ca false 1 (.cons (.v 1) .nil)) (.bi .len (.cons (.v 4) .nil)))))) (.nm 6))
 (.cons (.as (.bin .Mod (.ca false 1 (.cons (.v 1) .nil)) (.bi .len (.cons (.v 6) .nil))) (.nm 7))
 (.cons (.as (.bin .Add (.ix (.v 6) (.v 7)) (.ix (.nw false (.li (.cons (.i 1) (.cons (.un .USub (.i 1)) (.cons (.i 5) .nil))))) (.bin .Mod (.ca false 1 (.cons (.v 1) .nil)) (.i 3)))) (.su (.v 6) (.v 7)))
 (.cons (.fo (.e (.nw true (.cat (.v 4) (.nw true (.li (.cons (.v 6) .nil)))))) (.nm 8)
 (.cons (.as (.nw false (.lof (.v 8))) (.nm 9))
 (.cons (.as (.ca true 6 (.cons (.v 2) (.cons (.v 3) (.cons (.v 8) .nil)))) (.nm 10))
 (.cons (.iff (.or (.cmp .NotEq (.bi .str (.cons (.v 10) .nil)) (.bi .str (.cons (.ca true 7 (.cons (.v 2) (.cons (.v 3) (.cons (.v 8) .nil)))) .nil))) (.cmp .NotEq (.v 8) (.v 9)))
 (.cons (.rt (.b false))
 .nil)
 .nil)
 .nil))))
 (.cons (.rt (.b true))
 .nil)))))))))))
def e_law:FE:=⟨.f "law" 1,"law",top 62,["_law_script","_law_draws_here","_law_n","_law_openers_here","_law_tables","_law_told","_law_table_here","_law_at","_law_some","_law_kept","_law_found"],[1,2,3,5,4,55,58,59],27,[],o8⟩
noncomputable def gs:List (Str × AV):=[("LOCK",.int 1),("MOST_NAMES",.int 4)]
noncomputable def cl:List (Str × List Str):=[("Sheet",["below","guarded","heads","lines","nailed","sides","turned"])]
noncomputable def pre:List FE:=[nh,ki,m9,je,lA,kh,lz,i9,kb,sN,jN,jM,jL,m6,sL,jc,ka,qC,jJ,gi,sM,mZ,lu,ib,jO,iy,gH,fg,eG,gk,eF,fO,jd,hZ,kn,ff,km,lx,jb,m8,lv,iw,iu,ly,gD,hV,gG,ia,gE,gj,ja,hG,hU,lr,qD,jK,sK,gF,lw,kg]
theorem Cd:kq gs cl [] pre=true:=by decide +kernel
theorem Ce:e_law.chk gs cl pre=true:=by decide +kernel
instance:My:=⟨[(196,⟨109,30,109,63⟩,("Sheet.raising_column":Str)++".<locals>."++"<lambda>")]⟩
theorem Do {K:Frag}{h:Heap}{mg:Str->Option Value} (X:K.In h) (G:h.Ns mainGlobals mg) (MG:nA K "Sheet") (NM:FactN K "Sheet") (NE:FactF K "_law_mix" nh) (Nl:FactF K "_law_draws" ki) (ND:FactF K "_law_pop" m9) (M9:FactF K "_law_openers" je) (Nu:FactF K "_law_bits" lA) (Nn:FactF K "_law_table" kh) (Nr:FactF K "all_names" lz) (M8:FactF K "row_of_terms" i9) (Nq:FactF K "key_groups" kb) (NN:FactF K "opens" sN) (Nh:FactF K "check_count" jN) (Nj:FactF K "check_group" jM) (Nd:FactF K "check_known" jL) (NB:FactF K "rest_row" m6) (NJ:FactF K "tells" sL) (M7:FactF K "check_shared" jc) (No:FactF K "shared_row" ka) (NI:FactF K "silent" qC) (Ng:FactF K "lock_givens" jJ) (MR:FactF K "pairs_with_known" gi) (NL:FactF K "rules" sM) (NC:FactF K "rule_row" mZ) (Nv:FactF K "rule_rows" lu) (M1:FactM K "Sheet" "__init__" ib) (Nf:FactM K "Sheet" "guard" jO) (M4:FactF K "opening_sheet" iy) (MW:FactM K "Sheet" "turn_line" gH) (MM:FactM K "Sheet" "loose_columns" fg) (MK:FactM K "Sheet" "raising_column" eG) (MP:FactM K "Sheet" "is_tighter" gk) (MI:FactM K "Sheet" "tightest_place" eF) (MO:FactM K "Sheet" "is_up_first" fO) (Nb:FactF K "changed_line" jd) (MY:FactM K "Sheet" "exchange" hZ) (Nk:FactM K "Sheet" "lift" kn) (ML:FactM K "Sheet" "moving_column" ff) (Np:FactM K "Sheet" "nail" km) (Nw:FactF K "keep_just" lx) (Na:FactF K "keep_no_less" jb) (NG:FactF K "names_in" m8) (Ny:FactF K "pair_rule" lv) (M5:FactF K "rules_of_name" iw) (M3:FactF K "rules_of_rest" iu) (Nz:FactF K "how_often" ly) (MT:FactF K "weights_by_line" gD) (MZ:FactF K "common_divisor" hV) (MU:FactF K "in_lowest_terms" gG) (M2:FactM K "Sheet" "drive_up" ia) (MV:FactF K "lowest_fraction" gE) (MQ:FactF K "groups_in_column" gj) (Nc:FactF K "lowest_table" ja) (MX:FactF K "table_of_sheet" hG) (M0:FactF K "least_of_sheet" hU) (Nt:FactF K "way_along" lr) (NH:FactF K "answer" qD) (Ni:FactF K "lock_answer" jK) (NK:FactF K "value" sK) (MS:FactF K "is_told_rightly" gF) (NA:FactF K "lock_told" lw) (Nm:FactF K "_law_wrong" kg):∀ base:Heap,K.In base->ig mg base->∀ e ∈ pre,e.ok K mg base:=by
 intro base B hb e he;simp only [pre,zT,zX,or_false] at he;rcases he with rfl | rfl | rfl | rfl | rfl | rfl | rfl | rfl | rfl | rfl | rfl | rfl | rfl | rfl | rfl | rfl | rfl | rfl | rfl | rfl | rfl | rfl | rfl | rfl | rfl | rfl | rfl | rfl | rfl | rfl | rfl | rfl | rfl | rfl | rfl | rfl | rfl | rfl | rfl | rfl | rfl | rfl | rfl | rfl | rfl | rfl | rfl | rfl | rfl | rfl | rfl | rfl | rfl | rfl | rfl | rfl | rfl | rfl | rfl | rfl
 ·exact FactF.ok rfl NE X G B hb
 ·exact FactF.ok rfl Nl X G B hb
 ·exact FactF.ok rfl ND X G B hb
 ·exact FactF.ok rfl M9 X G B hb
 ·exact FactF.ok rfl Nu X G B hb
 ·exact FactF.ok rfl Nn X G B hb
 ·exact FactF.ok rfl Nr X G B hb
 ·exact FactF.ok rfl M8 X G B hb
 ·exact FactF.ok rfl Nq X G B hb
 ·exact FactF.ok rfl NN X G B hb
 ·exact FactF.ok rfl Nh X G B hb
 ·exact FactF.ok rfl Nj X G B hb
 ·exact FactF.ok rfl Nd X G B hb
 ·exact FactF.ok rfl NB X G B hb
 ·exact FactF.ok rfl NJ X G B hb
 ·exact FactF.ok rfl M7 X G B hb
 ·exact FactF.ok rfl No X G B hb
 ·exact FactF.ok rfl NI X G B hb
 ·exact FactF.ok rfl Ng X G B hb
 ·exact FactF.ok rfl MR X G B hb
 ·exact FactF.ok rfl NL X G B hb
 ·exact FactF.ok rfl NC X G B hb
 ·exact FactF.ok rfl Nv X G B hb
 ·exact FactN.ok rfl M1 NM X G B hb
 ·exact FactM.ok rfl Nf MG X G B hb
 ·exact FactF.ok rfl M4 X G B hb
 ·exact FactM.ok rfl MW MG X G B hb
 ·exact FactM.ok rfl MM MG X G B hb
 ·exact FactM.ok rfl MK MG X G B hb
 ·exact FactM.ok rfl MP MG X G B hb
 ·exact FactM.ok rfl MI MG X G B hb
 ·exact FactM.ok rfl MO MG X G B hb
 ·exact FactF.ok rfl Nb X G B hb
 ·exact FactM.ok rfl MY MG X G B hb
 ·exact FactM.ok rfl Nk MG X G B hb
 ·exact FactM.ok rfl ML MG X G B hb
 ·exact FactM.ok rfl Np MG X G B hb
 ·exact FactF.ok rfl Nw X G B hb
 ·exact FactF.ok rfl Na X G B hb
 ·exact FactF.ok rfl NG X G B hb
 ·exact FactF.ok rfl Ny X G B hb
 ·exact FactF.ok rfl M5 X G B hb
 ·exact FactF.ok rfl M3 X G B hb
 ·exact FactF.ok rfl Nz X G B hb
 ·exact FactF.ok rfl MT X G B hb
 ·exact FactF.ok rfl MZ X G B hb
 ·exact FactF.ok rfl MU X G B hb
 ·exact FactM.ok rfl M2 MG X G B hb
 ·exact FactF.ok rfl MV X G B hb
 ·exact FactF.ok rfl MQ X G B hb
 ·exact FactF.ok rfl Nc X G B hb
 ·exact FactF.ok rfl MX X G B hb
 ·exact FactF.ok rfl M0 X G B hb
 ·exact FactF.ok rfl Nt X G B hb
 ·exact FactF.ok rfl NH X G B hb
 ·exact FactF.ok rfl Ni X G B hb
 ·exact FactF.ok rfl NK X G B hb
 ·exact FactF.ok rfl MS X G B hb
 ·exact FactF.ok rfl NA X G B hb
 ·exact FactF.ok rfl Nm X G B hb
def cp:Fn:=run 3 (ak [] jB)
def dy:Fn:=run 9 (ak [cp] ic)
def aH:Fn:=run 1 (ak [] jA)
def cj:Fn:=run 5 (ak [aH] dZ)
def aQ:Fn:=run 1 (ak [] lI)
def cT:Fn:=run 10 (ak [aH,aQ] fJ)
def ah:Fn:=run 1 (ak [] lG)
def bI:Fn:=run 5 (ak [ah] jg)
def cS:Fn:=run 1 (ak [ah] kz)
def gX:Fn:=run 2 (ak [] oa)
def eM:Fn:=run 1 (ak [] jR)
def dH:Fn:=run 2 (ak [ah] jQ)
def eK:Fn:=run 2 (ak [dH] jP)
def gR:Fn:=run 3 (ak [bI] nv)
def k4:Fn:=run 3 (ak [eM,eK,dH,gR] sQ)
def fX:Fn:=run 4 (ak [eM,dH,eK] jh)
def du:Fn:=run 4 (ak [bI] kx)
def jD:Fn:=run 4 (ak [fX,du] qQ)
def cC:Fn:=run 4 (ak [bI,cS,gX,k4,jD] gx)
def dS:Fn:=run 4 (ak [ah] gq)
def k6:Fn:=run 4 (ak [dS] sR)
def jE:Fn:=run 3 (ak [ah,gR,du] nq)
def aK:Fn:=run 1 (ak [k6,jE] lD)
def aA:Fn:=run 3 (ak [] eW)
def aI:Fn:=run 2 (ak [] gz)
def bA:Fn:=run 7 (ak [aK,ah,aA,aI] fG)
def be:Fn:=run 2 (ak [] eB)
def bB:Fn:=run 1 (ak [] dk)
def ay:Fn:=run 4 (ak [bB] c6)
def bD:Fn:=run 6 (ak [] dR)
def ax:Fn:=run 5 (ak [bD] c5)
def ba:Fn:=run 5 (ak [] dM)
def bj:Fn:=run 8 (ak [] di)
def aw:Fn:=run 7 (ak [bj] eU)
def bC:Fn:=run 4 (ak [ay,ax,ba,aw] fK)
def aL:Fn:=run 3 (ak [bB] dj)
def bY:Fn:=run 2 (ak [] ie)
def bN:Fn:=run 4 (ak [be,bC,aL,aw,bY] iP)
def bh:Fn:=run 3 (ak [bC,aI] dY)
def gT:Fn:=run 2 (ak [] ny)
def iS:Fn:=run 3 (ak [] lE)
def fM:Fn:=run 5 (ak [gT,iS] iG)
def bX:Fn:=run 6 (ak [gT,fM] iF)
def c8:Fn:=run 2 (ak [k6] lF)
def aJ:Fn:=run 11 (ak [ah,bX,c8] d9)
def bR:Fn:=run 5 (ak [] dE)
def ai:Fn:=run 2 (ak [bR] c9)
def bv:Fn:=run 4 (ak [ay,ax,aw] eV)
def b8:Fn:=run 3 (ak [ai] er)
def bU:Fn:=run 6 (ak [ah] dQ)
def cM:Fn:=run 3 (ak [ai] fV)
def aT:Fn:=run 2 (ak [bU,cM] eR)
def bu:Fn:=run 5 (ak [b8,aJ,ai,aT] eS)
def bV:Fn:=run 4 (ak [bU,ai] fZ)
def eY:Fn:=run 9 (ak [bA,bN,bh,aJ,ai,bv,bu,aT,bV] l7)
def cD:Fn:=run 3 (ak [bI,cC,eY] gy)
def jj:Fn:=run 2 (ak [] n9)
def bJ:Fn:=run 5 (ak [du,jj,gX] eA)
def c7:Fn:=run 3 (ak [cS,bJ] iO)
def dw:Fn:=run 7 (ak [] fH)
def nB:Fn:=run 11 (ak [dy,aH,cj,cT,aQ,cD,c7,dw] o8)
def Fs:List Fn:=[cp,dy,aH,cj,aQ,cT,ah,bI,cS,gX,eM,dH,eK,gR,k4,fX,du,jD,cC,dS,k6,jE,aK,aA,aI,bA,be,bB,ay,bD,ax,ba,bj,aw,bC,aL,bY,bN,bh,gT,iS,fM,bX,c8,aJ,bR,ai,bv,b8,bU,cM,aT,bu,bV,eY,cD,jj,bJ,c7,dw]
theorem ae {fs:List Fn}{e:FE}{r:List FE}{F:Fn} (h:e.fn fs=F):iq fs (e::r)=iq (fs++[F]) r:=by rw [<- h];rfl
theorem G7:iq [] pre=Fs:=(ae (F:=cp) rfl).trans <| (ae (F:=dy) rfl).trans <| (ae (F:=aH) rfl).trans <| (ae (F:=cj) rfl).trans <| (ae (F:=aQ) rfl).trans <| (ae (F:=cT) rfl).trans <| (ae (F:=ah) rfl).trans <| (ae (F:=bI) rfl).trans <| (ae (F:=cS) rfl).trans <| (ae (F:=gX) rfl).trans <| (ae (F:=eM) rfl).trans <| (ae (F:=dH) rfl).trans <| (ae (F:=eK) rfl).trans <| (ae (F:=gR) rfl).trans <| (ae (F:=k4) rfl).trans <| (ae (F:=fX) rfl).trans <| (ae (F:=du) rfl).trans <| (ae (F:=jD) rfl).trans <| (ae (F:=cC) rfl).trans <| (ae (F:=dS) rfl).trans <| (ae (F:=k6) rfl).trans <| (ae (F:=jE) rfl).trans <| (ae (F:=aK) rfl).trans <| (ae (F:=aA) rfl).trans <| (ae (F:=aI) rfl).trans <| (ae (F:=bA) rfl).trans <| (ae (F:=be) rfl).trans <| (ae (F:=bB) rfl).trans <| (ae (F:=ay) rfl).trans <| (ae (F:=bD) rfl).trans <| (ae (F:=ax) rfl).trans <| (ae (F:=ba) rfl).trans <| (ae (F:=bj) rfl).trans <| (ae (F:=aw) rfl).trans <| (ae (F:=bC) rfl).trans <| (ae (F:=aL) rfl).trans <| (ae (F:=bY) rfl).trans <| (ae (F:=bN) rfl).trans <| (ae (F:=bh) rfl).trans <| (ae (F:=gT) rfl).trans <| (ae (F:=iS) rfl).trans <| (ae (F:=fM) rfl).trans <| (ae (F:=bX) rfl).trans <| (ae (F:=c8) rfl).trans <| (ae (F:=aJ) rfl).trans <| (ae (F:=bR) rfl).trans <| (ae (F:=ai) rfl).trans <| (ae (F:=bv) rfl).trans <| (ae (F:=b8) rfl).trans <| (ae (F:=bU) rfl).trans <| (ae (F:=cM) rfl).trans <| (ae (F:=aT) rfl).trans <| (ae (F:=bu) rfl).trans <| (ae (F:=bV) rfl).trans <| (ae (F:=eY) rfl).trans <| (ae (F:=cD) rfl).trans <| (ae (F:=jj) rfl).trans <| (ae (F:=bJ) rfl).trans <| (ae (F:=c7) rfl).trans <| (ae (F:=dw) rfl).trans <| rfl
theorem GM:e_law.fn (iq [] pre)=nB:=by rw [G7];rfl
def IJ:Fn:=nB
end LW
namespace LW
open PySem PySem.Spec L2 R
open SX (Sh MD)
def Bd (w m:Nat) (S:Sh):Prop:=S.d.natAbs < 2 ^ 9000/\∀ i,i < m->∀ j,j < w + 1->(S.t i j).natAbs < 2 ^ 9000
section
variable {st:aa}{k a b c g n u w m:Nat}{rows:List AV}{S:Sh}
theorem GW (R:Rep st k a b c g n u rows S) (P:MD w m S) (B:Bd w m S) {i r q:Nat} (hi:i < m) (hr:r < m) (hq:q < w) :
  bD [.ref k,.int i,.int r,.int q] st=some (.bl (decide (S.t i w * - S.t r q < S.t r w * - S.t i q) || (decide (S.t i w * - S.t r q=S.t r w * - S.t i q) && decide (S.s i < S.s r))),st):=by
 have m1:cK (S.t i w) (- S.t r q)=true:=eC (B.2 i hi w oM) (by rw [Int.natAbs_neg];exact B.2 r hr q oM);have m2:cK (S.t r w) (- S.t i q)=true:=eC (B.2 r hr w oM) (by rw [Int.natAbs_neg];exact B.2 i hi q oM);simp [bD,aG,dR,R.ins,R.line P hi,R.line P hr,R.last P hi,R.last P hr,R.cell P hi (show q < w + 1 by omega),R.cell P hr (show q < w + 1 by omega),bO m1,bO m2,R.side P hi,R.side P hr];by_cases h1:S.t i w * -S.t r q < S.t r w * -S.t i q <;> by_cases h2:S.t i w * -S.t r q=S.t r w * -S.t i q <;> simp [h1,h2]
theorem FO (R:Rep st k a b c g n u rows S) (P:MD w m S) (B:Bd w m S) {i r q:Nat} (hi:i < m) (hr:r < m) (hq:q < w) :
  ba [.ref k,.int i,.int r,.int q] st=some (.bl (decide (S.t i w * S.t r q <= S.t r w * S.t i q)),st):=by
 have m1:cK (S.t i w) (S.t r q)=true:=eC (B.2 i hi w oM) (B.2 r hr q oM);have m2:cK (S.t r w) (S.t i q)=true:=eC (B.2 r hr w oM) (B.2 i hi q oM);simp [ba,aG,dM,R.ins,R.line P hi,R.line P hr,R.last P hi,R.last P hr,R.cell P hi (show q < w + 1 by omega),R.cell P hr (show q < w + 1 by omega),bO m1,bO m2]
theorem sk (R:Rep st k a b c g n u rows S) (P:MD w m S) (hw:w <= 100):bB [.ref k] st=some (.fz (nL (bK S)),st):=by
 have he:nL (bK S)=(S.hd.zipIdx.filter fun z=>!decide (z.1 ∈ S.nl)).map fun z=>(AV.int ((z.2:Nat):Int)):=by unfold nL bK;rw [List.map_map];rfl
 have hf:=jn (l:=bK S);rw [he] at hf ⊢;simp [bB,aG,dk,R.ins,i5 R.hb,Hf,bt (show S.hd.length <= 1000 by rw [P.hd];omega)];rw [fb (B:=fun z=>!decide (z.1 ∈ S.nl)) (F:=fun z=>.int ((z.2:Nat):Int)) (fc R.hb) fun z _=>⟨_,rfl,by simp [R.ins,R.nin],fun _=>rfl⟩];simp [hf]
end
end LW
namespace LW
open PySem PySem.Spec L2 R
open SX (Sh MD gI chLine pvl sgn)
theorem uI:((iL l).zip (iL P)).map (fun z=>AV.tup [z.1,z.2])=(l.zip P).map fun z=>.tup [.int z.1,.int z.2]:=by
 unfold iL;rw [List.zip_map,List.map_map];rfl
section
variable {l P:List Int}{q w:Nat}{sg d:Int}
theorem Ah {M:Nat} (h:∀ x ∈ l,x.natAbs < M) (hM:0 < M) (j:Nat):(gI l j).natAbs < M:=by
 unfold gI;rw [zD];cases e:l[j]? with
 | none=>exact hM
 | some x=>exact h x (zW e)
theorem J1 (hl:l.length=w + 1) (hP:P.length=w + 1) (hq:q < w + 1) (hw:w <= 100) (bl:∀ x ∈ l,x.natAbs < 2 ^ 9000) (bP:∀ x ∈ P,x.natAbs < 2 ^ 9000) (hd:d ≠ 0) (bd:d.natAbs < 2 ^ 9000) (bs:sg.natAbs < 2 ^ 9000) :
  ∃ v st',bj [.fz (iL l),.fz (iL P),.int q,.int sg,.int d] []=some (v,st')/\cx st' v=some (.fz (iL (chLine l P q sg d))):=by
 have hM:(0:Nat) < 2 ^ 9000:=Nat.two_pow_pos _;have x1:∀ st:aa,b9 st (.fz (iL P)) (.int (q:Int))=some (.int (gI P q)):=fun st=>by rw [cb eI,bT,bH oM]
 have x2:∀ st:aa,b9 st (.fz (iL l)) (.int (q:Int))=some (.int (gI l q)):=fun st=>by rw [cb eI,bT,bH oM]
 have bp:=Ah bP hM q;have bf:=Ah bl hM q;have dv:=v4 hd bd;unfold chLine;by_cases h1:gI l q=0
 ·by_cases h2:gI P q=d
  ·refine ⟨.fz (iL l),[],?_,by rw [yH h1,yH h2];rfl⟩
   simp [bj,aG,di,x1,x2,h1,h2]
  ·refine ⟨.fz (iL (l.map fun x=>SX.fdvS (x * gI P q) d)),[],?_,by rw [yH h1,yG h2];rfl⟩
   simp [bj,aG,di,x1,x2,h1,h2,bt (show l.length <= 1000 by omega)];rw [jr (F:=fun x=>SX.fdvS (x * gI P q) d) dI fun x hx=>⟨_,rfl,rfl,by simp [bO (eC (bl x hx) bp),jz dv];rfl⟩];simp
 ·refine ⟨.ref 0,[.lst (iL (((l.zip P).map fun z=>SX.fdvS (z.1 * gI P q - gI l q * z.2) d).set q (sg * gI l q)))],?_,by rw [yG h1];exact nM rfl⟩
  have ml:=eC bs bf;have hz:((l.zip P).length) <= 1000:=by rw [List.length_zip];omega
  simp [bj,aG,di,x1,x2,h1,iZ,uI];rw [yH (bt oM),qc (F:=fun z=>SX.fdvS (z.1 * gI P q - gI l q * z.2) d) dI fun z hz=>⟨_,rfl,rfl,by
   have:=List.of_mem_zip hz
   simp [bO (eC (bl _ this.1) bp),bO (eC bf (bP _ this.2)),jz dv];rfl⟩]
  simp [bO ml];rw [cW (xs:=iL ((l.zip P).map fun z=>SX.fdvS (z.1 * gI P q - gI l q * z.2) d)) rfl (by simp;omega),eD];simp
theorem Hg (hx:RowR st x l) (hl:l.length=w + 1) (hP:P.length=w + 1) (hq:q < w + 1) (hw:w <= 100) (bl:∀ x ∈ l,x.natAbs < 2 ^ 9000) (bP:∀ x ∈ P,x.natAbs < 2 ^ 9000) (hd:d ≠ 0) (bd:d.natAbs < 2 ^ 9000) (bs:sg.natAbs < 2 ^ 9000) :
  ∃ st1,pm bj [x,.fz (iL P),.int q,.int sg,.int d] st=some (.fz (iL (chLine l P q sg d)),st1)/\(st1=st\/∃ r,x=.ref r/\st[r]?=some (.lst (iL l))/\st1=st.set r (.al (.fz (iL l)))):=by
 obtain ⟨v,st',e1,e2⟩:=J1 hl hP hq hw bl bP hd bd bs;exact jY (rest:=[.fz (iL P),.int q,.int sg,.int d]) hx (by simp) rfl (fun s=>by simp [i7,eE,rf]) e1 e2 (by simp [cQ])
end
section
variable {st:aa}{k a b c g n u w m:Nat}{rows:List AV}{S:Sh}
theorem Bd.row (B:Bd w m S) (P:MD w m S) {i:Nat} (hi:i < m):∀ x ∈ SX.row S i,x.natAbs < 2 ^ 9000:=fun x hx=>by
 obtain ⟨j,hj⟩:=z7 hx;have hl:=(zB.mp hj).1;rw [P.rl hi] at hl
 have:=B.2 i hi j hl
 have e:S.t i j=x:=by show (SX.row S i).getD j 0=x;rw [zD,hj];rfl
 rw [e] at this;exact this
theorem j9 (R:Rep st k a b c g n u rows S) (P:MD w m S) (B:Bd w m S) (hd:S.d ≠ 0) (hw:w <= 100) (hm:m <= 1000) {p q:Nat} (hp:p < m) (hq:q < w) :
  ∃ st' a' rows',aw [.ref k,.int p,.int q] st=some (.non,st')/\Rep st' k a' b c g n u rows' (SX.MJ S p q):=by
 have rl:rows.length=m:=by rw [R.len,P.ls]
 obtain ⟨sg,hsg⟩:∃ x,x=sgn (S.t p q):=⟨_,rfl⟩;obtain ⟨pl,hpl⟩:∃ x,x=pvl S p q:=⟨_,rfl⟩;have hpl':pl=(SX.row S p).map fun x=>sg * x:=by rw [hpl,hsg];rfl
 have lp:pl.length=w + 1:=by rw [hpl',zH];exact P.rl hp
 have sa:sg.natAbs=1:=by rw [hsg];unfold sgn;split <;> rfl
 have bs:sg.natAbs < 2 ^ 9000:=by rw [sa];exact Nat.one_lt_two_pow oM
 have bP:∀ x ∈ pl,x.natAbs < 2 ^ 9000:=fun x hx=>by
  rw [hpl'] at hx;obtain ⟨y,hy,rfl⟩:=yC.mp hx;rw [Int.natAbs_mul,sa,Nat.one_mul];exact B.row P hp y hy
 have s1:∃ st1,gC [(a,.lst rows)] (bW [bj] (.nm 7)) (jI [bj] .no) (ev [bj] (.ca true 0 (.cons (.v 7) (.cons (.v 4) (.cons (.v 2) (.cons (.v 3) (.cons (.v 5) .nil))))))) [some (.ref k),some (.int p),some (.int q),some (.int sg),some (.fz (iL pl)),some (.int S.d),none,none] rows st
   = some ((List.range rows.length).map fun i=>.fz (iL (chLine (SX.row S i) pl q sg S.d)),st1)/\Rep st1 k a b c g n u rows S:=by
  refine EC (J:=fun _ s=>Rep s k a b c g n u rows S) (fun _ s _ R'=>fc R'.ha) (fun i x s hx R'=>?_) R;have hi:i < m:=by rw [<- rl];exact (zB.mp hx).1
  obtain ⟨s1,e1,h1⟩:=Hg (R'.row i x hx) (P.rl hi) lp (show q < w + 1 by omega) hw (B.row P hi) bP hd B.1 bs;refine ⟨_,s1,rfl,rfl,by simp [e1],?_⟩;rcases h1 with rfl | ⟨r,rfl,h2,rfl⟩
  ·exact R'
  ·exact R'.freeze hx h2
 obtain ⟨st1,e1,R1⟩:=s1;obtain ⟨rows2,hr2⟩:∃ x,x=(List.range rows.length).map fun i=>AV.fz (iL (chLine (SX.row S i) pl q sg S.d)):=⟨_,rfl⟩
 rw [<- hr2] at e1;have fz2:∀ i x,rows2[i]?=some x->i < m/\x=.fz (iL (chLine (SX.row S i) pl q sg S.d)):=fun i x h=>by
  rw [hr2,zR] at h;obtain ⟨j,h1,rfl⟩:=zE.mp h;have hl:=(zB.mp h1).1;rw [List.length_range] at hl;rw [List.getElem?_range hl] at h1;cases h1;exact ⟨by omega,rfl⟩
 have l2:rows2.length=m:=by rw [hr2,zH,List.length_range,rl]
 have lt:∀ {s:aa}{i:Nat}{x:Mw},s[i]?=some x->i < s.length:=fun h=>(zB.mp h).1
 -- the new lines
 have R2:Rep ((st1++[Mw.lst rows2]).set k (.ins "Sheet" (cG S.d st1.length b c g n u))) k st1.length b c g n u rows2 { S with ls:=S.ls.map fun l=>chLine l pl q sg S.d }:=by
  refine Rep.fields (S':={ S with ls:=S.ls.map fun l=>chLine l pl q sg S.d }) (R1.app (ys:=[Mw.lst rows2])) gl rfl rfl rfl rfl rfl (by simp [l2,P.ls]) (fun i x h=>?_) (Nat.ne_of_gt (lt R1.hb)) (Nat.ne_of_gt (lt R1.hc)) fun i r h=>?_
  ·obtain ⟨hi,rfl⟩:=fz2 i x h
   left;unfold SX.row;simp [zD,zF (show i < S.ls.length by rw [P.ls];exact hi)]
  ·have:=(fz2 i _ h).2;cases this
 obtain ⟨t2,ht2⟩:∃ x,x=(st1++[Mw.lst rows2]).set k (.ins "Sheet" (cG S.d st1.length b c g n u)):=⟨_,rfl⟩;rw [<- ht2] at R2;obtain ⟨a',ha'⟩:∃ x,x=st1.length:=⟨_,rfl⟩;rw [<- ha'] at R2 ht2;have R3:=Rep.rowset (p:=p) (x:=.ref t2.length) (l:=pl.map fun x=>- x) (R2.app (ys:=[Mw.lst (iL (pl.map fun x=>- x))])) (.inr ⟨t2.length,rfl,.inl gl⟩) fun r e=>by cases e;exact ⟨Nat.ne_of_gt (lt R2.ha),Nat.ne_of_gt (lt R2.hb),Nat.ne_of_gt (lt R2.hc)⟩
 obtain ⟨t3,ht3⟩:∃ x,x=(t2++[Mw.lst (iL (pl.map fun x=>- x))]).set a' (.lst (rows2.set p (.ref t2.length))):=⟨_,rfl⟩;rw [<- ht3] at R3;have g3:t3[t2.length]?=some (.lst (iL (pl.map fun x=>- x))):=by rw [ht3,ar (zU (lt R2.ha))];exact gl
 have p3:(rows2.set p (.ref t2.length))[p]?=some (.ref t2.length):=by simp [l2,hp]
 have R4:=Rep.cellset (l:=(pl.map fun x=>- x).set q (sg * S.d)) R3 p3 fun i ne h=>by
  rw [yT,yG (fun z=>ne z.symm)] at h
  have:=(fz2 i _ h).2;cases this
 obtain ⟨t4,ht4⟩:∃ x,x=t3.set t2.length (.lst (iL ((pl.map fun x=>- x).set q (sg * S.d)))):=⟨_,rfl⟩;rw [<- ht4] at R4;have R5:=Rep.fields (S':={ d:=gI pl q,ls:=_,hd:=S.hd,sd:=S.sd,gd:=S.gd,nl:=S.nl,tn:=S.tn }) R4 R4.ha rfl rfl rfl rfl rfl R4.len R4.row R4.ab R4.ac R4.ra;obtain ⟨t5,ht5⟩:∃ x,x=t4.set k (.ins "Sheet" (cG (gI pl q) a' b c g n u)):=⟨_,rfl⟩;have R5:=ht5 ▸ R5;have R6:=Rep.sides (sd':=S.sd.set p (S.h q)) R5;obtain ⟨t6,ht6⟩:∃ x,x=t5.set c (.lst (nL (S.sd.set p (S.h q)))):=⟨_,rfl⟩;rw [<- ht6] at R6;have R7:=Rep.heads (hd':=S.hd.set q (S.s p)) R6;obtain ⟨t7,ht7⟩:∃ x,x=t6.set b (.lst (nL (S.hd.set q (S.s p)))):=⟨_,rfl⟩;rw [<- ht7] at R7;refine ⟨t7,a',rows2.set p (.ref t2.length),?_,?_⟩
 rotate_left
 ·have e:SX.MJ S p q={ d:=gI pl q,ls:=((S.ls.map fun l=>chLine l pl q sg S.d).set p (pl.map fun x=>- x)).set p ((pl.map fun x=>- x).set q (sg * S.d)),hd:=S.hd.set q (S.s p),sd:=S.sd.set p (S.h q),gd:=S.gd,nl:=S.nl,tn:=S.tn }:=by
   unfold SX.MJ;rw [List.set_set,hpl,hsg]
  rw [e];exact R7
 rw [aw,aG];unfold eU;refine aj (sl':=[some (.ref k),some (.int p),some (.int q),some (.int sg),none,none,none]) (st':=st) ?_ ?_
 ·by_cases h:S.t p q < 0
  ·simp [R.ins,R.line P hp,R.cell P hp (show q < w + 1 by omega),h,hsg,sgn]
  ·simp [R.ins,R.line P hp,R.cell P hp (show q < w + 1 by omega),h,hsg,sgn]
 refine aj (sl':=[some (.ref k),some (.int p),some (.int q),some (.int sg),some (.fz (iL pl)),none,none]) (st':=st) ?_ ?_
 ·obtain ⟨gd,i1,i2⟩:=(R.row p _ (R.rx P hp)).it
  simp [R.ins,R.line P hp,i1,bt (show (SX.row S p).length <= 1000 by rw [P.rl hp];omega)];rw [jr (F:=fun x=>sg * x) i2 fun x hx=>⟨_,rfl,rfl,by simp [bO (eC bs (B.row P hp x hx))]⟩];simp [hpl']
 refine aj (sl':=[some (.ref k),some (.int p),some (.int q),some (.int sg),some (.fz (iL pl)),some (.int S.d),none]) (st':=st) (by simp [R.ins]) ?_;refine aj (sl':=[some (.ref k),some (.int p),some (.int q),some (.int sg),some (.fz (iL pl)),some (.int S.d),none]) (st':=t2) ?_ ?_
 ·rw [gJ (v:=.ref a') (st':=st1++[.lst rows2]) (k:=k) (by simp [R.ins,kP R.ha,rl,bt hm,e1,ha']) (by simp) R1.app.ins rfl,xb,ht2]
 refine aj (sl':=[some (.ref k),some (.int p),some (.int q),some (.int sg),some (.fz (iL pl)),some (.int S.d),none]) (st':=t3) ?_ ?_
 ·simp [bt (show pl.length <= 1000 by omega)]
  rw [jr (F:=fun x=>- x) dI fun x hx=>⟨_,rfl,rfl,by simp⟩];simp [R2.app.ins,cW (R2.app (ys:=[Mw.lst (iL (pl.map fun x=>- x))])).ha (show p < rows2.length by omega),ht3]
 have P4:MD w m { S with ls:=((S.ls.map fun l=>chLine l pl q sg S.d).set p (pl.map fun x=>- x)).set p ((pl.map fun x=>- x).set q (sg * S.d)) }:=by
  have:=SX.exch_shp (c:=q) P hp
  refine ⟨by simp [P.ls],fun l hl=>this.row l ?_,P.hd,P.sd⟩;show l ∈ (S.ls.map fun l=>chLine l (pvl S p q) q (sgn (S.t p q)) S.d).set p _;rw [<- hpl,<- hsg];rw [List.set_set] at hl;exact hl
 have rx:jW (rows2.set p (.ref t2.length)) p=.ref t2.length:=by unfold jW;rw [zD,p3];rfl
 refine aj (sl':=[some (.ref k),some (.int p),some (.int q),some (.int sg),some (.fz (iL pl)),some (.int S.d),none]) (st':=t4) ?_ ?_
 ·have li:b9 t3 (.ref a') (.int (p:Int))=some (.ref t2.length):=by rw [cb (bq R3.ha),bT];exact p3
  simp [bO (eC bs B.1),R3.ins,li,cW g3 (show q < (iL (pl.map fun x=>- x)).length by simp;omega),eD,ht4]
 refine aj (sl':=[some (.ref k),some (.int p),some (.int q),some (.int sg),some (.fz (iL pl)),some (.int S.d),none]) (st':=t5) ?_ ?_
 ·have xi:b9 t4 (.fz (iL pl)) (.int (q:Int))=some (.int (gI pl q)):=by rw [cb eI,bT,bH oM]
  rw [gJ (v:=.int (gI pl q)) (st':=t4) (k:=k) (by simp [xi]) (by simp) R4.ins rfl,xc,ht5]
 have P5:MD w m { S with d:=gI pl q,ls:=((S.ls.map fun l=>chLine l pl q sg S.d).set p (pl.map fun x=>- x)).set p ((pl.map fun x=>- x).set q (sg * S.d)) }:=⟨P4.ls,P4.row,P4.hd,P4.sd⟩;refine aj (sl':=[some (.ref k),some (.int p),some (.int q),some (.int sg),some (.fz (iL pl)),some (.int S.d),some (.int (S.s p:Int))]) (st':=t5) ?_ ?_
 ·have:=R5.side P5 hp
  simp [R5.ins,this];rfl
 refine aj (sl':=[some (.ref k),some (.int p),some (.int q),some (.int sg),some (.fz (iL pl)),some (.int S.d),some (.int (S.s p:Int))]) (st':=t6) ?_ ?_
 ·have:=R5.head P5 hq
  simp [R5.ins,this,cW R5.hc (show p < (nL S.sd).length by simp [P.sd,hp]),ht6];rw [<- vF];rfl
 refine aj (sl':=[some (.ref k),some (.int p),some (.int q),some (.int sg),some (.fz (iL pl)),some (.int S.d),some (.int (S.s p:Int))]) (st':=t7) ?_ rfl;simp [R6.ins,cW R6.hb (show q < (nL S.hd).length by simp [P.hd,hq]),ht7,vF]
end
end LW
namespace LW
open PySem PySem.Spec L2 R
open SX (Sh MD ME MJ)
noncomputable def ins (l:List Nat) (q:Nat):List Nat:=if q ∈ l then l else l++[q]
section
variable {st:aa}{k a b c g n u w m:Nat}{rows:List AV}{S:Sh}{p q:Nat}
theorem sF (R:Rep st k a b c g n u rows S) (hl:S.gd.length <= 1000):∃ st',aI [.ref k,.int q] st=some (.non,st')/\Rep st' k a b c g n u rows { S with gd:=ins S.gd q }:=by
 refine ⟨_,?_,R.guard⟩;simp [aI,aG,gz,R.ins,nU R.hg hl,ins]
theorem Eb (R:Rep st k a b c g n u rows S) (hl:S.nl.length <= 1000):∃ st',bY [.ref k,.int q] st=some (.non,st')/\Rep st' k a b c g n u rows { S with nl:=ins S.nl q }:=by
 refine ⟨_,?_,R.nail⟩;simp [bY,aG,ie,R.ins,nU R.hn hl,ins]
theorem Cq (R:Rep st k a b c g n u rows S) (P:MD w m S) (hw:w <= 100) (hp:p < m) (hl:S.tn.length <= 1000):∃ st' rows',be [.ref k,.int p] st=some (.non,st')/\Rep st' k a b c g n u rows' (SX.trn S p):=by
 have R1:=Rep.rowset (p:=p) (x:=.fz (iL ((SX.row S p).map fun x=>- x))) (l:=(SX.row S p).map fun x=>- x) R (.inl rfl) fun r e=>nomatch e
 have R2:=Rep.turned (tn':=if S.s p ∈ S.tn then S.tn else S.tn++[S.s p]) R1;refine ⟨_,_,?_,R2⟩;obtain ⟨gd,i1,i2⟩:=(R.row p _ (R.rx P hp)).it;have P1:MD w m { S with ls:=S.ls.set p ((SX.row S p).map fun x=>- x) }:=⟨(SX.trn_shp P hp).ls,(SX.trn_shp P hp).row,P.hd,P.sd⟩;rw [be,aG];unfold eB;refine aj (sl':=[some (.ref k),some (.int p)]) (st':=st.set a (.lst (rows.set p (.fz (iL ((SX.row S p).map fun x=>- x)))))) ?_ ?_
 ·simp [R.ins,R.line P hp,i1,bt (show (SX.row S p).length <= 1000 by rw [P.rl hp];omega)]
  rw [jr (F:=fun x=>- x) i2 fun x hx=>⟨_,rfl,rfl,by simp⟩];simp [R.ins,cW R.ha (show p < rows.length by rw [R.len,P.ls];exact hp)]
 ·have:=R1.side P1 hp
  simp [R1.ins,this];rw [nU R1.hu hl];rfl
end
end LW
namespace LW
open PySem PySem.Spec L2 R
open SX (Sh MD openS)
structure Gv where
 row:List Int
 eq:Bool
 num:Int
def Gv.av (x:Gv):AV:=.tup [.fz (iL x.row),.str (if x.eq then "=" else ">"),.int x.num]
def aN (RR:List (List Int)) (gv:List Gv) (goal:List Int):List (List Int):=RR.map (·++[0])++gv.map (fun x=>x.row++[-x.num])++[goal.map (fun x=>- x)++[0]]
section
variable {w:Nat}{L RR:List (List Int)}{gv:List Gv}{goal:List Int}
abbrev oF:List (Str × AV):=[("below",.int 1)]
abbrev Fg:List (Str × AV):=[("below",.int 1),("lines",.ref 2)]
abbrev Ff:List (Str × AV):=[("below",.int 1),("lines",.ref 2),("heads",.ref 3)]
abbrev Fe:List (Str × AV):=[("below",.int 1),("lines",.ref 2),("heads",.ref 3),("sides",.ref 4)]
abbrev Fd:List (Str × AV):=[("below",.int 1),("lines",.ref 2),("heads",.ref 3),("sides",.ref 4),("guarded",.ref 5)]
abbrev Fc:List (Str × AV):=[("below",.int 1),("lines",.ref 2),("heads",.ref 3),("sides",.ref 4),("guarded",.ref 5),("nailed",.ref 6)]
abbrev Ky (w:Nat) (L:List (List Int)):aa:=[.lst (aD L),.ins "Sheet" (cG 1 2 3 4 5 6 7),.lst (aD L),.lst (nL (List.range w)),.lst (nL ((List.range L.length).map (w + ·))),.dK [],.dK [],.dK []]
theorem ET (hw:w <= 100) (hL:L.length <= 400):aA [.ref 1,.int w,.ref 0] [.lst (aD L),.ins "Sheet" []]=some (.non,[.lst (aD L),.ins "Sheet" (cG 1 2 3 4 5 6 7),.lst (aD L),.lst (nL (List.range w)),.lst (nL ((List.range L.length).map (w + ·))),.dK [],.dK [],.dK []]):=by
 have sm:ot (w:Int)=true:=by unfold ot;simp;omega
 have sm2:ot ((w:Int) + (L.length:Int))=true:=by unfold ot;simp;omega
 have l0:∀ X:aa,bn (.lst (aD L)::X) (.ref 0)=some (aD L):=fun X=>bq rfl
 rw [aA,aG];unfold eW;refine aj (st':=[.lst (aD L),.ins "Sheet" oF]) (gJ (v:=.int 1) (st':=[.lst (aD L),.ins "Sheet" []]) (k:=1) (fs:=[]) rfl rfl rfl rfl) ?_;refine aj (st':=[.lst (aD L),.ins "Sheet" Fg,.lst (aD L)]) (gJ (v:=.ref 2) (st':=[.lst (aD L),.ins "Sheet" oF,.lst (aD L)]) (k:=1) (fs:=oF) ?_ rfl rfl rfl) ?_
 ·have e:=uc (gd:=[(0,.lst (aD L))]) (g:=bW [] (.nm 3)) (t:=jI [] .no) (f:=ev [] (.nw false (.lof (.v 3)))) (sl:=[some (.ref 1),some (.int w),some (.ref 0),none]) (st:=[.lst (aD L),.ins "Sheet" oF]) (em:=fun l=>.fz (iL l)) (F:=fun l=>l) (xs:=L) (fc rfl) fun l hl=>⟨_,rfl,rfl,by simp [jp]⟩
  rw [List.map_id'] at e;have e':gC [(0,.lst (aD L))] (bW [] (.nm 3)) (jI [] .no) (ev [] (.nw false (.lof (.v 3)))) [some (.ref 1),some (.int w),some (.ref 0),none] (aD L) [.lst (aD L),.ins "Sheet" oF]=some (aD L,[.lst (aD L),.ins "Sheet" oF]):=e;have i0:mP [.lst (aD L),.ins "Sheet" oF] (.ref 0)=some ⟨aD L,[(0,.lst (aD L))]⟩:=kP rfl;show ev [] (.nw true (.lc 1 (.e (.v 2)) (.nm 3) .no (.nw false (.lof (.v 3))))) [some (.ref 1),some (.int w),some (.ref 0)] [.lst (aD L),.ins "Sheet" oF]=_;simp [-aD,i0,bt (show L.length <= 1000 by omega),e']
 refine aj (st':=[.lst (aD L),.ins "Sheet" Ff,.lst (aD L),.lst (nL (List.range w))]) (gJ (v:=.ref 3) (st':=[.lst (aD L),.ins "Sheet" Fg,.lst (aD L),.lst (nL (List.range w))]) (k:=1) (fs:=Fg) ?_ rfl rfl rfl) ?_
 ·simp [tT,sm,mv]
 refine aj (st':=[.lst (aD L),.ins "Sheet" Fe,.lst (aD L),.lst (nL (List.range w)),.lst (nL ((List.range L.length).map (w + ·)))]) (gJ (v:=.ref 4) (st':=[.lst (aD L),.ins "Sheet" Ff,.lst (aD L),.lst (nL (List.range w)),.lst (nL ((List.range L.length).map (w + ·)))]) (k:=1) (fs:=Ff) ?_ rfl rfl rfl) ?_
 ·simp [tS,sm,sm2,bw,dL,l0]
  have e:((w:Int) + (L.length:Int)).toNat - w=L.length:=by omega
  rw [e,F2,yH oM];simp
 refine aj (st':=[.lst (aD L),.ins "Sheet" Fd,.lst (aD L),.lst (nL (List.range w)),.lst (nL ((List.range L.length).map (w + ·))),.dK []]) (gJ (v:=.ref 5) (st':=[.lst (aD L),.ins "Sheet" Fe,.lst (aD L),.lst (nL (List.range w)),.lst (nL ((List.range L.length).map (w + ·))),.dK []]) (k:=1) (fs:=Fe) rfl rfl rfl rfl) ?_;refine aj (st':=[.lst (aD L),.ins "Sheet" Fc,.lst (aD L),.lst (nL (List.range w)),.lst (nL ((List.range L.length).map (w + ·))),.dK [],.dK []]) (gJ (v:=.ref 6) (st':=[.lst (aD L),.ins "Sheet" Fd,.lst (aD L),.lst (nL (List.range w)),.lst (nL ((List.range L.length).map (w + ·))),.dK [],.dK []]) (k:=1) (fs:=Fd) rfl rfl rfl rfl) ?_;refine aj (st':=[.lst (aD L),.ins "Sheet" (cG 1 2 3 4 5 6 7),.lst (aD L),.lst (nL (List.range w)),.lst (nL ((List.range L.length).map (w + ·))),.dK [],.dK [],.dK []]) (gJ (v:=.ref 7) (st':=[.lst (aD L),.ins "Sheet" Fc,.lst (aD L),.lst (nL (List.range w)),.lst (nL ((List.range L.length).map (w + ·))),.dK [],.dK [],.dK []]) (k:=1) (fs:=Fc) rfl rfl rfl rfl) ?_;rfl
theorem Hb {k:Nat} (h1:ev ks a sl st=some (.ref k,st)) (h2:ev ks e sl st=some (y,st)) (h3:st[k]?=some (.lst xs)) (h4:bn st y=some ys) (hl:xs.length + ys.length <= 1000):ev ks (.mt .ext a (.cons e .nil)) sl st=some (.non,st.set k (.lst (xs++ys))):=by
 simp [ji,k9,k8,h1,k7,bq h3,h2,t8,eJ,h3,h4,bt hl]
theorem Ar {k:Nat} (h1:ev ks a sl st=some (.ref k,st)) (h2:ev ks e sl st=some (y,st)) (h3:st[k]?=some (.lst xs)) (hl:xs.length <= 1000):ev ks (.mt .app a (.cons e .nil)) sl st=some (.non,st.set k (.lst (xs++[y]))):=by
 simp [ji,k9,k8,h1,k7,bq h3,h2,j4,eJ,h3,bt hl]
theorem DI {n:Int} (HR:∀ st,pm aK [.int n] st=some (.fz (aD RR),st)) (HA:∀ st,pm ah [.int n] st=some (.int w,st)) (hw:w <= 15) (hR:RR.length <= 100) (hr:∀ l ∈ RR,l.length=w) (hg:gv.length <= 100) (hgr:∀ x ∈ gv,x.row.length=w) (hgo:goal.length=w) :
  ∃ st',bA [.int n,.fz (gv.map Gv.av),.fz (iL goal)] []=some (.ref 1,st')/\Rep st' 1 2 3 4 5 6 7 (aD (aN RR gv goal)) (openS w (aN RR gv goal) (w + RR.length)):=by
 have hL:(aN RR gv goal).length=RR.length + gv.length + 1:=by simp [aN];omega
 -- the loop that guards
 have R0:Rep [.lst (aD (aN RR gv goal)),.ins "Sheet" (cG 1 2 3 4 5 6 7),.lst (aD (aN RR gv goal)),.lst (nL (List.range w)),.lst (nL ((List.range (aN RR gv goal).length).map (w + ·))),.dK [],.dK [],.dK []] 1 2 3 4 5 6 7 (aD (aN RR gv goal)) (openS w (aN RR gv goal) 0):=by
  refine ⟨rfl,rfl,rfl,rfl,rfl,rfl,rfl,by simp [openS],fun i x h=>.inl ?_,by decide,by decide,by decide,by decide,by decide,by decide,fun i r h=>?_⟩
  ·unfold aD at h
   rw [zR] at h;obtain ⟨l,h1,rfl⟩:=zE.mp h;show _=AV.fz (iL ((aN RR gv goal).getD i []));rw [zD,h1];rfl
  ·unfold aD at h
   rw [zR] at h;obtain ⟨l,h1,h2⟩:=zE.mp h;cases h2
 obtain ⟨sl',st',e,x,rfl,R'⟩:=dW (gd:=[]) (g:=bW [aK,ah,aA,aI] (.nm 6)) (s:=ak [aK,ah,aA,aI] (.cons (.ex (.me "Sheet" "guard" 3 (.v 5) (.cons (.v 6) .nil))) .nil))
  (I:=fun i sl s=>∃ x,sl=[some (.int n),some (.fz (gv.map Gv.av)),some (.fz (iL goal)),some (.ref 0),some (.int ((w:Int) + (RR.length:Int))),some (.ref 1),x]/\Rep s 1 2 3 4 5 6 7 (aD (aN RR gv goal)) (openS w (aN RR gv goal) i)) (xs:=cJ 0 (w + RR.length)) (fun _ _ _ _ _=>rfl)
  (fun i y sl s hy hI=>by
   obtain ⟨x,rfl,R⟩:=hI;rw [mv] at hy;have hi:i < w + RR.length:=by have:=(zB.mp hy).1;simpa using this
   have ey:y=.int ((i:Nat):Int):=by
    rw [fR (by simpa using hi)] at hy;injection hy with hy;rw [<- hy];simp [zD,hi]
   subst ey;obtain ⟨s',e1,R1⟩:=sF (q:=i) R (by simp [openS];omega);refine ⟨_,[some (.int n),some (.fz (gv.map Gv.av)),some (.fz (iL goal)),some (.ref 0),some (.int ((w:Int) + (RR.length:Int))),some (.ref 1),some (.int ((i:Nat):Int))],s',rfl,?_,_,rfl,?_⟩
   ·simp [R.ins,e1]
   ·have:ins (List.range i) i=List.range (i + 1):=by unfold ins;rw [yG (by simp),List.range_succ]
    have h2:{ openS w (aN RR gv goal) i with gd:=ins (openS w (aN RR gv goal) i).gd i }=openS w (aN RR gv goal) (i + 1):=by show Sh.mk _ _ _ _ (ins (List.range i) i) _ _=_;rw [this];rfl
    rw [h2] at R1;exact R1) (sl:=[some (.int n),some (.fz (gv.map Gv.av)),some (.fz (iL goal)),some (.ref 0),some (.int ((w:Int) + (RR.length:Int))),some (.ref 1),none]) (st:=_) ⟨none,rfl,R0⟩
 have ll:(cJ 0 (w + RR.length)).length=w + RR.length:=by rw [mv];simp
 rw [ll] at R';refine ⟨st',?_,R'⟩;rw [bA,aG];unfold fG;refine aj (sl':=[some (.int n),some (.fz (gv.map Gv.av)),some (.fz (iL goal)),some (.ref 0),none,none,none]) (st':=[.lst (aD (RR.map (·++[0])))]) ?_ ?_
 ·have lc:=uc (gd:=[]) (g:=bW [aK,ah,aA,aI] (.nm 7)) (t:=jI [aK,ah,aA,aI] .no) (f:=ev [aK,ah,aA,aI] (.nw false (.cat (.v 7) (.nw false (.li (.cons (.i 0) .nil))))))
   (sl:=[some (.int n),some (.fz (gv.map Gv.av)),some (.fz (iL goal)),none,none,none,none,none]) (st:=[]) (em:=fun l=>.fz (iL l)) (F:=fun l=>l++[0]) (xs:=RR) rfl fun l hl=>⟨_,rfl,rfl,by
    rw [jT,jf (l:=l) (l':=[0]) (s1:=[]) (s2:=[]) (y:=.fz (iL [0])) rfl (by simp [cE,iL]) rfl rfl (by rw [hr l hl];simp;omega)];simp⟩
  have lc':gC [] (bW [aK,ah,aA,aI] (.nm 7)) (jI [aK,ah,aA,aI] .no) (ev [aK,ah,aA,aI] (.nw false (.cat (.v 7) (.nw false (.li (.cons (.i 0) .nil)))))) [some (.int n),some (.fz (gv.map Gv.av)),some (.fz (iL goal)),none,none,none,none,none] (aD RR) []=some (aD (RR.map (·++[0])),[]):=lc;simp [HR,bt (show RR.length <= 1000 by omega),lc']
 have l0:∀ (x:List AV) (X:aa),bn (.lst x::X) (.ref 0)=some x:=fun x X=>bq rfl
 refine aj (sl':=[some (.int n),some (.fz (gv.map Gv.av)),some (.fz (iL goal)),some (.ref 0),some (.int ((w:Int) + (RR.length:Int))),none,none]) (st':=[.lst (aD (RR.map (·++[0])))]) (by simp [HA,bw,dL,l0]) ?_;refine aj (sl':=[some (.int n),some (.fz (gv.map Gv.av)),some (.fz (iL goal)),some (.ref 0),some (.int ((w:Int) + (RR.length:Int))),none,none]) (st':=[.lst (aD (RR.map (·++[0]))++aD (gv.map fun x=>x.row++[-x.num]))]) ?_ ?_
 ·rw [wM,Hb (k:=0) (xs:=aD (RR.map (·++[0]))) (ys:=aD (gv.map fun x=>x.row++[-x.num])) (y:=.fz (aD (gv.map fun x=>x.row++[-x.num]))) rfl ?_ rfl rfl (by simp;omega)]
  ·rfl
  ·have lc:=uc (gd:=[]) (g:=bW [aK,ah,aA,aI] (.tu 3 (.cons (.nm 7) (.cons (.nm 8) (.cons (.nm 9) .nil))))) (t:=jI [aK,ah,aA,aI] .no) (f:=ev [aK,ah,aA,aI] (.nw false (.cat (.nw false (.lof (.v 7))) (.nw false (.li (.cons (.un .USub (.v 9)) .nil))))))
    (sl:=[some (.int n),some (.fz (gv.map Gv.av)),some (.fz (iL goal)),some (.ref 0),some (.int ((w:Int) + (RR.length:Int))),none,none,none,none,none]) (st:=[.lst (aD (RR.map (·++[0])))]) (em:=Gv.av) (F:=fun x=>x.row++[-x.num]) (xs:=gv) rfl fun x hx=>⟨_,rfl,rfl,by
     rw [jT,jf (l:=x.row) (l':=[-x.num]) (s1:=[.lst (aD (RR.map (·++[0])))]) (s2:=[.lst (aD (RR.map (·++[0])))]) (x:=.fz (iL x.row)) (y:=.fz (iL [-x.num])) (by simp [jp]) (by simp [cE,iL]) rfl rfl (by rw [hgr x hx];simp;omega)];simp⟩
   simp [bt (show gv.length <= 1000 by omega),lc]
 refine aj (sl':=[some (.int n),some (.fz (gv.map Gv.av)),some (.fz (iL goal)),some (.ref 0),some (.int ((w:Int) + (RR.length:Int))),none,none]) (st':=[.lst (aD (aN RR gv goal))]) ?_ ?_
 ·rw [wM,Ar (k:=0) (xs:=aD (RR.map (·++[0]))++aD (gv.map fun x=>x.row++[-x.num])) (y:=.fz (iL (goal.map (fun x=>- x)++[0]))) rfl ?_ rfl (by simp;omega)]
  ·rw [bind_some]
   have:aD (RR.map (·++[0]))++aD (gv.map fun x=>x.row++[-x.num])++[AV.fz (iL (goal.map (fun x=>- x)++[0]))]=aD (aN RR gv goal):=by
    simp [aN,aD]
   show some (Out.nx _ [.lst (_++[_])])=_;rw [this]
  ·rw [jT,jf (l:=goal.map fun x=>- x) (l':=[0]) (s1:=[.lst (aD (RR.map (·++[0]))++aD (gv.map fun x=>x.row++[-x.num]))]) (s2:=[.lst (aD (RR.map (·++[0]))++aD (gv.map fun x=>x.row++[-x.num]))]) (x:=.fz (iL (goal.map fun x=>- x))) (y:=.fz (iL [0])) ?_ (by simp [cE,iL]) rfl rfl (by simp [hgo];omega)]
   ·simp
   ·simp [bt (show goal.length <= 1000 by omega)]
    rw [jr (F:=fun x=>- x) dI fun x hx=>⟨_,rfl,rfl,by simp⟩];simp
 refine aj (sl':=[some (.int n),some (.fz (gv.map Gv.av)),some (.fz (iL goal)),some (.ref 0),some (.int ((w:Int) + (RR.length:Int))),some (.ref 1),none]) (st':=Ky w (aN RR gv goal)) ?_ ?_
 ·have:=ET (w:=w) (L:=aN RR gv goal) oM oM
  simp [wj,HA,this]
 ·refine aj (sl':=[some (.int n),some (.fz (gv.map Gv.av)),some (.fz (iL goal)),some (.ref 0),some (.int ((w:Int) + (RR.length:Int))),some (.ref 1),x]) (st':=st') ?_ (by simp)
  have rb:eO ((w:Int) + (RR.length:Int))=true:=by
   unfold eO;refine yK ?_;have:((w:Int) + (RR.length:Int)).natAbs=w + RR.length:=by omega
   rw [this];by_cases h0:w + RR.length=0
   ·rw [h0];decide
   ·exact yV ((Nat.log2_lt h0).mpr oM)
  simp [vT,rb];rw [show ((w:Int) + (RR.length:Int)).toNat=w + RR.length by omega];exact e
end
end LW
namespace LW
open PySem PySem.Spec L2 R
open SX (gI)
noncomputable def gL (l:List Int):Nat:=l.foldl (fun g x=>Nat.gcd g x.natAbs) 0
def aP (l:List Int):List Int:=if gL l=0 then l else l.map fun x=>x / (gL l:Int)
theorem yd {d o:Nat}:Nat.gcd o (d % o)=Nat.gcd d o:=by rw [Nat.gcd_comm,<- Nat.gcd_rec,Nat.gcd_comm]
theorem KY:∀ (o d:Nat) (y:Option AV),∃ y',cR [] (.wh (.cmp .NotEq (.v 3) (.i 0)) (.cons (.as (.bin .Mod (.v 1) (.v 3)) (.nm 4)) (.cons (.as (.v 3) (.nm 1)) (.cons (.as (.v 4) (.nm 3)) .nil)))) [l,some (.int d),x,some (.int o),y] st=some (.nx [l,some (.int (Nat.gcd d o:Nat)),x,some (.int 0),y'] st):=by
 intro o
 induction o using Nat.strongRecOn with
 | _ o ih =>
  intro d y;by_cases h:o=0
  ·subst h
   refine ⟨y,?_⟩;rw [Nat.gcd_zero_right];exact mo (n:=1) (nE (by simp))
  ·obtain ⟨y',e⟩:=ih (d % o) (Nat.mod_lt _ oM) o (some (.int ((d % o:Nat):Int)))
   obtain ⟨n,e'⟩:=vz e;refine ⟨y',?_⟩;rw [yd] at e';refine mo (n:=n + 1) (nF (st':=st) (by simp;omega) ?_ e');have h0:(o:Int) ≠ 0:=by omega
   have hm:lq (d:Int) (o:Int)=((d % o:Nat):Int):=by unfold lq;rw [yH oM];simp
   simp [dX h0,hm]
theorem vZ:gL (a++b)=b.foldl (fun g x=>Nat.gcd g x.natAbs) (gL a):=by unfold gL;rw [List.foldl_append]
theorem qw:∀ b:List Int,b.foldl (fun g x=>Nat.gcd g x.natAbs) 1=1
 | []=>rfl
 | x::b=>by rw [List.foldl_cons,Nat.gcd_one_left];exact qw b
theorem J4:∃ r,bR [.fz (iL l)] st=some (r,st)/\r=.int (gL l:Int):=by
 have hl:=nX (gd:=[]) (g:=bW [] (.nm 2)) (s:=ak [] (.cons (.as (.bi .abs (.cons (.v 2) .nil)) (.nm 3)) (.cons (.wh (.cmp .NotEq (.v 3) (.i 0)) (.cons (.as (.bin .Mod (.v 1) (.v 3)) (.nm 4)) (.cons (.as (.v 3) (.nm 1)) (.cons (.as (.v 4) (.nm 3)) .nil)))) (.cons (.iff (.cmp .Eq (.v 1) (.i 1)) (.cons (.rt (.i 1)) .nil) .nil) .nil))))
  (I:=fun i sl s=>s=st/\∃ x y z,sl=[some (.fz (iL l)),some (.int (gL (l.take i):Nat)),x,y,z]) (Post:=fun v s=>s=st/\v=.int (gL l:Nat)) (xs:=iL l) (fun _ _ _ _ _=>rfl)
  (fun i x sl s hx hI=>by
   obtain ⟨rfl,x1,x2,x3,rfl⟩:=hI;have hi:i < l.length:=by have:=(zB.mp hx).1;simpa using this
   rw [bH hi] at hx;injection hx with hx;subst hx;have ht:l.take (i + 1)=l.take i++[gI l i]:=by
    rw [List.take_succ,zF hi];unfold gI;rw [zD,zF hi];rfl
   have hg:gL (l.take (i + 1))=Nat.gcd (gL (l.take i)) (gI l i).natAbs:=by rw [ht,vZ];rfl
   obtain ⟨y',e⟩:=KY (l:=some (.fz (iL l))) (x:=some (.int (gI l i))) (st:=s) (gI l i).natAbs (gL (l.take i)) x3;rw [<- hg] at e;have ea:qS s [.int (gI l i)]=some (.int ((gI l i).natAbs:Nat)):=by
    show some (AV.int (if gI l i < 0 then - gI l i else gI l i))=_;congr 2;split <;> omega
   have st1:cR [] (.as (.bi .abs (.cons (.v 2) .nil)) (.nm 3)) [some (.fz (iL l)),some (.int (gL (l.take i):Nat)),some (.int (gI l i)),x2,x3] s=some (.nx [some (.fz (iL l)),some (.int (gL (l.take i):Nat)),some (.int (gI l i)),some (.int ((gI l i).natAbs:Nat)),x3] s):=by
    simp [bw,ea]
   by_cases h1:gL (l.take (i + 1))=1
   ·refine ⟨_,.rt (.int 1) s,rfl,ao st1 (ao e ?_),.inr ⟨_,s,rfl,rfl,?_⟩⟩
    ·simp [h1]
    ·have:gL l=1:=by
      have:l=l.take (i + 1)++l.drop (i + 1):=(List.take_append_drop _ _).symm;rw [this,vZ,h1,qw]
     rw [this];rfl
   ·refine ⟨_,.nx [some (.fz (iL l)),some (.int (gL (l.take (i + 1)):Nat)),some (.int (gI l i)),some (.int 0),y'] s,rfl,ao st1 (ao e ?_),.inl ⟨_,s,rfl,rfl,_,_,_,rfl⟩⟩
    have:¬ ((gL (l.take (i + 1)):Nat):Int)=1:=by omega
    simp [this]) (sl:=[some (.fz (iL l)),some (.int 0),none,none,none]) (st:=st) ⟨rfl,none,none,none,rfl⟩
 rcases hl with ⟨sl',st',e,rfl,x,y,z,rfl⟩ | ⟨v,st',e,rfl,rfl⟩
 ·refine ⟨_,?_,rfl⟩
  rw [fy,List.take_length] at e;simp [bR,aG,dE,e]
 ·refine ⟨_,?_,rfl⟩
  simp [bR,aG,dE,e]
theorem EZ:∀ x ∈ l,gL l ∣ x.natAbs:=by
 have go:∀ (b:List Int) (g:Nat),(b.foldl (fun g x=>Nat.gcd g x.natAbs) g) ∣ g/\∀ x ∈ b,(b.foldl (fun g x=>Nat.gcd g x.natAbs) g) ∣ x.natAbs:=fun b=>by
  induction b with
  | nil=>intro g;exact ⟨Nat.dvd_refl g,fun x hx=>by cases hx⟩
  | cons y b ih =>
   intro g;obtain ⟨h1,h2⟩:=ih (Nat.gcd g y.natAbs);refine ⟨Nat.dvd_trans h1 (Nat.gcd_dvd_left _ _),fun x hx=>?_⟩;rcases zT.mp hx with rfl | hx
   ·exact Nat.dvd_trans h1 (Nat.gcd_dvd_right _ _)
   ·exact h2 x hx
 exact (go l 0).2
theorem G5 {B:Nat} (hB:0 < B) (h:∀ x ∈ l,x.natAbs < B):gL l < B:=by
 by_cases hz:∃ x ∈ l,x ≠ 0
 ·obtain ⟨x,hx,h0⟩:=hz
  exact yL (Nat.le_of_dvd oM (EZ x hx)) (h x hx)
 ·have:∀ (b:List Int),(∀ x ∈ b,x=0)->b.foldl (fun g x=>Nat.gcd g x.natAbs) 0=0:=fun b=>by
   induction b with
   | nil=>intro _;rfl
   | cons y b ih=>intro hb;rw [List.foldl_cons,hb y z6];exact ih fun x hx=>hb x (zQ _ hx)
  have e:gL l=0:=this l fun x hx=>Classical.byContradiction fun z=>hz ⟨x,hx,z⟩
  omega
theorem o4 (hl:l.length <= 1000) (hb:∀ x ∈ l,x.natAbs < 2 ^ 9000):ai [.fz (iL l)] []=some (.fz (iL (aP l)),[]):=by
 obtain ⟨r,e,rfl⟩:=J4 (l:=l) (st:=[]);have ep:∀ st,pm bR [.fz (iL l)] st=some (.int (gL l:Int),st):=fun st=>cU rfl e rfl
 unfold aP;by_cases h:gL l=0
 ·rw [yH h]
  simp [ai,aG,c9,ep,h,jp]
 ·rw [yG h]
  have h':¬ ((gL l:Nat):Int)=0:=by omega
  have dv:eP ((gL l:Nat):Int)=true:=v4 h' (by rw [Int.natAbs_natCast];exact G5 (Nat.two_pow_pos _) hb);simp [ai,aG,c9,ep,h,bt hl];rw [jr (F:=fun x=>x / (gL l:Int)) dI fun x hx=>⟨_,rfl,rfl,by
   simp [jz dv];unfold sH;rw [yH oM]⟩]
  simp
theorem qa (hl:l.length <= 1000) (hb:∀ x ∈ l,x.natAbs < 2 ^ 9000):pm ai [.fz (iL l)] st=some (.fz (iL (aP l)),st):=cU rfl (o4 hl hb) rfl
theorem lU:(aP l).length=l.length:=by unfold aP;split <;> simp
theorem E8 {a b:Int} (ha:a.natAbs < 2 ^ 9000) (hb:b.natAbs < 2 ^ 9000):pm b8 [.int a,.int b] st=some (.tup [.int (gI (aP [a,b]) 0),.int (gI (aP [a,b]) 1)],st):=by
 have e:=qa (l:=[a,b]) (st:=[]) (by simp) (fun x hx=>by simp at hx;rcases hx with rfl | rfl <;> assumption);have h2:(aP [a,b]).length=2:=lU;have x0:b9 [] (.fz (iL (aP [a,b]))) (.int 0)=some (.int (gI (aP [a,b]) 0)):=by
  have:=cb (st:=[]) (x:=.fz (iL (aP [a,b]))) (i:=((0:Nat):Int)) eI;rw [bT,bH oM] at this;exact this
 have x1:b9 [] (.fz (iL (aP [a,b]))) (.int 1)=some (.int (gI (aP [a,b]) 1)):=by
  have:=cb (st:=[]) (x:=.fz (iL (aP [a,b]))) (i:=((1:Nat):Int)) eI;rw [bT,bH oM] at this;exact this
 refine cU rfl (v:=.tup [.int (gI (aP [a,b]) 0),.int (gI (aP [a,b]) 1)]) (st':=[]) ?_ rfl;have e':pm ai [.fz [.int a,.int b]] []=some (.fz (iL (aP [a,b])),[]):=e;simp [b8,aG,er,cE,e',x0,x1]
end LW
namespace LW
open PySem PySem.Spec L2 R
open SX (Sh MD gI)
structure GX (S:Sh) (w cc k:Nat) (X:List Int):Prop where
 len:X.length=w
 at_:∀ i,i < k->S.s i < w->gI X (S.s i)=S.t i cc
 no:∀ q,q < w->(∀ i,i < k->S.s i ≠ q)->gI X q=0
section
variable {st:aa}{k a b c g n u w m:Nat}{rows:List AV}{S:Sh}{v:Nat->Nat->Int}{nn:Int}
theorem zk {j:Nat} (h:ev ks e sl st=some (.int (j:Int),st)) (hj:j <= 1000):gh ks (.rep (.cons (.i 0) .nil) e) sl st=some (iL (List.replicate j 0),st):=by
 rw [GA];unfold tR;have h1:a0 ks (.cons (.i 0) .nil) sl st=some ([.int 0],st):=rfl;rw [h1,bind_some];dsimp only;rw [h,bind_some];dsimp only;have rb:eO (j:Int)=true:=by
  unfold eO;refine yK ?_;rw [Int.natAbs_natCast];by_cases h0:j=0
  ·rw [h0];decide
  ·exact yV ((Nat.log2_lt h0).mpr (yL hj dC))
 rw [rb,bt (n:=[AV.int 0].length * ((j:Int)).toNat) (by simp;omega),bt (n:=[AV.int 0].length) (by simp)];show some _=some _;congr 2;show (List.replicate j [AV.int 0]).flatten=iL (List.replicate j 0);unfold iL
 induction j with
 | zero=>rfl
 | succ j ih=>rw [List.replicate_succ,List.flatten_cons,List.replicate_succ,zO];simp
theorem v0 {j q:Nat}:gI (List.replicate j 0) q=0:=by
 unfold gI;rw [zD,List.getElem?_replicate];split <;> rfl
theorem Ag (R:Rep st k a b c g n u rows S) (P:MD w m S) (Q:SX.Pm w m S.h S.s) (HA:∀ st,pm ah [.int nn] st=some (.int w,st)) (hw:w <= 100) (hm:m <= 1000) {cI:Int}{cc:Nat}
  (hx:∀ {s:aa}{a:Nat}{rows:List AV},Rep s k a b c g n u rows S->∀ i,i < m->b9 s (jW rows i) (.int cI)=some (.int (S.t i cc))) :
  ∃ X,bU [.int nn,.ref k,.int cI] st=some (.ref st.length,st++[.lst (iL X)])/\GX S w cc m X:=by
 have sl:S.sd.length=m:=P.sd;obtain ⟨sl',st',e,X,x1,x2,rfl,rfl,hX⟩:=dW (gd:=[(c,.lst (nL S.sd))]) (g:=bW [ah] (.tu 2 (.cons (.nm 4) (.cons (.nm 5) .nil)))) (s:=ak [ah] (.cons (.iff (.cmp .Lt (.v 5) (.bi .len (.cons (.v 3) .nil))) (.cons (.as (.ix (.ix (.fd "Sheet" "lines" (.v 1)) (.v 4)) (.v 2)) (.su (.v 3) (.v 5))) .nil) .nil) .nil))
  (I:=fun i sl s=>∃ X x1 x2,s=st++[.lst (iL X)]/\sl=[some (.int nn),some (.ref k),some (.int cI),some (.ref st.length),x1,x2]/\GX S w cc i X) (xs:=d4 0 (nL S.sd)) (fun i sl s _ hI=>by obtain ⟨X,_,_,rfl,_⟩:=hI;exact fc (R.app (ys:=[_])).hc)
  (fun i y sl s hy hI=>by
   obtain ⟨X,x1,x2,rfl,rfl,hX⟩:=hI;obtain ⟨x,hx',rfl⟩:=mY hy;have hi:i < m:=by have:=(zB.mp hx').1;simpa [sl] using this
   have hs0:(nL S.sd)[i]?=some (.int ((S.s i:Nat):Int)):=fR oM;rw [hs0] at hx';injection hx' with hx';subst hx';have Ra:=R.app (ys:=[Mw.lst (iL X)]);have ll:bn (st++[Mw.lst (iL X)]) (.ref st.length)=some (iL X):=bq gl;by_cases h:S.s i < w
   ·refine ⟨_,[some (.int nn),some (.ref k),some (.int cI),some (.ref st.length),some (.int i),some (.int (S.s i:Int))],st++[.lst (iL (X.set (S.s i) (S.t i cc)))],rfl,?_,X.set (S.s i) (S.t i cc),_,_,rfl,rfl,?_⟩
    ·have hs:=cW (x:=.int (S.t i cc)) (gl (st:=st) (e:=Mw.lst (iL X))) (show S.s i < (iL X).length by simp [hX.len,h])
     rw [eD,eN] at hs;have lt':S.s i < X.length:=by rw [hX.len];exact h
     simp [bw,dL,ll,lt',Ra.ins,Ra.line P hi,hx Ra i hi,hs]
    ·refine ⟨by simp [hX.len],fun j hj hs=>?_,fun q hq hn=>?_⟩
     ·by_cases e:j=i
      ·subst e;rw [SX.gI_set_at (by rw [hX.len];exact h)]
      ·rw [SX.gI_set_ne (fun z=>e (Q.si j i oM hi z))];exact hX.at_ j oM hs
     ·rw [SX.gI_set_ne (fun z=>hn i oM z.symm)];exact hX.no q hq fun j hj=>hn j oM
   ·refine ⟨_,[some (.int nn),some (.ref k),some (.int cI),some (.ref st.length),some (.int i),some (.int (S.s i:Int))],st++[.lst (iL X)],rfl,?_,X,_,_,rfl,rfl,?_⟩
    ·have lt':¬ S.s i < X.length:=by rw [hX.len];exact h
     simp [bw,dL,ll,lt']
    ·refine ⟨hX.len,fun j hj hs=>?_,fun q hq hn=>hX.no q hq fun j hj=>hn j oM⟩
     by_cases e:j=i
     ·subst e;exact absurd hs h
     ·exact hX.at_ j oM hs) (sl:=[some (.int nn),some (.ref k),some (.int cI),some (.ref st.length),none,none]) (st:=st++[.lst (iL (List.replicate w 0))]) ⟨_,none,none,rfl,rfl,by simp,fun i hi=>by omega,fun q _ _=>v0⟩
 rw [kT,mG,sl] at hX;refine ⟨X,?_,hX⟩;rw [bU,aG];unfold dQ;refine aj (sl':=[some (.int nn),some (.ref k),some (.int cI),some (.ref st.length),none,none]) (st':=st++[.lst (iL (List.replicate w 0))]) ?_ ?_
 ·rw [iH,Cn,zk (j:=w) (by simp [HA]) oM];rfl
 refine aj (sl':=[some (.int nn),some (.ref k),some (.int cI),some (.ref st.length),x1,x2]) (st':=st++[.lst (iL X)]) ?_ (by simp);have Ra:=R.app (ys:=[Mw.lst (iL (List.replicate w 0))]);simp [Ra.ins,i5 Ra.hc];exact e
theorem sC {n:Nat}:(iL l).take n=iL (l.take n):=by unfold iL;rw [List.map_take]
theorem sD {n:Nat}:(iL l).drop n=iL (l.drop n):=by unfold iL;rw [List.map_drop]
theorem qF {n:Nat} (hl:l.length=n + 1):cut (iL l) none (some (-1))=iL (l.take n):=by
 unfold cut;rw [fy,hl,HT.sIx_none,List.drop_zero];have:HT.M6 (n + 1) (n + 1) (some (-1))=n:=by
  show (if (-1:Int) < 0 then ((-1:Int) + ((n + 1:Nat):Int)).toNat else min (-1:Int).toNat (n + 1))=n;rw [yH dC];omega
 rw [this,Nat.sub_zero,sC]
theorem Cc {w m:Nat} (hl:l.length=w + (m + 1)):cut (iL l) (some (w:Int)) (some (-1))=iL ((l.drop w).take m):=by
 unfold cut;rw [fy,hl,HT.sIx_nat];have:HT.M6 (w + (m + 1)) (w + (m + 1)) (some (-1))=w + m:=by
  show (if (-1:Int) < 0 then ((-1:Int) + ((w + (m + 1):Nat):Int)).toNat else min (-1:Int).toNat (w + (m + 1)))=w + m;rw [yH dC];omega
 rw [this,Nat.min_eq_left oM,sD,sC,show w + m - w=m by omega]
theorem Ew {d:Int} (hl:X.length <= 100) (hb:∀ x ∈ X,x.natAbs < 2 ^ 9000) (hd:d.natAbs < 2 ^ 9000):cM [.fz (iL X),.int d] []=some (.tup [.fz (iL ((aP (X++[d])).take X.length)),.int (gI (aP (X++[d])) X.length)],[]):=by
 have ll:(aP (X++[d])).length=X.length + 1:=by rw [lU];simp
 have e:=qa (l:=X++[d]) (st:=[]) (by simp;omega) fun x hx=>by
  rcases zZ.mp hx with h | h
  ·exact hb x h
  ·rw [zM.mp h];exact hd
 have xl:b9 [] (.fz (iL (aP (X++[d])))) (.int (-1))=some (.int (gI (aP (X++[d])) X.length)):=by
  rw [cb eI,oe (n:=X.length) (by simp [ll]),bH oM]
 rw [cM,aG];unfold fV;refine aj (sl':=[some (.fz (iL X)),some (.int d),some (.fz (iL (aP (X++[d]))))]) (st':=[]) ?_ ?_
 ·have c:=jf (ks:=[ai]) (a:=.v 0) (b:=.nw false (.li (.cons (.v 1) .nil))) (sl:=[some (.fz (iL X)),some (.int d),none]) (st:=[]) (s1:=[]) (s2:=[]) (x:=.fz (iL X)) (y:=.fz (iL [d])) (l:=X) (l':=[d]) rfl (by simp [cE,iL]) rfl rfl (by simp;omega)
  simp [-tP,c,e]
 ·simp [oy,ox,qF ll,xl]
theorem zc (R:Rep st k a b c g n u rows S) (P:MD w m S) (Q:SX.Pm w m S.h S.s) (B:Bd w m S) (HA:∀ st,pm ah [.int nn] st=some (.int w,st)) (hw:w <= 100) (hm:m <= 1000) :
  ∃ X T st1,aT [.int nn,.ref k] st=some (.tup [.fz (iL T),.int (gI (aP (X++[S.d])) w)],st1)/\T=(aP (X++[S.d])).take w/\GX S w w m X/\Rep st1 k a b c g n u rows S:=by
 obtain ⟨X,e,hX⟩:=Ag (cI:=-1) (cc:=w) R P Q HA hw hm fun R' i hi=>R'.last P hi
 have hb:∀ x ∈ X,x.natAbs < 2 ^ 9000:=fun x hx=>by
  obtain ⟨q,hq⟩:=z7 hx;have hl:=(zB.mp hq).1;rw [hX.len] at hl;have eg:gI X q=x:=by unfold gI;rw [zD,hq];rfl
  by_cases h:∃ i,i < m/\S.s i=q
  ·obtain ⟨i,hi,rfl⟩:=h
   rw [<- eg,hX.at_ i hi hl];exact B.2 i hi w oM
  ·rw [<- eg,hX.no q hl fun i hi z=>h ⟨i,hi,z⟩];exact Nat.two_pow_pos _
 obtain ⟨st1,e1,h1⟩:=jY (fn:=cM) (rest:=[.int S.d]) (x:=.ref st.length) (l:=X) (.inr ⟨_,rfl,.inl (gl (st:=st) (e:=.lst (iL X)))⟩) rfl rfl (fun s=>by simp [i7,eE]) (Ew (by rw [hX.len];omega) hb B.1) rfl (by simp [cQ,mW]);refine ⟨X,_,st1,?_,rfl,hX,?_⟩
 ·have Ra:=R.app (ys:=[Mw.lst (iL X)])
  rw [hX.len] at e1;simp [aT,aG,eR,e,Ra.ins,e1]
 ·rcases h1 with rfl | ⟨r,hr,_,rfl⟩
  ·exact R.app
  ·cases hr;rw [eN];exact R.app
theorem FM (R:Rep st k a b c g n u rows S) (P:MD w m S) (Q:SX.Pm w m S.h S.s) (B:Bd w m S) (HA:∀ st,pm ah [.int nn] st=some (.int w,st)) (hw:w <= 100) (hm:m <= 1000) {q:Nat} (hq:q < w) :
  ∃ X st1,bV [.int nn,.ref k,.int q] st=some (.fz (iL (aP (if S.h q < w then X.set (S.h q) S.d else X))),st1)/\GX S w q m X:=by
 obtain ⟨X,e,hX⟩:=Ag (cI:=q) (cc:=q) R P Q HA hw hm fun R' i hi=>R'.cell P hi oM
 have hb:∀ x ∈ X,x.natAbs < 2 ^ 9000:=fun x hx=>by
  obtain ⟨j,hj⟩:=z7 hx;have hl:=(zB.mp hj).1;rw [hX.len] at hl;have eg:gI X j=x:=by unfold gI;rw [zD,hj];rfl
  by_cases h:∃ i,i < m/\S.s i=j
  ·obtain ⟨i,hi,rfl⟩:=h
   rw [<- eg,hX.at_ i hi hl];exact B.2 i hi q oM
  ·rw [<- eg,hX.no j hl fun i hi z=>h ⟨i,hi,z⟩];exact Nat.two_pow_pos _
 have Ra:=R.app (ys:=[Mw.lst (iL X)]);have ll:bn (st++[Mw.lst (iL X)]) (.ref st.length)=some (iL X):=bq gl;by_cases h:S.h q < w
 ·have hb2:∀ x ∈ X.set (S.h q) S.d,x.natAbs < 2 ^ 9000:=fun x hx=>by
   rcases List.mem_or_eq_of_mem_set hx with h | h
   ·exact hb x h
   ·rw [h];exact B.1
  obtain ⟨st1,e1,h1⟩:=jY (fn:=ai) (rest:=[]) (st:=st++[.lst (iL (X.set (S.h q) S.d))]) (x:=.ref st.length) (l:=X.set (S.h q) S.d) (.inr ⟨_,rfl,.inl gl⟩) rfl rfl (fun s=>rfl) (o4 (by simp [hX.len];omega) hb2) rfl (by simp [cQ]);refine ⟨X,st1,?_,hX⟩;rw [yH h];have hs:=cW (x:=.int S.d) (gl (st:=st) (e:=Mw.lst (iL X))) (show S.h q < (iL X).length by simp [hX.len,h]);rw [eD,eN] at hs;have lt':S.h q < X.length:=by rw [hX.len];exact h
  simp [bV,aG,fZ,e,Ra.ins,Ra.head P hq,bw,dL,ll,lt',hs,e1]
 ·obtain ⟨st1,e1,h1⟩:=jY (fn:=ai) (rest:=[]) (st:=st++[.lst (iL X)]) (x:=.ref st.length) (l:=X) (.inr ⟨_,rfl,.inl gl⟩) rfl rfl (fun s=>rfl) (o4 (by simp [hX.len];omega) hb) rfl (by simp [cQ])
  refine ⟨X,st1,?_,hX⟩;rw [yG h];have lt':¬ S.h q < X.length:=by rw [hX.len];exact h
  simp [bV,aG,fZ,e,Ra.ins,Ra.head P hq,bw,dL,ll,lt',e1]
end
end LW
namespace LW
open PySem PySem.Spec L2 R
open SX (Sh MD gI MN)
structure TK (S:Sh) (w m p:Nat) (T:List Int):Prop where
 len:T.length=w + m
 hd:∀ j,j < w->gI T (S.h j)=if S.h j ∈ S.tn then S.t p j else - S.t p j
 sd:gI T (S.s p)=if S.s p ∈ S.tn then - S.d else S.d
 no:∀ q,q < w + m->(∀ j,j < w->S.h j ≠ q)->q ≠ S.s p->gI T q=0
def wt (T:List Int) (HO:Nat->List Int) (w j k:Nat):Int:=gI T (w + k) + MN j fun x=>gI T x * gI (HO (x + 1)) k
section
variable {st:aa}{k a b c g n u w m p:Nat}{rows:List AV}{S:Sh}{nn:Int}{HO:Nat->List Int}
abbrev KW:List Fn:=[ah,bX,c8]
theorem qr {q x:Nat}{y:Int} (h:q < T.length):gI (T.set q y) x=if x=q then y else gI T x:=by
 by_cases e:x=q
 ·subst e;rw [yH rfl,SX.gI_set_at h]
 ·rw [yG e,SX.gI_set_ne e]
theorem AO (R:Rep st k a b c g n u rows S) (P:MD w m S) (Q:SX.Pm w m S.h S.s) (hp:p < m) (nt:S.tn.Nodup) (ht:∀ q ∈ S.tn,q < w + m) (hw:w <= 100) (hm:m <= 800) {ss:MC}{r:AV × aa->Prop}
  (h:∀ T x1 x2,TK S w m p T->∃ z,(ak KW ss [some (.int nn),some (.ref k),some (.int p),some (.ref st.length),x1,x2,none,none,none,none,none] (st++[Mw.lst (iL T)])).bind aF=some z/\r z) :
  ∃ z,(ak KW (.cons (.as (.nw true (.rep (.cons (.i 0) .nil) (.bin .Add (.bi .len (.cons (.fd "Sheet" "heads" (.v 1)) .nil)) (.bi .len (.cons (.fd "Sheet" "sides" (.v 1)) .nil))))) (.nm 3))
   (.cons (.fo (.en (.fd "Sheet" "heads" (.v 1))) (.tu 2 (.cons (.nm 4) (.cons (.nm 5) .nil))) (.cons (.as (.un .USub (.ix (.ix (.fd "Sheet" "lines" (.v 1)) (.v 2)) (.v 4))) (.su (.v 3) (.v 5))) .nil))
   (.cons (.as (.fd "Sheet" "below" (.v 1)) (.su (.v 3) (.ix (.fd "Sheet" "sides" (.v 1)) (.v 2))))
   (.cons (.fd (.fd "Sheet" "turned" (.v 1)) (.nm 5) (.cons (.as (.un .USub (.ix (.v 3) (.v 5))) (.su (.v 3) (.v 5))) .nil)) ss)))) [some (.int nn),some (.ref k),some (.int p),none,none,none,none,none,none,none,none] st).bind aF=some z/\r z:=by
 have lh:bn st (.ref b)=some (nL S.hd):=bq R.hb;have lsd:bn st (.ref c)=some (nL S.sd):=bq R.hc;refine aE (sl':=[some (.int nn),some (.ref k),some (.int p),some (.ref st.length),none,none,none,none,none,none,none]) (st':=st++[Mw.lst (iL (List.replicate (w + m) 0))]) ?_ ?_
 ·rw [iH,Cn,zk (j:=w + m) ?_ oM]
  ·rfl
  ·simp [R.ins,bw,dL,lh,lsd,P.hd,P.sd]
 -- the heads
 obtain ⟨sl',st',e,T,x1,x2,rfl,rfl,hl,h1,h2⟩:=dW (gd:=[(b,.lst (nL S.hd))]) (g:=bW KW (.tu 2 (.cons (.nm 4) (.cons (.nm 5) .nil)))) (s:=ak KW (.cons (.as (.un .USub (.ix (.ix (.fd "Sheet" "lines" (.v 1)) (.v 2)) (.v 4))) (.su (.v 3) (.v 5))) .nil))
  (I:=fun i sl s=>∃ T x1 x2,s=st++[Mw.lst (iL T)]/\sl=[some (.int nn),some (.ref k),some (.int p),some (.ref st.length),x1,x2,none,none,none,none,none]/\T.length=w + m/\(∀ j,j < i->gI T (S.h j)=- S.t p j)/\∀ q,(∀ j,j < i->S.h j ≠ q)->gI T q=0) (xs:=d4 0 (nL S.hd)) (fun i sl s _ hI=>by obtain ⟨X,_,_,rfl,_⟩:=hI;exact fc (R.app (ys:=[_])).hb)
  (fun i y sl s hy hI=>by
   obtain ⟨T,x1,x2,rfl,rfl,hl,h1,h2⟩:=hI;obtain ⟨x,hx',rfl⟩:=mY hy;have hi:i < w:=by have:=(zB.mp hx').1;simpa [P.hd] using this
   have hs0:(nL S.hd)[i]?=some (.int ((S.h i:Nat):Int)):=fR (by rw [P.hd];exact hi);rw [hs0] at hx';injection hx' with hx';subst hx';have Ra:=R.app (ys:=[Mw.lst (iL T)]);have hb:=Q.hl i hi;have hs:=cW (x:=.int (- S.t p i)) (gl (st:=st) (e:=Mw.lst (iL T))) (show S.h i < (iL T).length by simp [hl,hb]);rw [eD,eN] at hs;refine ⟨_,[some (.int nn),some (.ref k),some (.int p),some (.ref st.length),some (.int i),some (.int (S.h i:Int)),none,none,none,none,none],st++[Mw.lst (iL (T.set (S.h i) (- S.t p i)))],rfl,?_,T.set (S.h i) (- S.t p i),_,_,rfl,rfl,by simp [hl],fun j hj=>?_,fun q hq=>?_⟩
   ·simp [Ra.ins,Ra.line P hp,Ra.cell P hp (show i < w + 1 by omega),hs]
   ·rw [qr (by rw [hl];exact hb)]
    by_cases e:j=i
    ·subst e;rw [yH rfl]
    ·rw [yG fun z=>e (Q.hi j i oM hi z)];exact h1 j oM
   ·rw [qr (by rw [hl];exact hb),yG fun z=>hq i oM z.symm];exact h2 q fun j hj=>hq j oM) (sl:=[some (.int nn),some (.ref k),some (.int p),some (.ref st.length),none,none,none,none,none,none,none]) (st:=st++[Mw.lst (iL (List.replicate (w + m) 0))]) ⟨_,none,none,rfl,rfl,by simp,fun j hj=>by omega,fun q _=>v0⟩
 rw [kT,mG,P.hd] at h1 h2;refine aE (sl':=[some (.int nn),some (.ref k),some (.int p),some (.ref st.length),x1,x2,none,none,none,none,none]) (st':=st++[Mw.lst (iL T)]) ?_ ?_
 ·have Ra:=R.app (ys:=[Mw.lst (iL (List.replicate (w + m) 0))])
  simp [Ra.ins,i5 Ra.hb];exact e
 have Ra:=R.app (ys:=[Mw.lst (iL T)]);have sb:=Q.sl p hp;have hs:=cW (x:=.int S.d) (gl (st:=st) (e:=Mw.lst (iL T))) (show S.s p < (iL T).length by simp [hl,sb]);rw [eD,eN] at hs;refine aE (sl':=[some (.int nn),some (.ref k),some (.int p),some (.ref st.length),x1,x2,none,none,none,none,none]) (st':=st++[Mw.lst (iL (T.set (S.s p) S.d))]) (by simp [Ra.ins,Ra.side P hp,hs]) ?_;have l2:(T.set (S.s p) S.d).length=w + m:=by simp [hl]
 obtain ⟨T2,hT2⟩:∃ x,x=T.set (S.s p) S.d:=⟨_,rfl⟩;rw [<- hT2] at l2 ⊢
 -- the turned
 have Ru:=(R.app (ys:=[Mw.lst (iL T2)])).hu;have ult:u < st.length:=(zB.mp R.hu).1;obtain ⟨sl',st',e,T3,x2,rfl,rfl,l3,h3⟩:=dW (gd:=[]) (g:=bW KW (.nm 5)) (s:=ak KW (.cons (.as (.un .USub (.ix (.v 3) (.v 5))) (.su (.v 3) (.v 5))) .nil))
  (I:=fun i sl s=>∃ T3 x2,s=(st++[Mw.lst (iL T3)]).set u (.wk (kL S.tn))/\sl=[some (.int nn),some (.ref k),some (.int p),some (.ref st.length),x1,x2,none,none,none,none,none]/\T3.length=w + m/\∀ q,gI T3 q=if q ∈ S.tn.take i then - gI T2 q else gI T2 q) (xs:=nL S.tn) (fun _ _ _ _ _=>rfl)
  (fun i y sl s hy hI=>by
   obtain ⟨T3,x2,rfl,rfl,l3,h3⟩:=hI;have hi:i < S.tn.length:=by have:=(zB.mp hy).1;simpa using this
   rw [fR hi] at hy;injection hy with hy;subst hy;obtain ⟨q,hq⟩:∃ q,q=S.tn.getD i 0:=⟨_,rfl⟩;rw [<- hq];have qi:S.tn[i]=q:=by rw [hq,zD,zF hi];rfl
   have qm:q ∈ S.tn:=by rw [<- qi];exact List.getElem_mem hi
   have ql:=ht q qm;have tk:S.tn.take (i + 1)=S.tn.take i++[q]:=by rw [List.take_succ,zF hi,qi];rfl
   have qn:q ∉ S.tn.take i:=fun z=>by
    have:=nt.sublist (List.take_sublist (i + 1) S.tn)
    rw [tk,List.nodup_append] at this;exact this.2.2 q z q (by simp) rfl
   have gc:((st++[Mw.lst (iL T3)]).set u (.wk (kL S.tn)))[st.length]?=some (.lst (iL T3)):=by rw [ar (zU ult)];exact gl
   have hs:=cW (x:=.int (- gI T3 q)) gc (show q < (iL T3).length by simp [l3,ql]);have sc:((st++[Mw.lst (iL T3)]).set u (.wk (kL S.tn))).set st.length (.lst (iL (T3.set q (- gI T3 q))))=(st++[Mw.lst (iL (T3.set q (- gI T3 q)))]).set u (.wk (kL S.tn)):=by
    rw [List.set_comm _ _ (zU ult),eN]
   rw [eD,sc] at hs;have xi:b9 ((st++[Mw.lst (iL T3)]).set u (.wk (kL S.tn))) (.ref st.length) (.int (q:Int))=some (.int (gI T3 q)):=by rw [cb (bq gc),bT,bH oM]
   refine ⟨_,[some (.int nn),some (.ref k),some (.int p),some (.ref st.length),x1,some (.int q),none,none,none,none,none],(st++[Mw.lst (iL (T3.set q (- gI T3 q)))]).set u (.wk (kL S.tn)),rfl,?_,_,_,rfl,rfl,by simp [l3],fun x=>?_⟩
   ·simp [xi,hs]
   ·rw [qr oM,tk]
    by_cases e:x=q
    ·subst e;rw [yH rfl,yH (by simp),h3 x,yG qn]
    ·rw [yG e,h3 x];simp [e]) (sl:=[some (.int nn),some (.ref k),some (.int p),some (.ref st.length),x1,x2,none,none,none,none,none]) (st:=(st++[Mw.lst (iL T2)]).set u (.wk (kL S.tn))) ⟨T2,x2,rfl,rfl,l2,fun q=>by simp⟩
 rw [mG,List.take_length] at h3;refine aE (sl':=[some (.int nn),some (.ref k),some (.int p),some (.ref st.length),x1,x2,none,none,none,none,none]) (st':=st++[Mw.lst (iL T3)]) ?_ (h T3 x1 x2 ?_)
 ·have Rb:=R.app (ys:=[Mw.lst (iL T2)])
  have ky:(kL S.tn).map (fun q=>mN q.1)=nL S.tn:=by unfold kL nL;rw [List.map_map];rfl
  have f1:(((st++[Mw.lst (iL T3)]).set u (.wk (kL S.tn))))[u]?=some (.wk (kL S.tn)):=fA (R.app (ys:=[Mw.lst (iL T3)])).hu;have f2:((st++[Mw.lst (iL T3)]).set u (.wk (kL S.tn))).set u (.dK (kL S.tn))=st++[Mw.lst (iL T3)]:=by
   rw [List.set_set]
   have:=(R.app (ys:=[Mw.lst (iL T3)])).hu
   obtain ⟨hlt,hget⟩:=zB.mp this;rw [<- hget,List.set_getElem_self]
  simp [tD,Rb.ins,Rb.hu];rw [show (kL S.tn).map ((fun q=>mN q.1))=nL S.tn from ky] at *;rw [e];simp [zb,f1,f2]
 ·have e2:∀ q,gI T2 q=if q=S.s p then S.d else gI T q:=fun q=>by rw [hT2,qr (by rw [hl];exact sb)]
  refine ⟨l3,fun j hj=>?_,?_,fun q hq hn hns=>?_⟩
  ·rw [h3,e2,yG (Q.hs j p hj hp),h1 j hj];split <;> omega
  ·rw [h3,e2,yH rfl]
  ·rw [h3,e2,yG hns,h2 q hn];split <;> rfl
end
structure HOk (nn:Int) (w nr:Nat) (HO:Nat->List Int):Prop where
 ex:∀ grp:Nat,1 <= grp->grp <= w->∃ rr,(∀ st,pm bX [.int nn,.int grp,.int 0] st=some (rr,st))/\∀ st,pm c8 [.int nn,rr] st=some (.fz (iL (HO grp)),st)
 len:∀ grp:Nat,1 <= grp->grp <= w->(HO grp).length=nr
 bd:∀ (grp:Nat),1 <= grp->grp <= w->∀ x ∈ HO grp,x.natAbs <= 15
section
variable {st:aa}{k a b c g n u w m p nr:Nat}{rows:List AV}{S:Sh}{nn:Int}{HO:Nat->List Int}
theorem HM {r q:Nat}{x:Int} (h1:ev ks ea sl s=some (.ref r,s)) (h2:ev ks eb sl s=some (.int (q:Int),s)) (h3:ev ks ec sl s=some (.int x,s)) (hr:s[r]?=some (.lst (iL l))) (hq:q < l.length):cR ks (.aus .Add ea eb ec) sl s=some (.nx sl (s.set r (.lst (iL (l.set q (gI l q + x)))))):=by
 rw [F1];unfold tE;rw [h1,bind_some];dsimp only;rw [h2,bind_some];dsimp only;rw [bq hr,bind_some,bT,bH hq,bind_some,h3,bind_some];dsimp only;have:uD .Add s (.int (gI l q)) (.int x)=some (.int (gI l q + x)):=rfl;rw [this,bind_some,cW hr (by simp [hq]),eD,bind_some]
theorem yx (R:Rep st k a b c g n u rows S) (P:MD w (m + 1) S) (Q:SX.Pm w (m + 1) S.h S.s) (hp:p < m + 1) (nt:S.tn.Nodup) (ht:∀ q ∈ S.tn,q < w + (m + 1)) (hw:w <= 100) (hm:m + 1 <= 800) (HA:∀ st,pm ah [.int nn] st=some (.int w,st)) (H:HOk nn w nr HO) (hnr:nr <= m) :
  ∃ z,aJ [.int nn,.ref k,.int p] st=some z/\∃ T W,TK S w (m + 1) p T/\W.length=m/\(∀ x,x < m->gI W x=wt T HO w w x)/\z.1=.ref (st.length + 1)/\z.2=st++[Mw.lst (iL T)]++[Mw.lst (iL W)]:=by
 rw [aJ];simp only [aG];unfold d9;refine AO R P Q hp nt ht hw hm fun T x1 x2 hT=>?_
 have sT:(st++[Mw.lst (iL T)])[st.length]?=some (.lst (iL T)):=gl;refine aE (sl':=[some (.int nn),some (.ref k),some (.int p),some (.ref st.length),x1,x2,some (.ref (st.length + 1)),none,none,none,none]) (st':=st++[Mw.lst (iL T)]++[Mw.lst (iL ((T.drop w).take m))]) ?_ ?_
 ·simp [oy,ox,HA,bq sT,Cc hT.len]
 have ll:(st++[Mw.lst (iL T)]).length=st.length + 1:=by simp
 have sT2:∀ W:List Int,(st++[Mw.lst (iL T)]++[Mw.lst (iL W)])[st.length]?=some (.lst (iL T)):=fun W=>ga sT
 have sW:∀ W:List Int,(st++[Mw.lst (iL T)]++[Mw.lst (iL W)])[st.length + 1]?=some (.lst (iL W)):=fun W=>by rw [<- ll];exact gl
 have sSet:∀ W W':List Int,(st++[Mw.lst (iL T)]++[Mw.lst (iL W)]).set (st.length + 1) (.lst (iL W'))=st++[Mw.lst (iL T)]++[Mw.lst (iL W')]:=fun W W'=>by rw [<- ll];exact eN
 have hW0:∀ x,x < m->gI ((T.drop w).take m) x=wt T HO w 0 x:=fun x hx=>by
  unfold wt gI;rw [zD,List.getElem?_take_of_lt hx,List.getElem?_drop,zD];simp [MN]
 obtain ⟨sl',st',e,W,y1,y2,y3,y4,rfl,rfl,hl,hW⟩:=dW (gd:=[]) (g:=bW KW (.nm 7)) (s:=ak KW (.cons (.as (.ix (.v 3) (.bin .Sub (.v 7) (.i 1))) (.nm 8)) (.cons (.iff (.cmp .NotEq (.v 8) (.i 0))
   (.cons (.fo (.en (.ca true 2 (.cons (.v 0) (.cons (.ca true 1 (.cons (.v 0) (.cons (.v 7) (.cons (.i 0) .nil)))) .nil)))) (.tu 2 (.cons (.nm 9) (.cons (.nm 10) .nil))) (.cons (.aus .Add (.v 6) (.v 9) (.bin .Mult (.v 8) (.v 10))) .nil)) .nil) .nil) .nil)))
  (I:=fun i sl s=>∃ W y1 y2 y3 y4,s=st++[Mw.lst (iL T)]++[Mw.lst (iL W)]/\sl=[some (.int nn),some (.ref k),some (.int p),some (.ref st.length),x1,x2,some (.ref (st.length + 1)),y1,y2,y3,y4]/\W.length=m/\∀ x,x < m->gI W x=wt T HO w i x) (xs:=cJ 1 w) (fun _ _ _ _ _=>rfl)
  (fun i y sl s hy hI=>by
   obtain ⟨W,y1,y2,y3,y4,rfl,rfl,hl,hW⟩:=hI;have hi:i < w:=by have:=(zB.mp hy).1;unfold cJ at this;simpa using this
   have ey:y=.int (((i + 1:Nat)):Int):=by
    unfold cJ at hy;rw [zR,List.getElem?_range hi] at hy;injection hy with hy;rw [<- hy];show AV.int (1 + (i:Int))=_;congr 1;omega
   subst ey;have xi:b9 (st++[Mw.lst (iL T)]++[Mw.lst (iL W)]) (.ref st.length) (.int (i:Int))=some (.int (gI T i)):=by rw [cb (bq (sT2 W)),bT,bH (by rw [hT.len];omega)]
   have st1:cR KW (.as (.ix (.v 3) (.bin .Sub (.v 7) (.i 1))) (.nm 8)) [some (.int nn),some (.ref k),some (.int p),some (.ref st.length),x1,x2,some (.ref (st.length + 1)),some (.int ((i + 1:Nat):Int)),y2,y3,y4] (st++[Mw.lst (iL T)]++[Mw.lst (iL W)])=some (.nx [some (.int nn),some (.ref k),some (.int p),some (.ref st.length),x1,x2,some (.ref (st.length + 1)),some (.int ((i + 1:Nat):Int)),some (.int (gI T i)),y3,y4] (st++[Mw.lst (iL T)]++[Mw.lst (iL W)])):=by
    have e0:((i + 1:Nat):Int) - 1=(i:Int):=by omega
    have hb:ci .Sub (st++[Mw.lst (iL T)]++[Mw.lst (iL W)]) (.int ((i + 1:Nat):Int)) (.int 1)=some (.int (i:Int)):=by rw [HD,e0]
    simp only [iH,wB,yY,pj,uM,md,ma,bind_some,hb,map_some,xi];rfl
   by_cases h0:gI T i=0
   ·refine ⟨_,_,_,rfl,ao st1 ?_,W,some (.int ((i + 1:Nat):Int)),some (.int (gI T i)),y3,y4,rfl,rfl,hl,fun x hx=>?_⟩
    ·simp [h0]
    ·rw [hW x hx];unfold wt;simp only [MN,h0];omega
   ·obtain ⟨rr,r1,r2⟩:=H.ex (i + 1) oM oM
    have hlen:=H.len (i + 1) oM oM;obtain ⟨sl',st',e,W',z3,z4,rfl,rfl,hl',hW'⟩:=dW (gd:=[]) (g:=bW KW (.tu 2 (.cons (.nm 9) (.cons (.nm 10) .nil)))) (s:=ak KW (.cons (.aus .Add (.v 6) (.v 9) (.bin .Mult (.v 8) (.v 10))) .nil))
     (I:=fun j sl s=>∃ W' z3 z4,s=st++[Mw.lst (iL T)]++[Mw.lst (iL W')]/\sl=[some (.int nn),some (.ref k),some (.int p),some (.ref st.length),x1,x2,some (.ref (st.length + 1)),some (.int ((i + 1:Nat):Int)),some (.int (gI T i)),z3,z4]/\W'.length=m/\∀ x,x < m->gI W' x=gI W x + if x < j then gI T i * gI (HO (i + 1)) x else 0) (xs:=d4 0 (iL (HO (i + 1)))) (fun _ _ _ _ _=>rfl)
     (fun j y sl s hy hI=>by
      obtain ⟨W',z3,z4,rfl,rfl,hl',hW'⟩:=hI;obtain ⟨x,hx',rfl⟩:=mY hy;have hj:j < nr:=by have:=(zB.mp hx').1;simpa [hlen] using this
      rw [bH oM] at hx';injection hx' with hx';subst hx';have hc:(gI (HO (i + 1)) j).natAbs <= 15:=by
       refine H.bd (i + 1) oM oM _ ?_;unfold gI;exact SX.getD_mem oM
      have mb:cK (gI T i) (gI (HO (i + 1)) j)=true:=by
       unfold cK;have:Nat.ble (gI (HO (i + 1)) j).natAbs.log2 62=true:=yK (by
        by_cases hz:(gI (HO (i + 1)) j).natAbs=0
        ·rw [hz];decide
        ·exact yV ((Nat.log2_lt hz).mpr (yL hc dC)))
       rw [this];simp
      refine ⟨_,_,_,rfl,ao (HM (r:=st.length + 1) (q:=j) (l:=W') (x:=gI T i * gI (HO (i + 1)) j) rfl rfl (by simp [bO mb]) (sW W') oM) rfl,W'.set j (gI W' j + gI T i * gI (HO (i + 1)) j),_,_,sSet _ _,rfl,by simp [hl'],fun x hx=>?_⟩;rw [qr oM];by_cases e:x=j
      ·subst e;rw [yH rfl,hW' x hx,yG oM,yH oM];omega
      ·rw [yG e,hW' x hx]
       by_cases e2:x < j
       ·rw [yH e2,yH oM]
       ·rw [yG e2,yG oM]) (sl:=[some (.int nn),some (.ref k),some (.int p),some (.ref st.length),x1,x2,some (.ref (st.length + 1)),some (.int ((i + 1:Nat):Int)),some (.int (gI T i)),y3,y4]) (st:=st++[Mw.lst (iL T)]++[Mw.lst (iL W)]) ⟨W,y3,y4,rfl,rfl,hl,fun x hx=>by simp⟩
    rw [kT,fy,hlen] at hW';refine ⟨_,_,_,rfl,ao st1 (ao (sl':=[some (.int nn),some (.ref k),some (.int p),some (.ref st.length),x1,x2,some (.ref (st.length + 1)),some (.int ((i + 1:Nat):Int)),some (.int (gI T i)),z3,z4]) (st':=st++[Mw.lst (iL T)]++[Mw.lst (iL W')]) ?_ rfl),W',some (.int ((i + 1:Nat):Int)),some (.int (gI T i)),z3,z4,rfl,rfl,hl',fun x hx=>?_⟩
    ·have r1':=r1 (st++[Mw.lst (iL T)]++[Mw.lst (iL W)])
     have r2':=r2 (st++[Mw.lst (iL T)]++[Mw.lst (iL W)]);simp only [tB,oY,pj,uM,md,ma,bind_some,J7,map_some,z9 h0,Bool.not_false,ite_true];refine ao (sl':=[some (.int nn),some (.ref k),some (.int p),some (.ref st.length),x1,x2,some (.ref (st.length + 1)),some (.int ((i + 1:Nat):Int)),some (.int (gI T i)),z3,z4]) (st':=st++[Mw.lst (iL T)]++[Mw.lst (iL W')]) ?_ rfl;rw [nK,JT];simp only [pq,iU,jS,pj,uM,md,ma,bind_some,zp,qf,qe];rw [r1'];simp only [bind_some];rw [r2'];simp only [bind_some,EN,map_some];exact e
    ·rw [hW' x hx,hW x hx]
     unfold wt;simp only [MN];by_cases e:x < nr
     ·rw [yH e];omega
     ·rw [yG e]
      have:gI (HO (i + 1)) x=0:=by unfold gI;rw [zD,List.getElem?_eq_none oM];rfl
      rw [this,Int.mul_zero];omega) (sl:=[some (.int nn),some (.ref k),some (.int p),some (.ref st.length),x1,x2,some (.ref (st.length + 1)),none,none,none,none]) (st:=st++[Mw.lst (iL T)]++[Mw.lst (iL ((T.drop w).take m))]) ⟨_,none,none,none,none,rfl,rfl,by simp [hT.len],hW0⟩
 have rl:(cJ 1 w).length=w:=by unfold cJ;simp
 rw [rl] at hW;refine ⟨(.ref (st.length + 1),st++[Mw.lst (iL T)]++[Mw.lst (iL W)]),?_,T,W,hT,hl,hW,rfl,rfl⟩;refine aj (sl':=[some (.int nn),some (.ref k),some (.int p),some (.ref st.length),x1,x2,some (.ref (st.length + 1)),y1,y2,y3,y4]) (st':=st++[Mw.lst (iL T)]++[Mw.lst (iL W)]) ?_ (by simp);have rb1:eO 1=true:=by decide
 have rb2:eO ((w:Int) + 1)=true:=by
  unfold eO;refine yK ?_;rw [show ((w:Int) + 1).natAbs=w + 1 by omega];exact yV ((Nat.log2_lt oM).mpr oM)
 rw [nK];have ei:dg KW (.r2 (.i 1) (.bin .Add (.ca true 0 (.cons (.v 0) .nil)) (.i 1))) [some (.int nn),some (.ref k),some (.int p),some (.ref st.length),x1,x2,some (.ref (st.length + 1)),none,none,none,none] (st++[Mw.lst (iL T)]++[Mw.lst (iL ((T.drop w).take m))])=some (⟨cJ 1 w,[]⟩,st++[Mw.lst (iL T)]++[Mw.lst (iL ((T.drop w).take m))]):=by
  have e2:((w:Int) + 1 - 1).toNat=w:=by omega
  simp [-List.append_assoc,Af,HA,rb1,rb2]
 rw [ei,bind_some];exact e
end
section
variable {st:aa}{k a b c g n u w m p nr:Nat}{rows:List AV}{S:Sh}{nn:Int}{HO:Nat->List Int}{v:Nat->Nat->Int}
theorem TK.bd (hT:TK S w m p T) (hp:p < m) (Q:SX.Pm w m S.h S.s) (B:S.d.natAbs < 2 ^ 8900/\∀ i,i < m->∀ j,j < w + 1->(S.t i j).natAbs < 2 ^ 8900) (q:Nat):(gI T q).natAbs < 2 ^ 8900:=by
 by_cases hq:q < w + m
 ·by_cases h1:∃ j,j < w/\S.h j=q
  ·obtain ⟨j,hj,rfl⟩:=h1
   rw [hT.hd j hj]
   have:=B.2 p hp j oM
   split
   ·exact this
   ·rw [Int.natAbs_neg];exact this
  ·by_cases h2:q=S.s p
   ·rw [h2,hT.sd]
    split
    ·rw [Int.natAbs_neg];exact B.1
    ·exact B.1
   ·rw [hT.no q hq (fun j hj z=>h1 ⟨j,hj,z⟩) h2];exact Nat.two_pow_pos _
 ·have:gI T q=0:=by unfold gI;rw [zD,List.getElem?_eq_none (by rw [hT.len];omega)];rfl
  rw [this];exact Nat.two_pow_pos _
theorem FK (hb:∀ q,(gI T q).natAbs < 2 ^ 8900) (H:HOk nn w nr HO) (hw:w <= 15) (x:Nat):(wt T HO w w x).natAbs < 2 ^ 9000:=by
 unfold wt;have h1:=SX.abs_sum (n:=w) (f:=fun y=>gI T y * gI (HO (y + 1)) x) (M:=2 ^ 8900 * 15) fun i hi=>by
  rw [Int.natAbs_mul];refine Nat.mul_le_mul (yV (hb i)) ?_;unfold gI;rw [zD];cases e:(HO (i + 1))[x]? with
  | none=>simp
  | some z=>exact H.bd (i + 1) oM oM z (zW e)
 have h2:=hb (w + x);have h3:=Int.natAbs_add_le (gI T (w + x)) (MN w fun y=>gI T y * gI (HO (y + 1)) x);have h4:w * (2 ^ 8900 * 15) <= 15 * (2 ^ 8900 * 15):=Nat.mul_le_mul_right _ hw;have h5:(2:Nat) ^ 9000=2 ^ 8900 * 2 ^ 100:=by rw [<- Nat.pow_add]
 have h6:(2:Nat) ^ 100=1267650600228229401496703205376:=by decide
 rw [h5,h6];generalize (2:Nat) ^ 8900=B at *;omega
end
end LW
namespace LW
open PySem PySem.Spec L2 R
open SX (Sh MD gI MN ME)
section
variable {w nr i:Nat}{RR:List (List Int)}{gv:List Gv}{goal:List Int}{S:Sh}{Y:Nat->Int}{e:Int}
theorem HQ:(aN RR gv goal).length=RR.length + gv.length + 1:=by simp [aN];omega
end
section
variable {w:Nat}{RR:List (List Int)}{gv:List Gv}{goal:List Int}{nn:Int}{HO:Nat->List Int}
theorem B6 {n0:Nat}{i:Nat} (h:(d4 n0 xs)[i]?=some y):∃ x,xs[i]?=some x/\y=.tup [.int ((n0 + i:Nat):Int),x]:=by
 unfold d4 at h;rw [zR] at h;obtain ⟨z,h1,rfl⟩:=zE.mp h;rw [List.getElem?_zipIdx] at h1;obtain ⟨x,h2,rfl⟩:=zE.mp h1;exact ⟨x,h2,rfl⟩
theorem He:cA .Eq s (.str "=") (.str "=")=some true:=by kernel_rfl
theorem G2:cA .Eq s (.str ">") (.str "=")=some false:=by kernel_rfl
end
end LW
namespace LW
open PySem PySem.Spec L2 R
open SX (Sh MD MJ)
noncomputable def iA (key:Nat->Nat):Nat->Nat->List Nat->Nat
 | x,_,[]=>x
 | x,k,y::l=>if key y < k then iA key y (key y) l else iA key x k l
def uA (key:Nat->Nat):List Nat->Option Nat
 | []=>none
 | x::l=>some (iA key x (key x) l)
def gK (S:Sh) (p:Nat):Option Nat:=uA S.h ((bK S).filter fun j=>decide (0 < S.t p j))
def iV (w:Nat) (S:Sh) (q:Nat) (o:Option Nat) (i:Nat):Option Nat:=(if S.t i q < 0/\S.s i ∈ S.gd then (match o with | none=>some i | some r=>if S.t i w * - S.t r q < S.t r w * - S.t i q\/(S.t i w * - S.t r q=S.t r w * - S.t i q/\S.s i < S.s r) then some i else some r) else o)
def f7 (w m:Nat) (S:Sh) (q:Nat):Option Nat:=(List.range m).foldl (iV w S q) none
theorem pA {w i:Nat}{S:Sh}{q:Nat}:f7 w (i + 1) S q=iV w S q (f7 w i S q) i:=by
 unfold f7;rw [List.range_succ,List.foldl_append];rfl
noncomputable def qP (S:Sh):Bool:=decide (S.d.natAbs < 1000000000) && !(S.d == 0) && S.ls.all fun l=>l.all fun x=>decide (x.natAbs < 1000000000)
def ip (w m p:Nat):Nat->Sh->Option (Bool × Sh)
 | 0,_=>none
 | n + 1,S=>if qP S=true then (if S.t p w < 0 then (match gK S p with
  | none=>some (false,S)
  | some q=>(match f7 w m S q with
   | none=>some (true,MJ S p q)
   | some r=>if S.t p w * S.t r q <= S.t r w * S.t p q then some (true,MJ S p q) else ip w m p n (MJ S r q))) else some (true,S)) else none
def gp (w m p:Nat):Nat->Sh->Option (Option Nat × Sh)
 | 0,_=>none
 | n + 1,S=>if qP S=true then (match gK S p with
  | none=>some (none,S)
  | some q=>(match f7 w m S q with
   | none=>some (some q,S)
   | some r=>gp w m p n (MJ S r q))) else none
theorem wg {key:Nat->Nat}{l:List Nat}:oi ((l.map fun q=>((q:Nat):Int)).zip (l.map fun q=>((key q:Nat):Int)))=oN (uA key l):=by
 cases l with
 | nil=>rfl
 | cons x l =>
  have go:∀ (l:List Nat) (x k:Nat),iQ (x:Int) (k:Int) ((l.map fun q=>((q:Nat):Int)).zip (l.map fun q=>((key q:Nat):Int)))=((iA key x k l:Nat):Int):=by
   intro l
   induction l with
   | nil=>intro x k;rfl
   | cons y l ih =>
    intro x k;simp only [zO,List.zip_cons_cons,iQ,iA];by_cases h:key y < k
    ·rw [yH oM,yH h];exact ih y (key y)
    ·rw [yG oM,yG h];exact ih x k
  exact congrArg AV.int (go l x (key x))
section
variable {st:aa}{k a b c g n u w m:Nat}{rows:List AV}{S:Sh}{p:Nat}
theorem uC (P:MD w m S) (h:qP S=true):Bd w m S/\S.d ≠ 0:=by
 unfold qP at h;rw [zC,zC,yB,yO] at h;obtain ⟨⟨h1,h2⟩,h3⟩:=h;have big:1000000000 < 2 ^ 9000:=zJ (show 1000000000 < 2 ^ 30 by decide) (Nat.pow_le_pow_right dC dC);refine ⟨⟨Nat.lt_trans h1 big,fun i hi j hj=>?_⟩,by simpa using h2⟩;have hl:S.ls[i]?=some (SX.row S i):=by
  have:i < S.ls.length:=by rw [P.ls];exact hi
  unfold SX.row;rw [zD,zF this];rfl
 have:=h3 _ (zW hl)
 rw [yO] at this;have hlen:j < (SX.row S i).length:=by rw [P.rl hi];exact hj
 have hm:S.t i j ∈ SX.row S i:=by
  show (SX.row S i).getD j 0 ∈ _;rw [zD,zF hlen];exact List.getElem_mem hlen
 exact Nat.lt_trans (of_decide_eq_true (this _ hm)) big
theorem yq {key:Nat->Nat}{l:List Nat}{x:Nat} (h:uA key l=some x):x ∈ l:=by
 have go:∀ (l:List Nat) (x k:Nat),iA key x k l ∈ x::l:=by
  intro l
  induction l with
  | nil=>intro x k;simp [iA]
  | cons y l ih =>
   intro x k;simp only [iA];split
   ·exact zQ _ (ih y (key y))
   ·rcases zT.mp (ih x k) with e | e
    ·rw [e];exact z6 ..
    ·exact zQ _ (zQ _ e)
 cases l with
 | nil=>cases h
 | cons y l=>cases h;exact go l y (key y)
theorem rC (P:MD w m S) {q:Nat} (h:gK S p=some q):q < w:=by
 have:=List.mem_filter.mp (yq h)
 exact ((gf P).mp this.1).1
theorem px {q r:Nat}:∀ {m:Nat},f7 w m S q=some r->r < m:=by
 intro m
 induction m with
 | zero=>intro h;cases h
 | succ m ih =>
  rw [pA];unfold iV;intro h;split at h
  ·split at h
   ·cases h;omega
   ·rename_i e
    split at h
    ·cases h;omega
    ·cases h;have:=ih e;omega
  ·have:=ih h;omega
theorem pL (R:Rep st k a b c g n u rows S) (P:MD w m S) (hw:w <= 100) {p:Nat} (hp:p < m):ay [.ref k,.int p] st=some (oN (gK S p),st):=by
 have ll:(bK S).length <= 1000:=by
  unfold bK;rw [zH]
  have:=List.length_filter_le (fun z:Nat × Nat=>!decide (z.1 ∈ S.nl)) S.hd.zipIdx
  rw [List.length_zipIdx,P.hd] at this;omega
 have inl:∀ j,j ∈ (bK S).filter (fun j=>decide (0 < S.t p j)) ↔ (j < w/\S.h j ∉ S.nl)/\0 < S.t p j:=fun j=>by rw [List.mem_filter,gf P];simp
 have ho:=wg (key:=S.h) (l:=(bK S).filter fun j=>decide (0 < S.t p j));simp [ay,aG,c6,R.ins,R.line P hp,sk R P hw,nL,bt ll];rw [fb (B:=fun j=>decide (0 < S.t p j)) (F:=fun j:Nat=>.int (j:Int)) dI fun j hj=>⟨_,rfl,by simp [R.cell P hp (show j < w + 1 by have:=(gf P).mp hj;omega)],fun _=>rfl⟩];have hf:rfs (((bK S).filter fun j=>decide (0 < S.t p j)).map fun j:Nat=>(AV.int (j:Int)))=true:=jn;have hi:=sy (l:=(bK S).filter fun j=>decide (0 < S.t p j));unfold nL at hi;simp [hf,pb,lsI,hi];rw [Et (f:=S.h) fun q hq=>by simp [R.ins,R.head P ((inl q).mp hq).1.1]];simp [ho,gK]
theorem rj (R:Rep st k a b c g n u rows S) (P:MD w m S) (B:Bd w m S) {q:Nat} (hq:q < w):ax [.ref k,.int q] st=some (oN (f7 w m S q),st):=by
 have rl:rows.length=m:=by rw [R.len,P.ls]
 obtain ⟨sl',st',e,rfl,o,x,y,rfl,T,To⟩:=dW (gd:=[(a,.lst rows)]) (g:=bW [bD] (.tu 2 (.cons (.nm 3) (.cons (.nm 4) .nil)))) (s:=ak [bD] (.cons (.iff (.an (.cmp .Lt (.ix (.v 4) (.v 1)) (.i 0)) (.cmp .In (.ix (.fd "Sheet" "sides" (.v 0)) (.v 3)) (.fd "Sheet" "guarded" (.v 0))))
   (.cons (.iff (.or (.cmp .Is (.v 2) .n) (.va (.me "Sheet" "is_tighter" 0 (.v 0) (.cons (.v 3) (.cons (.v 2) (.cons (.v 1) .nil)))))) (.cons (.as (.v 3) (.nm 2)) .nil) .nil) .nil) .nil) .nil))
  (I:=fun i sl s=>s=st/\∃ o x y,sl=[some (.ref k),some (.int q),some (oN o),x,y]/\SX.ME S w q i o/\o=f7 w i S q) (xs:=d4 0 rows) (fun i sl s _ hI=>by rw [hI.1];exact fc R.ha)
  (fun i y sl s hy hI=>by
   obtain ⟨rfl,o,x1,x2,rfl,T,To⟩:=hI;obtain ⟨x,hx,rfl⟩:=mY hy;have hi:i < m:=by rw [<- rl];exact (zB.mp hx).1
   have ex:x=jW rows i:=by have:=R.rx P hi;rw [hx] at this;injection this
   subst ex;refine ⟨_,[some (.ref k),some (.int q),some (oN (iV w S q o i)),some (.int i),some (jW rows i)],s,rfl,?_,rfl,_,_,_,rfl,?_,by rw [pA,<- To]⟩
   ·unfold iV
    by_cases h1:S.t i q < 0
    ·by_cases h2:S.s i ∈ S.gd
     ·cases o with
      | none=>simp [R.cell P hi (show q < w + 1 by omega),h1,R.side P hi,R.ins,R.ing,h2,oN]
      | some r =>
       have hr:=(T.2 r rfl).1
       have:=GW R P B hi (show r < m by omega) hq
       simp [R.cell P hi (show q < w + 1 by omega),h1,R.side P hi,R.ins,R.ing,h2,oN,this,d7,bn,dr];split <;> rfl
     ·simp [R.cell P hi (show q < w + 1 by omega),h1,R.side P hi,R.ins,R.ing,h2]
    ·simp [R.cell P hi (show q < w + 1 by omega),h1]
   ·unfold iV
    by_cases h1:S.t i q < 0/\S.s i ∈ S.gd
    ·rw [yH h1]
     cases o with
     | none=>exact SX.tt_first h1.1 h1.2 T
     | some r =>
      dsimp only;split
      ·rename_i h2;exact SX.tt_new h1.1 h1.2 h2 T
      ·rename_i h2;exact SX.tt_old h1.1 h2 T
    ·rw [yG h1];exact SX.tt_skip h1 T) (sl:=[some (.ref k),some (.int q),some .non,none,none]) (st:=st) ⟨rfl,none,none,none,rfl,SX.tt_zero,rfl⟩
 rw [kT,rl] at To;rw [<- To];simp [ax,aG,c5,R.ins,i5 R.ha];rw [e];simp
end
section
variable {k b c g n u w m:Nat}{p:Nat}
theorem xP (hw:w <= 100) (hm:m <= 1000) (hp:p < m):∀ (N:Nat) (S:Sh) {bb:Bool}{S':Sh}{st:aa}{a:Nat}{rows:List AV} (x y:Option AV),ip w m p N S=some (bb,S')->MD w m S->Rep st k a b c g n u rows S ->
  ∃ o st' a' rows',dA (tv [ay,ax,ba,aw] (.cmp .Lt (.ix (.ix (.fd "Sheet" "lines" (.v 0)) (.v 1)) (.un .USub (.i 1))) (.i 0)))
   (ak [ay,ax,ba,aw] (.cons (.as (.me "Sheet" "raising_column" 0 (.v 0) (.cons (.v 1) .nil)) (.nm 2))
    (.cons (.iff (.cmp .Is (.v 2) .n) (.cons (.rt (.b false)) .nil) .nil)
    (.cons (.as (.me "Sheet" "tightest_place" 1 (.v 0) (.cons (.v 2) .nil)) (.nm 3))
    (.cons (.iff (.or (.cmp .Is (.v 3) .n) (.va (.me "Sheet" "is_up_first" 2 (.v 0) (.cons (.v 1) (.cons (.v 3) (.cons (.v 2) .nil)))))) (.cons (.ex (.me "Sheet" "exchange" 3 (.v 0) (.cons (.v 1) (.cons (.v 2) .nil)))) (.cons (.rt (.b true)) .nil)) .nil)
    (.cons (.ex (.me "Sheet" "exchange" 3 (.v 0) (.cons (.v 3) (.cons (.v 2) .nil)))) .nil)))))) N [some (.ref k),some (.int p),x,y] st=some o/\Rep st' k a' b c g n u rows' S'/\MD w m S'/\(o=.rt (.bl bb) st'\/(bb=true/\∃ sl,o=.nx sl st')):=by
 intro N
 induction N with
 | zero=>intro S bb S' st a rows x y h;cases h
 | succ N ih =>
  intro S bb S' st a rows x y h P R;simp only [ip] at h;split at h
  ·rename_i hb
   obtain ⟨B,d0⟩:=uC P hb;have ht:tv [ay,ax,ba,aw] (.cmp .Lt (.ix (.ix (.fd "Sheet" "lines" (.v 0)) (.v 1)) (.un .USub (.i 1))) (.i 0)) [some (.ref k),some (.int p),x,y] st=some (decide (S.t p w < 0),st):=by
    simp [R.ins,R.line P hp,R.last P hp]
   split at h
   ·rename_i low
    rw [yS low] at ht;have e1:=pL R P hw hp;split at h
    ·rename_i hr
     cases h;rw [hr] at e1;refine ⟨_,st,a,rows,dz (show 1 <= N + 1 by omega) (mi (v:=.bl false) (st2:=st) ht ?_),R,P,.inl rfl⟩;simp [R.ins,e1,oN]
    ·rename_i q hr
     rw [hr] at e1;have q1:=rC P hr;have e2:=rj R P B q1;split at h
     ·rename_i hti
      cases h;rw [hti] at e2;obtain ⟨st',a2,rows2,e3,R2⟩:=j9 R P B d0 hw hm hp q1;refine ⟨_,st',a2,rows2,dz (show 1 <= N + 1 by omega) (mi (v:=.bl true) (st2:=st') ht ?_),R2,SX.exch_shp P hp,.inl rfl⟩;simp [R.ins,e1,e2,e3,oN]
     ·rename_i r hti
      rw [hti] at e2;have r1:=px hti;have e4:=FO R P B hp r1 q1;split at h
      ·rename_i hu
       cases h;rw [yS hu] at e4;obtain ⟨st',a2,rows2,e3,R2⟩:=j9 R P B d0 hw hm hp q1;refine ⟨_,st',a2,rows2,dz (show 1 <= N + 1 by omega) (mi (v:=.bl true) (st2:=st') ht ?_),R2,SX.exch_shp P hp,.inl rfl⟩;simp [R.ins,e1,e2,e3,e4,oN,d7,bn,dr]
      ·rename_i hu
       rw [z9 hu] at e4;obtain ⟨st',a2,rows2,e3,R2⟩:=j9 R P B d0 hw hm r1 q1;obtain ⟨o,st2,a3,rows3,e5,R3,P3,h3⟩:=ih (MJ S r q) (some (.int q)) (some (.int r)) h (SX.exch_shp P r1) R2;refine ⟨o,st2,a3,rows3,nF (st':=st) (sl2:=[some (.ref k),some (.int p),some (.int q),some (.int r)]) (st2:=st') ht ?_ e5,R3,P3,h3⟩;simp [R.ins,e1,e2,e3,e4,oN,d7,bn,dr]
   ·rename_i low
    cases h;rw [z9 low] at ht;exact ⟨_,st,a,rows,dz (show 1 <= N + 1 by omega) (nE ht),R,P,.inr ⟨rfl,_,rfl⟩⟩
  ·cases h
theorem vK (hw:w <= 100) (hm:m <= 1000) (hp:p < m) {N:Nat}{S S':Sh}{bb:Bool}{st:aa}{a:Nat}{rows:List AV} (h:ip w m p N S=some (bb,S')) (P:MD w m S) (R:Rep st k a b c g n u rows S) :
  ∃ st' a' rows',bC [.ref k,.int p] st=some (.bl bb,st')/\Rep st' k a' b c g n u rows' S'/\MD w m S':=by
 obtain ⟨o,st',a',rows',e,R',P',h'⟩:=xP hw hm hp N S none none h P R;have e:=mo e;refine ⟨st',a',rows',?_,R',P'⟩;rcases h' with rfl | ⟨rfl,sl,rfl⟩
 ·simp [bC,aG,fK,e]
 ·simp [bC,aG,fK,e]
theorem v3 (hw:w <= 100) (hm:m <= 1000) (hp:p < m):∀ (N:Nat) (S:Sh) {oq:Option Nat}{S':Sh}{st:aa}{a:Nat}{rows:List AV} (x:Option AV),gp w m p N S=some (oq,S')->MD w m S->Rep st k a b c g n u rows S ->
  ∃ o st' a' rows',dA (tv [ay,ax,aw] (.cmp .IsNot (.v 2) .n)) (ak [ay,ax,aw] (.cons (.as (.me "Sheet" "tightest_place" 1 (.v 0) (.cons (.v 2) .nil)) (.nm 3)) (.cons (.iff (.cmp .Is (.v 3) .n) (.cons (.rt (.v 2)) .nil) .nil) (.cons (.ex (.me "Sheet" "exchange" 2 (.v 0) (.cons (.v 3) (.cons (.v 2) .nil)))) (.cons (.as (.me "Sheet" "raising_column" 0 (.v 0) (.cons (.v 1) .nil)) (.nm 2)) .nil))))) N [some (.ref k),some (.int p),some (oN (gK S p)),x] st=some o/\Rep st' k a' b c g n u rows' S'/\MD w m S'/\((oq=none/\∃ sl,o=.nx sl st')\/∃ q,oq=some q/\q < w/\o=.rt (.int ((q:Nat):Int)) st'):=by
 intro N
 induction N with
 | zero=>intro S oq S' st a rows x h;cases h
 | succ N ih =>
  intro S oq S' st a rows x h P R;simp only [gp] at h;split at h
  ·rename_i hb
   obtain ⟨B,d0⟩:=uC P hb;split at h
   ·rename_i hr
    cases h;rw [hr];exact ⟨_,st,a,rows,dz (show 1 <= N + 1 by omega) (nE (by simp [oN])),R,P,.inl ⟨rfl,_,rfl⟩⟩
   ·rename_i q hr
    rw [hr];have q1:=rC P hr;have e2:=rj R P B q1;split at h
    ·rename_i hti
     cases h;rw [hti] at e2;refine ⟨_,st,a,rows,dz (show 1 <= N + 1 by omega) (mi (v:=.int q) (st':=st) (st2:=st) (by simp [oN]) ?_),R,P,.inr ⟨q,rfl,q1,rfl⟩⟩;simp [R.ins,oN,e2]
    ·rename_i r hti
     rw [hti] at e2;have r1:=px hti;obtain ⟨st',a2,rows2,e3,R2⟩:=j9 R P B d0 hw hm r1 q1;have P2:=SX.exch_shp (c:=q) P r1;have e4:=pL R2 P2 hw hp;obtain ⟨o,st2,a3,rows3,e5,R3,P3,h3⟩:=ih (MJ S r q) (some (.int r)) h P2 R2;refine ⟨o,st2,a3,rows3,nF (st':=st) (sl2:=[some (.ref k),some (.int p),some (oN (gK (MJ S r q) p)),some (.int r)]) (st2:=st') (by simp [oN]) ?_ e5,R3,P3,h3⟩;refine ao (sl':=[some (.ref k),some (.int p),some (.int q),some (.int r)]) (st':=st) (by simp [R.ins,oN,e2]) (ao (sl':=[some (.ref k),some (.int p),some (.int q),some (.int r)]) (st':=st) (by simp) (ao (sl':=[some (.ref k),some (.int p),some (.int q),some (.int r)]) (st':=st') (by simp [R.ins,e3]) (ao (sl':=[some (.ref k),some (.int p),some (oN (gK (MJ S r q) p)),some (.int r)]) (st':=st') (by simp [R2.ins,e4]) rfl)))
  ·cases h
theorem B7 (hw:w <= 100) (hm:m <= 1000) (hp:p < m) {N:Nat}{S S':Sh}{oq:Option Nat}{st:aa}{a:Nat}{rows:List AV} (h:gp w m p N S=some (oq,S')) (P:MD w m S) (R:Rep st k a b c g n u rows S) :
  ∃ st' a' rows',bv [.ref k,.int p] st=some (oN oq,st')/\Rep st' k a' b c g n u rows' S'/\MD w m S'/\∀ q,oq=some q->q < w:=by
 have e1:=pL R P hw hp;obtain ⟨o,st',a',rows',e,R',P',h'⟩:=v3 hw hm hp N S none h P R;have e:=mo e;refine ⟨st',a',rows',?_,R',P',fun q hq=>?_⟩
 ·rw [bv,aG]
  show (ak [ay,ax,aw] eV [some (.ref k),some (.int p),none,none] st).bind aF=_;refine aj (sl':=[some (.ref k),some (.int p),some (oN (gK S p)),none]) (st':=st) (by simp [R.ins,e1]) ?_;rcases h' with ⟨rfl,sl,rfl⟩ | ⟨q,rfl,_,rfl⟩
  ·exact aj e (dU rfl)
  ·exact dU e
 ·rcases h' with ⟨rfl,_⟩ | ⟨q',rfl,h,_⟩
  ·cases hq
  ·cases hq;exact h
end
noncomputable def xG:List Nat->Option Nat
 | []=>none
 | x::l=>some (l.foldl (fun a b=>if b < a then b else a) x)
def p5 (S:Sh) (p:Nat):Option Nat:=xG ((bK S).filter fun j=>!decide (S.t p j=0))
def uf (w m p N:Nat) (S:Sh):Option (Bool × Sh):=if Nat.ble S.gd.length 1000=true then (ip w m p N S).map fun r=>if r.1=true then (true,{ r.2 with gd:=ins r.2.gd (S.s p) }) else r else none
def kO (w p:Nat) (S:Sh):Sh:=if 0 < S.t p w then SX.trn S p else S
def Ae (w m p N:Nat) (S:Sh):Option (Bool × Sh):=if S.t p w < 0 then ip w m p N S else if qP S=true then some (true,match p5 S p with | none=>S | some q=>MJ S p q) else none
def ug (w m p N:Nat) (S:Sh):Option (Bool × Sh):=if Nat.ble S.nl.length 1000 && Nat.ble S.tn.length 1000 then (Ae w m p N (kO w p S)).map fun r=>if r.1=true then (true,{ r.2 with nl:=ins r.2.nl (S.s p) }) else r else none
section
variable {st:aa}{k a b c g n u w m:Nat}{rows:List AV}{S:Sh}{p:Nat}
theorem Eo {l:List Nat}:xH (l.map fun j=>((j:Nat):Int))=oN (xG l):=by
 cases l with
 | nil=>rfl
 | cons x l =>
  have go:∀ (l:List Nat) (x:Nat),(l.map fun j=>((j:Nat):Int)).foldl (fun a b=>if b < a then b else a) (x:Int)=((l.foldl (fun a b=>if b < a then b else a) x:Nat):Int):=by
   intro l
   induction l with
   | nil=>intro x;rfl
   | cons y l ih =>
    intro x;rw [zO,List.foldl_cons,List.foldl_cons];by_cases h:y < x
    ·rw [yH oM,yH h];exact ih y
    ·rw [yG oM,yG h];exact ih x
  exact congrArg AV.int (go l x)
theorem xF {l:List Nat}{x:Nat} (h:xG l=some x):x ∈ l:=by
 have go:∀ (l:List Nat) (x:Nat),l.foldl (fun a b=>if b < a then b else a) x ∈ x::l:=by
  intro l
  induction l with
  | nil=>intro x;simp
  | cons y l ih =>
   intro x;rw [List.foldl_cons];rcases zT.mp (ih (if y < x then y else x)) with e | e
   ·rw [e];split <;> simp
   ·exact zQ _ (zQ _ e)
 cases l with
 | nil=>cases h
 | cons y l=>cases h;exact go l y
theorem GB (R:Rep st k a b c g n u rows S) (P:MD w m S) (hw:w <= 100) (hp:p < m):aL [.ref k,.int p] st=some (oN (p5 S p),st):=by
 have ll:(bK S).length <= 1000:=by
  unfold bK;rw [zH]
  have:=List.length_filter_le (fun z:Nat × Nat=>!decide (z.1 ∈ S.nl)) S.hd.zipIdx
  rw [List.length_zipIdx,P.hd] at this;omega
 have ho:=Eo (l:=(bK S).filter fun j=>!decide (S.t p j=0));simp [aL,aG,dj,R.ins,R.line P hp,sk R P hw,nL,bt ll];rw [fb (B:=fun j=>!decide (S.t p j=0)) (F:=fun j:Nat=>.int (j:Int)) dI fun j hj=>⟨_,rfl,by simp [R.cell P hp (show j < w + 1 by have:=(gf P).mp hj;omega)],fun _=>rfl⟩];have hf:rfs (((bK S).filter fun j=>!decide (S.t p j=0)).map fun j:Nat=>(AV.int (j:Int)))=true:=jn;have hi:=sy (l:=(bK S).filter fun j=>!decide (S.t p j=0));unfold nL at hi;simp [hf,bw,mJ,lsI,hi,ho,p5]
theorem Ek (P:MD w m S) {q:Nat} (h:p5 S p=some q):q < w:=by
 have:=List.mem_filter.mp (xF h)
 exact ((gf P).mp this.1).1
theorem CJ {S:Sh}{l:List Nat} (P:MD w m S):MD w m { S with gd:=l }:=⟨P.ls,P.row,P.hd,P.sd⟩
theorem CI {S:Sh}{l:List Nat} (P:MD w m S):MD w m { S with nl:=l }:=⟨P.ls,P.row,P.hd,P.sd⟩
theorem sn (hb:True):∀ (N:Nat) (S:Sh) {bb:Bool}{S':Sh},ip w m p N S=some (bb,S')->S'.gd=S.gd/\S'.nl=S.nl/\S'.tn=S.tn:=by
 intro N
 induction N with
 | zero=>intro S bb S' h;cases h
 | succ N ih =>
  intro S bb S' h;simp only [ip] at h;split at h
  ·split at h
   ·split at h
    ·cases h;exact ⟨rfl,rfl,rfl⟩
    ·split at h
     ·cases h;exact ⟨rfl,rfl,rfl⟩
     ·split at h
      ·cases h;exact ⟨rfl,rfl,rfl⟩
      ·obtain ⟨a,b,c⟩:=ih _ h;exact ⟨a,b,c⟩
   ·cases h;exact ⟨rfl,rfl,rfl⟩
  ·cases h
theorem GO (hw:w <= 100) (hm:m <= 1000) (hp:p < m) {N:Nat}{S':Sh}{bb:Bool} (h:uf w m p N S=some (bb,S')) (P:MD w m S) (R:Rep st k a b c g n u rows S) :
  ∃ st' a' rows',bh [.ref k,.int p] st=some (.bl bb,st')/\Rep st' k a' b c g n u rows' S'/\MD w m S':=by
 unfold uf at h;split at h
 ·rename_i hl
  have hl:=zS hl;obtain ⟨⟨b1,S1⟩,h1,h2⟩:=zE.mp h;obtain ⟨st1,a1,rows1,e1,R1,P1⟩:=vK hw hm hp h1 P R;dsimp only at h2;cases b1 with
  | false =>
   rw [yG (by simp)] at h2;cases h2;refine ⟨st1,a1,rows1,?_,R1,P1⟩;simp [bh,aG,dY,R.ins,R.side P hp,e1,d7,bn,dr]
  | true =>
   rw [yH rfl] at h2;cases h2;have g1:=(sn trivial N S h1).1;obtain ⟨st2,e2,R2⟩:=sF (q:=S.s p) R1 (by rw [g1];exact hl);refine ⟨st2,a1,rows1,?_,R2,CJ P1⟩;simp [bh,aG,dY,R.ins,R.side P hp,e1,d7,bn,dr,R1.ins,e2]
 ·cases h
theorem GP (hw:w <= 100) (hm:m <= 1000) (hp:p < m) {N:Nat}{S':Sh}{bb:Bool} (h:ug w m p N S=some (bb,S')) (P:MD w m S) (R:Rep st k a b c g n u rows S) :
  ∃ st' a' rows',bN [.ref k,.int p] st=some (.bl bb,st')/\Rep st' k a' b c g n u rows' S'/\MD w m S':=by
 unfold ug at h;split at h
 ·rename_i hl
  rw [zC] at hl;have hl1:=zS hl.1;have hl2:=zS hl.2;obtain ⟨⟨b1,S2⟩,h1,h2⟩:=zE.mp h;dsimp only at h2;have s1:∃ (st1:aa) (rows1:List AV),cR [be,bC,aL,aw,bY] (.iff (.cmp .Gt (.ix (.ix (.fd "Sheet" "lines" (.v 0)) (.v 1)) (.un .USub (.i 1))) (.i 0)) (.cons (.ex (.me "Sheet" "turn_line" 0 (.v 0) (.cons (.v 1) .nil))) .nil) .nil) [some (.ref k),some (.int p),some (.int (S.s p:Int)),none] st=some (.nx [some (.ref k),some (.int p),some (.int (S.s p:Int)),none] st1) /\
    Rep st1 k a b c g n u rows1 (kO w p S)/\MD w m (kO w p S)/\(kO w p S).nl=S.nl:=by
   unfold kO;by_cases h:0 < S.t p w
   ·rw [yH h]
    obtain ⟨st1,rows1,e1,R1⟩:=Cq R P hw hp hl2;refine ⟨st1,rows1,?_,R1,SX.trn_shp P hp,rfl⟩;simp [R.ins,R.line P hp,R.last P hp,h,e1]
   ·rw [yG h]
    refine ⟨st,rows,?_,R,P,rfl⟩;simp [R.ins,R.line P hp,R.last P hp,h]
  obtain ⟨st1,rows1,e1,R1,P1,n1⟩:=s1;obtain ⟨S1,hS1⟩:∃ S1,S1=kO w p S:=⟨_,rfl⟩;rw [<- hS1] at h1 R1 P1 n1;have e0:cR [be,bC,aL,aw,bY] (.as (.ix (.fd "Sheet" "sides" (.v 0)) (.v 1)) (.nm 2)) [some (.ref k),some (.int p),none,none] st=some (.nx [some (.ref k),some (.int p),some (.int (S.s p:Int)),none] st):=by simp [R.ins,R.side P hp]
  have mid:∃ (st2:aa) (a2:Nat) (rows2:List AV),Rep st2 k a2 b c g n u rows2 S2/\MD w m S2/\S2.nl=S.nl/\∃ y3,cR [be,bC,aL,aw,bY] (.iff (.cmp .Lt (.ix (.ix (.fd "Sheet" "lines" (.v 0)) (.v 1)) (.un .USub (.i 1))) (.i 0)) (.cons (.iff (.no (.va (.me "Sheet" "lift" 1 (.v 0) (.cons (.v 1) .nil)))) (.cons (.rt (.b false)) .nil) .nil) .nil) (.cons (.as (.me "Sheet" "moving_column" 2 (.v 0) (.cons (.v 1) .nil)) (.nm 3)) (.cons (.iff (.cmp .IsNot (.v 3) .n) (.cons (.ex (.me "Sheet" "exchange" 3 (.v 0) (.cons (.v 1) (.cons (.v 3) .nil)))) .nil) .nil) .nil))) [some (.ref k),some (.int p),some (.int (S.s p:Int)),none] st1=some (if b1=true then .nx [some (.ref k),some (.int p),some (.int (S.s p:Int)),y3] st2 else .rt (.bl false) st2):=by
   unfold Ae at h1;split at h1
   ·rename_i low
    obtain ⟨st2,a2,rows2,e2,R2,P2⟩:=vK hw hm hp h1 P1 R1;refine ⟨st2,a2,rows2,R2,P2,by rw [(sn trivial N S1 h1).2.1,n1],none,?_⟩;cases b1 <;> simp [R1.ins,R1.line P1 hp,R1.last P1 hp,low,e2,d7,bn,dr]
   ·rename_i low
    split at h1
    ·rename_i hb
     obtain ⟨B,d0⟩:=uC P1 hb;have e2:=GB R1 P1 hw hp;cases hmv:p5 S1 p with
     | none =>
      rw [hmv] at h1 e2;cases h1;refine ⟨st1,a,rows1,R1,P1,n1,some .non,?_⟩;simp [R1.ins,R1.line P1 hp,R1.last P1 hp,low,e2,oN]
     | some q =>
      rw [hmv] at h1 e2;cases h1;obtain ⟨st2,a2,rows2,e3,R2⟩:=j9 R1 P1 B d0 hw hm hp (Ek P1 hmv);refine ⟨st2,a2,rows2,R2,SX.exch_shp P1 hp,n1,some (.int q),?_⟩;simp [R1.ins,R1.line P1 hp,R1.last P1 hp,low,e2,oN,e3]
    ·cases h1
  obtain ⟨st2,a2,rows2,R2,P2,n2,y3,e2⟩:=mid;have go:bN [.ref k,.int p] st=(ak [be,bC,aL,aw,bY] iP [some (.ref k),some (.int p),none,none] st).bind aF:=by rw [bN,aG];rfl
  cases b1 with
  | false =>
   rw [yG (by simp)] at h2;cases h2;refine ⟨st2,a2,rows2,?_,R2,P2⟩;rw [go];exact aj e0 (aj e1 (dU e2))
  | true =>
   rw [yH rfl] at h2;cases h2;obtain ⟨st3,e3,R3⟩:=Eb (q:=S.s p) R2 (by rw [n2];exact hl1);refine ⟨st3,a2,rows2,?_,R3,CI P2⟩;rw [go];exact aj e0 (aj e1 (aj e2 (aj (sl':=[some (.ref k),some (.int p),some (.int (S.s p:Int)),y3]) (st':=st3) (by simp [R2.ins,e3]) (dU rfl))))
 ·cases h
end
end LW
namespace LW
open PySem PySem.Spec L2 R
open SX (Sh MD MJ gI MN)
noncomputable def pX:List Nat->Bool
 | []=>true
 | x::l=>!decide (x ∈ l) && pX l
def vy (w m:Nat) (S:Sh):Bool:=qP S && pX (S.hd++S.sd) && pX S.tn && (S.hd++S.sd++S.tn).all (fun q=>Nat.blt q (w + m)) && (List.range (w + m)).all fun q=>decide (q ∈ S.hd++S.sd)
def mS (S:Sh) (w m cc:Nat):List Int:=(List.range w).map fun q=>match (List.range m).find? fun i=>S.s i == q with
 | some i=>S.t i cc
 | none=>0
def za (S:Sh) (w m p:Nat):List Int:=(List.range (w + m)).map fun q=>match (List.range w).find? fun j=>S.h j == q with
 | some j=>if q ∈ S.tn then S.t p j else - S.t p j
 | none=>if q=S.s p then (if q ∈ S.tn then - S.d else S.d) else 0
def mh (S:Sh) (w m p:Nat) (HO:Nat->List Int):List Int:=(List.range m).map fun x=>wt (za S w (m + 1) p) HO w w x
def qg (w m p N:Nat) (z:Gv) (S:Sh):Option (Bool × Sh):=if z.eq=true then ug w m p N S else uf w m p N S
def uo (w m N:Nat):Nat->List Gv->Sh->Option (Option Nat × Sh)
 | _,[],S=>some (none,S)
 | p,z::l,S=>match qg w m p N z S with
  | none=>none
  | some (true,S')=>uo w m N (p + 1) l S'
  | some (false,S')=>some (some p,S')
def lR (w m:Nat) (HO:Nat->List Int) (p:Nat) (S:Sh):Option AV:=if vy w (m + 1) S=true then some (.tup [.str "never",.fz (iL (aP (mh S w m p HO)))]) else none
def iI (w m:Nat) (HO:Nat->List Int) (S:Sh):Option AV:=if vy w (m + 1) S=true then some (.tup [.str "least",.tup [.int (gI (aP [- S.t m w,S.d]) 0),.int (gI (aP [- S.t m w,S.d]) 1)],.tup [.fz (iL ((aP (mS S w (m + 1) w++[S.d])).take w)),.int (gI (aP (mS S w (m + 1) w++[S.d])) w)],.int (gI (aP (mh S w m m HO++[S.d])) m),.fz (iL ((aP (mh S w m m HO++[S.d])).take m))]) else none
def iN (w m:Nat) (q:Nat) (S:Sh):Option AV:=if vy w (m + 1) S=true then some (.tup [.str "endless",.tup [.fz (iL ((aP (mS S w (m + 1) w++[S.d])).take w)),.int (gI (aP (mS S w (m + 1) w++[S.d])) w)],.fz (iL (aP (if S.h q < w then (mS S w (m + 1) q).set (S.h q) S.d else mS S w (m + 1) q)))]) else none
def JY (w m N:Nat) (HO:Nat->List Int):Option Nat × Sh->Option AV
 | (some p,S)=>lR w m HO p S
 | (none,S)=>(gp w (m + 1) m N S).bind fun r=>match r with
  | (none,S')=>iI w m HO S'
  | (some q,S')=>iN w m q S'
def l8 (w:Nat) (RR:List (List Int)) (HO:Nat->List Int) (gv:List Gv) (goal:List Int) (N:Nat):Option AV :=
 (uo w (RR.length + gv.length + 1) N RR.length gv (SX.openS w (aN RR gv goal) (w + RR.length))).bind (JY w (RR.length + gv.length) N HO)
section
variable {w m:Nat}{S:Sh}{st:aa}{k a b c g n u p:Nat}{rows:List AV}{HO:Nat->List Int}
theorem nR:∀ {l:List Nat},pX l=true->l.Nodup
 | [],_=>List.nodup_nil
 | x::l,h=>by
  unfold pX at h;rw [zC] at h;exact List.nodup_cons.mpr ⟨by simpa using h.1,nR h.2⟩
structure OkS (w m:Nat) (S:Sh):Prop where
 pm:SX.Pm w m S.h S.s
 bd:S.d.natAbs < 1000000000/\∀ i,i < m->∀ j,j < w + 1->(S.t i j).natAbs < 1000000000
 nt:S.tn.Nodup
 ht:∀ q ∈ S.tn,q < w + m
theorem pV (P:MD w m S) (h:vy w m S=true):OkS w m S:=by
 unfold vy at h;simp only [zC,yO] at h;obtain ⟨⟨⟨⟨h1,h2⟩,h3⟩,h4⟩,h5⟩:=h;have h2:=nR h2;have h4:∀ q ∈ S.hd++S.sd++S.tn,q < w + m:=fun q hq=>by simpa using h4 q hq
 have hh:∀ j,j < w->S.hd[j]?=some (S.h j):=fun j hj=>by
  show S.hd[j]?=some (S.hd.getD j 0);rw [zD,zF (by rw [P.hd];exact hj)];rfl
 have hs:∀ j,j < m->S.sd[j]?=some (S.s j):=fun j hj=>by
  show S.sd[j]?=some (S.sd.getD j 0);rw [zD,zF (by rw [P.sd];exact hj)];rfl
 rw [List.nodup_append] at h2;obtain ⟨n1,n2,n3⟩:=h2;have inj:∀ {l:List Nat}{i j x:Nat},l.Nodup->l[i]?=some x->l[j]?=some x->i=j:=fun {l i j x} hn e1 e2=>by
  obtain ⟨a1,a2⟩:=zB.mp e1;obtain ⟨b1,b2⟩:=zB.mp e2;have hp:=List.pairwise_iff_getElem.mp hn;rcases Nat.lt_trichotomy i j with h | h | h
  ·exact absurd (a2.trans b2.symm) (hp i j a1 b1 h)
  ·exact h
  ·exact absurd (b2.trans a2.symm) (hp j i b1 a1 h)
 refine ⟨⟨fun j hj=>h4 _ ?_,fun j hj=>h4 _ ?_,fun i j hi hj e=>inj n1 (hh i hi) (by rw [e];exact hh j hj),fun i j hi hj e=>inj n2 (hs i hi) (by rw [e];exact hs j hj),fun j i hj hi=>n3 _ (zW (hh j hj)) _ (zW (hs i hi)),fun q hq=>?_⟩,?_,nR h3,fun q hq=>h4 q (zK _ hq)⟩
 ·exact zL _ (zL _ (zW (hh j hj)))
 ·exact zL _ (zK _ (zW (hs j hj)))
 ·have:=h5 q (List.mem_range.mpr hq)
  rw [yB,zZ] at this;rcases this with h | h
  ·obtain ⟨j,hj⟩:=z7 h
   have hl:=(zB.mp hj).1;rw [P.hd] at hl;rw [hh j hl] at hj;exact .inr ⟨j,hl,yD hj⟩
  ·obtain ⟨j,hj⟩:=z7 h
   have hl:=(zB.mp hj).1;rw [P.sd] at hl;rw [hs j hl] at hj;exact .inl ⟨j,hl,yD hj⟩
 ·unfold qP at h1
  rw [zC,zC,yB,yO] at h1;obtain ⟨⟨h1,_⟩,h3⟩:=h1;refine ⟨h1,fun i hi j hj=>?_⟩;have hl:S.ls[i]?=some (SX.row S i):=by
   show S.ls[i]?=some (S.ls.getD i []);rw [zD,zF (by rw [P.ls];exact hi)];rfl
  have:=h3 _ (zW hl)
  rw [yO] at this;show (gI (SX.row S i) j).natAbs < _;unfold gI;rw [zD];cases e:(SX.row S i)[j]? with
  | none=>decide
  | some x=>simpa using this x (zW e)
theorem OkS.b89 (O:OkS w m S):S.d.natAbs < 2 ^ 8900/\∀ i,i < m->∀ j,j < w + 1->(S.t i j).natAbs < 2 ^ 8900:=by
 have big:1000000000 < 2 ^ 8900:=zJ (show 1000000000 < 2 ^ 30 by decide) (Nat.pow_le_pow_right dC dC);exact ⟨Nat.lt_trans O.bd.1 big,fun i hi j hj=>Nat.lt_trans (O.bd.2 i hi j hj) big⟩
theorem OkS.b90 (O:OkS w m S):Bd w m S:=by
 have big:1000000000 < 2 ^ 9000:=zJ (show 1000000000 < 2 ^ 30 by decide) (Nat.pow_le_pow_right dC dC);exact ⟨Nat.lt_trans O.bd.1 big,fun i hi j hj=>Nat.lt_trans (O.bd.2 i hi j hj) big⟩
theorem qy {l l':List Int} (h1:l.length=l'.length) (h2:∀ q,q < l.length->gI l q=gI l' q):l=l':=by
 refine List.ext_getElem h1 fun q h h'=>?_
 have:=h2 q h
 unfold gI at this;rw [zD,zD,zF h,zF h'] at this;exact this
theorem qu {f:Nat->Int}{N q:Nat} (h:q < N):gI ((List.range N).map f) q=f q:=by
 unfold gI;rw [zD,zR,List.getElem?_range h];rfl
theorem um {cc:Nat}{X:List Int} (h:GX S w cc m X):X=mS S w m cc:=by
 refine qy (by simp [mS,h.len]) fun q hq=>?_
 rw [h.len] at hq;unfold mS;rw [qu hq];split
 ·rename_i i hi
  have h1:=List.find?_some hi;have h2:=List.mem_range.mp (List.mem_of_find?_eq_some hi);rw [beq_iff_eq] at h1;subst h1;exact h.at_ i h2 hq
 ·rename_i hi
  exact h.no q hq fun i hi' e=>by
   have:=List.find?_eq_none.mp hi i (List.mem_range.mpr hi')
   simp [e] at this
theorem FP {T:List Int} (h:TK S w m p T):T=za S w m p:=by
 refine qy (by simp [za,h.len]) fun q hq=>?_
 rw [h.len] at hq;unfold za;rw [qu hq];split
 ·rename_i i hi
  have h1:=List.find?_some hi;have h2:=List.mem_range.mp (List.mem_of_find?_eq_some hi);rw [beq_iff_eq] at h1;subst h1;exact h.hd i h2
 ·rename_i hi
  by_cases e:q=S.s p
  ·rw [yH e];subst e;exact h.sd
  ·rw [yG e]
   exact h.no q hq (fun i hi' e=>by
    have:=List.find?_eq_none.mp hi i (List.mem_range.mpr hi')
    simp [e] at this) e
theorem sV {T W:List Int} (h:TK S w (m + 1) p T) (hl:W.length=m) (hW:∀ x,x < m->gI W x=wt T HO w w x):W=mh S w m p HO:=by
 refine qy (by simp [mh,hl]) fun q hq=>?_
 rw [hl] at hq;unfold mh;rw [qu hq,hW q hq,FP h]
end
structure IX (nn:Int) (w:Nat) (RR:List (List Int)) (HO:Nat->List Int) (gv:List Gv) (goal:List Int):Prop where
 HR:∀ st,pm aK [.int nn] st=some (.fz (aD RR),st)
 HA:∀ st,pm ah [.int nn] st=some (.int w,st)
 H:HOk nn w RR.length HO
 r:∀ l ∈ RR,l.length=w
 g:∀ z ∈ gv,z.row.length=w
 o:goal.length=w
 hw:w <= 15
 hR:RR.length <= 100
 hg:gv.length <= 100
section
variable {w m:Nat}{RR:List (List Int)}{gv:List Gv}{goal:List Int}{nn:Int}{HO:Nat->List Int}{S:Sh}{st:aa}{k a b c g n u p nr:Nat}{rows:List AV}
theorem yy (O:OkS w (m + 1) S) (hp:p < m + 1) (H:HOk nn w nr HO) (hw:w <= 15) {T W:List Int} (hT:TK S w (m + 1) p T) (hl:W.length=m) (hW:∀ x,x < m->gI W x=wt T HO w w x):∀ x ∈ W,x.natAbs < 2 ^ 9000:=fun x hx=>by
 obtain ⟨j,hj⟩:=z7 hx;have hjl:=(zB.mp hj).1;have eg:gI W j=x:=by unfold gI;rw [zD,hj];rfl
 rw [<- eg,hW j oM];exact FK (hT.bd hp O.pm O.b89) H hw j
theorem BO (R:Rep st k a b c g n u rows S) (P:MD w (m + 1) S) (hp:p < m + 1) (HA:∀ st,pm ah [.int nn] st=some (.int w,st)) (H:HOk nn w nr HO) (hnr:nr <= m) (hw:w <= 15) (hm:m + 1 <= 400) (h:lR w m HO p S=some t) :
  ∃ st1 st2,aJ [.int nn,.ref k,.int p] st=some (.ref (st.length + 1),st1)/\pm ai [.ref (st.length + 1)] st1=some (.fz (iL (aP (mh S w m p HO))),st2)/\t=.tup [.str "never",.fz (iL (aP (mh S w m p HO)))]:=by
 unfold lR at h;split at h
 ·rename_i ok
  cases h;have O:=pV P ok;obtain ⟨z,e1,T,W,hT,hl,hW,hz1,hz2⟩:=yx R P O.pm hp O.nt O.ht oM oM HA H hnr;obtain ⟨z1,z2⟩:=z;dsimp only at hz1 hz2;subst hz1;subst hz2;have gW:(st++[Mw.lst (iL T)]++[Mw.lst (iL W)])[st.length + 1]?=some (.lst (iL W)):=by
   have:(st++[Mw.lst (iL T)]).length=st.length + 1:=by simp
   rw [<- this];exact gl
  obtain ⟨st2,e2,_⟩:=jY (fn:=ai) (rest:=[]) (st:=st++[Mw.lst (iL T)]++[Mw.lst (iL W)]) (x:=.ref (st.length + 1)) (l:=W) (.inr ⟨_,rfl,.inl gW⟩) rfl rfl (fun s=>rfl) (o4 oM (yy O hp H hw hT hl hW)) rfl (by simp [cQ]);rw [sV hT hl hW] at e2;exact ⟨_,st2,e1,by rw [sV hT hl hW];exact e2,rfl⟩
 ·cases h
theorem xQ (R:Rep st k a b c g n u rows S) (P:MD w (m + 1) S) (HA:∀ st,pm ah [.int nn] st=some (.int w,st)) (H:HOk nn w nr HO) (hnr:nr <= m) (hw:w <= 15) (hm:m + 1 <= 400) (h:iI w m HO S=some t) :
  ∃ st2,bu [.int nn,.ref k,.int m] st=some (t,st2)/\cx st2 t=some t:=by
 unfold iI at h;split at h
 ·rename_i ok
  cases h;have O:=pV P ok;have B:=O.b90;have hp:m < m + 1:=by omega
  obtain ⟨z,e1,T,W,hT,hl,hW,hz1,hz2⟩:=yx R P O.pm hp O.nt O.ht oM oM HA H hnr;obtain ⟨z1,z2⟩:=z;dsimp only at hz1 hz2;subst hz1;subst hz2;have R2:=(R.app (ys:=[Mw.lst (iL T)])).app (ys:=[Mw.lst (iL W)]);have wb:∀ x ∈ W++[S.d],x.natAbs < 2 ^ 9000:=fun x hx=>by
   rcases zZ.mp hx with h | h
   ·exact yy O hp H hw hT hl hW x h
   ·rw [zM.mp h];exact B.1
  have e2:=qa (l:=W++[S.d]) (st:=st++[Mw.lst (iL T)]++[Mw.lst (iL W)]) (by simp [hl];omega) wb;obtain ⟨X,T',st3,e3,rfl,hX,R3⟩:=zc R2 P O.pm B HA oM oM;have fr:=E8 (a:=- S.t m w) (b:=S.d) (st:=st) (by rw [Int.natAbs_neg];exact B.2 m hp w oM) B.1;rw [<- um hX,<- sV hT hl hW];refine ⟨st3,?_,rfl⟩;have ll:(aP (W++[S.d])).length=m + 1:=by rw [lU];simp [hl]
  rw [bu,aG];unfold eS;refine aj (sl':=[some (.int nn),some (.ref k),some (.int m),some (.tup [.int (gI (aP [- S.t m w,S.d]) 0),.int (gI (aP [- S.t m w,S.d]) 1)]),none]) (st':=st) (by simp [R.ins,R.line P hp,R.last P hp,fr]) ?_;refine aj (sl':=[some (.int nn),some (.ref k),some (.int m),some (.tup [.int (gI (aP [- S.t m w,S.d]) 0),.int (gI (aP [- S.t m w,S.d]) 1)]),some (.fz (iL (aP (W++[S.d]))))]) (st':=st++[Mw.lst (iL T)]++[Mw.lst (iL W)]) ?_ ?_
  ·have gW:(st++[Mw.lst (iL T)]++[Mw.lst (iL W)])[st.length + 1]?=some (.lst (iL W)):=by
    have:(st++[Mw.lst (iL T)]).length=st.length + 1:=by simp
    rw [<- this];exact gl
   have c:=jf (ks:=[b8,aJ,ai,aT]) (a:=.ca false 1 (.cons (.v 0) (.cons (.v 1) (.cons (.v 2) .nil)))) (b:=.nw false (.li (.cons (.fd "Sheet" "below" (.v 1)) .nil)))
    (sl:=[some (.int nn),some (.ref k),some (.int m),some (.tup [.int (gI (aP [- S.t m w,S.d]) 0),.int (gI (aP [- S.t m w,S.d]) 1)]),none]) (st:=st) (s1:=st++[Mw.lst (iL T)]++[Mw.lst (iL W)]) (s2:=st++[Mw.lst (iL T)]++[Mw.lst (iL W)]) (x:=.ref (st.length + 1)) (y:=.fz [AV.int S.d]) (l:=W) (l':=[S.d])
    (by simp only [pq,iU,jS,pj,md,ma,bind_some,tL,qf,qe];exact e1) (by simp [-List.append_assoc,cE,R2.ins]) (bq gW) rfl (by simp [hl];omega)
   simp only [iH,pq,iU,jS,jT,c,bind_some,fx,ite_true,zp,qf,qe,e2,ye];rfl
  ·have xl:b9 st3 (.fz (iL (aP (W++[S.d])))) (.int (-1))=some (.int (gI (aP (W++[S.d])) m)):=by rw [cb eI,oe (n:=m) (by simp [ll]),bH oM]
   simp [-List.append_assoc,e3,oy,ox,qF ll,xl]
 ·cases h
theorem JQ (hw:w <= 100) (hm:m <= 1000) (hp:p < m) {N:Nat}{z:Gv}{S':Sh}{bb:Bool} (h:qg w m p N z S=some (bb,S')) (P:MD w m S) (R:Rep st k a b c g n u rows S) :
  ∃ st' a' rows',(if z.eq=true then bN else bh) [.ref k,.int p] st=some (.bl bb,st')/\Rep st' k a' b c g n u rows' S'/\MD w m S':=by
 unfold qg at h;by_cases e:z.eq=true
 ·rw [yH e] at h ⊢;exact GP hw hm hp h P R
 ·rw [yG e] at h ⊢;exact GO hw hm hp h P R
end
section
variable {w m:Nat}{RR:List (List Int)}{gv:List Gv}{goal:List Int}{nn:Int}{HO:Nat->List Int}
theorem yr (q:IX nn w RR HO gv goal) {N:Nat}{t:AV} (h:l8 w RR HO gv goal N=some t):∃ z,eY [.int nn,.fz (gv.map Gv.av),.fz (iL goal)] []=some z/\cx z.2 z.1=some t:=by
 obtain ⟨m,hm⟩:∃ m,m=RR.length + gv.length:=⟨_,rfl⟩;have hLl:(aN RR gv goal).length=m + 1:=by rw [HQ,hm]
 obtain ⟨st1,e1,R1⟩:=DI (gv:=gv) (goal:=goal) q.HR q.HA q.hw q.hR q.r q.hg q.g q.o;have P1:MD w (m + 1) (SX.openS w (aN RR gv goal) (w + RR.length)):=by
  have hLen:∀ l ∈ aN RR gv goal,l.length=w + 1:=fun l hl=>by
   unfold aN at hl;simp only [zZ,yC,zM] at hl;rcases hl with (⟨r,hr,rfl⟩ | ⟨z,hz,rfl⟩) | rfl
   ·simp [q.r r hr]
   ·simp [q.g z hz]
   ·simp [q.o]
  exact ⟨hLl,hLen,by simp [SX.openS],by simp [SX.openS,hLl]⟩
 unfold l8 at h;rw [<- hm] at h;obtain ⟨rr,h1,h2⟩:=zA h;have sm:=q.hg;have sm2:=q.hR;have sm3:=q.hw;rw [eY];simp only [aG];unfold l7;refine aE (sl':=[some (.int nn),some (.fz (gv.map Gv.av)),some (.fz (iL goal)),some (.ref 1),none,none,none,none,none]) (st':=st1) (by simp [e1]) ?_;have l2:bn st1 (.ref 2)=some (aD (aN RR gv goal)):=bq R1.ha;refine aE (sl':=[some (.int nn),some (.fz (gv.map Gv.av)),some (.fz (iL goal)),some (.ref 1),some (.int (m:Int)),none,none,none,none]) (st':=st1) (by simp [R1.ins,bw,dL,l2,hLl]) ?_;have loop:=nX (gd:=[]) (g:=bW [bA,bN,bh,aJ,ai,bv,bu,aT,bV] (.tu 2 (.cons (.nm 5) (.cons (.nm 6) .nil))))
  (s:=ak [bA,bN,bh,aJ,ai,bv,bu,aT,bV] (.cons (.as (.ife (.cmp .Eq (.ix (.v 6) (.i 1)) (.s "=")) (.ca false 1 (.cons (.v 3) (.cons (.v 5) .nil))) (.ca false 2 (.cons (.v 3) (.cons (.v 5) .nil)))) (.nm 7))
   (.cons (.iff (.no (.va (.v 7))) (.cons (.rt (.tu (.cons (.s "never") (.cons (.ca true 4 (.cons (.ca false 3 (.cons (.v 0) (.cons (.v 3) (.cons (.v 5) .nil)))) .nil)) .nil)))) .nil) .nil) .nil)))
  (I:=fun i sl s=>∃ a rows S x5 x6 x7,sl=[some (.int nn),some (.fz (gv.map Gv.av)),some (.fz (iL goal)),some (.ref 1),some (.int (m:Int)),x5,x6,x7,none]/\Rep s 1 a 3 4 5 6 7 rows S/\MD w (m + 1) S/\uo w (m + 1) N (RR.length + i) (gv.drop i) S=some rr)
  (Post:=fun v s=>cx s v=some t) (xs:=d4 RR.length (gv.map Gv.av)) (fun _ _ _ _ _=>rfl)
  (fun i y sl s hy hI=>by
   obtain ⟨a,rows,S,x5,x6,x7,rfl,R,P,hv⟩:=hI;obtain ⟨x,hx,rfl⟩:=B6 hy;rw [zR] at hx;obtain ⟨z,hz,rfl⟩:=zE.mp hx;have hi:=(zB.mp hz).1;have hp:RR.length + i < m + 1:=by omega
   have hd:gv.drop i=z::gv.drop (i + 1):=by rw [List.drop_eq_getElem_cons hi,(zB.mp hz).2]
   rw [hd] at hv;unfold uo at hv;cases hk:qg w (m + 1) (RR.length + i) N z S with
   | none=>rw [hk] at hv;cases hv
   | some rk =>
    rw [hk] at hv;obtain ⟨bb,S'⟩:=rk;obtain ⟨s2,a2,rows2,e2,R2,P2⟩:=JQ oM oM hp hk P R;have es:cR [bA,bN,bh,aJ,ai,bv,bu,aT,bV] (.as (.ife (.cmp .Eq (.ix (.v 6) (.i 1)) (.s "=")) (.ca false 1 (.cons (.v 3) (.cons (.v 5) .nil))) (.ca false 2 (.cons (.v 3) (.cons (.v 5) .nil)))) (.nm 7)) [some (.int nn),some (.fz (gv.map Gv.av)),some (.fz (iL goal)),some (.ref 1),some (.int (m:Int)),some (.int ((RR.length + i:Nat):Int)),some z.av,x7,none] s
      = some (.nx [some (.int nn),some (.fz (gv.map Gv.av)),some (.fz (iL goal)),some (.ref 1),some (.int (m:Int)),some (.int ((RR.length + i:Nat):Int)),some z.av,some (.bl bb),none] s2):=by
     cases hze:z.eq with
     | true =>
      rw [hze,yH rfl] at e2;have xi:b9 s z.av (.int 1)=some (.str "="):=by
       have:z.av=.tup [.fz (iL z.row),.str "=",.int z.num]:=by unfold Gv.av;rw [hze];rfl
       rw [this];rfl
      simp only [iH,yX,oY,wB,pj,uM,HS,md,ma,bind_some,xi,map_some,He,ite_true,pq,iU,jS,tL,qf,qe,e2,ye];rfl
     | false =>
      rw [hze,yG (by simp)] at e2;have xi:b9 s z.av (.int 1)=some (.str ">"):=by
       have:z.av=.tup [.fz (iL z.row),.str ">",.int z.num]:=by unfold Gv.av;rw [hze];rfl
       rw [this];rfl
      simp only [iH,yX,oY,wB,pj,uM,HS,md,ma,bind_some,xi,map_some,G2,yA,ite_false,pq,iU,jS,tL,qf,qe,e2,ye];rfl
    cases bb with
    | true =>
     refine ⟨_,.nx [some (.int nn),some (.fz (gv.map Gv.av)),some (.fz (iL goal)),some (.ref 1),some (.int (m:Int)),some (.int ((RR.length + i:Nat):Int)),some z.av,some (.bl true),none] s2,rfl,ao es ?_,.inl ⟨_,s2,rfl,a2,rows2,S',_,_,_,rfl,R2,P2,hv⟩⟩;simp [d7,bn,dr]
    | false =>
     cases hv;obtain ⟨s3,s4,e3,e4,rfl⟩:=BO R2 P2 hp q.HA q.H oM q.hw oM h2;refine ⟨_,.rt (.tup [.str "never",.fz (iL (aP (mh S' w m (RR.length + i) HO)))]) s4,rfl,ao es ?_,.inr ⟨_,s4,rfl,rfl⟩⟩;rw [Int.natCast_add] at e3;simp [d7,bn,dr,e3,e4]) (sl:=[some (.int nn),some (.fz (gv.map Gv.av)),some (.fz (iL goal)),some (.ref 1),some (.int (m:Int)),none,none,none,none]) (st:=st1) ⟨2,_,_,none,none,none,rfl,R1,P1,h1⟩
 have ei:dg [bA,bN,bh,aJ,ai,bv,bu,aT,bV] (.es (.v 1) (.bin .Sub (.v 4) (.bi .len (.cons (.v 1) .nil)))) [some (.int nn),some (.fz (gv.map Gv.av)),some (.fz (iL goal)),some (.ref 1),some (.int (m:Int)),none,none,none,none] st1=some (⟨d4 RR.length (gv.map Gv.av),[]⟩,st1):=by
  have h1:(m:Int) - (gv.length:Int)=(RR.length:Int):=by omega
  have h2:Nat.ble RR.length 1000000=true:=yK oM;simp [uk,bw,dL,h1];omega
 rcases loop with ⟨sl',st2,e2,a,rows,S,x5,x6,x7,rfl,R,P,hv⟩ | ⟨v,st2,e2,ht⟩
 ·rw [show (d4 RR.length (gv.map Gv.av)).length=gv.length by unfold d4;simp,List.drop_length] at hv
  cases hv;refine aE (sl':=[some (.int nn),some (.fz (gv.map Gv.av)),some (.fz (iL goal)),some (.ref 1),some (.int (m:Int)),x5,x6,x7,none]) (st':=st2) (by rw [nK,ei,bind_some];exact e2) ?_;have h2:((gp w (m + 1) m N S).bind fun r=>match r with
   | (none,S')=>iI w m HO S'
   | (some q,S')=>iN w m q S')=some t:=h2
  obtain ⟨⟨oq,S2⟩,h3,h4⟩:=zA h2;obtain ⟨st3,a3,rows3,e3,R3,P3,hq⟩:=B7 oM oM oM h3 P R;cases oq with
  | none =>
   obtain ⟨st4,e4,h5⟩:=xQ R3 P3 q.HA q.H oM q.hw oM h4;refine aE (sl':=[some (.int nn),some (.fz (gv.map Gv.av)),some (.fz (iL goal)),some (.ref 1),some (.int (m:Int)),x5,x6,x7,some .non]) (st':=st3) (by simp [R.ins,e3,oN]) ?_;exact ⟨(t,st4),by simp [e4],h5⟩
  | some qq =>
   have q1:=hq qq rfl;refine aE (sl':=[some (.int nn),some (.fz (gv.map Gv.av)),some (.fz (iL goal)),some (.ref 1),some (.int (m:Int)),x5,x6,x7,some (.int (qq:Int))]) (st':=st3) (by simp [R.ins,e3,oN]) ?_;have h4:iN w m qq S2=some t:=h4;unfold iN at h4;split at h4
   ·rename_i ok
    have O:=pV P3 ok;obtain ⟨X,T,st4,e4,rfl,hX,R4⟩:=zc R3 P3 O.pm O.b90 q.HA oM oM;obtain ⟨X2,st5,e5,hX2⟩:=FM R4 P3 O.pm O.b90 q.HA oM oM q1;rw [<- um hX,<- um hX2] at h4;cases h4;exact ⟨(_,st5),by simp [e4,e5];rfl,rfl⟩
   ·cases h4
 ·exact ⟨(v,st2),dU (by rw [nK,ei,bind_some];exact e2),ht⟩
end
end LW
namespace LW
open PySem PySem.Spec L2 R
open SX (gI MN)
noncomputable def RR2:List (List Int):=[[0,-1,1],[-1,0,1],[1,1,-1]]
noncomputable def Jd:Nat->List Int
 | 1=>[1,0,1]
 | 2=>[0,1,1]
 | _=>[1,1,1]
noncomputable def RR3:List (List Int):=[[0,0,0,0,0,-1,1],[0,0,0,0,-1,0,1],[0,0,-1,0,0,0,1],[1,1,-1,0,0,0,0],[0,0,0,-1,1,1,-1],[1,0,0,1,-1,0,0],[0,-1,1,0,0,1,-1],[0,1,0,1,0,-1,0],[-1,0,1,0,1,0,-1]]
noncomputable def Jc:Nat->List Int
 | 1=>[1,0,0,1,0,0,1,0,0]
 | 2=>[0,1,0,1,0,0,0,0,1]
 | 3=>[1,1,0,1,0,0,1,0,1]
 | 4=>[0,0,1,0,0,1,0,0,1]
 | 5=>[1,0,1,1,0,0,1,0,1]
 | 6=>[0,1,1,1,0,0,1,0,1]
 | _=>[1,1,1,1,0,0,1,0,1]
theorem bS (hr:rfs args=true) (h:((fn args []).bind fun p=>cx p.2 p.1)=some t):pm fn args st=some (t,st):=by
 obtain ⟨p,h1,h2⟩:=zA h;exact cU hr h1 h2
theorem ul {nn:Int}{grp:Nat} (h:(((bX [.int nn,.int grp,.int 0] []).bind fun p=>cx p.2 p.1).bind fun rr=>if rf rr=true then (c8 [.int nn,rr] []).bind fun p=>cx p.2 p.1 else none)=some (.fz (iL l))) :
  ∃ rr,(∀ st,pm bX [.int nn,.int grp,.int 0] st=some (rr,st))/\∀ st,pm c8 [.int nn,rr] st=some (.fz (iL l),st):=by
 obtain ⟨rr,h1,h2⟩:=zA h;split at h2
 ·rename_i hr
  exact ⟨rr,fun st=>bS rfl h1,fun st=>bS (by simp [hr]) h2⟩
 ·cases h2
theorem Ln:∀ st,pm ah [.int 2] st=some (.int ((3:Nat):Int),st):=fun st=>bS rfl (by kernel_rfl)
theorem Lm:∀ st,pm ah [.int 3] st=some (.int ((7:Nat):Int),st):=fun st=>bS rfl (by kernel_rfl)
theorem Lh:∀ st,pm aK [.int 2] st=some (.fz (aD RR2),st):=fun st=>bS rfl (by kernel_rfl)
theorem Lg:∀ st,pm aK [.int 3] st=some (.fz (aD RR3),st):=fun st=>bS rfl (by kernel_rfl)
theorem Lk:HOk 2 3 RR2.length Jd:=by
 refine ⟨fun grp h1 h2=>?_,fun grp h1 h2=>?_,fun grp h1 h2=>?_⟩
 ·have:grp=1\/grp=2\/grp=3:=by omega
  rcases this with rfl | rfl | rfl <;> exact ul (by kernel_rfl)
 ·have:grp=1\/grp=2\/grp=3:=by omega
  rcases this with rfl | rfl | rfl <;> rfl
 ·have:grp=1\/grp=2\/grp=3:=by omega
  rcases this with rfl | rfl | rfl <;> decide
theorem Lj:HOk 3 7 RR3.length Jc:=by
 refine ⟨fun grp h1 h2=>?_,fun grp h1 h2=>?_,fun grp h1 h2=>?_⟩
 ·have:grp=1\/grp=2\/grp=3\/grp=4\/grp=5\/grp=6\/grp=7:=by omega
  rcases this with rfl | rfl | rfl | rfl | rfl | rfl | rfl <;> exact ul (by kernel_rfl)
 ·have:grp=1\/grp=2\/grp=3\/grp=4\/grp=5\/grp=6\/grp=7:=by omega
  rcases this with rfl | rfl | rfl | rfl | rfl | rfl | rfl <;> rfl
 ·have:grp=1\/grp=2\/grp=3\/grp=4\/grp=5\/grp=6\/grp=7:=by omega
  rcases this with rfl | rfl | rfl | rfl | rfl | rfl | rfl <;> decide
noncomputable def RR4:List (List Int):=[[0,0,0,0,0,0,0,0,0,0,0,0,0,-1,1],[0,0,0,0,0,0,0,0,0,0,0,0,-1,0,1],[0,0,0,0,0,0,0,0,0,0,-1,0,0,0,1],[0,0,0,0,0,0,-1,0,0,0,0,0,0,0,1],[1,1,-1,0,0,0,0,0,0,0,0,0,0,0,0],[0,0,0,-1,1,1,-1,0,0,0,0,0,0,0,0],[0,0,0,0,0,0,0,-1,1,1,-1,0,0,0,0],[0,0,0,0,0,0,0,0,0,0,0,-1,1,1,-1],[1,0,0,1,-1,0,0,0,0,0,0,0,0,0,0],[0,-1,1,0,0,1,-1,0,0,0,0,0,0,0,0],[0,0,0,0,0,0,0,-1,1,0,0,1,-1,0,0],[0,0,0,0,0,0,0,0,0,-1,1,0,0,1,-1],[1,0,0,0,0,0,0,1,-1,0,0,0,0,0,0],[0,-1,1,0,0,0,0,0,0,1,-1,0,0,0,0],[0,0,0,-1,1,0,0,0,0,0,0,1,-1,0,0],[0,0,0,0,0,-1,1,0,0,0,0,0,0,1,-1],[0,1,0,1,0,-1,0,0,0,0,0,0,0,0,0],[-1,0,1,0,1,0,-1,0,0,0,0,0,0,0,0],[0,0,0,0,0,0,0,-1,0,1,0,1,0,-1,0],[0,0,0,0,0,0,0,0,-1,0,1,0,1,0,-1],[0,1,0,0,0,0,0,1,0,-1,0,0,0,0,0],[-1,0,1,0,0,0,0,0,1,0,-1,0,0,0,0],[0,0,0,-1,0,1,0,0,0,0,0,1,0,-1,0],[0,0,0,0,-1,0,1,0,0,0,0,0,1,0,-1],[0,0,0,1,0,0,0,1,0,0,0,-1,0,0,0],[-1,0,0,0,1,0,0,0,1,0,0,0,-1,0,0],[0,-1,0,0,0,1,0,0,0,1,0,0,0,-1,0],[0,0,-1,0,0,0,1,0,0,0,1,0,0,0,-1]]
noncomputable def Jb:Nat->List Int
 | 1=>[1,0,0,0,1,0,0,0,0,1,0,0,0,0,0,1,0,0,0,0,0,0,0,0,0,0,0,0]
 | 2=>[0,1,0,0,1,0,0,0,0,0,0,0,0,0,0,0,0,1,0,0,0,0,0,1,0,0,0,0]
 | 3=>[1,1,0,0,1,0,0,0,0,1,0,0,0,0,0,1,0,1,0,0,0,0,0,1,0,0,0,0]
 | 4=>[0,0,1,0,0,0,0,0,1,0,0,0,0,0,0,0,0,1,0,0,0,0,0,0,0,0,0,1]
 | 5=>[1,0,1,0,1,0,0,0,0,1,0,0,0,0,0,1,0,1,0,0,0,0,0,0,0,0,0,1]
 | 6=>[0,1,1,0,1,0,0,0,0,1,0,0,0,0,0,0,0,1,0,0,0,0,0,1,0,0,0,1]
 | 7=>[1,1,1,0,1,0,0,0,0,1,0,0,0,0,0,1,0,1,0,0,0,0,0,1,0,0,0,1]
 | 8=>[0,0,0,1,0,0,0,0,0,0,0,0,1,0,0,0,0,0,0,0,0,1,0,0,0,0,0,1]
 | 9=>[1,0,0,1,1,0,0,0,0,1,0,0,0,0,0,1,0,0,0,0,0,1,0,0,0,0,0,1]
 | 10=>[0,1,0,1,1,0,0,0,0,0,0,0,0,1,0,0,0,1,0,0,0,0,0,1,0,0,0,1]
 | 11=>[1,1,0,1,1,0,0,0,0,1,0,0,0,0,0,1,0,1,0,0,0,0,0,1,0,0,0,1]
 | 12=>[0,0,1,1,0,0,0,0,1,0,0,0,0,0,1,0,0,1,0,0,0,0,0,1,0,0,0,1]
 | 13=>[1,0,1,1,1,0,0,0,0,1,0,0,0,0,0,1,0,1,0,0,0,0,0,1,0,0,0,1]
 | 14=>[0,1,1,1,1,0,0,0,0,1,0,0,0,0,0,1,0,1,0,0,0,0,0,1,0,0,0,1]
 | _=>[1,1,1,1,1,0,0,0,0,1,0,0,0,0,0,1,0,1,0,0,0,0,0,1,0,0,0,1]
theorem Ll:∀ st,pm ah [.int 4] st=some (.int ((15:Nat):Int),st):=fun st=>bS rfl (by kernel_rfl)
theorem Lf:∀ st,pm aK [.int 4] st=some (.fz (aD RR4),st):=fun st=>bS rfl (by kernel_rfl)
theorem Li:HOk 4 15 RR4.length Jb:=by
 refine ⟨fun grp h1 h2=>?_,fun grp h1 h2=>?_,fun grp h1 h2=>?_⟩ <;> have:grp=1\/grp=2\/grp=3\/grp=4\/grp=5\/grp=6\/grp=7\/grp=8\/grp=9\/grp=10\/grp=11\/grp=12\/grp=13\/grp=14\/grp=15:=by omega
 ·rcases this with rfl | rfl | rfl | rfl | rfl | rfl | rfl | rfl | rfl | rfl | rfl | rfl | rfl | rfl | rfl <;> exact ul (by kernel_rfl)
 ·rcases this with rfl | rfl | rfl | rfl | rfl | rfl | rfl | rfl | rfl | rfl | rfl | rfl | rfl | rfl | rfl <;> rfl
 ·rcases this with rfl | rfl | rfl | rfl | rfl | rfl | rfl | rfl | rfl | rfl | rfl | rfl | rfl | rfl | rfl <;> decide
end LW
namespace LW
open PySem PySem.Spec L2 R
section
variable {ks:List Fn}{sl:Sl}{st:aa}{ss:MC}{P:AV × aa->Prop}
theorem mq {α:Type}{em:α->AV}{it:Ix}{t:Tg}{b:MC}{xs:List α}{gd:Gd}{st0:aa} (I:Nat->Sl->aa->Prop) (hi:dg ks it sl st=some (⟨xs.map em,gd⟩,st0)) (hg:∀ i sl st,I i sl st->bQ gd st=true) (h0:I 0 sl st0)
  (h:∀ i x sl st,xs[i]?=some x->I i sl st->∃ p sl2 st2,bW ks t (em x) sl st=some p/\ak ks b p.1 p.2=some (.nx sl2 st2)/\I (i + 1) sl2 st2)
  (hr:∀ sl' st',I xs.length sl' st'->∃ r,(ak ks ss sl' st').bind aF=some r/\P r):∃ r,(ak ks (.cons (.fo it t b) ss) sl st).bind aF=some r/\P r:=by
 obtain ⟨sl',st',e,hI⟩:=dW (gd:=gd) (g:=bW ks t) (s:=ak ks b) (I:=I) (xs:=xs.map em) (fun i sl st _ hI=>hg i sl st hI) (fun i y sl st hy hI=>by
  rw [zR] at hy;obtain ⟨x,hx,rfl⟩:=zE.mp hy;exact h i x sl st hx hI) h0
 rw [zH] at hI;obtain ⟨r,e2,hp⟩:=hr sl' st' hI;exact ⟨r,aj (by rw [nK,hi,bind_some];exact e) e2,hp⟩
end
section
variable {ks:List Fn}{sl:Sl}{st:aa}{ss:MC}{P:AV × aa->Prop}
theorem pG {α β:Type}{em:β->AV}{it:Ix}{t:Tg}{b:MC}{xs:List β}{gd:Gd}{st0:aa} (I:Nat->α->Sl->aa->Prop) (f:α->β->α) (a:α) (hi:dg ks it sl st=some (⟨xs.map em,gd⟩,st0)) (h0:I 0 a sl st0) (hg:∀ i a sl st,I i a sl st->bQ gd st=true)
  (h:∀ i a x sl st,xs[i]?=some x->I i a sl st->∃ p sl2 st2,bW ks t (em x) sl st=some p/\ak ks b p.1 p.2=some (.nx sl2 st2)/\I (i + 1) (f a x) sl2 st2)
  (hr:∀ sl' st',I xs.length (xs.foldl f a) sl' st'->∃ r,(ak ks ss sl' st').bind aF=some r/\P r):∃ r,(ak ks (.cons (.fo it t b) ss) sl st).bind aF=some r/\P r:=by
 refine mq (fun i=>I i ((xs.take i).foldl f a)) hi (fun i=>hg _ _) h0 (fun i x sl st hx hI=>?_) fun sl' st' hI=>hr sl' st' (by rwa [List.take_length] at hI)
 obtain ⟨p,sl2,st2,h1,h2,h3⟩:=h i _ x sl st hx hI;refine ⟨p,sl2,st2,h1,h2,?_⟩;rw [List.take_add_one,hx,Option.toList_some,List.foldl_append];exact h3
end
noncomputable def aR (os:List Nat) (g:Nat):Bool:=os.any fun o=>o &&& g == o
section
variable {st:aa}{os:List Nat}{g:Nat}
theorem HN {α:Type}{f:α->Bool}:∀ {l:List α},bw qR [.fz (l.map fun x=>AV.bl (f x))] st=some (.bl (l.any f),st):=by
 intro l;have h:aO uT (l.map fun x=>AV.bl (f x))=some (l.map f):=by
  induction l with
  | nil=>rfl
  | cons x l ih=>simp [aO,uT,ih]
 show (((aO uT (l.map fun x=>AV.bl (f x))).map fun bs=>AV.bl (bs.any id)).map fun z=>(z,st))=_;rw [h];show some (AV.bl ((l.map f).any id),st)=_;rw [List.any_map];rfl
theorem B4 {x y:Nat}{z:Option AV} (hx:x < 16) (hy:y < 16):ev [] (Ex.cmp CmpOp.Eq (Ex.bin Operator.BitAnd (Ex.v 2) (Ex.un UnaryOp.Invert (Ex.v 1))) (Ex.i 0)) [z,some (.int (y:Int)),some (.int (x:Int))] []=some (.bl (x &&& y == x),[]):=by
 have t:∀ x:Nat,x < 16->∀ y:Nat,y < 16->(match ev [] (Ex.cmp CmpOp.Eq (Ex.bin Operator.BitAnd (Ex.v 2) (Ex.un UnaryOp.Invert (Ex.v 1))) (Ex.i 0)) [none,some (.int (y:Int)),some (.int (x:Int))] [] with
  | some (.bl b,[])=>b == (x &&& y == x)
  | _=>false)=true:=by decide +kernel
 have t:=t x hx y hy;split at t
 ·rename_i b e
  rw [yJ t] at e;exact e
 ·cases t
theorem rJ (ho:∀ o ∈ os,o < 16) (hl:os.length <= 1000) (hg:g < 16):pm gX [.fz (nL os),.int (g:Int)] st=some (.bl (aR os g),st):=by
 refine cU (by simp [rfs,rf,io]) (v:=.bl (aR os g)) (st':=[]) ?_ rfl;rw [gX,aG];unfold oa nL;refine dU ?_;simp [-FN];rw [fb (B:=fun _=>true) (F:=fun o:Nat=>.bl (o &&& g == o)) dI fun o ho'=>⟨_,rfl,rfl,fun _=>?_⟩]
 ·rw [List.filter_eq_self.mpr (fun _ _=>rfl)]
  have hf:rfs (os.map fun o:Nat=>AV.bl (o &&& g == o))=true:=gV fun x hx=>by obtain ⟨i,_,rfl⟩:=yC.mp hx;rfl
  have h:=HN (st:=[]) (f:=fun o:Nat=>o &&& g == o) (l:=os);simp [bt hl,hf,h,aR]
 ·exact B4 (ho o ho') hg
end
noncomputable def g9:Nat->List (List Nat)
 | 2=>[[],[2]]
 | 3=>[[],[2],[4],[2,4],[6]]
 | _=>[[],[2],[4],[8],[2,4],[2,8],[4,8],[2,4,8],[6],[10],[12],[6,8],[4,10],[2,12],[6,10],[6,12],[10,12],[6,10,12],[14]]
def jX (n:Nat) (os:List Nat):List Bool:=(List.range (2 ^ (n - 1))).map fun i=>aR os (2 * i)
section
variable {os:List Nat}{n:Nat}
theorem cN {g h:Nat} (s:g &&& h=g) (e:aR os g=true):aR os h=true:=by
 unfold aR at e ⊢;rw [List.any_eq_true] at e ⊢;obtain ⟨o,h1,h2⟩:=e;have h2:=yJ h2;refine ⟨o,h1,?_⟩;rw [beq_iff_eq]
 calc o &&& h=(o &&& g) &&& h:=by rw [h2]
  _=o &&& g:=by rw [Nat.and_assoc,s]
  _=o:=h2
theorem xq (h:∀ o ∈ os,0 < o):aR os 0=false:=by
 unfold aR;rw [List.any_eq_false];intro o ho
 have:=h o ho
 simp;omega
noncomputable def i6 (a b:Bool):Bool:=!a || b
theorem fv {a b:Bool} (h:a=true->b=true):i6 a b=true:=by cases a <;> cases b <;> simp_all [i6]
theorem Jw:∀ a:Bool,[false,a] ∈ (g9 2).map (jX 2):=by decide +kernel
theorem Jv:∀ a b c:Bool,(i6 a c && i6 b c)=true->[false,a,b,c] ∈ (g9 3).map (jX 3):=by decide +kernel
theorem Ju:∀ a b c d e f g:Bool,(i6 a c && i6 b c && i6 a e && i6 d e && i6 b f && i6 d f && i6 c g && i6 e g && i6 f g)=true->[false,a,b,c,d,e,f,g] ∈ (g9 4).map (jX 4):=by decide +kernel
theorem CL (hn:n=2\/n=3\/n=4) (h:∀ o ∈ os,0 < o):jX n os ∈ (g9 n).map (jX n):=by
 have z:=xq h;rcases hn with rfl | rfl | rfl
 ·have:=Jw (aR os 2);rw [<- z] at this;exact this
 ·have:=Jv (aR os 2) (aR os 4) (aR os 6) (by simp only [zC];exact ⟨fv (cN rfl),fv (cN rfl)⟩)
  rw [<- z] at this;exact this
 ·have:=Ju (aR os 2) (aR os 4) (aR os 6) (aR os 8) (aR os 10) (aR os 12) (aR os 14) (by
   simp only [zC];exact ⟨⟨⟨⟨⟨⟨⟨⟨fv (cN rfl),fv (cN rfl)⟩,fv (cN rfl)⟩,fv (cN rfl)⟩,fv (cN rfl)⟩,fv (cN rfl)⟩,fv (cN rfl)⟩,fv (cN rfl)⟩,fv (cN rfl)⟩)
  rw [<- z] at this;exact this
theorem CM {F:List Nat} (h:jX n os=jX n F) {i:Nat} (hi:i < 2 ^ (n - 1)):aR os (2 * i)=aR F (2 * i):=by
 have:=congrArg (fun l=>l[i]?) h
 simpa [jX,hi] using this
theorem Fi (hn:n=2\/n=3\/n=4) (h:∀ o ∈ os,0 < o):∃ F ∈ g9 n,∀ i,i < 2 ^ (n - 1)->aR os (2 * i)=aR F (2 * i):=by
 obtain ⟨F,hF,e⟩:=yC.mp (CL hn h);exact ⟨F,hF,fun i hi=>CM e.symm hi⟩
end
def a0 (n:Nat):List Nat:=(List.range (2 ^ (n - 1))).map (2 * ·)
def gA (n:Nat) (ts:List (Nat × Int)):List Int:=(List.range (2 ^ n - 1)).map fun x=>(ts.filter fun t=>t.1 == x + 1).foldl (fun a t=>a + t.2) 0
def HV (n g:Nat):Gv:=⟨gA n [(g + 1,1),(g,-1)],true,0⟩
def Ie (n g:Nat):Gv:=⟨gA n [(1,1),(g,1),(g + 1,-1)],true,0⟩
def il (n g:Nat) (b:Bool):List Gv:=if b=true then [HV n g] else if g=0 then [] else [Ie n g]
def fN (n:Nat) (B:Nat->Bool):List Gv:=(a0 n).foldl (fun a g=>a++il n g (B g)) [⟨gA n [(1,1)],true,1⟩]
def cz (n:Nat):Prop:=n=2\/n=3\/n=4
section
variable {st:aa}{os:List Nat}{n g:Nat}
theorem EH (hn:cz n):pm cS [.int n] st=some (.fz (nL (a0 n)),st):=by
 rcases hn with rfl | rfl | rfl <;> exact bS rfl (by kernel_rfl)
theorem mX (hn:cz n) (h:g ∈ a0 n):(n=2/\(g=0\/g=2))\/(n=3/\(g=0\/g=2\/g=4\/g=6))\/(n=4/\(g=0\/g=2\/g=4\/g=6\/g=8\/g=10\/g=12\/g=14)):=by
 obtain ⟨i,hi,rfl⟩:=yC.mp h;have hi:=List.mem_range.mp hi;rcases hn with rfl | rfl | rfl
 ·have:i < 2:=hi;omega
 ·have:i < 4:=hi;omega
 ·have:i < 8:=hi;omega
theorem o7 (hn:cz n) (h:g ∈ a0 n):g < 16:=by have:=mX hn h;omega
theorem AN (hn:cz n) (h:g ∈ a0 n):pm k4 [.int n,.int g,.int 1] st=some ((HV n g).av,st):=by
 rcases mX hn h with ⟨rfl,rfl | rfl⟩ | ⟨rfl,rfl | rfl | rfl | rfl⟩ | ⟨rfl,rfl | rfl | rfl | rfl | rfl | rfl | rfl | rfl⟩ <;> exact bS rfl (by kernel_rfl)
theorem wK (hn:cz n) (h:g ∈ a0 n) (h0:g ≠ 0):pm jD [.int n,.int 1,.int g,.int 0] st=some ((Ie n g).av,st):=by
 rcases mX hn h with ⟨rfl,rfl | rfl⟩ | ⟨rfl,rfl | rfl | rfl | rfl⟩ | ⟨rfl,rfl | rfl | rfl | rfl | rfl | rfl | rfl | rfl⟩ <;> first | exact absurd rfl h0 | exact bS rfl (by kernel_rfl)
theorem Gz (hn:cz n):pm bI [.int n,.fz [.tup [.int 1,.int 1]]] st=some (.fz (iL (gA n [(1,1)])),st):=by
 rcases hn with rfl | rfl | rfl <;> exact bS rfl (by kernel_rfl)
end
end LW
namespace LW
open PySem PySem.Spec L2 R
open SX (gI)
theorem jq {a b:Int} (h:a.natAbs < 2 ^ 62):cK a b=true:=by
 unfold cK;have:Nat.ble a.natAbs.log2 62=true:=yK (by
  by_cases hz:a.natAbs=0
  ·rw [hz];decide
  ·exact yV ((Nat.log2_lt hz).mpr h))
 rw [this];simp
theorem mH {a b:Int} (h:b.natAbs < 2 ^ 62):cK a b=true:=by
 unfold cK;have:Nat.ble b.natAbs.log2 62=true:=yK (by
  by_cases hz:b.natAbs=0
  ·rw [hz];decide
  ·exact yV ((Nat.log2_lt hz).mpr h))
 rw [this];simp
theorem kR {a b:Int} (h:0 < b):lq a b=a % b:=yH h
theorem Ai {a b:Int} (h:0 < b):sH a b=a / b:=yH h
theorem mK {a b:Int} (h:0 < b):0 <= a % b/\a % b < b:=⟨Int.emod_nonneg _ oM,Int.emod_lt_of_pos _ h⟩
theorem GC {c:Int}{k:Nat} (hk:k <= 1000):∃ m:Int,pm cp [.int c,.int k] st=some (.int m,st)/\0 <= m/\m < 2147483629:=by
 have hkk:((k:Int) * (k:Int)).natAbs < 2 ^ 62:=by
  rw [Int.natAbs_mul,Int.natAbs_natCast];have:k * k <= 1000 * 1000:=Nat.mul_le_mul hk hk;exact yL this dC
 obtain ⟨x,hx⟩:∃ x,x=(c % 2147483647 + (k:Int) * (k:Int) * 7919 + 104729) * 48271 % 2147483647:=⟨_,rfl⟩;have xr:=mK (a:=(c % 2147483647 + (k:Int) * (k:Int) * 7919 + 104729) * 48271) (b:=2147483647) dC;rw [<- hx] at xr;have xs:x.natAbs < 2 ^ 62:=by have:(2:Nat) ^ 62=4611686018427387904:=dC;omega
 refine ⟨(x * x + 69621 * (k:Int)) % 2147483629,cU rfl (v:=.int ((x * x + 69621 * (k:Int)) % 2147483629)) (st':=[]) ?_ rfl,(mK dC).1,(mK dC).2⟩;have m1:cK (k:Int) (k:Int)=true:=jq (by rw [Int.natAbs_natCast];exact yL hk dC);have m2:cK ((k:Int) * (k:Int)) 7919=true:=mH dC;have m3:cK (c % 2147483647 + (k:Int) * (k:Int) * 7919 + 104729) 48271=true:=mH dC;have m4:cK x x=true:=jq xs;have m5:cK 69621 (k:Int)=true:=jq dC;rw [cp,aG];unfold jB;refine aj (sl':=[some (.int c),some (.int (k:Int)),some (.int x)]) (st':=[]) ?_ ?_
 ·simp [dX (show (2147483647:Int) ≠ 0 by decide),kR (show (0:Int) < 2147483647 by decide),bO m1,bO m2,bO m3,<- hx]
 ·simp [dX (show (2147483629:Int) ≠ 0 by decide),kR (show (0:Int) < 2147483629 by decide),bO m4,bO m5]
theorem tI:ci .Pow st (.int 10) (.int 18)=some (.int 1000000000000000000):=by kernel_rfl
theorem B8 (hn:ns.length <= 63):∃ A B D,dy [.fz (iL ns),.int 1,.int 80] []=some (.ref 2,[A,B,Mw.lst (iL D)])/\D.length=80/\∀ x ∈ D,0 <= x/\x < 2147483587:=by
 obtain ⟨C,hC⟩:∃ C,C=ns++[1]:=⟨_,rfl⟩;have lC:C.length=ns.length + 1:=by rw [hC];simp
 obtain ⟨sl',st',e,lf,fd,y6,y7,y8,rfl,rfl,h1,h2,h3⟩:=dW (gd:=[]) (g:=bW [cp] (.nm 6)) (s:=ak [cp] (.cons (.as (.bin .Mod (.v 6) (.bi .len (.cons (.v 3) .nil))) (.nm 7))
 (.cons (.as (.ca true 0 (.cons (.ix (.v 3) (.v 7)) (.cons (.v 6) .nil))) (.nm 8))
 (.cons (.as (.bin .Mod (.bin .Add (.bin .Mult (.v 8) (.v 8)) (.bin .Mult (.i 7) (.v 6))) (.i 2147483587)) (.nm 8))
 (.cons (.iff (.an (.cmp .GtE (.ix (.v 3) (.v 7)) (.bin .Pow (.i 10) (.i 18))) (.cmp .Gt (.ix (.v 4) (.v 7)) (.i 0)))
 (.cons (.as (.bin .Mod (.ix (.v 4) (.v 7)) (.i 2147483587)) (.nm 8))
 (.cons (.as (.bin .FloorDiv (.ix (.v 4) (.v 7)) (.i 2147483587)) (.su (.v 4) (.v 7)))
 .nil))
 .nil)
 (.cons (.ex (.mt .app (.v 5) (.cons (.v 8) .nil)))
 .nil))))))
  (I:=fun i sl s=>∃ lf fd y6 y7 y8,s=[Mw.lst (iL lf),Mw.lst (iL fd)]/\sl=[some (.fz (iL ns)),some (.int 1),some (.int 80),some (.fz (iL C)),some (.ref 0),some (.ref 1),y6,y7,y8]/\lf.length=C.length/\fd.length=i/\∀ x ∈ fd,0 <= x/\x < 2147483587) (xs:=cJ 0 81) (fun _ _ _ _ _=>rfl)
  (fun i y sl s hy hI=>by
   obtain ⟨lf,fd,y6,y7,y8,rfl,rfl,h1,h2,h3⟩:=hI;rw [mv] at hy;have hi:i < 81:=by have:=(zB.mp hy).1;simpa using this
   have ey:y=.int ((i:Nat):Int):=by
    rw [fR (by simpa using hi)] at hy;injection hy with hy;rw [<- hy];simp [zD,hi]
   subst ey;obtain ⟨q,hq⟩:∃ q,q=i % C.length:=⟨_,rfl⟩;have ql:q < C.length:=by rw [hq];exact Nat.mod_lt _ oM
   obtain ⟨m,em,m0,m1⟩:=GC (c:=gI C q) (k:=i) oM (st:=[Mw.lst (iL lf),Mw.lst (iL fd)]);have xC:b9 [Mw.lst (iL lf),Mw.lst (iL fd)] (.fz (iL C)) (.int (q:Int))=some (.int (gI C q)):=by rw [cb eI,bT,bH ql]
   have xL:b9 [Mw.lst (iL lf),Mw.lst (iL fd)] (.ref 0) (.int (q:Int))=some (.int (gI lf q)):=by rw [cb (bq rfl),bT,bH oM]
   have mm:cK m m=true:=jq (by have:(2:Nat) ^ 62=4611686018427387904:=dC;omega);have m7:cK 7 (i:Int)=true:=jq dC;have am:lq ((i:Nat):Int) ((C.length:Nat):Int)=((q:Nat):Int):=by rw [kR oM,hq];simp
   have P0:(0:Int) < 2147483587:=by decide
   -- the number
   have app:∀ (lf':List Int) (x:Int) (z8:Option AV),cR [cp] (.ex (.mt .app (.v 5) (.cons (.v 8) .nil))) [some (.fz (iL ns)),some (.int 1),some (.int 80),some (.fz (iL C)),some (.ref 0),some (.ref 1),some (.int (i:Int)),some (.int (q:Int)),some (.int x)] [Mw.lst (iL lf'),Mw.lst (iL fd)]=some (.nx [some (.fz (iL ns)),some (.int 1),some (.int 80),some (.fz (iL C)),some (.ref 0),some (.ref 1),some (.int (i:Int)),some (.int (q:Int)),some (.int x)] [Mw.lst (iL lf'),Mw.lst (iL (fd++[x]))]):=fun lf' x _=>by
    rw [wM,Ar (k:=1) (xs:=iL fd) (y:=.int x) rfl rfl rfl (by simp;omega),EV,vU];rfl
   by_cases hc:1000000000000000000 <= gI C q/\0 < gI lf q
   ·refine ⟨_,[some (.fz (iL ns)),some (.int 1),some (.int 80),some (.fz (iL C)),some (.ref 0),some (.ref 1),some (.int (i:Int)),some (.int (q:Int)),some (.int (gI lf q % 2147483587))],[Mw.lst (iL (lf.set q (gI lf q / 2147483587))),Mw.lst (iL (fd++[gI lf q % 2147483587]))],rfl,?_,_,_,_,_,_,rfl,rfl,by simp [h1],by simp [h2],fun x hx=>?_⟩
    ·refine ao (sl':=[some (.fz (iL ns)),some (.int 1),some (.int 80),some (.fz (iL C)),some (.ref 0),some (.ref 1),some (.int (i:Int)),some (.int (q:Int)),y8]) (st':=[Mw.lst (iL lf),Mw.lst (iL fd)]) ?_ ?_
     ·simp [bw,dL,dX (show ((C.length:Nat):Int) ≠ 0 by omega),am]
     refine ao (sl':=[some (.fz (iL ns)),some (.int 1),some (.int 80),some (.fz (iL C)),some (.ref 0),some (.ref 1),some (.int (i:Int)),some (.int (q:Int)),some (.int m)]) (st':=[Mw.lst (iL lf),Mw.lst (iL fd)]) (by simp [xC,em]) ?_;refine ao (sl':=[some (.fz (iL ns)),some (.int 1),some (.int 80),some (.fz (iL C)),some (.ref 0),some (.ref 1),some (.int (i:Int)),some (.int (q:Int)),some (.int ((m * m + 7 * (i:Int)) % 2147483587))]) (st':=[Mw.lst (iL lf),Mw.lst (iL fd)]) ?_ ?_
     ·simp [bO mm,bO m7,dX (show (2147483587:Int) ≠ 0 by decide),kR P0]
     refine ao (sl':=[some (.fz (iL ns)),some (.int 1),some (.int 80),some (.fz (iL C)),some (.ref 0),some (.ref 1),some (.int (i:Int)),some (.int (q:Int)),some (.int (gI lf q % 2147483587))]) (st':=[Mw.lst (iL (lf.set q (gI lf q / 2147483587))),Mw.lst (iL fd)]) ?_ (ao (app _ _ none) rfl);have dv:eP 2147483587=true:=by decide
     have hs:=cW (st:=[Mw.lst (iL lf),Mw.lst (iL fd)]) (k:=0) (q:=q) (xs:=iL lf) (x:=.int (gI lf q / 2147483587)) rfl (by simp;omega);rw [eD] at hs;simp [xC,xL,tI,hc.1,hc.2,dX (show (2147483587:Int) ≠ 0 by decide),kR P0,jz dv,Ai P0,hs]
    ·rcases zZ.mp hx with h | h
     ·exact h3 x h
     ·rw [zM.mp h];exact mK P0
   ·refine ⟨_,[some (.fz (iL ns)),some (.int 1),some (.int 80),some (.fz (iL C)),some (.ref 0),some (.ref 1),some (.int (i:Int)),some (.int (q:Int)),some (.int ((m * m + 7 * (i:Int)) % 2147483587))],[Mw.lst (iL lf),Mw.lst (iL (fd++[(m * m + 7 * (i:Int)) % 2147483587]))],rfl,?_,_,_,_,_,_,rfl,rfl,h1,by simp [h2],fun x hx=>?_⟩
    ·refine ao (sl':=[some (.fz (iL ns)),some (.int 1),some (.int 80),some (.fz (iL C)),some (.ref 0),some (.ref 1),some (.int (i:Int)),some (.int (q:Int)),y8]) (st':=[Mw.lst (iL lf),Mw.lst (iL fd)]) ?_ ?_
     ·simp [bw,dL,dX (show ((C.length:Nat):Int) ≠ 0 by omega),am]
     refine ao (sl':=[some (.fz (iL ns)),some (.int 1),some (.int 80),some (.fz (iL C)),some (.ref 0),some (.ref 1),some (.int (i:Int)),some (.int (q:Int)),some (.int m)]) (st':=[Mw.lst (iL lf),Mw.lst (iL fd)]) (by simp [xC,em]) ?_;refine ao (sl':=[some (.fz (iL ns)),some (.int 1),some (.int 80),some (.fz (iL C)),some (.ref 0),some (.ref 1),some (.int (i:Int)),some (.int (q:Int)),some (.int ((m * m + 7 * (i:Int)) % 2147483587))]) (st':=[Mw.lst (iL lf),Mw.lst (iL fd)]) ?_ ?_
     ·simp [bO mm,bO m7,dX (show (2147483587:Int) ≠ 0 by decide),kR P0]
     refine ao (sl':=[some (.fz (iL ns)),some (.int 1),some (.int 80),some (.fz (iL C)),some (.ref 0),some (.ref 1),some (.int (i:Int)),some (.int (q:Int)),some (.int ((m * m + 7 * (i:Int)) % 2147483587))]) (st':=[Mw.lst (iL lf),Mw.lst (iL fd)]) ?_ (ao (app _ _ none) rfl);by_cases hc1:1000000000000000000 <= gI C q
     ·have hc2:¬ 0 < gI lf q:=fun z=>hc ⟨hc1,z⟩
      simp [xC,xL,tI,hc1,hc2]
     ·simp [xC,tI,hc1]
    ·rcases zZ.mp hx with h | h
     ·exact h3 x h
     ·rw [zM.mp h];exact mK P0) (sl:=[some (.fz (iL ns)),some (.int 1),some (.int 80),some (.fz (iL C)),some (.ref 0),some (.ref 1),none,none,none]) (st:=[Mw.lst (iL (C.map fun x=>x / 100000)),Mw.lst (iL [])]) ⟨_,[],none,none,none,rfl,rfl,by simp,rfl,by simp⟩
 have rl:(cJ 0 81).length=81:=by decide
 rw [rl] at h2;refine ⟨Mw.lst (iL lf),Mw.lst (iL fd),fd.drop 1,?_,by simp [h2],fun x hx=>h3 x (List.mem_of_mem_drop hx)⟩;rw [dy,aG];unfold ic;refine aj (sl':=[some (.fz (iL ns)),some (.int 1),some (.int 80),some (.fz (iL C)),none,none,none,none,none]) (st':=[]) ?_ ?_
 ·have cu:cut (iL ns) none (some 63)=iL ns:=by
   unfold cut;have:HT.M6 (iL ns).length (iL ns).length (some 63)=(iL ns).length:=by
    rw [show (63:Int)=((63:Nat):Int) from rfl,HT.sIx_nat,fy];omega
   rw [this,HT.sIx_none,List.drop_zero,Nat.sub_zero,List.take_length]
  have c:=jf (ks:=[cp]) (a:=.nw false (.sl (.v 0) .no (.so (.i 63)))) (b:=.nw false (.li (.cons (.v 1) .nil))) (sl:=[some (.fz (iL ns)),some (.int 1),some (.int 80),none,none,none,none,none,none]) (st:=[]) (s1:=[]) (s2:=[]) (x:=.fz (iL ns)) (y:=.fz [AV.int 1]) (l:=ns) (l':=[1]) (by simp [oy,ox,cu]) (by simp [cE]) rfl rfl (by simp;omega);simp [-tP,c,hC]
 refine aj (sl':=[some (.fz (iL ns)),some (.int 1),some (.int 80),some (.fz (iL C)),some (.ref 0),none,none,none,none]) (st':=[Mw.lst (iL (C.map fun x=>x / 100000))]) ?_ ?_
 ·have dv:eP 100000=true:=by decide
  simp [bt (show C.length <= 1000 by omega)];rw [jr (F:=fun x=>x / 100000) dI fun x hx=>⟨_,rfl,rfl,by simp [jz dv,Ai (show (0:Int) < 100000 by decide)]⟩];simp
 refine aj (sl':=[some (.fz (iL ns)),some (.int 1),some (.int 80),some (.fz (iL C)),some (.ref 0),some (.ref 1),none,none,none]) (st':=[Mw.lst (iL (C.map fun x=>x / 100000)),Mw.lst (iL [])]) (by simp [cE,iL]) ?_;refine aj (sl':=[some (.fz (iL ns)),some (.int 1),some (.int 80),some (.fz (iL C)),some (.ref 0),some (.ref 1),y6,y7,y8]) (st':=[Mw.lst (iL lf),Mw.lst (iL fd)]) ?_ ?_
 ·have rb:eO 81=true:=by decide
  have:dg [cp] (.r1 (.bin .Add (.v 1) (.v 2))) [some (.fz (iL ns)),some (.int 1),some (.int 80),some (.fz (iL C)),some (.ref 0),some (.ref 1),none,none,none] [Mw.lst (iL (C.map fun x=>x / 100000)),Mw.lst (iL [])]=some (⟨cJ 0 81,[]⟩,[Mw.lst (iL (C.map fun x=>x / 100000)),Mw.lst (iL [])]):=by
   simp [vT,rb]
  rw [nK,this,bind_some];exact e
 ·have cu:cut (iL fd) (some 1) none=iL (fd.drop 1):=by
   unfold cut;rw [HT.sIx_none,show (1:Int)=((1:Nat):Int) from rfl,HT.sIx_nat,fy,h2,sD];rw [List.take_of_length_le (by simp [h2])];rfl
  have l1:bn [Mw.lst (iL lf),Mw.lst (iL fd)] (.ref 1)=some (iL fd):=bq rfl;simp [oy,ox,l1,cu]
theorem gM {r:Nat}{x:Int} (h:st[r]?=some (.lst (iL (D++[x])))):aH [.ref r] st=some (.int x,st.set r (.lst (iL D))):=by
 have hp:∀ l:List Int,aO (bE 8 st) (iL l)=some (l.map PyData.int):=fun l=>cX (f:=bE 8 st) (i:=AV.int) (g:=PyData.int) (fun _=>rfl) l
 have hl:∀ l:List Int,PyData.canLayAll0 (l.map PyData.int)=true:=fun l=>by
  induction l with
  | nil=>rfl
  | cons a l ih=>simp only [zO,PyData.canLayAll0,PyData.canLay0,ih,Bool.and_self]
 have c:cA .Eq st (.ref r) (.fz [])=some false:=by
  show ir st (.ref r) (.fz [])=_;unfold ir;have p1:bE 9 st (.ref r)=some (.list ((D++[x]).map PyData.int)):=by
   unfold bE;simp only [h,hp,map_some]
  have p2:bE 9 st (.fz [])=some (.list []):=rfl;rw [p1,p2,bind_some,bind_some,yH ?_]
  ·rw [List.map_append]
   cases D.map PyData.int <;> rfl
  ·have h1:(PyData.list ((D++[x]).map PyData.int)).canLay0=true:=by unfold PyData.canLay0;exact hl _
   have h2:(PyData.list []).canLay0=true:=rfl;have h3:min (PyData.list ((D++[x]).map PyData.int)).depth (PyData.list []).depth <= 50:=z0 (Nat.min_le_right _ _) dC;unfold DD.pyOk;rw [h1,h2,yS h3];rfl
 have e1:(iL (D++[x]))[D.length]?=some (.int x):=by unfold iL;simp
 have e2:(iL (D++[x])).dropLast=iL D:=by unfold iL;simp
 simp [aH,aG,jA,cE,c,ji,k9,k8,k7,bq h,t0,eJ,h,e1,e2];exact (zB.mp e1).2
end LW
namespace LW
open PySem PySem.Spec L2 R
theorem Cv {f:AV->AV->Option AV}{h:Nat->Nat->Nat} (t:∀ x:Nat,x < 16->∀ y:Nat,y < 16->(match f (.int x) (.int y) with
  | some (.int b)=>decide (b=(h x y:Int))
  | _=>false)=true) {x y:Nat} (hx:x < 16) (hy:y < 16):f (.int (x:Int)) (.int (y:Int))=some (.int (h x y:Int)):=by
 have t:=t x hx y hy;split at t
 ·rename_i b e
  rw [of_decide_eq_true t] at e;exact e
 ·cases t
section
variable {st:aa}{os:List Nat}{n g k:Nat}
theorem DG {x y:Nat} (hx:x < 16) (hy:y < 16):ci .BitOr st (.int (x:Int)) (.int (y:Int))=some (.int ((x ||| y:Nat):Int)):=by
 show ci .BitOr [] (.int (x:Int)) (.int (y:Int))=_;exact Cv (f:=ci .BitOr []) (h:=fun x y=>x ||| y) (by decide +kernel) hx hy
theorem tJ {fn:Fn}{args ts:List AV}{v t:AV}{st' st2:aa} (h0:rfs args=false) (h1:aO (cx st) args=some ts) (h2:fn ts []=some (v,st')) (h3:cx st' v=some t) (h4:cQ t=false) (h5:i7 st args=some (ts,st2)):pm fn args st=some (t,st2):=by
 unfold pm;simp only [h0,h1,h2,h3,h4,h5,yA,_root_.if_false,bind_some,map_some]
theorem Gp {fn:Fn}{args:List AV}{t:AV} (hr:rfs args=true) (h:pm fn args []=some (t,[])):∃ v st',fn args []=some (v,st')/\cx st' v=some t:=by
 unfold pm at h;rw [yH hr] at h;obtain ⟨p,e1,e2⟩:=zA h;obtain ⟨q,e3,e4⟩:=zE.mp e2;cases e4;exact ⟨p.1,p.2,e1,e3⟩
theorem u5 {m:Nat}{l:List Nat}:aO (cq m st) (nL l)=some (nL l):=cX (f:=cq m st) (i:=fun q:Nat=>AV.int (q:Int)) (g:=fun q:Nat=>AV.int (q:Int)) (fun x=>by cases m <;> rfl) l
end
section
variable {st:aa}{os:List Nat}{n g k j:Nat}
theorem tG {ks:List Fn}{a:Ex}{sl:Sl}{n:Nat} (h:ev ks a sl st=some (.int (n:Int),st)) (hn:n <= 1000):dg ks (.r1 a) sl st=some (⟨(List.range n).map fun q:Nat=>AV.int (q:Int),[]⟩,st):=by
 show (ev ks a sl st).bind _=_;rw [h,bind_some];dsimp only;have:eO (n:Int)=true:=by
  unfold eO;refine yK ?_;rw [Int.natAbs_natCast];by_cases hz:n=0
  ·subst hz;decide
  ·exact yV ((Nat.log2_lt hz).mpr (yL hn dC))
 rw [yH this,Int.toNat_natCast,mv];rfl
theorem As {ks:List Fn}{a e:Ex}{sl:Sl}{y:AV}{xs:List AV}{k:Nat} (h1:ev ks a sl st=some (.ref k,st)) (h2:ev ks e sl st=some (y,st)) (h3:st[k]?=some (.lst xs)) (hl:xs.length <= 1000):cR ks (.ex (.mt .app a (.cons e .nil))) sl st=some (.nx sl (st.set k (.lst (xs++[y])))):=by
 simp [ji,k9,k8,h1,k7,bq h3,h2,j4,eJ,h3,bt hl]
theorem xR {α:Type}{ks:List Fn}{k:Nat}{it:Ix}{t:Tg}{c:Cx'}{e:Ex}{sl:Sl}{gd:Gd}{em:α->AV}{B:α->Bool}{F:α->AV}{xs:List α} (hi:dg ks it sl st=some (⟨xs.map em,gd⟩,st)) (hg:bQ gd st=true) (hz:xs.length <= 1000)
  (h:∀ x ∈ xs,∃ sl1,bW ks t (em x) (sl++List.replicate k none) st=some (sl1,st)/\jI ks c sl1 st=some (B x,st)/\(B x=true->ev ks e sl1 st=some (F x,st))):gh ks (.lc k it t c e) sl st=some ((xs.filter B).map F,st):=by
 rw [Ec,hi,bind_some];dsimp only;rw [yH (bt (by rw [zH];exact hz))];exact fb hg h
theorem uS {b:Bool}:d7 st (.bl b)=some b:=rfl
theorem Ez {x y:Nat} (hx:x < 16) (hy:y < 16):(x ||| y == y)=(x &&& y == x) :=
 have t:∀ x:Nat,x < 16->∀ y:Nat,y < 16->((x ||| y == y) == (x &&& y == x))=true:=by decide +kernel
 yJ (t x hx y hy)
theorem zu {l:List Nat}:cA .NotEq st (.fz (nL l)) (.fz [])=some (!l.isEmpty):=by
 change (ir st (.fz (nL l)) (.fz [])).map (fun b=>!b)=_;have h1:bE 9 st (.fz (nL l))=some (.list (l.map fun q:Nat=>PyData.int (q:Int))):=by
  show (aO (bE 8 st) _).map _=_;rw [show nL l=l.map fun q:Nat=>AV.int (q:Int) from rfl,cX (f:=bE 8 st) (i:=fun q:Nat=>AV.int (q:Int)) (g:=fun q:Nat=>PyData.int (q:Int)) (fun _=>rfl)];rfl
 have h2:PyData.canLayAll0 (l.map fun q:Nat=>PyData.int (q:Int))=true:=by
  induction l with
  | nil=>rfl
  | cons x l ih=>simp only [zO,PyData.canLayAll0,PyData.canLay0,Bool.true_and];exact ih (by
    show (aO (bE 8 st) _).map _=_;rw [show nL l=l.map fun q:Nat=>AV.int (q:Int) from rfl,cX (f:=bE 8 st) (i:=fun q:Nat=>AV.int (q:Int)) (g:=fun q:Nat=>PyData.int (q:Int)) (fun _=>rfl)];rfl)
 unfold ir;rw [h1,show bE 9 st (.fz [])=some (.list []) from rfl,bind_some,bind_some,yH (by
  unfold DD.pyOk;rw [show (PyData.list (l.map fun q:Nat=>PyData.int (q:Int))).canLay0=true by simp only [PyData.canLay0,h2],yS (z0 (Nat.min_le_right _ _) dC)];rfl)]
 cases l <;> rfl
theorem Fb:(!(os.filter fun o=>o &&& g == o).isEmpty)=aR os g:=by
 unfold aR
 induction os with
 | nil=>rfl
 | cons a l ih =>
  rw [List.filter_cons,List.any_cons];cases h:(a &&& g == a)
  ·simpa using ih
  ·rfl
theorem GK (l:List Nat):PyData.canLayAll0 (l.map fun q:Nat=>PyData.int (q:Int))=true:=by
 induction l with
 | nil=>rfl
 | cons x l ih=>simp only [zO,PyData.canLayAll0,PyData.canLay0,Bool.true_and];exact ih
theorem Eu {m:Nat}{l:List Nat}:aO (bE (m + 1) st) (nL l)=some (l.map fun q:Nat=>PyData.int (q:Int)):=cX (f:=bE (m + 1) st) (i:=fun q:Nat=>AV.int (q:Int)) (g:=fun q:Nat=>PyData.int (q:Int)) (fun _=>rfl) l
theorem Hd {ks:List Fn}{r:Sl} (hn:cz n):dg ks (.r3 (.i 0) (.bin .LShift (.i 1) (.v 0)) (.i 2)) (some (.int (n:Int))::r) st=some (⟨(a0 n).map fun q:Nat=>AV.int (q:Int),[]⟩,st):=by
 rcases hn with rfl | rfl | rfl <;> rfl
end
section
variable {st:aa}{os:List Nat}{n g k j:Nat}{A B:Mw}{D:List Int}
theorem gN (h:D ≠ []):∃ D' x,D=D'++[x]:=⟨D.dropLast,D.getLast h,(List.dropLast_concat_getLast h).symm⟩
end
section
variable {st:aa}{os F:List Nat}{n g k j:Nat}{x:AV}{ns:List Int}
theorem rZ {s:Str}:cA .NotEq st (.str s) (.str s)=some false:=by
 change (ir st (.str s) (.str s)).map (fun b=>!b)=_;unfold ir;show ((if DD.pyOk (.str s) (.str s)=true then some (PyData.eqv (.str s) (.str s)) else tw (.str s) (.str s)).map _)=_;split <;> simp [PyData.eqv,tw]
theorem p8 {m:Nat}{l:List Int}:aO (bE (m + 1) st) (iL l)=some (l.map PyData.int):=cX (f:=bE (m + 1) st) (i:=AV.int) (g:=PyData.int) (fun _=>rfl) l
theorem Fv {w:Nat}{RR:List (List Int)}{HO:Nat->List Int}{gv:List Gv}{goal:List Int}{N:Nat}{t:AV} (h:l8 w RR HO gv goal N=some t):rf t=true/\cQ t=false:=by
 unfold l8 at h;obtain ⟨⟨o,S⟩,_,h2⟩:=zA h;cases o with
 | some p =>
  have h2:lR w _ HO p S=some t:=h2;unfold lR at h2;split at h2
  ·cases h2;exact ⟨rfl,rfl⟩
  ·cases h2
 | none =>
  have h2:((gp w _ _ N S).bind fun r=>match r with
   | (none,S')=>iI w _ HO S'
   | (some q,S')=>iN w _ q S')=some t:=h2
  obtain ⟨⟨oq,S2⟩,_,h4⟩:=zA h2;cases oq with
  | none =>
   have h4:iI w _ HO S2=some t:=h4;unfold iI at h4;split at h4
   ·cases h4;exact ⟨rfl,rfl⟩
   ·cases h4
  | some q =>
   have h4:iN w _ q S2=some t:=h4;unfold iN at h4;split at h4
   ·cases h4;exact ⟨rfl,rfl⟩
   ·cases h4
theorem KU (hn:cz n) (ho:∀ o ∈ os,o < 16):∃ F ∈ [0]::g9 n,(∀ g ∈ a0 n,aR os g=aR F g)/\(0 ∈ F ↔ 0 ∈ os):=by
 by_cases h:0 ∈ os
 ·refine ⟨[0],z6,fun g _=>?_,by simp [h]⟩
  have:aR os g=true:=List.any_eq_true.mpr ⟨0,h,by simp⟩;rw [this];simp [aR]
 ·obtain ⟨F,hF,e⟩:=Fi hn (os:=os) fun o h2=>Nat.pos_of_ne_zero fun z=>h (z ▸ h2)
  refine ⟨F,zQ _ hF,fun g hg=>?_,?_⟩
  ·obtain ⟨i,hi,rfl⟩:=yC.mp hg
   exact e i (List.mem_range.mp hi)
  ·have:∀ n,n < 5->∀ F ∈ g9 n,0 ∉ F:=by decide +kernel
   exact ⟨fun z=>absurd z (this n (by rcases hn with rfl | rfl | rfl <;> decide) F hF),fun z=>absurd z h⟩
theorem nn (x:Int) (h:0 <= x):∃ n:Nat,cz n/\2 + x % 3=(n:Int):=by
 have h1:=Int.emod_nonneg x (show (3:Int) ≠ 0 by decide);have h2:=Int.emod_lt_of_pos x (show (0:Int) < 3 by decide);exact ⟨(2 + x % 3).toNat,by unfold cz;omega,by omega⟩
end
section
variable {st:aa}{os:List Nat}{n g k j:Nat}{T:List Int}
noncomputable def bM (l T:List Int):Int:=((l.zip T).map fun z=>z.1 * z.2).sum
theorem GE {l:List Int}:lsI st (.fz (iL l))=some l:=by
 unfold lsI;rw [eI,bind_some];unfold jv;rw [show iL l=l.map AV.int from rfl,cX (i:=AV.int) (g:=id) (fun _=>rfl),List.map_id]
theorem AH {l:List Int} (hl:l.length <= 1000) (hb:∀ x ∈ l,x.natAbs < 2 ^ 62):pm jj [.fz (iL l),.fz (iL T)] st=some (.int (bM l T),st):=by
 refine cU (by simp [rfs,rf,fx]) (v:=.int (bM l T)) (st':=[]) ?_ rfl;have hz:((l.zip T).length) <= 1000:=by rw [List.length_zip];omega
 simp [jj,aG,n9,iZ,uI];rw [yH (bt oM),qc (F:=fun z=>z.1 * z.2) dI fun z hz=>⟨_,rfl,rfl,by
  have:=List.of_mem_zip hz
  simp [bO (jq (b:=z.2) (hb _ this.1))]⟩]
 simp [fx,bw,pB,GE,bM]
def cF (T:List Int) (g:Nat):Int:=if g=0 then 0 else SX.gI T 0 + SX.gI T (g - 1) - SX.gI T g
def fB (os:List Nat) (T:List Int) (g:Nat):Int:=if aR os g=true then SX.gI T 0 else 0
def ii (n:Nat) (os:List Nat) (T:List Int):List Nat:=(a0 n).filter fun g=>!decide (cF T g=fB os T g)
theorem zj (hn:cz n) (h:g ∈ a0 n):(gA n [(1,1),(g,1),(g + 1,-1)]).length <= 1000/\∀ x ∈ gA n [(1,1),(g,1),(g + 1,-1)],x.natAbs < 2 ^ 62:=by
 have t:∀ n,n < 5->∀ g ∈ a0 n,(gA n [(1,1),(g,1),(g + 1,-1)]).length <= 1000/\∀ x ∈ gA n [(1,1),(g,1),(g + 1,-1)],x.natAbs < 2 ^ 62:=by decide +kernel
 exact t n (by rcases hn with rfl | rfl | rfl <;> decide) g h
theorem JO (h:T.length=3):∃ a b c,T=[a,b,c]:=by
 match T,h with
 | [a,b,c],_=>exact ⟨a,b,c,rfl⟩
theorem JN (h:T.length=7):∃ a b c d e f g,T=[a,b,c,d,e,f,g]:=by
 match T,h with
 | [a,b,c,d,e,f,g],_=>exact ⟨a,b,c,d,e,f,g,rfl⟩
theorem GJ (h:T.length=15):∃ a b c d e f g a' b' c' d' e' f' g' h',T=[a,b,c,d,e,f,g,a',b',c',d',e',f',g',h']:=by
 match T,h with
 | [a,b,c,d,e,f,g,a',b',c',d',e',f',g',h'],_=>exact ⟨a,b,c,d,e,f,g,a',b',c',d',e',f',g',h',rfl⟩
theorem Fj (hn:cz n) (h:g ∈ a0 n) (hT:T.length=2 ^ n - 1):bM (gA n [(1,1),(g,1),(g + 1,-1)]) T=cF T g:=by
 rcases mX hn h with ⟨rfl,hg⟩ | ⟨rfl,hg⟩ | ⟨rfl,hg⟩
 ·obtain ⟨a,b,c,rfl⟩:=JO hT
  rcases hg with rfl | rfl
  ·show bM [0,0,0] _=_;simp [bM,cF]
  ·show bM [1,1,-1] _=_;simp [bM,cF,SX.gI];omega
 ·obtain ⟨a,b,c,d,e,f,g,rfl⟩:=JN hT
  rcases hg with rfl | rfl | rfl | rfl
  ·show bM [0,0,0,0,0,0,0] _=_;simp [bM,cF]
  ·show bM [1,1,-1,0,0,0,0] _=_;simp [bM,cF,SX.gI];omega
  ·show bM [1,0,0,1,-1,0,0] _=_;simp [bM,cF,SX.gI];omega
  ·show bM [1,0,0,0,0,1,-1] _=_;simp [bM,cF,SX.gI];omega
 ·obtain ⟨a,b,c,d,e,f,g,a',b',c',d',e',f',g',h',rfl⟩:=GJ hT
  rcases hg with rfl | rfl | rfl | rfl | rfl | rfl | rfl | rfl
  ·show bM [0,0,0,0,0,0,0,0,0,0,0,0,0,0,0] _=_;simp [bM,cF]
  ·show bM [1,1,-1,0,0,0,0,0,0,0,0,0,0,0,0] _=_;simp [bM,cF,SX.gI];omega
  ·show bM [1,0,0,1,-1,0,0,0,0,0,0,0,0,0,0] _=_;simp [bM,cF,SX.gI];omega
  ·show bM [1,0,0,0,0,1,-1,0,0,0,0,0,0,0,0] _=_;simp [bM,cF,SX.gI];omega
  ·show bM [1,0,0,0,0,0,0,1,-1,0,0,0,0,0,0] _=_;simp [bM,cF,SX.gI];omega
  ·show bM [1,0,0,0,0,0,0,0,0,1,-1,0,0,0,0] _=_;simp [bM,cF,SX.gI];omega
  ·show bM [1,0,0,0,0,0,0,0,0,0,0,1,-1,0,0] _=_;simp [bM,cF,SX.gI];omega
  ·show bM [1,0,0,0,0,0,0,0,0,0,0,0,0,1,-1] _=_;simp [bM,cF,SX.gI];omega
theorem F0 (hn:cz n) (h:g ∈ a0 n):pm du [.int n,.int 1,.int g,.int 0] st=some (.fz (iL (gA n [(1,1),(g,1),(g + 1,-1)])),st):=by
 rcases mX hn h with ⟨rfl,rfl | rfl⟩ | ⟨rfl,rfl | rfl | rfl | rfl⟩ | ⟨rfl,rfl | rfl | rfl | rfl | rfl | rfl | rfl | rfl⟩ <;> exact bS rfl (by kernel_rfl)
theorem Ct (hn:cz n) (ho:∀ o ∈ os,o < 16) (hl:os.length <= 1000) (hT:T.length=2 ^ n - 1) (h:g ∈ a0 n):pm bJ [.int n,.fz (nL os),.fz (iL T),.int g] st=some (.bl (decide (cF T g=fB os T g)),st):=by
 have l0:0 < T.length:=by rw [hT];rcases hn with rfl | rfl | rfl <;> decide
 have xi:b9 ([]:aa) (.fz (iL T)) (.int 0)=some (.int (SX.gI T 0)):=by
  rw [cb eI,show (0:Int)=((0:Nat):Int) from rfl,bT,bH l0]
 have op:=rJ (st:=[]) ho hl (o7 hn h);have vv:=AH (st:=[]) (T:=T) (zj hn h).1 (zj hn h).2;rw [Fj hn h hT] at vv;refine cU (by simp [rfs,rf,io,fx]) (v:=.bl (decide (cF T g=fB os T g))) (st':=[]) ?_ rfl;rw [bJ,aG];unfold eA;refine aj (sl':=[some (.int n),some (.fz (nL os)),some (.fz (iL T)),some (.int g),some (.int (cF T g))]) (st':=[]) ?_ (dU ?_)
 ·simp [F0 hn h,vv]
 ·unfold fB
  cases hb:aR os g <;> rw [hb] at op <;> simp [op,uS,xi]
theorem fe (hn:cz n):(a0 n).length <= 8:=by rcases hn with rfl | rfl | rfl <;> simp [a0]
theorem BS (hn:cz n) (ho:∀ o ∈ os,o < 16) (hl:os.length <= 1000) (hT:T.length=2 ^ n - 1):c7 [.int n,.fz (nL os),.fz (iL T)] []=some (.fz (nL (ii n os T)),[]):=by
 rw [c7,aG];show (ak [cS,bJ] iO [some (.int n),some (.fz (nL os)),some (.fz (iL T))] []).bind aF=_;refine dU ?_;have hi:dg [cS,bJ] (.e (.ca true 0 (.cons (.v 0) .nil))) [some (.int n),some (.fz (nL os)),some (.fz (iL T))] []=some (⟨(a0 n).map fun q:Nat=>AV.int (q:Int),[]⟩,[]):=by simp [EH hn,nL]
 have e:=xR (k:=1) (t:=.nm 3) (c:=.so (.no (.va (.ca true 1 (.cons (.v 0) (.cons (.v 1) (.cons (.v 2) (.cons (.v 3) .nil)))))))) (e:=.v 3) hi rfl (by have:=fe hn;omega) (B:=fun g=>!decide (cF T g=fB os T g)) (F:=fun q=>AV.int (q:Int)) fun q hq=>⟨[some (.int n),some (.fz (nL os)),some (.fz (iL T)),some (.int (q:Int))],rfl,by
  have:=Ct (st:=[]) hn ho hl hT hq
  simp [this,uS],fun _=>rfl⟩
 have hr:rfs ((List.filter (fun g=>!decide (cF T g=fB os T g)) (a0 n)).map fun q:Nat=>AV.int (q:Int))=true:=io;rw [Js,jT,e,bind_some];dsimp only;rw [yH hr];rfl
end
section
variable {st:aa}{os:List Nat}{n g k j:Nat}{T:List Int}
theorem qx {c:Nat->Bool}:∀ (l a:List Nat),l.foldl (fun b g=>if c g=true then b++[g] else b) a=a++l.filter c
 | [],a=>by simp
 | g::l,a=>by
  rw [List.foldl_cons,qx l,List.filter_cons];cases c g <;> simp
theorem qj {i:Nat} (hi:i < T.length):b9 st (.fz (iL T)) (.int (i:Int))=some (.int (SX.gI T i)):=by rw [cb eI,bT,bH hi]
theorem xK (hn:cz n) (ho:∀ o ∈ os,o < 16) (hl:os.length <= 1000) (hT:T.length=2 ^ n - 1):∃ r,dw [.int n,.fz (nL os),.fz (iL T)] []=some r/\cx r.2 r.1=some (.fz (nL (ii n os T))):=by
 rw [dw,aG];show ∃ r,(ak [] fH [some (.int n),some (.fz (nL os)),some (.fz (iL T)),none,none,none,none] []).bind aF=some r/\_;unfold fH;refine aE (sl':=[some (.int n),some (.fz (nL os)),some (.fz (iL T)),some (.ref 0),none,none,none]) (st':=[.lst (nL [])]) rfl ?_;refine pG (em:=fun q:Nat=>.int (q:Int)) (xs:=a0 n) (gd:=[]) (st0:=[.lst (nL [])]) (I:=fun i (a:List Nat) sl s=>a.length <= i/\i <= 8/\s=[.lst (nL a)]/\∃ x y z,sl=[some (.int n),some (.fz (nL os)),some (.fz (iL T)),some (.ref 0),x,y,z]) (fun b g=>if (!decide (cF T g=fB os T g))=true then b++[g] else b) [] (Hd hn) ⟨by simp,by omega,rfl,_,_,_,rfl⟩ (fun _ _ _ _ _=>rfl) ?_ ?_
 ·rintro i a g sl s hg ⟨ha,hi,rfl,x,y,z,rfl⟩
  have hm:=zW hg;have g16:=o7 hn hm;have hi8:i < 8:=by
   have:=(zB.mp hg).1
   have:=fe hn
   omega
  have hg2:g < T.length/\(0 < g->g ||| 1=g + 1):=by
   have t:∀ n,n < 5->2 <= n->∀ g ∈ a0 n,g < 2 ^ n - 1/\(0 < g->g ||| 1=g + 1):=by decide +kernel
   rw [hT];exact t n (by rcases hn with rfl | rfl | rfl <;> decide) (by rcases hn with rfl | rfl | rfl <;> decide) g hm
  refine ⟨_,[some (.int n),some (.fz (nL os)),some (.fz (iL T)),some (.ref 0),some (.int (g:Int)),some (.int (cF T g)),some (.int (fB os T g))],[.lst (nL (if (!decide (cF T g=fB os T g))=true then a++[g] else a))],rfl,?_,?_,by omega,rfl,_,_,_,rfl⟩
  ·refine ao (sl':=[some (.int n),some (.fz (nL os)),some (.fz (iL T)),some (.ref 0),some (.int (g:Int)),some (.int 0),z]) (st':=[.lst (nL a)]) rfl ?_
   refine ao (sl':=[some (.int n),some (.fz (nL os)),some (.fz (iL T)),some (.ref 0),some (.int (g:Int)),some (.int (cF T g)),z]) (st':=[.lst (nL a)]) ?_ ?_
   ·by_cases h0:g=0
    ·have:cF T g=0:=yH h0
     rw [this];simp [eq_false (show ¬ 0 < g by omega)]
    ·have:cF T g=SX.gI T 0 + SX.gI T (g - 1) - SX.gI T g:=yG h0
     rw [this];have i0:=qj (st:=[Mw.lst (nL a)]) (T:=T) (i:=0) oM;have i1:=qj (st:=[Mw.lst (nL a)]) (T:=T) (i:=g - 1) oM;have i2:=qj (st:=[Mw.lst (nL a)]) (T:=T) (i:=g) oM;have og:=DG (st:=[Mw.lst (nL a)]) g16 (show 1 < 16 by decide);rw [hg2.2 oM] at og;have e1:(g:Int) - 1=((g - 1:Nat):Int):=by omega
     have e2:((g + 1:Nat):Int) - 1=(g:Int):=by omega
     have og:ci .BitOr [Mw.lst (nL a)] (.int (g:Int)) (.int 1)=some (.int ((g + 1:Nat):Int)):=og;have i0:b9 [Mw.lst (nL a)] (.fz (iL T)) (.int 0)=some (.int (SX.gI T 0)):=i0;generalize ((g + 1:Nat):Int)=q at og e2;simp [eq_true (show 0 < g by omega),i0,e1,i1,og,e2,i2]
   refine ao (sl':=[some (.int n),some (.fz (nL os)),some (.fz (iL T)),some (.ref 0),some (.int (g:Int)),some (.int (cF T g)),some (.int 0)]) (st':=[.lst (nL a)]) rfl ?_;refine ao (sl':=[some (.int n),some (.fz (nL os)),some (.fz (iL T)),some (.ref 0),some (.int (g:Int)),some (.int (cF T g)),some (.int (fB os T g))]) (st':=[.lst (nL a)]) ?_ ?_
   ·have e:gh [] (.lc 1 (.e (.v 1)) (.nm 7) (.so (.cmp .Eq (.bin .BitOr (.v 7) (.v 4)) (.v 4))) (.v 7)) [some (.int n),some (.fz (nL os)),some (.fz (iL T)),some (.ref 0),some (.int (g:Int)),some (.int (cF T g)),some (.int 0)] [.lst (nL a)]=some ((os.filter fun o=>o &&& g == o).map (fun q:Nat=>AV.int (q:Int)),[.lst (nL a)]) :=
     xR (xs:=os) (em:=fun q:Nat=>AV.int (q:Int)) (gd:=[]) rfl rfl hl fun q hq=>⟨[some (.int n),some (.fz (nL os)),some (.fz (iL T)),some (.ref 0),some (.int (g:Int)),some (.int (cF T g)),some (.int 0),some (.int (q:Int))],rfl,by
      have h16:=ho q hq;simp only [J6,oY,yY,pj,md,ma,bind_some,DG h16 g16,map_some,J8];rw [<- Ez h16 g16];congr 2;rw [Bool.eq_iff_iff];simp;omega,fun _=>rfl⟩
    have hr:rfs ((os.filter fun o=>o &&& g == o).map (fun q:Nat=>AV.int (q:Int)))=true:=io;have ne:=zu (st:=[Mw.lst (nL a)]) (l:=os.filter fun o=>o &&& g == o);rw [Fb,show nL (os.filter fun o=>o &&& g == o)=(os.filter fun o=>o &&& g == o).map (fun q:Nat=>AV.int (q:Int)) from rfl] at ne;have i0:b9 [Mw.lst (nL a)] (.fz (iL T)) (.int 0)=some (.int (SX.gI T 0)):=qj (st:=[Mw.lst (nL a)]) (T:=T) (i:=0) oM;unfold fB;generalize ((os.filter fun o=>o &&& g == o).map (fun q:Nat=>AV.int (q:Int)))=L at e hr ne;cases hb:aR os g <;> rw [hb] at ne <;> simp [-Ec,e,hr,ne,i0,cE]
   ·by_cases hd:cF T g=fB os T g
    ·simp [hd]
    ·simp [hd,ji,k9,k8,k7,bn,dr,j4,eJ,bt (show a.length <= 1000 by omega)]
     simp [nL]
  ·split
   ·simp;omega
   ·omega
 ·rintro sl s ⟨_,_,rfl,x,y,z,rfl⟩
  refine ⟨_,rfl,?_⟩;rw [qx,List.nil_append];show cq 6 _ (.ref 0)=_;unfold cq;simp only [List.getElem?_cons_zero,u5,map_some];rfl
end
section
variable {st:aa}{os:List Nat}{n g k j:Nat}{A B O:Mw}{D T:List Int}
def okD (D:List Int):Prop:=∀ x ∈ D,0 <= x/\x < 2147483587
theorem okD.at {D:List Int}{x:Int} (h:okD (D++[x])):0 <= x/\okD D:=⟨(h x (by simp)).1,fun y hy=>h y (by simp [hy])⟩
def jw (n:Nat) (x:Int):Nat:=if x / 8 % 12=0 then 0 else 2 * (1 + (x % (2 ^ (n - 1) - 1)).toNat)
theorem EW (hn:cz n) {x:Int}:jw n x < 16:=by
 unfold jw;split
 ·decide
 ·rcases hn with rfl | rfl | rfl
  ·have:=Int.emod_lt_of_pos x (show (0:Int) < 2 ^ (2 - 1) - 1 by decide);simp at *
  ·have:=Int.emod_lt_of_pos x (show (0:Int) < 2 ^ (3 - 1) - 1 by decide);simp at *;omega
  ·have:=Int.emod_lt_of_pos x (show (0:Int) < 2 ^ (4 - 1) - 1 by decide);simp at *;omega
theorem vt (hn:cz n) (hD:70 <= D.length) (hd:okD D):∃ D' os,cj [.int n,.ref 2] [A,B,.lst (iL D)]=some (.ref 3,[A,B,.lst (iL D'),.lst (nL os)])/\(∀ o ∈ os,o < 16)/\os.length <= 10/\okD D'/\D.length <= D'.length + 4:=by
 have key:∃ r,cj [.int n,.ref 2] [A,B,.lst (iL D)]=some r/\∃ D' os,r=(.ref 3,[A,B,.lst (iL D'),.lst (nL os)])/\(∀ o ∈ os,o < 16)/\os.length <= 10/\okD D'/\D.length <= D'.length + 4:=by
  rw [cj,aG];show ∃ r,(ak [aH] dZ [some (.int n),some (.ref 2),none,none,none] [A,B,.lst (iL D)]).bind aF=some r/\_;unfold dZ;refine aE (sl':=[some (.int n),some (.ref 2),some (.ref 3),none,none]) (st':=[A,B,.lst (iL D),.lst (nL [])]) rfl ?_;obtain ⟨D1,x,rfl⟩:=gN (D:=D) (fun z=>by rw [z] at hD;simp at hD);obtain ⟨hx0,hd1⟩:=hd.at;simp only [zV,List.length_singleton] at hD ⊢;have p:=gM (st:=[A,B,Mw.lst (iL (D1++[x])),.lst (nL [])]) (r:=2) (D:=D1) (x:=x) rfl;obtain ⟨c,hc,hm⟩:∃ c:Nat,c <= 3/\1 + x % 3=(c:Int):=by
   have h1:=Int.emod_nonneg x (show (3:Int) ≠ 0 by decide);have h2:=Int.emod_lt_of_pos x (show (0:Int) < 3 by decide);exact ⟨(1 + x % 3).toNat,by omega,by omega⟩
  have e6:lq x 3=x % 3:=yH dC;have it:dg [aH] (.r1 (.bin .Add (.i 1) (.bin .Mod (.ca false 0 (.cons (.v 1) .nil)) (.i 3)))) [some (.int n),some (.ref 2),some (.ref 3),none,none] [A,B,.lst (iL (D1++[x])),.lst (nL [])]=some (⟨(List.range c).map fun q:Nat=>AV.int (q:Int),[]⟩,[A,B,.lst (iL D1),.lst (nL [])]):=by
   have e:ev [aH] (.bin .Add (.i 1) (.bin .Mod (.ca false 0 (.cons (.v 1) .nil)) (.i 3))) [some (.int n),some (.ref 2),some (.ref 3),none,none] [A,B,.lst (iL (D1++[x])),.lst (nL [])]=some (.int (c:Int),[A,B,.lst (iL D1),.lst (nL [])]):=by
    simp [p,dX (show (3:Int) ≠ 0 by decide),e6,hm,f9]
   show (ev _ _ _ _).bind _=_;rw [e];exact tG (ks:=[]) (a:=.i c) (sl:=[]) rfl oM
  refine mq (em:=fun q:Nat=>.int (q:Int)) (xs:=List.range c) (gd:=[]) (st0:=[A,B,.lst (iL D1),.lst (nL [])]) (fun i sl s=>∃ D' os,s=[A,B,.lst (iL D'),.lst (nL os)]/\D'.length + i=D1.length/\okD D'/\(∀ o ∈ os,o < 16)/\os.length=i/\∃ x y,sl=[some (.int n),some (.ref 2),some (.ref 3),x,y]) it (fun _ _ _ _=>rfl) ⟨D1,[],rfl,by omega,hd1,by simp,rfl,_,_,rfl⟩ ?_ ?_
  ·rintro i q sl s hq ⟨D',os,rfl,hl,hd',ho,hs,y1,y2,rfl⟩
   have hi:i < c:=by have:=(zB.mp hq).1;simpa using this
   obtain ⟨D2,z,rfl⟩:=gN (D:=D') (fun e=>by rw [e] at hl;simp at hl;omega);obtain ⟨hz0,hd2⟩:=hd'.at;have p2:=gM (st:=[A,B,Mw.lst (iL (D2++[z])),.lst (nL os)]) (r:=2) (D:=D2) (x:=z) rfl;refine ⟨_,[some (.int n),some (.ref 2),some (.ref 3),some (.int (q:Int)),some (.int z)],[A,B,.lst (iL D2),.lst (nL (os++[jw n z]))],rfl,?_,D2,os++[jw n z],rfl,by simp at hl;omega,hd2,?_,by simp [hs],_,_,rfl⟩
   ·refine ao (sl':=[some (.int n),some (.ref 2),some (.ref 3),some (.int (q:Int)),some (.int z)]) (st':=[A,B,.lst (iL D2),.lst (nL os)]) (by simp [p2,f9]) ?_
    have sh:ci .LShift [A,B,.lst (iL D2),.lst (nL os)] (.int 1) (.int ((n:Int) - 1))=some (.int (2 ^ (n - 1))):=by rcases hn with rfl | rfl | rfl <;> rfl
    have m0:((2:Int) ^ (n - 1) - 1) ≠ 0/\(0:Int) < 2 ^ (n - 1) - 1:=by rcases hn with rfl | rfl | rfl <;> decide
    have fm:lq z (2 ^ (n - 1) - 1)=z % (2 ^ (n - 1) - 1):=yH m0.2;have mm:ci .Mult [A,B,.lst (iL D2),.lst (nL os)] (.int 2) (.int (1 + z % (2 ^ (n - 1) - 1)))=some (.int (2 * (1 + z % (2 ^ (n - 1) - 1)))):=bO (jq dC);have f8:ci .FloorDiv [A,B,.lst (iL D2),.lst (nL os)] (.int z) (.int 8)=some (.int (z / 8)):=by rw [jz rfl];exact congrArg (fun q=>some (AV.int q)) (yH dC)
    have f12:ci .Mod [A,B,.lst (iL D2),.lst (nL os)] (.int (z / 8)) (.int 12)=some (.int (z / 8 % 12)):=by rw [dX dC];exact congrArg (fun q=>some (AV.int q)) (yH dC)
    have ge:0 <= z / 8 % 12:=Int.emod_nonneg _ dC;have vl:ev [aH] (.bin .Mult (.bin .Mult (.i 2) (.bin .Add (.i 1) (.bin .Mod (.v 4) (.bin .Sub (.bin .LShift (.i 1) (.bin .Sub (.v 0) (.i 1))) (.i 1))))) (.bi .int (.cons (.cmp .Gt (.bin .Mod (.bin .FloorDiv (.v 4) (.i 8)) (.i 12)) (.i 0)) .nil))) [some (.int n),some (.ref 2),some (.ref 3),some (.int (q:Int)),some (.int z)] [A,B,.lst (iL D2),.lst (nL os)]=some (.int ((jw n z:Nat):Int),[A,B,.lst (iL D2),.lst (nL os)]):=by
     by_cases h:z / 8 % 12=0
     ·have:jw n z=0:=yH h
      rw [this];have mz:ci .Mult [A,B,.lst (iL D2),.lst (nL os)] (.int (2 * (1 + z % (2 ^ (n - 1) - 1)))) (.int 0)=some (.int (2 * (1 + z % (2 ^ (n - 1) - 1)) * 0)):=bO (mH dC);simp [sh,dX m0.1,fm,mm,f8,f12,h,bw,lW,mz]
     ·have:((jw n z:Nat):Int)=2 * (1 + z % (2 ^ (n - 1) - 1)):=by
       unfold jw;rw [yG h]
       have:=Int.emod_nonneg z m0.1
       omega
      rw [this];have mz:ci .Mult [A,B,.lst (iL D2),.lst (nL os)] (.int (2 * (1 + z % (2 ^ (n - 1) - 1)))) (.int 1)=some (.int (2 * (1 + z % (2 ^ (n - 1) - 1)) * 1)):=bO (mH dC);simp [sh,dX m0.1,fm,mm,f8,f12,show 0 < z / 8 % 12 by omega,bw,lW,mz]
    have ap:=As (ks:=[aH]) (a:=.v 2) (y:=.int ((jw n z:Nat):Int)) (k:=3) (xs:=nL os) (st:=[A,B,.lst (iL D2),.lst (nL os)]) rfl vl rfl (by rw [mG];omega);refine ao ap ?_;show some _=some _;simp [nL]
   ·intro o h
    rcases zZ.mp h with h | h
    ·exact ho o h
    ·rw [zM.mp h];exact EW hn
  ·rintro sl s ⟨D',os,rfl,hl,hd',ho,hs,y1,y2,rfl⟩
   simp only [List.length_range] at hl hs;exact ⟨_,rfl,D',os,rfl,ho,by omega,hd',by omega⟩
 obtain ⟨r,e,D',os,rfl,h1,h2⟩:=key;exact ⟨D',os,e,h1,h2⟩
def IN (m:Nat):Bool:=match (aQ [.int m] []).bind fun p=>cx p.2 p.1 with
 | some (.int b)=>decide (0 <= b/\b <= 4/\(0 < m->1 <= b))
 | _=>false
theorem Fp:(List.range 16).all IN=true:=by kernel_rfl
theorem qN {m:Nat} (hm:m < 16):∃ b:Int,0 <= b/\b <= 4/\(0 < m->1 <= b)/\∀ st,pm aQ [.int (m:Int)] st=some (.int b,st):=by
 have h:=yO.mp Fp m (List.mem_range.mpr hm);unfold IN at h;split at h
 ·rename_i b e
  obtain ⟨h1,h2,h3⟩:=of_decide_eq_true h;exact ⟨b,h1,h2,h3,fun st=>bS rfl e⟩
 ·cases h
theorem zz {a b:Int}:∃ c:Int,bw nT [.int a,.int b] st=some (.int c,st)/\(c=a\/c=b):=by
 have:bw nT [.int a,.int b] st=some (.int (if b < a then b else a),st):=rfl;exact ⟨_,this,by split <;> simp⟩
theorem mM {ks:List Fn}{k:Nat}{it:Ix}{t:Tg}{e:Ex}{sl:Sl}{N:Nat} (hi:dg ks it sl st=some (⟨(List.range N).map fun q:Nat=>AV.int (q:Int),[]⟩,st)) (hz:N <= 1000) (h:∀ q,q < N->∃ sl1 v,bW ks t (.int (q:Int)) (sl++List.replicate k none) st=some (sl1,st)/\ev ks e sl1 st=some (.int v,st)):∃ L:List Int,L.length=N/\ev ks (.nw false (.lc k it t .no e)) sl st=some (.fz (iL L),st):=by
 have hc:∀ q,∃ v:Int,q < N->∃ sl1,bW ks t (.int (q:Int)) (sl++List.replicate k none) st=some (sl1,st)/\ev ks e sl1 st=some (.int v,st):=fun q=>by
  by_cases hq:q < N
  ·obtain ⟨sl1,v,h1,h2⟩:=h q hq;exact ⟨v,fun _=>⟨sl1,h1,h2⟩⟩
  ·exact ⟨0,fun z=>absurd z hq⟩
 obtain ⟨f,hf⟩:=Classical.axiomOfChoice hc;refine ⟨(List.range N).map f,by simp,?_⟩;have e:=xR (c:=.no) (B:=fun _=>true) (F:=fun q:Nat=>AV.int (f q)) hi rfl (by simpa using hz) fun q hq=>by
  obtain ⟨sl1,h1,h2⟩:=hf q (List.mem_range.mp hq);exact ⟨sl1,h1,rfl,fun _=>h2⟩
 rw [List.filter_eq_self.mpr (fun _ _=>rfl)] at e;have:(List.range N).map (fun q=>AV.int (f q))=iL ((List.range N).map f):=by unfold iL;rw [List.map_map];rfl
 rw [this] at e;rw [jT,e,bind_some,yH fx]
end
section
variable {st:aa}{os:List Nat}{n g k j:Nat}{A B O:Mw}{D T:List Int}
theorem Jq {c:Int} (h:c.natAbs <= 100):c.natAbs < 2 ^ 62:=yL h dC
theorem Aj {z c:Int} (hc:eP c=true) (h0:0 < c):ci .FloorDiv st (.int z) (.int c)=some (.int (z / c)):=by rw [jz hc];exact congrArg (fun q=>some (AV.int q)) (yH h0)
theorem jH {z c:Int} (h0:0 < c):ci .Mod st (.int z) (.int c)=some (.int (z % c)):=by rw [dX oM];exact congrArg (fun q=>some (AV.int q)) (yH h0)
theorem Kk {x y:Nat}:ci .BitAnd st (.int (x:Int)) (.int (y:Int))=some (.int ((x &&& y:Nat):Int)):=by
 show some (AV.int (Builtin.bitAnd (x:Int) (y:Int)))=_;rfl
theorem GI {l:List Int}:bw dL [.fz (iL l)] st=some (.int ((l.length:Nat):Int),st):=by
 show some (AV.int ((iL l).length:Int),st)=_;rw [fy]
theorem o9 {l:List AV}{i:Int} (h0:0 <= i) (h1:i < l.length):∃ x ∈ l,b9 st (.fz l) (.int i)=some x:=by
 obtain ⟨q,rfl⟩:∃ q:Nat,i=(q:Int):=⟨i.toNat,by omega⟩;have hq:q < l.length:=by omega
 refine ⟨l[q],List.getElem_mem hq,?_⟩;rw [cb eI,bT,zF hq]
theorem Jy {ks:List Fn}{r:Sl} (hn:cz n):dg ks (.r1 (.bin .Sub (.bin .LShift (.i 1) (.v 0)) (.i 1))) (some (.int (n:Int))::r) st=some (⟨(List.range (2 ^ n - 1)).map fun q:Nat=>AV.int (q:Int),[]⟩,st):=by
 rcases hn with rfl | rfl | rfl <;> rfl
theorem turnT (hn:cz n) (hT:T.length=2 ^ n - 1) {z:Int} (hz:0 <= z) {x3 x5 x6 x7 x8 x9:Option AV}{S:aa}:∃ T' y5 y6 y7,T'.length=2 ^ n - 1/\ak [aH,aQ] (.cons (.as (.bin .Mod (.v 4) (.bin .LShift (.i 1) (.v 0))) (.nm 5))
 (.cons (.as (.bin .Add (.i 1) (.bin .Mod (.bin .FloorDiv (.v 4) (.i 16)) (.i 3))) (.nm 6))
 (.cons (.as (.ix (.nw false (.li (.cons (.i 1) (.cons (.i 2) (.cons (.bin .Add (.i 1) (.bin .Mod (.bin .FloorDiv (.v 4) (.i 48)) (.i 5))) (.cons (.bin .Add (.i 1) (.bin .FloorDiv (.v 4) (.i 48))) .nil)))))) (.bin .Mod (.bin .FloorDiv (.v 4) (.i 240)) (.i 4))) (.nm 7))
 (.cons (.as (.nw false (.lc 1 (.r1 (.bi .len (.cons (.v 2) .nil))) (.nm 10) .no (.bin .Add (.ix (.v 2) (.v 10)) (.bin .Mult (.v 7) (.bi .min (.cons (.v 6) (.cons (.ca true 1 (.cons (.bin .BitAnd (.v 5) (.bin .Add (.v 10) (.i 1))) .nil)) .nil))))))) (.nm 2))
 .nil)))) [some (.int n),some (.ref 2),some (.fz (iL T)),x3,some (.int z),x5,x6,x7,x8,x9] S=some (.nx [some (.int n),some (.ref 2),some (.fz (iL T')),x3,some (.int z),y5,y6,y7,x8,x9] S):=by
 obtain ⟨m,m16,em⟩:∃ m:Nat,m < 16/\z % 2 ^ n=(m:Int):=by
  have hp:(0:Int) < 2 ^ n:=by rcases hn with rfl | rfl | rfl <;> decide
  have h1:=Int.emod_nonneg z (show (2:Int) ^ n ≠ 0 by omega);have h2:=Int.emod_lt_of_pos z hp;have h3:(2:Int) ^ n <= 16:=by rcases hn with rfl | rfl | rfl <;> decide
  exact ⟨(z % 2 ^ n).toNat,by omega,by omega⟩
 have sh:ci .LShift S (.int 1) (.int (n:Int))=some (.int (2 ^ n)):=by rcases hn with rfl | rfl | rfl <;> rfl
 have hp:(0:Int) < 2 ^ n:=by rcases hn with rfl | rfl | rfl <;> decide
 have q1:=Int.emod_nonneg (z / 16) (show (3:Int) ≠ 0 by decide);have q2:=Int.emod_lt_of_pos (z / 16) (show (0:Int) < 3 by decide);have w1:=Int.emod_nonneg (z / 240) (show (4:Int) ≠ 0 by decide);have w2:=Int.emod_lt_of_pos (z / 240) (show (0:Int) < 4 by decide);obtain ⟨v,hv,ev⟩:=o9 (st:=S) (l:=[.int 1,.int 2,.int (1 + z / 48 % 5),.int (1 + z / 48)]) w1 w2;obtain ⟨tm,rfl⟩:∃ tm:Int,v=.int tm:=by
  simp only [zT,zX,or_false] at hv;rcases hv with rfl | rfl | rfl | rfl <;> exact ⟨_,rfl⟩
 have hN:2 ^ n - 1 <= 15:=by rcases hn with rfl | rfl | rfl <;> decide
 obtain ⟨L,hL,eL⟩:=mM (ks:=[aH,aQ]) (k:=1) (st:=S) (it:=.r1 (.bi .len (.cons (.v 2) .nil))) (t:=.nm 10) (e:=.bin .Add (.ix (.v 2) (.v 10)) (.bin .Mult (.v 7) (.bi .min (.cons (.v 6) (.cons (.ca true 1 (.cons (.bin .BitAnd (.v 5) (.bin .Add (.v 10) (.i 1))) .nil)) .nil)))))
  (sl:=[some (.int n),some (.ref 2),some (.fz (iL T)),x3,some (.int z),some (.int (m:Int)),some (.int (1 + z / 16 % 3)),some (.int tm),x8,x9]) (N:=2 ^ n - 1) (tG (by simp [GI,hT]) oM) oM fun q hq=>by
   obtain ⟨b,b0,b4,_,eb⟩:=qN (m:=m &&& (q + 1)) (yL Nat.and_le_left m16);obtain ⟨c,ec,hc⟩:=zz (st:=S) (a:=1 + z / 16 % 3) (b:=b);have mm:ci .Mult S (.int tm) (.int c)=some (.int (tm * c)):=bO (mH (Jq oM));have ix:=qj (st:=S) (T:=T) (i:=q) oM;have an:=Kk (st:=S) (x:=m) (y:=q + 1);have eb:=eb S;have c1:((q:Int) + 1)=((q + 1:Nat):Int):=by omega
   generalize ((m &&& (q + 1):Nat):Int)=u at an eb;generalize ((q + 1:Nat):Int)=u1 at an c1;exact ⟨[some (.int n),some (.ref 2),some (.fz (iL T)),x3,some (.int z),some (.int (m:Int)),some (.int (1 + z / 16 % 3)),some (.int tm),x8,x9,some (.int (q:Int))],SX.gI T q + tm * c,rfl,by simp [ix,c1,an,eb,ec,mm]⟩
 refine ⟨L,some (.int (m:Int)),some (.int (1 + z / 16 % 3)),some (.int tm),hL,?_⟩;refine ao (sl':=[some (.int n),some (.ref 2),some (.fz (iL T)),x3,some (.int z),some (.int (m:Int)),x6,x7,x8,x9]) (st':=S) (by simp [sh,jH hp,em]) ?_;refine ao (sl':=[some (.int n),some (.ref 2),some (.fz (iL T)),x3,some (.int z),some (.int (m:Int)),some (.int (1 + z / 16 % 3)),x7,x8,x9]) (st':=S) (by simp [Aj (show eP 16=true from rfl),jH (show (0:Int) < 3 by decide)]) ?_;refine ao (sl':=[some (.int n),some (.ref 2),some (.fz (iL T)),x3,some (.int z),some (.int (m:Int)),some (.int (1 + z / 16 % 3)),some (.int tm),x8,x9]) (st':=S) (by simp [Aj (show eP 48=true from rfl),Aj (show eP 240=true from rfl),jH (show (0:Int) < 5 by decide),jH (show (0:Int) < 4 by decide),cE,rfs,rf,ev]) ?_;refine ao (sl':=[some (.int n),some (.ref 2),some (.fz (iL L)),x3,some (.int z),some (.int (m:Int)),some (.int (1 + z / 16 % 3)),some (.int tm),x8,x9]) (st':=S) ?_ rfl;rw [iH,eL];rfl
theorem AR (hn:cz n) (hD:50 <= D.length) (hd:okD D):∃ D' T,cT [.int n,.ref 2] [A,B,.lst (iL D),O]=some (.fz (iL T),[A,B,.lst (iL D'),O])/\T.length=2 ^ n - 1/\okD D'/\D.length <= D'.length + 6:=by
 have key:∃ r,cT [.int n,.ref 2] [A,B,.lst (iL D),O]=some r/\∃ D' T,r=(.fz (iL T),[A,B,.lst (iL D'),O])/\T.length=2 ^ n - 1/\okD D'/\D.length <= D'.length + 6:=by
  have hN:2 ^ n - 1 <= 15:=by rcases hn with rfl | rfl | rfl <;> decide
  rw [cT,aG];show ∃ r,(ak [aH,aQ] fJ [some (.int n),some (.ref 2),none,none,none,none,none,none,none,none] [A,B,.lst (iL D),O]).bind aF=some r/\_;unfold fJ;obtain ⟨T0,hT0,e0⟩:=mM (ks:=[aH,aQ]) (k:=1) (st:=[A,B,.lst (iL D),O]) (t:=.nm 10) (e:=.i 0) (sl:=[some (.int n),some (.ref 2),none,none,none,none,none,none,none,none]) (Jy hn) oM fun q hq=>⟨_,0,rfl,rfl⟩
  refine aE (sl':=[some (.int n),some (.ref 2),some (.fz (iL T0)),none,none,none,none,none,none,none]) (st':=[A,B,.lst (iL D),O]) (by rw [iH,e0];rfl) ?_;obtain ⟨D1,x,rfl⟩:=gN (D:=D) (fun z=>by rw [z] at hD;simp at hD);obtain ⟨hx0,hd1⟩:=hd.at;simp only [zV,List.length_singleton] at hD ⊢;have p:=gM (st:=[A,B,Mw.lst (iL (D1++[x])),O]) (r:=2) (D:=D1) (x:=x) rfl;obtain ⟨c,hc,hm⟩:∃ c:Nat,c <= 4/\x % 5=(c:Int):=by
   have h1:=Int.emod_nonneg x (show (5:Int) ≠ 0 by decide);have h2:=Int.emod_lt_of_pos x (show (0:Int) < 5 by decide);exact ⟨(x % 5).toNat,by omega,by omega⟩
  have it:dg [aH,aQ] (.r1 (.bin .Mod (.ca false 0 (.cons (.v 1) .nil)) (.i 5))) [some (.int n),some (.ref 2),some (.fz (iL T0)),none,none,none,none,none,none,none] [A,B,.lst (iL (D1++[x])),O]=some (⟨(List.range c).map fun q:Nat=>AV.int (q:Int),[]⟩,[A,B,.lst (iL D1),O]):=by
   have e:ev [aH,aQ] (.bin .Mod (.ca false 0 (.cons (.v 1) .nil)) (.i 5)) [some (.int n),some (.ref 2),some (.fz (iL T0)),none,none,none,none,none,none,none] [A,B,.lst (iL (D1++[x])),O]=some (.int (c:Int),[A,B,.lst (iL D1),O]):=by
    simp [p,jH (show (0:Int) < 5 by decide),hm,f9]
   show (ev _ _ _ _).bind _=_;rw [e];exact tG (ks:=[]) (a:=.i c) (sl:=[]) rfl oM
  refine mq (em:=fun q:Nat=>.int (q:Int)) (xs:=List.range c) (gd:=[]) (st0:=[A,B,.lst (iL D1),O]) (fun i sl s=>∃ D' T,s=[A,B,.lst (iL D'),O]/\D'.length + i=D1.length/\okD D'/\T.length=2 ^ n - 1/\∃ x3 x4 x5 x6 x7 x8 x9,sl=[some (.int n),some (.ref 2),some (.fz (iL T)),x3,x4,x5,x6,x7,x8,x9]) it (fun _ _ _ _=>rfl) ⟨D1,T0,rfl,by omega,hd1,hT0,_,_,_,_,_,_,_,rfl⟩ ?_ ?_
  ·rintro i q sl s hq ⟨D',T,rfl,hl,hd',hT,x3,x4,x5,x6,x7,x8,x9,rfl⟩
   have hi:i < c:=by have:=(zB.mp hq).1;simpa using this
   obtain ⟨D2,z,rfl⟩:=gN (D:=D') (fun e=>by rw [e] at hl;simp at hl;omega);obtain ⟨hz0,hd2⟩:=hd'.at;have p2:=gM (st:=[A,B,Mw.lst (iL (D2++[z])),O]) (r:=2) (D:=D2) (x:=z) rfl;obtain ⟨T',y5,y6,y7,hT',e⟩:=turnT hn hT hz0 (x3:=some (.int (q:Int))) (x5:=x5) (x6:=x6) (x7:=x7) (x8:=x8) (x9:=x9) (S:=[A,B,.lst (iL D2),O]);exact ⟨_,_,_,rfl,ao (sl':=[some (.int n),some (.ref 2),some (.fz (iL T)),some (.int (q:Int)),some (.int z),x5,x6,x7,x8,x9]) (st':=[A,B,.lst (iL D2),O]) (by simp [p2,f9]) e,D2,T',rfl,by simp at hl;omega,hd2,hT',_,_,_,_,_,_,_,rfl⟩
  ·rintro sl s ⟨D',T,rfl,hl,hd',hT,x3,x4,x5,x6,x7,x8,x9,rfl⟩
   simp only [List.length_range] at hl;obtain ⟨D2,z,rfl⟩:=gN (D:=D') (fun e=>by rw [e] at hl;simp at hl;omega);obtain ⟨hz0,hd2⟩:=hd'.at;simp only [zV,List.length_singleton] at hl;have p2:=gM (st:=[A,B,Mw.lst (iL (D2++[z])),O]) (r:=2) (D:=D2) (x:=z) rfl;refine aE (sl':=[some (.int n),some (.ref 2),some (.fz (iL T)),x3,some (.int z),x5,x6,x7,x8,x9]) (st':=[A,B,.lst (iL D2),O]) (by simp [p2,f9]) ?_;have fin':∀ (T':List Int) (y8 y9:Option AV),T'.length=2 ^ n - 1->∃ r,(ak [aH,aQ] (.cons (.rt (.v 2)) .nil) [some (.int n),some (.ref 2),some (.fz (iL T')),x3,some (.int z),x5,x6,x7,y8,y9] [A,B,.lst (iL D2),O]).bind aF=some r/\∃ D' T,r=(.fz (iL T),[A,B,.lst (iL D'),O])/\T.length=2 ^ n - 1/\okD D'/\D1.length + 1 <= D'.length + 6:=fun T' y8 y9 h=>⟨_,rfl,D2,T',rfl,h,hd2,by omega⟩
   by_cases hc4:n=4/\z % 3=0
   ·obtain ⟨rfl,h3⟩:=hc4
    have w1:=Int.emod_nonneg (z / 3) (show (6:Int) ≠ 0 by decide);have w2:=Int.emod_lt_of_pos (z / 3) (show (0:Int) < 6 by decide);obtain ⟨v,hv,ev⟩:=o9 (st:=[A,B,.lst (iL D2),O]) (l:=[.int 3,.int 5,.int 6,.int 9,.int 10,.int 12]) w1 w2;obtain ⟨pr,rfl⟩:∃ pr:Int,v=.int pr:=by
     simp only [zT,zX,or_false] at hv;rcases hv with rfl | rfl | rfl | rfl | rfl | rfl <;> exact ⟨_,rfl⟩
    obtain ⟨Q,hQ,eQ⟩:=mM (ks:=[aH,aQ]) (k:=1) (st:=[A,B,.lst (iL D2),O]) (it:=.r1 (.i 15)) (t:=.nm 10) (e:=.bin .Add (.ix (.nw false (.li (.cons (.i 2) (.cons (.i 3) (.cons (.i 4) (.cons (.i 4) .nil)))))) (.bin .Sub (.ca true 1 (.cons (.bin .Add (.v 10) (.i 1)) .nil)) (.i 1))) (.bi .int (.cons (.cmp .Eq (.bin .Add (.v 10) (.i 1)) (.v 8)) .nil)))
     (sl:=[some (.int ((4:Nat):Int)),some (.ref 2),some (.fz (iL T)),x3,some (.int z),x5,x6,x7,some (.int pr),x9]) (N:=15) rfl oM fun q hq=>by
      obtain ⟨b,b0,b4,b1,eb⟩:=qN (m:=q + 1) oM;obtain ⟨u,hu,eu⟩:=o9 (st:=[A,B,.lst (iL D2),O]) (l:=[.int 2,.int 3,.int 4,.int 4]) (i:=b - 1) (by have:=b1 oM;omega) (by simp;omega);obtain ⟨uu,rfl⟩:∃ uu:Int,u=.int uu:=by
       simp only [zT,zX,or_false] at hu;rcases hu with rfl | rfl | rfl | rfl <;> exact ⟨_,rfl⟩
      have eb:=eb [A,B,.lst (iL D2),O];have c1:((q:Int) + 1)=((q + 1:Nat):Int):=by omega
      generalize ((q + 1:Nat):Int)=u1 at eb c1;exact ⟨[some (.int ((4:Nat):Int)),some (.ref 2),some (.fz (iL T)),x3,some (.int z),x5,x6,x7,some (.int pr),x9,some (.int (q:Int))],uu + (if u1=pr then 1 else 0),rfl,by simp [c1,eb,eu,cE,rfs,rf,bw,lW]⟩
    obtain ⟨L,hL,eL⟩:=mM (ks:=[aH,aQ]) (k:=1) (st:=[A,B,.lst (iL D2),O]) (it:=.r1 (.i 15)) (t:=.nm 10) (e:=.bin .Add (.ix (.v 2) (.v 10)) (.ix (.v 9) (.v 10)))
     (sl:=[some (.int ((4:Nat):Int)),some (.ref 2),some (.fz (iL T)),x3,some (.int z),x5,x6,x7,some (.int pr),some (.fz (iL Q))]) (N:=15) rfl oM fun q hq=>by
      have i1:=qj (st:=[A,B,.lst (iL D2),O]) (T:=T) (i:=q) (by rw [hT];exact hq);have i2:=qj (st:=[A,B,.lst (iL D2),O]) (T:=Q) (i:=q) oM;exact ⟨[some (.int ((4:Nat):Int)),some (.ref 2),some (.fz (iL T)),x3,some (.int z),x5,x6,x7,some (.int pr),some (.fz (iL Q)),some (.int (q:Int))],SX.gI T q + SX.gI Q q,rfl,by simp [i1,i2]⟩
    refine aE (sl':=[some (.int ((4:Nat):Int)),some (.ref 2),some (.fz (iL L)),x3,some (.int z),x5,x6,x7,some (.int pr),some (.fz (iL Q))]) (st':=[A,B,.lst (iL D2),O]) ?_ (fin' L _ _ hL);have t1:tv [aH,aQ] (.an (.cmp .Eq (.v 0) (.i 4)) (.cmp .Eq (.bin .Mod (.v 4) (.i 3)) (.i 0))) [some (.int ((4:Nat):Int)),some (.ref 2),some (.fz (iL T)),x3,some (.int z),x5,x6,x7,x8,x9] [A,B,.lst (iL D2),O]=some (true,[A,B,.lst (iL D2),O]):=by
     simp [jH (show (0:Int) < 3 by decide),h3]
    rw [tB,t1,bind_some];show ak _ _ _ _=_;refine ao (sl':=[some (.int ((4:Nat):Int)),some (.ref 2),some (.fz (iL T)),x3,some (.int z),x5,x6,x7,some (.int pr),x9]) (st':=[A,B,.lst (iL D2),O]) (by simp [Aj (show eP 3=true from rfl),jH (show (0:Int) < 6 by decide),cE,rfs,rf,ev]) ?_;refine ao (sl':=[some (.int ((4:Nat):Int)),some (.ref 2),some (.fz (iL T)),x3,some (.int z),x5,x6,x7,some (.int pr),some (.fz (iL Q))]) (st':=[A,B,.lst (iL D2),O]) (by rw [iH,eQ];rfl) ?_;refine ao (sl':=[some (.int ((4:Nat):Int)),some (.ref 2),some (.fz (iL L)),x3,some (.int z),x5,x6,x7,some (.int pr),some (.fz (iL Q))]) (st':=[A,B,.lst (iL D2),O]) (by rw [iH,eL];rfl) rfl
   ·refine aE (sl':=[some (.int n),some (.ref 2),some (.fz (iL T)),x3,some (.int z),x5,x6,x7,x8,x9]) (st':=[A,B,.lst (iL D2),O]) ?_ (fin' T _ _ hT)
    by_cases h4:n=4
    ·have h3:¬ z % 3=0:=fun e=>hc4 ⟨h4,e⟩
     simp [jH (show (0:Int) < 3 by decide),h3,h4]
    ·simp [show ¬ (n:Int)=4 by omega]
 obtain ⟨r,e,D',T,rfl,h1,h2⟩:=key;exact ⟨D',T,e,h1,h2⟩
end
section
variable {st:aa}{os:List Nat}{n g:Nat}
theorem HL:∀ l:List Gv,rfs (l.map Gv.av)=true:=fun l=>gV fun x hx=>by
 obtain ⟨z,_,rfl⟩:=yC.mp hx;simp [Gv.av,rf,rfs,fx]
theorem g8 {α β:Type} (f:β->List α):∀ (l:List β) (a:List α),l.foldl (fun a g=>a++f g) a=a++l.flatMap f
 | [],a=>by simp
 | x::l,a=>by rw [List.foldl_cons,g8 f l,List.flatMap_cons,yM]
theorem BV (hn:cz n) {B:Nat->Bool}:(fN n B).length <= 100:=by
 have st1:∀ g,(il n g (B g)).length <= 1:=fun g=>by unfold il;split <;> (try split) <;> simp
 have:∀ l:List Nat,(l.flatMap fun g=>il n g (B g)).length <= l.length:=fun l=>by
  induction l with
  | nil=>simp
  | cons x l ih=>have:=st1 x;rw [List.flatMap_cons,zV,yU];omega
 unfold fN;rw [g8,zV]
 have:=this (a0 n)
 have h2:(a0 n).length <= 8:=by rcases hn with rfl | rfl | rfl <;> simp [a0]
 rw [List.length_singleton];omega
theorem ya (hn:cz n) (ho:∀ o ∈ os,o < 16) (hl:os.length <= 1000):pm cC [.int n,.fz (nL os)] st=some (.fz ((fN n (aR os)).map Gv.av),st):=by
 have key:∃ r,cC [.int n,.fz (nL os)] []=some r/\cx r.2 r.1=some (.fz ((fN n (aR os)).map Gv.av)):=by
  rw [cC];simp only [aG];unfold gx;refine aE (sl':=[some (.int n),some (.fz (nL os)),some (.ref 0),none]) (st':=[.lst ([(⟨gA n [(1,1)],true,1⟩:Gv)].map Gv.av)]) ?_ ?_
  ·simp [Gz hn,Gv.av,cE,rfs,rf,fx]
  ·refine pG (em:=fun g:Nat=>.int (g:Int)) (xs:=a0 n) (gd:=[]) (st0:=[.lst ([(⟨gA n [(1,1)],true,1⟩:Gv)].map Gv.av)]) (I:=fun i (a:List Gv) sl s=>a.length <= i + 1/\i <= 8/\s=[.lst (a.map Gv.av)]/\∃ x,sl=[some (.int n),some (.fz (nL os)),some (.ref 0),x]) (fun a g=>a++il n g (aR os g)) [⟨gA n [(1,1)],true,1⟩] ?_ ⟨by simp,by omega,rfl,_,rfl⟩ (fun _ _ _ _ _=>rfl) ?_ ?_
   ·simp [EH hn,nL]
   ·rintro i a g sl s hg ⟨ha,hi,rfl,x,rfl⟩
    have hm:=zW hg;have h16:=o7 hn hm;have hi8:i < 8:=by
     have:=(zB.mp hg).1
     have h2:(a0 n).length <= 8:=by rcases hn with rfl | rfl | rfl <;> simp [a0]
     omega
    have op:=rJ (st:=[Mw.lst (a.map Gv.av)]) ho hl h16;refine ⟨([some (.int n),some (.fz (nL os)),some (.ref 0),some (.int (g:Int))],[.lst (a.map Gv.av)]),[some (.int n),some (.fz (nL os)),some (.ref 0),some (.int (g:Int))],[.lst ((a++il n g (aR os g)).map Gv.av)],rfl,?_,?_,by omega,rfl,_,rfl⟩
    ·cases hb:aR os g with
     | true =>
      rw [hb] at op;simp [op,d7,dr,AN hn hm,ji,k9,k8,k7,j4,eJ,il,bn,bt (show a.length <= 1000 by omega)]
     | false =>
      rw [hb] at op;by_cases h0:g=0
      ·subst h0
       simp at op;simp [op,d7,dr,il,bn]
      ·simp [op,d7,dr,wK hn hm h0,ji,k9,k8,k7,j4,eJ,il,bn,h0,bt (show a.length <= 1000 by omega)]
    ·have:(il n g (aR os g)).length <= 1:=by unfold il;split <;> (try split) <;> simp
     rw [zV];omega
   ·rintro sl s ⟨_,_,rfl,x,rfl⟩
    refine ⟨(.ref 0,[.lst ((fN n (aR os)).map Gv.av)]),rfl,?_⟩;show cq 6 [.lst ((fN n (aR os)).map Gv.av)] (.ref 0)=_;unfold cq;have:aO (cq 5 [.lst ((fN n (aR os)).map Gv.av)]) ((fN n (aR os)).map Gv.av)=some ((fN n (aR os)).map Gv.av):=cX (f:=cq 5 [.lst ((fN n (aR os)).map Gv.av)]) (i:=Gv.av) (g:=Gv.av) (fun x=>rfl) _;simp only [List.getElem?_cons_zero,this,map_some]
 obtain ⟨r,h1,h2⟩:=key;exact cU (by simp [rfs,rf,io]) h1 h2
end
end LW
namespace LW
open PySem PySem.Spec L2 R
open SX (gI)
def IW (n:Nat):List (List Int):=if n=2 then RR2 else if n=3 then RR3 else RR4
def Ja (n:Nat):Nat->List Int:=if n=2 then Jd else if n=3 then Jc else Jb
def sr (n:Nat):List Int:=gA n ((List.range (n - 1)).map fun k=>(2 ^ (k + 1),1))
def yt (n:Nat) (F:List Nat):Option AV:=l8 (2 ^ n - 1) (IW n) (Ja n) (fN n (aR F)) (sr n) 200
section
variable {st:aa}{os F:List Nat}{n g:Nat}
theorem GH (h:∀ g ∈ a0 n,aR os g=aR F g):fN n (aR os)=fN n (aR F):=by
 unfold fN;rw [g8,g8];have:∀ l:List Nat,(∀ g ∈ l,aR os g=aR F g)->(l.flatMap fun g=>il n g (aR os g))=l.flatMap fun g=>il n g (aR F g):=fun l=>by
  induction l with
  | nil=>intro _;rfl
  | cons x l ih=>intro h;rw [List.flatMap_cons,List.flatMap_cons,h x z6,ih fun g hg=>h g (zQ _ hg)]
 rw [this _ h]
theorem kE {ts}:(gA n ts).length=2 ^ n - 1:=by simp [gA]
theorem EB {B:Nat->Bool}:∀ z ∈ fN n B,z.row.length=2 ^ n - 1:=fun z hz=>by
 unfold fN at hz;rw [g8,zZ,zM,List.mem_flatMap] at hz;rcases hz with rfl | ⟨g,_,hg⟩
 ·exact kE
 ·unfold il at hg
  split at hg
  ·rw [zM.mp hg];exact kE
  ·split at hg
   ·cases hg
   ·rw [zM.mp hg];exact kE
theorem KC (hn:cz n):IX n (2 ^ n - 1) (IW n) (Ja n) (fN n (aR F)) (sr n):=by
 have hl:=BV hn (B:=aR F);have hr:=EB (n:=n) (B:=aR F);have ho:(sr n).length=2 ^ n - 1:=kE;rcases hn with rfl | rfl | rfl
 ·exact ⟨Lh,Ln,Lk,by decide,hr,ho,by decide,by decide,hl⟩
 ·exact ⟨Lg,Lm,Lj,by decide,hr,ho,by decide,by decide,hl⟩
 ·exact ⟨Lf,Ll,Li,by decide,hr,ho,by decide,by decide,hl⟩
theorem GQ (hn:cz n):∃ y,ev [bI,cC,eY] (.nw false (.lc 1 (.r2 (.i 1) (.v 0)) (.nm 3) .no (.tu (.cons (.bin .LShift (.i 1) (.v 3)) (.cons (.i 1) .nil))))) [some (.int n),some (.fz (nL os)),none] []=some (y,[])/\pm bI [.int n,y] []=some (.fz (iL (sr n)),[]):=by
 rcases hn with rfl | rfl | rfl
 ·exact ⟨.fz [.tup [.int 2,.int 1]],rfl,bS rfl (by kernel_rfl)⟩
 ·exact ⟨.fz [.tup [.int 2,.int 1],.tup [.int 4,.int 1]],rfl,bS rfl (by kernel_rfl)⟩
 ·exact ⟨.fz [.tup [.int 2,.int 1],.tup [.int 4,.int 1],.tup [.int 8,.int 1]],rfl,bS rfl (by kernel_rfl)⟩
theorem Ci {w:Nat}{RR:List (List Int)}{HO:Nat->List Int}{gv:List Gv}{goal:List Int}{N:Nat}{t:AV} (h:l8 w RR HO gv goal N=some t):cx st t=some t:=by
 unfold l8 at h;obtain ⟨⟨o,S⟩,_,h2⟩:=zA h;cases o with
 | some p =>
  have h2:lR w _ HO p S=some t:=h2;unfold lR at h2;split at h2
  ·cases h2;rfl
  ·cases h2
 | none =>
  have h2:((gp w _ _ N S).bind fun r=>match r with
   | (none,S')=>iI w _ HO S'
   | (some q,S')=>iN w _ q S')=some t:=h2
  obtain ⟨⟨oq,S2⟩,_,h4⟩:=zA h2;cases oq with
  | none =>
   have h4:iI w _ HO S2=some t:=h4;unfold iI at h4;split at h4
   ·cases h4;rfl
   ·cases h4
  | some q =>
   have h4:iN w _ q S2=some t:=h4;unfold iN at h4;split at h4
   ·cases h4;rfl
   ·cases h4
theorem EE (hn:cz n) (ho:∀ o ∈ os,o < 16) (hl:os.length <= 1000) (h:∀ g ∈ a0 n,aR os g=aR F g) {t:AV} (ht:yt n F=some t):pm cD [.int n,.fz (nL os)] st=some (t,st):=by
 obtain ⟨y,e1,e2⟩:=GQ hn (os:=os);obtain ⟨z,e4,e5⟩:=yr (KC hn) ht;have e3:=ya (st:=[]) hn ho hl;rw [GH h] at e3;have e6:pm eY [.int n,.fz ((fN n (aR F)).map Gv.av),.fz (iL (sr n))] []=some (t,[]):=cU (by simp [rfs,rf,HL,fx]) e4 e5;refine cU (by simp [rfs,rf,io]) (v:=t) (st':=[]) ?_ (Ci ht);rw [cD,aG];unfold gy;refine aj (sl':=[some (.int n),some (.fz (nL os)),some (.fz (iL (sr n)))]) (st':=[]) ?_ (dU ?_)
 ·simp [-jT,e1,e2]
 ·simp [e3,e6]
end
end LW
namespace LW
open PySem PySem.Spec L2 R
def IL (n:Nat) (F:List Nat) (T:List AV):Bool:=match jv T with
 | some L=>decide (L.length=2 ^ n - 1) && (ii n F L).isEmpty
 | none=>false
def IM (n:Nat) (F:List Nat):AV->Bool
 | .tup [.str s,_,.tup [.fz T,_],_,_]=>s == ("least":Str) && IL n F T
 | .tup [.str s,_]=>s == ("never":Str)
 | _=>false
def chk (n:Nat) (F:List Nat):Bool:=match yt n F with
 | some t=>IM n F t
 | none=>false
theorem c2:([0]::g9 2).all (chk 2)=true:=by kernel_rfl
theorem c3:([0]::g9 3).all (chk 3)=true:=by kernel_rfl
theorem K1:chk 4 [0]=true:=by kernel_rfl
theorem Kj:chk 4 []=true:=by kernel_rfl
theorem Ki:chk 4 [2]=true:=by kernel_rfl
theorem Kh:chk 4 [4]=true:=by kernel_rfl
theorem Kg:chk 4 [8]=true:=by kernel_rfl
theorem Kf:chk 4 [2,4]=true:=by kernel_rfl
theorem Kd:chk 4 [2,8]=true:=by kernel_rfl
theorem Kc:chk 4 [4,8]=true:=by kernel_rfl
theorem Kb:chk 4 [2,4,8]=true:=by kernel_rfl
theorem Ka:chk 4 [6]=true:=by kernel_rfl
theorem J9:chk 4 [10]=true:=by kernel_rfl
theorem Hz:chk 4 [12]=true:=by kernel_rfl
theorem Hy:chk 4 [6,8]=true:=by kernel_rfl
theorem Hx:chk 4 [4,10]=true:=by kernel_rfl
theorem Hw:chk 4 [2,12]=true:=by kernel_rfl
theorem Hv:chk 4 [6,10]=true:=by kernel_rfl
theorem Hu:chk 4 [6,12]=true:=by kernel_rfl
theorem Ht:chk 4 [10,12]=true:=by kernel_rfl
theorem Hs:chk 4 [6,10,12]=true:=by kernel_rfl
theorem Hr:chk 4 [14]=true:=by kernel_rfl
theorem Fm {n:Nat} (hn:cz n) {F:List Nat} (h:F ∈ [0]::g9 n):chk n F=true:=by
 rcases hn with rfl | rfl | rfl
 ·exact yO.mp c2 F h
 ·exact yO.mp c3 F h
 ·simp only [g9,zT,zX,or_false] at h
  rcases h with rfl | rfl | rfl | rfl | rfl | rfl | rfl | rfl | rfl | rfl | rfl | rfl | rfl | rfl | rfl | rfl | rfl | rfl | rfl | rfl
  ·exact K1
  ·exact Kj
  ·exact Ki
  ·exact Kh
  ·exact Kg
  ·exact Kf
  ·exact Kd
  ·exact Kc
  ·exact Kb
  ·exact Ka
  ·exact J9
  ·exact Hz
  ·exact Hy
  ·exact Hx
  ·exact Hw
  ·exact Hv
  ·exact Hu
  ·exact Ht
  ·exact Hs
  ·exact Hr
abbrev KL:List Fn:=[dy,aH,cj,cT,aQ,cD,c7,dw]
section
variable {st:aa}{os F:List Nat}{n g k j:Nat}{x:AV}{ns:List Int}{T:List Int}
noncomputable def qB (q:Nat):Bool:=(PyData.int (q:Int)).intsShort 13 && (PyData.int (q:Int)).showable && decide ((PyData.int (q:Int)).weight <= 5)
theorem Gj:(List.range 16).all qB=true:=by kernel_rfl
theorem CH:∀ {l:List Nat},(∀ q ∈ l,q < 16)->PyData.intsShortAll 13 (l.map fun q:Nat=>PyData.int (q:Int))=true/\PyData.showableAll (l.map fun q:Nat=>PyData.int (q:Int))=true/\PyData.weightAll (l.map fun q:Nat=>PyData.int (q:Int)) <= 6 * l.length/\PyData.depthAll (l.map fun q:Nat=>PyData.int (q:Int)) <= 0
 | [],_=>⟨rfl,rfl,zP _,zP _⟩
 | q::l,h=>by
  have hq:=yO.mp Gj q (List.mem_range.mpr (h q z6));unfold qB at hq;simp only [zC,yB] at hq;obtain ⟨a1,a2,a3,a4⟩:=CH (l:=l) fun q hq=>h q (zQ _ hq)
  refine ⟨by simp only [zO,PyData.intsShortAll,hq.1.1,a1,Bool.and_self],by simp only [zO,PyData.showableAll,hq.1.2,a2,Bool.and_self],?_,?_⟩
  ·simp only [zO,PyData.weightAll,yU];omega
  ·simp only [zO,PyData.depthAll,PyData.depth];omega
theorem FZ {l:List Nat} (h:∀ q ∈ l,q < 16) (hl:l.length <= 100):zf (.list (l.map fun q:Nat=>PyData.int (q:Int)))=true:=by
 obtain ⟨a1,a2,a3,a4⟩:=CH h;have h20:(2:Nat) ^ 20=1048576:=by decide
 have d0:PyData.depth (.list (l.map fun q:Nat=>PyData.int (q:Int))) <= 1:=by simp only [PyData.depth];omega
 have w0:PyData.weight (.list (l.map fun q:Nat=>PyData.int (q:Int))) <= 2 ^ 20:=by simp only [PyData.weight];omega
 have l0:PyData.layable0 (.list (l.map fun q:Nat=>PyData.int (q:Int)))=true:=by
  unfold PyData.layable0;rw [show PyData.canLay0 (.list (l.map fun q:Nat=>PyData.int (q:Int)))=true by simp only [PyData.canLay0,GK],yS oM,yS w0];rfl
 unfold zf;rw [l0,show PyData.intsShort 13 (.list (l.map fun q:Nat=>PyData.int (q:Int)))=true by simp only [PyData.intsShort,a1],show PyData.showable (.list (l.map fun q:Nat=>PyData.int (q:Int)))=true by simp only [PyData.showable,a2],yS oM];rfl
theorem FY {l:List Nat} (h:∀ q ∈ l,q < 16) (hl:l.length <= 100):∃ s,∀ st,bw pC [.fz (nL l)] st=some (.str s,st):=by
 refine ⟨(PyData.list (l.map fun q:Nat=>PyData.int (q:Int))).shown,fun st=>?_⟩;have h1:bE 9 st (.fz (nL l))=some (.list (l.map fun q:Nat=>PyData.int (q:Int))):=by show (aO (bE 8 st) _).map _=_;rw [Eu];rfl
 show ((bE 9 st (.fz (nL l))).bind tx).map _=_;rw [h1,bind_some];have:tx (.list (l.map fun q:Nat=>PyData.int (q:Int)))=some (.str (PyData.list (l.map fun q:Nat=>PyData.int (q:Int))).shown):=yH (FZ h hl);rw [this];rfl
theorem uJ (hn:cz n):(∀ q ∈ ii n os T,q < 16)/\(ii n os T).length <= 100:=by
 refine ⟨fun q hq=>o7 hn (List.mem_filter.mp hq).1,?_⟩
 have:=List.length_filter_le (fun g=>!decide (cF T g=fB os T g)) (a0 n)
 have:=fe hn
 unfold ii;omega
theorem Cl (h:∀ g ∈ a0 n,aR os g=aR F g):ii n os T=ii n F T:=by
 unfold ii;refine List.filter_congr fun g hg=>?_
 unfold fB;rw [h g hg]
theorem Ak:∀ l:List Int,PyData.eqvAll (l.map PyData.int) (l.map PyData.int)=true
 | []=>by simp [PyData.eqvAll]
 | a::l=>by simp [PyData.eqvAll,PyData.eqv,Ak l]
theorem zv (h1:bE 9 st x=some (.list (T.map PyData.int))):cA .NotEq st x (.fz (iL T))=some false:=by
 change (ir st x (.fz (iL T))).map (fun b=>!b)=_;have h2:bE 9 st (.fz (iL T))=some (.list (T.map PyData.int)):=by show (aO (bE 8 st) _).map _=_;rw [p8];rfl
 have hl:∀ l:List Int,PyData.canLayAll0 (l.map PyData.int)=true/\PyData.depthAll (l.map PyData.int) <= 0:=fun l=>by
  induction l with
  | nil=>exact ⟨rfl,zP _⟩
  | cons x l ih=>exact ⟨by simp only [zO,PyData.canLayAll0,PyData.canLay0,ih.1,Bool.and_self],by simp only [zO,PyData.depthAll,PyData.depth];omega⟩
 obtain ⟨l1,l2⟩:=hl T;have hd:(PyData.list (T.map PyData.int)).depth <= 1:=by simp only [PyData.depth];omega
 unfold ir;rw [h1,h2,bind_some,bind_some,yH (by unfold DD.pyOk;rw [show (PyData.list (T.map PyData.int)).canLay0=true by simp only [PyData.canLay0,l1],yS oM];rfl)];simp [PyData.eqv,Ak]
theorem tF (i:Int):cx st (.int i)=some (.int i):=rfl
theorem tK {fn:Fn}{y:List AV} (hc:st[3]?=some (.al (.fz (nL os)))) (h:∃ r,fn [.int n,.fz (nL os),.fz (iL T)] []=some r/\cx r.2 r.1=some (.fz y)):pm fn [.int n,.ref 3,.fz (iL T)] st=some (.fz y,st):=by
 obtain ⟨r,e1,e2⟩:=h;have f1:eE st (.ref 3)=some (.fz (nL os),st):=by unfold eE;rw [yG (by simp [rf])];simp only [hc]
 refine tJ (v:=r.1) (st':=r.2) (ts:=[.int n,.fz (nL os),.fz (iL T)]) rfl (by simp only [aO,ms hc,tF,show cx st (.fz (iL T))=some (.fz (iL T)) from rfl,bind_some,map_some]) e1 e2 rfl ?_;show (((eE st (.ref 3)).bind fun p=>(i7 p.2 [.fz (iL T)]).map fun q=>(p.1::q.1,q.2)).map fun q=>(AV.int n::q.1,q.2))=_;rw [f1];rfl
theorem zo {fn:Fn}{y:List AV}{A B C D E G c:Mw} (hc:c=.lst (iL T)\/c=.al (.fz (iL T))) (h:∃ r,fn [.int n,.fz (nL os),.fz (iL T)] []=some r/\cx r.2 r.1=some (.fz y)):pm fn [.int n,.ref 3,.ref 5] [A,B,C,.al (.fz (nL os)),D,c,E,G]=some (.fz y,[A,B,C,.al (.fz (nL os)),D,.al (.fz (iL T)),E,G]):=by
 obtain ⟨r,e1,e2⟩:=h;have f1:eE [A,B,C,.al (.fz (nL os)),D,c,E,G] (.ref 3)=some (.fz (nL os),[A,B,C,.al (.fz (nL os)),D,c,E,G]):=by unfold eE;rw [yG (by simp [rf])];simp
 have f2:eE [A,B,C,.al (.fz (nL os)),D,c,E,G] (.ref 5)=some (.fz (iL T),[A,B,C,.al (.fz (nL os)),D,.al (.fz (iL T)),E,G]):=by
  rcases hc with rfl | rfl
  ·unfold eE;rw [yG (by simp [rf])];simp [fx]
  ·unfold eE;rw [yG (by simp [rf])];simp
 have r5:cx [A,B,C,.al (.fz (nL os)),D,c,E,G] (.ref 5)=some (.fz (iL T)):=by
  rcases hc with rfl | rfl
  ·exact nM rfl
  ·exact ms rfl
 have r3:cx [A,B,C,.al (.fz (nL os)),D,c,E,G] (.ref 3)=some (.fz (nL os)):=ms rfl;refine tJ (v:=r.1) (st':=r.2) (ts:=[.int n,.fz (nL os),.fz (iL T)]) rfl (by simp only [aO,r3,r5,tF,bind_some,map_some]) e1 e2 rfl ?_;show (((eE [A,B,C,.al (.fz (nL os)),D,c,E,G] (.ref 3)).bind fun p=>(((eE p.2 (.ref 5)).bind fun p=>(i7 p.2 []).map fun q=>(p.1::q.1,q.2))).map fun q=>(p.1::q.1,q.2)).map fun q=>(AV.int n::q.1,q.2))=_;rw [f1,bind_some,f2];rfl
theorem vI (hn:cz n) (ho:∀ o ∈ os,o < 16) (hl:os.length <= 1000) (hT:T.length=2 ^ n - 1):∃ r,c7 [.int n,.fz (nL os),.fz (iL T)] []=some r/\cx r.2 r.1=some (.fz (nL (ii n os T))):=⟨_,BS hn ho hl hT,rfl⟩
def aY (TT:List (List Int)):List AV:=TT.map fun T=>.fz (iL T)
theorem Fq (hn:cz n) (ho:∀ o ∈ os,o < 16) (hl:os.length <= 10) {A B C D E G c:Mw}{H:List Int} (hH:H.length=2 ^ n - 1) (hc:c=.lst (iL H)\/c=.al (.fz (iL H))) {t:AV}{a:Nat}{x9 x10:Option AV} (hx:(x=.fz (iL T)/\T.length=2 ^ n - 1)\/(x=.ref 5/\T=H)):∃ x9' x10' c',ak KL (.cons (.as (.nw false (.lof (.v 8))) (.nm 9))
 (.cons (.as (.ca true 6 (.cons (.v 2) (.cons (.v 3) (.cons (.v 8) .nil)))) (.nm 10))
 (.cons (.iff (.or (.cmp .NotEq (.bi .str (.cons (.v 10) .nil)) (.bi .str (.cons (.ca true 7 (.cons (.v 2) (.cons (.v 3) (.cons (.v 8) .nil)))) .nil))) (.cmp .NotEq (.v 8) (.v 9)))
 (.cons (.rt (.b false))
 .nil)
 .nil)
 .nil))) [some (.fz (iL ns)),some (.ref 2),some (.int n),some (.ref 3),some (.ref 4),some t,some (.ref 5),some (.int (a:Int)),some x,x9,x10] [A,B,C,.al (.fz (nL os)),D,c,E,G]=some (.nx [some (.fz (iL ns)),some (.ref 2),some (.int n),some (.ref 3),some (.ref 4),some t,some (.ref 5),some (.int (a:Int)),some x,x9',x10'] [A,B,C,.al (.fz (nL os)),D,c',E,G])/\(c'=.lst (iL H)\/c'=.al (.fz (iL H))):=by
 obtain ⟨s,hs⟩:=FY (uJ (os:=os) (T:=T) hn).1 (uJ (os:=os) (T:=T) hn).2;have hT:T.length=2 ^ n - 1:=by rcases hx with ⟨_,h⟩ | ⟨_,h⟩ <;> (first | exact h | (rw [h];exact hH))
 have lT:T.length <= 1000:=by rw [hT];rcases hn with rfl | rfl | rfl <;> decide
 have e1:=vI hn ho oM hT;have e2:=xK hn ho oM hT;rcases hx with ⟨rfl,_⟩ | ⟨rfl,rfl⟩
 ·have p1:=tK (st:=[A,B,C,.al (.fz (nL os)),D,c,E,G]) rfl e1
  have p2:=tK (st:=[A,B,C,.al (.fz (nL os)),D,c,E,G]) rfl e2;have hs:=hs [A,B,C,.al (.fz (nL os)),D,c,E,G];have ne:=zv (st:=[A,B,C,.al (.fz (nL os)),D,c,E,G]) (x:=.fz (iL T)) (T:=T) (by show (aO (bE 8 _) _).map _=_;rw [p8];rfl);refine ⟨some (.fz (iL T)),some (.fz (nL (ii n os T))),c,?_,hc⟩;refine ao (sl':=[some (.fz (iL ns)),some (.ref 2),some (.int n),some (.ref 3),some (.ref 4),some t,some (.ref 5),some (.int (a:Int)),some (.fz (iL T)),some (.fz (iL T)),x10]) (st':=[A,B,C,.al (.fz (nL os)),D,c,E,G]) (by simp [jp,bn,dr,fx,bt lT]) ?_;refine ao (sl':=[some (.fz (iL ns)),some (.ref 2),some (.int n),some (.ref 3),some (.ref 4),some t,some (.ref 5),some (.int (a:Int)),some (.fz (iL T)),some (.fz (iL T)),some (.fz (nL (ii n os T)))]) (st':=[A,B,C,.al (.fz (nL os)),D,c,E,G]) (by simp [p1]) ?_;refine ao (s:=.iff _ _ _) ?_ rfl;simp [p2,hs,rZ,ne]
 ·have p1:=zo (A:=A) (B:=B) (C:=C) (D:=D) (E:=E) (G:=G) hc e1
  have p2:=zo (A:=A) (B:=B) (C:=C) (D:=D) (E:=E) (G:=G) (c:=.al (.fz (iL T))) (.inr rfl) e2;have hs:=hs [A,B,C,.al (.fz (nL os)),D,.al (.fz (iL T)),E,G];have ne:=zv (st:=[A,B,C,.al (.fz (nL os)),D,.al (.fz (iL T)),E,G]) (x:=.ref 5) (T:=T) (by show (aO (bE 7 _) _).map _=_;rw [p8];rfl);refine ⟨some (.fz (iL T)),some (.fz (nL (ii n os T))),.al (.fz (iL T)),?_,.inr rfl⟩;refine ao (sl':=[some (.fz (iL ns)),some (.ref 2),some (.int n),some (.ref 3),some (.ref 4),some t,some (.ref 5),some (.int (a:Int)),some (.ref 5),some (.fz (iL T)),x10]) (st':=[A,B,C,.al (.fz (nL os)),D,c,E,G]) (by rcases hc with rfl | rfl <;> simp [jp,bn,dr,fx,bt lT]) ?_;refine ao (sl':=[some (.fz (iL ns)),some (.ref 2),some (.int n),some (.ref 3),some (.ref 4),some t,some (.ref 5),some (.int (a:Int)),some (.ref 5),some (.fz (iL T)),some (.fz (nL (ii n os T)))]) (st':=[A,B,C,.al (.fz (nL os)),D,.al (.fz (iL T)),E,G]) (by simp [p1]) ?_;refine ao (s:=.iff _ _ _) ?_ rfl;simp [p2,hs,rZ,ne]
def sI:Option (List Int)->AV
 | some T=>.fz (iL T)
 | none=>.ref 5
theorem u6 (hn:cz n) (ho:∀ o ∈ os,o < 16) (hl:os.length <= 10) {A B:Mw}{D:List Int} (hD:20 <= D.length) (hd:okD D) {TT:List (List Int)} (h0:0 < TT.length) (h3:TT.length <= 3) (hT:∀ T ∈ TT,T.length=2 ^ n - 1) {t:AV}:∃ r,(ak KL (.cons (.as (.nw true (.lof (.ix (.v 4) (.bin .Mod (.ca false 1 (.cons (.v 1) .nil)) (.bi .len (.cons (.v 4) .nil)))))) (.nm 6))
 (.cons (.as (.bin .Mod (.ca false 1 (.cons (.v 1) .nil)) (.bi .len (.cons (.v 6) .nil))) (.nm 7))
 (.cons (.as (.bin .Add (.ix (.v 6) (.v 7)) (.ix (.nw false (.li (.cons (.i 1) (.cons (.un .USub (.i 1)) (.cons (.i 5) .nil))))) (.bin .Mod (.ca false 1 (.cons (.v 1) .nil)) (.i 3)))) (.su (.v 6) (.v 7)))
 (.cons (.fo (.e (.nw true (.cat (.v 4) (.nw true (.li (.cons (.v 6) .nil)))))) (.nm 8)
 (.cons (.as (.nw false (.lof (.v 8))) (.nm 9))
 (.cons (.as (.ca true 6 (.cons (.v 2) (.cons (.v 3) (.cons (.v 8) .nil)))) (.nm 10))
 (.cons (.iff (.or (.cmp .NotEq (.bi .str (.cons (.v 10) .nil)) (.bi .str (.cons (.ca true 7 (.cons (.v 2) (.cons (.v 3) (.cons (.v 8) .nil)))) .nil))) (.cmp .NotEq (.v 8) (.v 9)))
 (.cons (.rt (.b false))
 .nil)
 .nil)
 .nil))))
 (.cons (.rt (.b true))
 .nil))))) [some (.fz (iL ns)),some (.ref 2),some (.int n),some (.ref 3),some (.ref 4),some t,none,none,none,none,none] [A,B,.lst (iL D),.al (.fz (nL os)),.lst (aY TT)]).bind aF=some r/\r.1=.bl true:=by
 have hN:0 < 2 ^ n - 1/\2 ^ n - 1 <= 15:=by rcases hn with rfl | rfl | rfl <;> decide
 obtain ⟨D1,y1,rfl⟩:=gN (D:=D) (fun z=>by rw [z] at hD;simp at hD);obtain ⟨hy1,hd1⟩:=hd.at;obtain ⟨D2,y2,rfl⟩:=gN (D:=D1) (fun z=>by rw [z] at hD;simp at hD);obtain ⟨hy2,hd2⟩:=hd1.at;obtain ⟨D3,y3,rfl⟩:=gN (D:=D2) (fun z=>by rw [z] at hD;simp at hD);obtain ⟨hy3,hd3⟩:=hd2.at;have p1:=gM (st:=[A,B,.lst (iL (D3++[y3]++[y2]++[y1])),.al (.fz (nL os)),.lst (aY TT)]) (r:=2) (D:=D3++[y3]++[y2]) (x:=y1) rfl;have tl:(aY TT).length=TT.length:=by simp [aY]
 have m1:=Int.emod_nonneg y1 (show ((TT.length:Nat):Int) ≠ 0 by omega);have m2:=Int.emod_lt_of_pos y1 (show (0:Int) < ((TT.length:Nat):Int) by omega);obtain ⟨T,hTm,eT⟩:∃ T ∈ TT,b9 [A,B,.lst (iL (D3++[y3]++[y2])),.al (.fz (nL os)),.lst (aY TT)] (.ref 4) (.int (y1 % ((TT.length:Nat):Int)))=some (.fz (iL T)):=by
  obtain ⟨q,hq⟩:∃ q:Nat,y1 % ((TT.length:Nat):Int)=(q:Int):=⟨(y1 % ((TT.length:Nat):Int)).toNat,by omega⟩;have hq2:q < TT.length:=by omega
  refine ⟨TT[q],List.getElem_mem hq2,?_⟩;rw [hq,cb (bq (xs:=aY TT) rfl),bT];simp [aY,hq2]
 have lT:=hT T hTm;have l4:bw dL [.ref 4] [A,B,.lst (iL (D3++[y3]++[y2])),.al (.fz (nL os)),.lst (aY TT)]=some (.int ((TT.length:Nat):Int),[A,B,.lst (iL (D3++[y3]++[y2])),.al (.fz (nL os)),.lst (aY TT)]):=by
  show some (AV.int ((aY TT).length:Int),_)=_;rw [tl]
 refine aE (sl':=[some (.fz (iL ns)),some (.ref 2),some (.int n),some (.ref 3),some (.ref 4),some t,some (.ref 5),none,none,none,none]) (st':=[A,B,.lst (iL (D3++[y3]++[y2])),.al (.fz (nL os)),.lst (aY TT),.lst (iL T)]) ?_ ?_
 ·simp [-List.append_assoc,p1,f9,l4,jH (show (0:Int) < ((TT.length:Nat):Int) by omega),eT,jp,bt (show T.length <= 1000 by omega)]
 have p2:=gM (st:=[A,B,.lst (iL (D3++[y3]++[y2])),.al (.fz (nL os)),.lst (aY TT),.lst (iL T)]) (r:=2) (D:=D3++[y3]) (x:=y2) rfl;have l5:bw dL [.ref 5] [A,B,.lst (iL (D3++[y3])),.al (.fz (nL os)),.lst (aY TT),.lst (iL T)]=some (.int ((T.length:Nat):Int),[A,B,.lst (iL (D3++[y3])),.al (.fz (nL os)),.lst (aY TT),.lst (iL T)]):=by
  show some (AV.int ((iL T).length:Int),_)=_;rw [fy]
 obtain ⟨a,ha,ea⟩:∃ a:Nat,a < T.length/\y2 % ((T.length:Nat):Int)=(a:Int):=by
  have m1:=Int.emod_nonneg y2 (show ((T.length:Nat):Int) ≠ 0 by omega);have m2:=Int.emod_lt_of_pos y2 (show (0:Int) < ((T.length:Nat):Int) by omega);exact ⟨(y2 % ((T.length:Nat):Int)).toNat,by omega,by omega⟩
 refine aE (sl':=[some (.fz (iL ns)),some (.ref 2),some (.int n),some (.ref 3),some (.ref 4),some t,some (.ref 5),some (.int (a:Int)),none,none,none]) (st':=[A,B,.lst (iL (D3++[y3])),.al (.fz (nL os)),.lst (aY TT),.lst (iL T)]) ?_ ?_
 ·simp [-List.append_assoc,p2,f9,l5,jH (show (0:Int) < ((T.length:Nat):Int) by omega),ea]
 have p3:=gM (st:=[A,B,.lst (iL (D3++[y3])),.al (.fz (nL os)),.lst (aY TT),.lst (iL T)]) (r:=2) (D:=D3) (x:=y3) rfl;have w1:=Int.emod_nonneg y3 (show (3:Int) ≠ 0 by decide);have w2:=Int.emod_lt_of_pos y3 (show (0:Int) < 3 by decide);obtain ⟨v,hv,ev⟩:=o9 (st:=[A,B,.lst (iL D3),.al (.fz (nL os)),.lst (aY TT),.lst (iL T)]) (l:=[.int 1,.int (-1),.int 5]) w1 w2;obtain ⟨dl,rfl⟩:∃ dl:Int,v=.int dl:=by
  simp only [zT,zX,or_false] at hv;rcases hv with rfl | rfl | rfl <;> exact ⟨_,rfl⟩
 have ix:b9 [A,B,.lst (iL (D3++[y3])),.al (.fz (nL os)),.lst (aY TT),.lst (iL T)] (.ref 5) (.int (a:Int))=some (.int (SX.gI T a)):=by rw [cb (bq (xs:=iL T) rfl),bT,bH ha]
 have ng:pv .USub [A,B,.lst (iL (D3++[y3])),.al (.fz (nL os)),.lst (aY TT),.lst (iL T)] (.int 1)=some (.int (-1)):=rfl;have hs:=cW (st:=[A,B,.lst (iL D3),.al (.fz (nL os)),.lst (aY TT),.lst (iL T)]) (k:=5) (q:=a) (xs:=iL T) (x:=.int (SX.gI T a + dl)) rfl (by rw [fy];exact ha);rw [eD] at hs;refine aE (sl':=[some (.fz (iL ns)),some (.ref 2),some (.int n),some (.ref 3),some (.ref 4),some t,some (.ref 5),some (.int (a:Int)),none,none,none]) (st':=[A,B,.lst (iL D3),.al (.fz (nL os)),.lst (aY TT),.lst (iL (T.set a (SX.gI T a + dl)))]) ?_ ?_
 ·simp [-List.append_assoc,ix,ng,p3,f9,jH (show (0:Int) < 3 by decide),ev,cE,rfs,rf,hs]
 generalize hH:T.set a (SX.gI T a + dl)=H;have lH:H.length=2 ^ n - 1:=by rw [<- hH,List.length_set];exact lT
 have it:dg KL (.e (.nw true (.cat (.v 4) (.nw true (.li (.cons (.v 6) .nil)))))) [some (.fz (iL ns)),some (.ref 2),some (.int n),some (.ref 3),some (.ref 4),some t,some (.ref 5),some (.int (a:Int)),none,none,none] [A,B,.lst (iL D3),.al (.fz (nL os)),.lst (aY TT),.lst (iL H)]=some (⟨(TT.map some++[none]).map sI,[(7,.lst (aY TT++[.ref 5]))]⟩,[A,B,.lst (iL D3),.al (.fz (nL os)),.lst (aY TT),.lst (iL H),.lst [.ref 5],.lst (aY TT++[.ref 5])]):=by
  have e7:(TT.map some++[none]).map sI=aY TT++[.ref 5]:=by simp [aY,sI,Function.comp_def]
  have c:=kP (st:=[A,B,.lst (iL D3),.al (.fz (nL os)),.lst (aY TT),.lst (iL H),.lst [.ref 5],.lst (aY TT++[.ref 5])]) (k:=7) (xs:=aY TT++[.ref 5]) rfl;rw [e7];have l4:bn [A,B,.lst (iL D3),.al (.fz (nL os)),.lst (aY TT),.lst (iL H),.lst [.ref 5]] (.ref 4)=some (aY TT):=bq rfl;have l6:bn [A,B,.lst (iL D3),.al (.fz (nL os)),.lst (aY TT),.lst (iL H),.lst [.ref 5]] (.ref 6)=some [.ref 5]:=bq rfl;simp [cE,pY,l4,l6,eq_true (show (aY TT).length <= 999999 by omega),c]
 refine mq (em:=sI) (xs:=TT.map some++[none]) (gd:=[(7,.lst (aY TT++[.ref 5]))]) (st0:=[A,B,.lst (iL D3),.al (.fz (nL os)),.lst (aY TT),.lst (iL H),.lst [.ref 5],.lst (aY TT++[.ref 5])]) (fun _ sl s=>∃ c x8 x9 x10,s=[A,B,.lst (iL D3),.al (.fz (nL os)),.lst (aY TT),c,.lst [.ref 5],.lst (aY TT++[.ref 5])]/\(c=.lst (iL H)\/c=.al (.fz (iL H)))/\sl=[some (.fz (iL ns)),some (.ref 2),some (.int n),some (.ref 3),some (.ref 4),some t,some (.ref 5),some (.int (a:Int)),x8,x9,x10]) it ?_ ⟨_,_,_,_,rfl,.inl rfl,rfl⟩ ?_ ?_
 ·rintro i sl s ⟨c,x8,x9,x10,rfl,_,_⟩
  exact fc rfl
 ·rintro i o sl s ho' ⟨c,x8,x9,x10,rfl,hc,rfl⟩
  have hm:=zW ho';have hx:∃ T',(sI o=.fz (iL T')/\T'.length=2 ^ n - 1)\/(sI o=.ref 5/\T'=H):=by
   rcases zZ.mp hm with h | h
   ·obtain ⟨T',h1,rfl⟩:=yC.mp h
    exact ⟨T',.inl ⟨rfl,hT T' h1⟩⟩
   ·rw [zM.mp h];exact ⟨H,.inr ⟨rfl,rfl⟩⟩
  obtain ⟨T',hx⟩:=hx;obtain ⟨x9',x10',c',e,hc'⟩:=Fq (ns:=ns) hn ho hl (A:=A) (B:=B) (C:=.lst (iL D3)) (D:=.lst (aY TT)) (E:=.lst [.ref 5]) (G:=.lst (aY TT++[.ref 5])) lH hc (t:=t) (a:=a) (x9:=x9) (x10:=x10) hx;exact ⟨_,_,_,rfl,e,c',_,_,_,rfl,hc',rfl⟩
 ·rintro sl s ⟨c,x8,x9,x10,rfl,hc,rfl⟩
  exact ⟨_,rfl,rfl⟩
theorem HP (hn:cz n) (ho:∀ o ∈ os,o < 16) (hl:os.length <= 1000) (h:∀ g ∈ a0 n,aR os g=aR F g) {t:AV} (ht:yt n F=some t) {A B C E:Mw}:pm cD [.int n,.ref 3] [A,B,C,.lst (nL os),E]=some (t,[A,B,C,.al (.fz (nL os)),E]):=by
 obtain ⟨v,s,e1,e2⟩:=Gp (by simp [rfs,rf,io]) (EE (st:=[]) hn ho hl h ht);have r3:cx [A,B,C,.lst (nL os),E] (.ref 3)=some (.fz (nL os)):=by
  show cq 6 _ (.ref 3)=_;unfold cq;simp [u5]
 have f1:eE [A,B,C,.lst (nL os),E] (.ref 3)=some (.fz (nL os),[A,B,C,.al (.fz (nL os)),E]):=by unfold eE;rw [yG (by simp [rf])];simp [io]
 refine tJ rfl (ts:=[.int n,.fz (nL os)]) (by simp only [aO,r3,tF,bind_some,map_some]) e1 e2 (Fv ht).2 ?_;show (((eE [A,B,C,.lst (nL os),E] (.ref 3)).bind fun p=>(i7 p.2 []).map fun q=>(p.1::q.1,q.2)).map fun q=>(AV.int n::q.1,q.2))=_;rw [f1];rfl
theorem Jz {ks:List Fn}{y0 y1:Option AV}{r:Sl} (hn:cz n):dg ks (.r1 (.bin .Sub (.bin .LShift (.i 1) (.v 2)) (.i 1))) (y0::y1::some (.int (n:Int))::r) st=some (⟨(List.range (2 ^ n - 1)).map fun q:Nat=>AV.int (q:Int),[]⟩,st):=by
 rcases hn with rfl | rfl | rfl <;> rfl
theorem GL (hns:ns.length <= 63):∃ st,nB [.fz (iL ns)] []=some (.bl true,st):=by
 have key:∃ r,nB [.fz (iL ns)] []=some r/\r.1=.bl true:=by
  obtain ⟨A,B,D,e1,hD,hd⟩:=B8 hns;obtain ⟨D1,x0,rfl⟩:=gN (D:=D) (fun z=>by rw [z] at hD;cases hD);have hd:okD (D1++[x0]):=hd;obtain ⟨hx0,hd1⟩:=hd.at;simp only [zV,List.length_singleton] at hD;obtain ⟨n,hn,en⟩:=nn x0 hx0;have hN:0 < 2 ^ n - 1/\2 ^ n - 1 <= 15:=by rcases hn with rfl | rfl | rfl <;> decide
  have p0:=gM (st:=[A,B,Mw.lst (iL (D1++[x0]))]) (r:=2) (D:=D1) (x:=x0) rfl;obtain ⟨D2,os,e2,ho,hl,hd2,hl2⟩:=vt (A:=A) (B:=B) (D:=D1) hn oM hd1;obtain ⟨D3,T1,e3,hT1,hd3,hl3⟩:=AR (A:=A) (B:=B) (O:=.lst (nL os)) (D:=D2) hn oM hd2;obtain ⟨T2,hT2,eT2⟩:=mM (ks:=KL) (k:=1) (st:=[A,B,.lst (iL D3),.lst (nL os)]) (t:=.nm 11) (e:=.bi .min (.cons (.bin .Sub (.v 2) (.i 1)) (.cons (.ca true 4 (.cons (.bin .Add (.v 11) (.i 1)) .nil)) .nil))) (sl:=[some (.fz (iL ns)),some (.ref 2),some (.int n),some (.ref 3),none,none,none,none,none,none,none]) (Jz hn) oM fun q hq=>by
   obtain ⟨b,b0,b4,_,eb⟩:=qN (m:=q + 1) oM;obtain ⟨c,ec,hc⟩:=zz (st:=[A,B,.lst (iL D3),.lst (nL os)]) (a:=(n:Int) - 1) (b:=b);have eb:=eb [A,B,.lst (iL D3),.lst (nL os)];have c1:((q:Int) + 1)=((q + 1:Nat):Int):=by omega
   generalize ((q + 1:Nat):Int)=u1 at eb c1;exact ⟨[some (.fz (iL ns)),some (.ref 2),some (.int n),some (.ref 3),none,none,none,none,none,none,none]++[some (.int (q:Int))],c,rfl,by simp [c1,eb,ec]⟩
  obtain ⟨F,hF,hf,h0⟩:=KU hn ho;have ck:=Fm hn hF;unfold chk at ck;rw [nB,aG];show ∃ r,(ak KL o8 [some (.fz (iL ns)),none,none,none,none,none,none,none,none,none,none] []).bind aF=some r/\_;unfold o8;refine aE (sl':=[some (.fz (iL ns)),some (.ref 2),none,none,none,none,none,none,none,none,none]) (st':=[A,B,.lst (iL (D1++[x0]))]) (by simp [e1,f9]) ?_;refine aE (sl':=[some (.fz (iL ns)),some (.ref 2),some (.int n),none,none,none,none,none,none,none,none]) (st':=[A,B,.lst (iL D1)]) (by simp [p0,f9,jH (show (0:Int) < 3 by decide),en]) ?_;refine aE (sl':=[some (.fz (iL ns)),some (.ref 2),some (.int n),some (.ref 3),none,none,none,none,none,none,none]) (st':=[A,B,.lst (iL D2),.lst (nL os)]) (by simp [e2,f9]) ?_;refine aE (sl':=[some (.fz (iL ns)),some (.ref 2),some (.int n),some (.ref 3),some (.ref 4),none,none,none,none,none,none]) (st':=[A,B,.lst (iL D3),.lst (nL os),.lst (aY [T1,T2])]) (by simp [-jT,e3,eT2,f9,cE,aY]) ?_;split at ck
  ·rename_i t ht
   have ea:=HP hn ho oM hf ht (A:=A) (B:=B) (C:=.lst (iL D3)) (E:=.lst (aY [T1,T2]));refine aE (sl':=[some (.fz (iL ns)),some (.ref 2),some (.int n),some (.ref 3),some (.ref 4),some t,none,none,none,none,none]) (st':=[A,B,.lst (iL D3),.al (.fz (nL os)),.lst (aY [T1,T2])]) (by simp [ea]) ?_;unfold IM at ck;split at ck
   ·rename_i s w1 T w2 w3 w4
    rw [zC] at ck;obtain ⟨c1,c2⟩:=ck;have c1:=yJ c1;subst c1;unfold IL at c2;split at c2
    ·rename_i LL hLL
     have hLL:T=iL LL:=oC hLL;subst hLL;rw [zC,yB] at c2;obtain ⟨c3,c4⟩:=c2;have c4:=List.isEmpty_iff.mp c4;rw [<- Cl hf] at c4;have hp:=tK (st:=[A,B,.lst (iL D3),.al (.fz (nL os)),.lst (aY [T1,T2,LL])]) (T:=LL) rfl (vI hn ho oM c3);rw [c4] at hp;have eq:cA .Eq [A,B,.lst (iL D3),.al (.fz (nL os)),.lst (aY [T1,T2])] (.str "least") (.str "least")=some true:=by kernel_rfl
     have ne:=zu (st:=[A,B,.lst (iL D3),.al (.fz (nL os)),.lst (aY [T1,T2,LL])]) (l:=[]);have i0:b9 [A,B,.lst (iL D3),.al (.fz (nL os)),.lst (aY [T1,T2])] (.tup [.str "least",w1,.tup [.fz (iL LL),w2],w3,w4]) (.int 0)=some (.str "least"):=rfl;have i2:∀ st,b9 st (.tup [.str "least",w1,.tup [.fz (iL LL),w2],w3,w4]) (.int 2)=some (.tup [.fz (iL LL),w2]):=fun _=>rfl
     have i20:∀ st,b9 st (.tup [.fz (iL LL),w2]) (.int 0)=some (.fz (iL LL)):=fun _=>rfl
     refine aE (sl':=[some (.fz (iL ns)),some (.ref 2),some (.int n),some (.ref 3),some (.ref 4),some (.tup [.str "least",w1,.tup [.fz (iL LL),w2],w3,w4]),none,none,none,none,none]) (st':=[A,B,.lst (iL D3),.al (.fz (nL os)),.lst (aY [T1,T2,LL])]) ?_ ?_
     ·have ap:=As (ks:=KL) (a:=.v 4) (e:=.ix (.ix (.v 5) (.i 2)) (.i 0)) (y:=.fz (iL LL)) (k:=4) (xs:=aY [T1,T2]) (sl:=[some (.fz (iL ns)),some (.ref 2),some (.int n),some (.ref 3),some (.ref 4),some (.tup [.str "least",w1,.tup [.fz (iL LL),w2],w3,w4]),none,none,none,none,none]) (st:=[A,B,.lst (iL D3),.al (.fz (nL os)),.lst (aY [T1,T2])]) rfl (by simp [i2,i20]) rfl (by simp [aY])
      have t1:tv KL (.cmp .Eq (.ix (.v 5) (.i 0)) (.s "least")) [some (.fz (iL ns)),some (.ref 2),some (.int n),some (.ref 3),some (.ref 4),some (.tup [.str "least",w1,.tup [.fz (iL LL),w2],w3,w4]),none,none,none,none,none] [A,B,.lst (iL D3),.al (.fz (nL os)),.lst (aY [T1,T2])]=some (true,[A,B,.lst (iL D3),.al (.fz (nL os)),.lst (aY [T1,T2])]):=by simp [i0,eq]
      rw [tB,t1,bind_some];show ak _ _ _ _=_;refine ao ap ?_;refine ao (s:=.iff _ _ _) (sl':=[some (.fz (iL ns)),some (.ref 2),some (.int n),some (.ref 3),some (.ref 4),some (.tup [.str "least",w1,.tup [.fz (iL LL),w2],w3,w4]),none,none,none,none,none]) (st':=[A,B,.lst (iL D3),.al (.fz (nL os)),.lst (aY [T1,T2,LL])]) ?_ rfl;show cR KL _ _ [A,B,.lst (iL D3),.al (.fz (nL os)),.lst (aY [T1,T2,LL])]=_;simp [i2,i20,hp,ne,cE]
     ·exact u6 hn ho hl oM hd3 (by simp) (by simp) (by
       intro T hT;simp only [zT,zX,or_false] at hT;rcases hT with rfl | rfl | rfl <;> assumption)
    ·cases c2
   ·rename_i s w
    have c1:=yJ ck;subst c1;have eq:cA .Eq [A,B,.lst (iL D3),.al (.fz (nL os)),.lst (aY [T1,T2])] (.str "never") (.str "least")=some false:=by kernel_rfl
    have i0:b9 [A,B,.lst (iL D3),.al (.fz (nL os)),.lst (aY [T1,T2])] (.tup [.str "never",w]) (.int 0)=some (.str "never"):=rfl;refine aE (sl':=[some (.fz (iL ns)),some (.ref 2),some (.int n),some (.ref 3),some (.ref 4),some (.tup [.str "never",w]),none,none,none,none,none]) (st':=[A,B,.lst (iL D3),.al (.fz (nL os)),.lst (aY [T1,T2])]) (by simp [i0,eq]) ?_;exact u6 hn ho hl oM hd3 (by simp) (by simp) (by
     intro T hT;simp only [zT,zX,or_false] at hT;rcases hT with rfl | rfl <;> assumption)
   ·cases ck
  ·cases ck
 obtain ⟨⟨v,s⟩,e,h⟩:=key;have h:v=.bl true:=h;subst h;exact ⟨s,e⟩
theorem Jx:Room e_law.d callerA:=⟨rfl,by decide,by decide,rfl⟩
theorem AQ:∀ t ∈ (My.tb:List (Addr × Pos × Str)),t.1 ∈ ([(198,196)]:List (Addr × Addr)).map (·.2):=by
 intro t ht;have:t=(196,⟨109,30,109,63⟩,("Sheet.raising_column":Str)++".<locals>."++"<lambda>"):=zM.mp ht;rw [this];exact zM.mpr rfl
theorem holds:∀ ns:List Int,ns.length <= 63->∃ st,IJ [.fz (ns.map .int)] []=some (.bl true,st):=fun _ h=>GL h
end
end LW
def PySem.W.Fast.tw13102029502668667348:=()
def PySem.W.Fast.tw115874864640393811:=()
def PySem.W.Fast.tw10486937115605177340:=()
def PySem.W.Fast.tw16242694617486287629:=()
def PySem.W.Fast.tw10946457793271645102:=()
def PySem.W.Fast.tw2990697042985894663:=()
def PySem.W.Fast.tw14615948631197918233:=()
def PySem.W.Fast.tw6752473828875569049:=()
def PySem.W.Fast.tw8740522488061607351:=()
def PySem.W.Fast.tw4715603149484715647:=()
def PySem.W.Fast.tw10997580365517442395:=()
def PySem.W.Fast.tw12530626306129131830:=()
def PySem.W.Fast.tw1776455978036946614:=()
def PySem.W.Fast.tw12996432635067907157:=()
def PySem.W.Fast.tw3245419145039916783:=()
def PySem.W.Fast.tw15805083052589901416:=()
def PySem.W.Fast.tw6439787608967904578:=()
def PySem.W.Fast.tw17404003984731796785:=()
def PySem.W.Fast.tw2143806623283417535:=()
def PySem.W.Fast.tw12401645324502312987:=()
def PySem.W.Fast.tw11915660664632132550:=()
def PySem.W.Fast.tw11515748060501122851:=()
def PySem.W.Fast.tw2379272211051494344:=()
def PySem.W.Fast.tw1086039858215355695:=()
def PySem.W.Fast.tw3821393152433067537:=()
def PySem.W.Fast.tw7661632712685756999:=()
def PySem.W.Fast.tw5553573387025413809:=()
def PySem.W.Fast.tw12420048756531472670:=()
def PySem.W.Fast.tw833502417682301630:=()
def PySem.W.Fast.tw10480527022931578001:=()
def PySem.W.Fast.tw11078199669699810893:=()
def PySem.W.Fast.tw9619302834285891896:=()
def PySem.W.Fast.tw2533773825412778689:=()
def PySem.W.Fast.tw15694657680201311274:=()
def PySem.W.Fast.tw11606623601416950135:=()
def PySem.W.Fast.tw5721258756206562377:=()
def PySem.W.Fast.tw16897168669593638859:=()
def PySem.W.Fast.tw10526266415570493970:=()
def PySem.W.Fast.tw5826570146976403716:=()
def PySem.W.Fast.tw15350267836637214963:=()
def PySem.W.Fast.tw13928709837327285227:=()
def PySem.W.Fast.tw117220310705816432:=()
def PySem.W.Fast.tw8958715591103801903:=()
def PySem.W.Fast.tw1354175724464674242:=()
def PySem.W.Fast.tw13637798953847211471:=()
def PySem.W.Fast.tw9742523882879003150:=()
def PySem.W.Fast.tw10512191254257515151:=()
def PySem.W.Fast.tw6831529235374877618:=()
def PySem.W.Fast.tw16228761978701406419:=()
def PySem.W.Fast.tw2941796907419815938:=()
def PySem.W.Fast.tw8461828095620857573:=()
def PySem.W.Fast.tw1986614975675405165:=()
def PySem.W.Fast.tw10388675197595954489:=()
def PySem.W.Fast.tw3204269708353939408:=()
def PySem.W.Fast.tw7060080005212063732:=()
def PySem.W.Fast.tw6399537092029564510:=()
def PySem.W.Fast.tw17928029187819269889:=()
def PySem.W.Fast.tw11066485667135151901:=()
def PySem.W.Fast.tw4606638427900896686:=()
def PySem.W.Fast.tw4909487947234425706:=()
def PySem.W.Fast.tw14216001482404217182:=()
def PySem.W.Fast.tw5432336734370747199:=()
def PySem.W.Fast.tw12619032738623306933:=()
def PySem.W.Fast.tw8837207220532065368:=()
def PySem.W.Fast.tw15765082095134083228:=()
def PySem.W.Fast.tw11398218062785806648:=()
def PySem.W.Fast.tw6406964160018511961:=()
def PySem.W.Fast.tw12128514315247596537:=()
def PySem.W.Fast.tw11012247813832442954:=()
def PySem.W.Fast.tw12960045414496403053:=()
def PySem.W.Fast.tw18139170701803922195:=()
def PySem.W.Fast.tw14096503905996056000:=()
def PySem.W.Fast.tw11975687994611235073:=()
def PySem.W.Fast.tw13992446801324473644:=()
def PySem.W.Fast.tw13564220984060537330:=()
def PySem.W.Fast.tw9037932988435972715:=()
def PySem.W.Fast.tw12011195841423174764:=()
def PySem.W.Fast.tw783853929994145056:=()
def PySem.W.Fast.tw2032327758983412219:=()
def PySem.W.Fast.tw9877478553615215232:=()
def PySem.W.Fast.tw17608521376615491184:=()
def PySem.W.Fast.tw17097685595281621382:=()
def PySem.W.Fast.tw13904810939148395436:=()
def PySem.W.Fast.tw884083942261296112:=()
def PySem.W.Fast.tw5288082000099460979:=()
def PySem.W.Fast.tw6274410893717256464:=()
def PySem.W.Fast.tw6596907076100303283:=()
def PySem.W.Fast.tw1344244922379778497:=()
def PySem.W.Fast.tw9419636687286115541:=()
def PySem.W.Fast.tw9172391706056210264:=()
def PySem.W.Fast.tw7371905765032710797:=()
def PySem.W.Fast.tw7866298343239168912:=()
def PySem.W.Fast.tw17398260887824556074:=()
def PySem.W.Fast.tw10348942655875463855:=()
def PySem.W.Fast.tw15998296725516257503:=()
def PySem.W.Fast.tw7445653538929386595:=()
def PySem.W.Fast.tw3808384671457578812:=()
def PySem.W.Fast.tw717120772360863564:=()
def PySem.W.Fast.tw13742091962234201186:=()
def PySem.W.Fast.tw12207715252467508972:=()
def PySem.W.Fast.tw5630922952531792535:=()
def PySem.W.Fast.tw6654008799849144403:=()
def PySem.W.Fast.tw5116026196511624246:=()
def PySem.W.Fast.tw5675092441148250880:=()
def PySem.W.Fast.tw5540562750848786308:=()
def PySem.W.Fast.tw1105711336592689872:=()
def PySem.W.Fast.tw3315669806628846873:=()
def PySem.W.Fast.tw9778185429463048110:=()
def PySem.W.Fast.tw17252410719690712986:=()
def PySem.W.Fast.tw6864423544445916312:=()
def PySem.W.Fast.tw2479456992629467692:=()
def PySem.W.Fast.tw7784909414787038376:=()
def PySem.W.Fast.tw12070588258507680468:=()
def PySem.W.Fast.tw1087305732468971727:=()
def PySem.W.Fast.tw8877826754266409894:=()
def PySem.W.Fast.tw11063807397760178789:=()
def PySem.W.Fast.tw13374479428294996881:=()
def PySem.W.Fast.tw14182088232949544567:=()
def PySem.W.Fast.tw6416123010781454926:=()
def PySem.W.Fast.tw16487033258557133451:=()
def PySem.W.Fast.tw16094310273468531115:=()
def PySem.W.Fast.tw8844466886464506486:=()
def PySem.W.Fast.tw315157235505180693:=()
def PySem.W.Fast.tw11113597330647886646:=()
def PySem.W.Fast.tw14363260987839197292:=()
def PySem.W.Fast.tw15718629993589304881:=()
def PySem.W.Fast.tw5120709682202392906:=()
def PySem.W.Fast.tw11483029938475449748:=()
def PySem.W.Fast.tw4554613000788301483:=()
def PySem.W.Fast.tw4486090195519345194:=()
def PySem.W.Fast.tw4133001335635613605:=()
def PySem.W.Fast.tw12545889836797956657:=()
def PySem.W.Fast.tw13443826229126297027:=()
def PySem.W.Fast.tw15721355621285618059:=()
def PySem.W.Fast.tw13005011530054384462:=()
def PySem.W.Fast.tw9500230245063910855:=()
def PySem.W.Fast.tw7145105994915462992:=()
def PySem.W.Fast.tw15269532622049098070:=()
def PySem.W.Fast.tw13172323281412416643:=()
def PySem.W.Fast.tw4691616103561312487:=()
def PySem.W.Fast.tw15323815193234719437:=()
def PySem.W.Fast.tw129133040750799598:=()
def PySem.W.Fast.tw15134355050212351158:=()
def PySem.W.Fast.tw13754524628722656467:=()
def PySem.W.Fast.tw13016515950520648892:=()
def PySem.W.Fast.tw6610475871134239484:=()
def PySem.W.Fast.tw14708006717824136599:=()
def PySem.W.Fast.tw18435222803110368543:=()
def PySem.W.Fast.tw16335805382507221715:=()
def PySem.W.Fast.tw16185586808545686339:=()
def PySem.W.Fast.tw13910729113969230457:=()
def PySem.W.Fast.tw1417371992358674958:=()
def PySem.W.Fast.tw16377284513736493758:=()
def PySem.W.Fast.tw7192320083274516742:=()
def PySem.W.Fast.tw3102447755568100320:=()
def PySem.W.Fast.tw5905379414149226846:=()
def PySem.W.Fast.tw6034421719802888845:=()
def PySem.W.Fast.tw10305601967338091324:=()
def PySem.W.Fast.tw9691375356798077927:=()
def PySem.W.Fast.tw6006829801259215997:=()
def PySem.W.Fast.tw7840204279082441232:=()
def PySem.W.Fast.tw5976287338002289925:=()
def PySem.W.Fast.tw13121977589681942295:=()
def PySem.W.Fast.tw16792483345070547931:=()
def PySem.W.Fast.tw4225277584220770726:=()
def PySem.W.Fast.tw5856658155691519179:=()
def PySem.W.Fast.tw15457014480969746113:=()
def PySem.W.Fast.tw14673320389386826976:=()
def PySem.W.Fast.tw16118659554566252565:=()
def PySem.W.Fast.tw12466274924491744264:=()
def PySem.W.Fast.tw7822280904772787583:=()
def PySem.W.Fast.tw3006756839858501888:=()
def PySem.W.Fast.tw14430610816085249000:=()
def PySem.W.Fast.tw4868387628596184149:=()
def PySem.W.Fast.tw15975083722332966526:=()
def PySem.W.Fast.tw18375597395526910780:=()
def PySem.W.Fast.tw17792670511556712684:=()
def PySem.W.Fast.tw7730328583600110659:=()
def PySem.W.Fast.tw7313642794681247606:=()
def PySem.W.Fast.tw6040657320136231787:=()
def PySem.W.Fast.tw14246906178817540483:=()
def PySem.W.Fast.tw11931383677206676172:=()
def PySem.W.Fast.tw7322189592407943945:=()
def PySem.W.Fast.tw13019510513865040924:=()
def PySem.W.Fast.tw3922608062425721327:=()
def PySem.W.Fast.tw15371478595238528972:=()
def PySem.W.Fast.tw16480862940147937370:=()
def PySem.W.Fast.tw9080873569494171367:=()
def PySem.W.Fast.tw8201769139600025157:=()
def PySem.W.Fast.tw7438699556911684414:=()
def PySem.W.Fast.tw7296238430750178118:=()
def PySem.W.Fast.tw4520335495092771:=()
def PySem.W.Fast.tw17556799128443640321:=()
def PySem.W.Fast.tw14226075791825032852:=()
def PySem.W.Fast.tw1443586456927245579:=()
def PySem.W.Fast.tw17192210538482016255:=()
def PySem.W.Fast.tw2259008067635265766:=()
def PySem.W.Fast.tw14735433175182114828:=()
def PySem.W.Fast.tw6267634102676557988:=()
def PySem.W.Fast.tw2068225402287091731:=()
def PySem.W.Fast.tw1716420747016122013:=()
def PySem.W.Fast.tw15218007034884770646:=()
def PySem.W.Fast.tw15090494249105734095:=()
def PySem.W.Fast.tw14551354455820891765:=()
def PySem.W.Fast.tw13041973896409802851:=()
def PySem.W.Fast.tw11418009594011511113:=()
def PySem.W.Fast.tw6035960230046683225:=()
def PySem.W.Fast.tw1249734845957676574:=()
def PySem.W.Fast.tw8900580793208017232:=()
def PySem.W.Fast.tw3402989008947594090:=()
def PySem.W.Fast.tw18095016159768370782:=()
def PySem.W.Fast.tw1425412064031150351:=()
def PySem.W.Fast.tw1151673291373393469:=()
def PySem.W.Fast.tw8066014595090154536:=()
def PySem.W.Fast.tw9305560849752188076:=()
def PySem.W.Fast.tw14598651490495429479:=()
def PySem.W.Fast.tw9577538755111512635:=()
def PySem.W.Fast.tw9554922372300137873:=()
def PySem.W.Fast.tw18111292298346619646:=()
def PySem.W.Fast.tw17223985523933770744:=()
def PySem.W.Fast.tw1405291721051800367:=()
def PySem.W.Fast.tw11822551029811299206:=()
def PySem.W.Fast.tw5898774768014935603:=()
def PySem.W.Fast.tw3028334849776969013:=()
def PySem.W.Fast.tw6399375559802115955:=()
def PySem.W.Fast.tw4652112987146961130:=()
def PySem.W.Fast.tw16657723922970193458:=()
def PySem.W.Fast.tw6046254021403530532:=()
def PySem.W.Fast.tw14202700163797966280:=()
def PySem.W.Fast.tw12242477267117850308:=()
def PySem.W.Fast.tw9332927926291857721:=()
def PySem.W.Fast.tw8178540114252843915:=()
def PySem.W.Fast.tw8063061506490829615:=()
def PySem.W.Fast.tw7735214460811315679:=()
def PySem.W.Fast.tw7495389658700675507:=()
def PySem.W.Fast.tw7413959868429952640:=()
def PySem.W.Fast.tw6710396404214405062:=()
def PySem.W.Fast.tw6677794984787651728:=()
def PySem.W.Fast.tw6649194146373331986:=()
def PySem.W.Fast.tw6640675723103481343:=()
def PySem.W.Fast.tw5632505269405090279:=()
def PySem.W.Fast.tw5612947220033091350:=()
def PySem.W.Fast.tw4897216894035805333:=()
def PySem.W.Fast.tw4626323704621752350:=()
def PySem.W.Fast.tw37616721866655406:=()
def PySem.W.Fast.tw3254671062018967913:=()
def PySem.W.Fast.tw2984055147024888189:=()
def PySem.W.Fast.tw2732215602435113726:=()
def PySem.W.Fast.tw2407614428552278342:=()
def PySem.W.Fast.tw1785638848068622646:=()
def PySem.W.Fast.tw17619671248702706841:=()
def PySem.W.Fast.tw17538372542203245798:=()
def PySem.W.Fast.tw17342010888608421957:=()
def PySem.W.Fast.tw17250522741124187483:=()
def PySem.W.Fast.tw17094531598932166154:=()
def PySem.W.Fast.tw16814557592488701781:=()
def PySem.W.Fast.tw16678194558977194291:=()
def PySem.W.Fast.tw16293060716634999153:=()
def PySem.W.Fast.tw15683917520343483961:=()
def PySem.W.Fast.tw15580966189544543522:=()
def PySem.W.Fast.tw14527822953741135648:=()
def PySem.W.Fast.tw14363800398675896997:=()
def PySem.W.Fast.tw14181431551954064978:=()
def PySem.W.Fast.tw14176751809988691923:=()
def PySem.W.Fast.tw13236482695482761510:=()
def PySem.W.Fast.tw13069522887197010716:=()
def PySem.W.Fast.tw13020909699627729926:=()
def PySem.W.Fast.tw12968244160415253915:=()
def PySem.W.Fast.tw12587512496264538284:=()
def PySem.W.Fast.tw12544596535331477814:=()
def PySem.W.Fast.tw1113758267110642766:=()
def PySem.W.Fast.tw6422528240466967847:=()
def PySem.W.Fast.tw9293195528522490683:=()
def PySem.W.Fast.tw16768591428175766310:=()
def PySem.W.Fast.tw12282932033500893981:=()
def PySem.W.Fast.tw12328347496948154515:=()
def PySem.W.Fast.tw9610226788270949020:=()
def PySem.W.Fast.tw9412793214205958842:=()
def PySem.W.Fast.tw8788153228239853663:=()
def PySem.W.Fast.tw17743121926325732505:=()
def PySem.W.Fast.tw12367290516172150198:=()
def PySem.W.Fast.tw10965060161150069539:=()
def PySem.W.Fast.tw9371609620758947397:=()
def PySem.W.Fast.tw12754431396780211190:=()
def PySem.W.Fast.tw14499158205086004307:=()
def PySem.W.Fast.tw13933513568475814333:=()
def PySem.W.Fast.tw2504043691882589111:=()
def PySem.W.Fast.tw1911547385333335993:=()
def PySem.W.Fast.tw8370002562111805433:=()
def PySem.W.Fast.tw5940084308564844066:=()
def PySem.W.Fast.tw4161948197928798107:=()
def PySem.W.Fast.tw3484547024299485789:=()
def PySem.W.Fast.tw16853413957577558840:=()
def PySem.W.Fast.tw13980123436740934117:=()
def PySem.W.Fast.tw10724515327109837713:=()
def PySem.W.Fast.tw16946803021552662190:=()
def PySem.W.Fast.tw10711649500705857464:=()
def PySem.W.Fast.tw3587997852351421882:=()
def PySem.W.Fast.tw11640226520700650775:=()
def PySem.W.Fast.tw10755826161397934224:=()
open PySem PySem.W PyProof.Rows
set_option maxRecDepth 100000 in
set_option maxHeartbeats 0 in
theorem PySem.Challenge.cw_telltight_k36_tables_told_of_locks_holds : PySem.Challenge.rw_telltight_k36_tables_told_of_locks.Holds := by
 w_on; o_law; k_head; (case hw => w_witness2)
 k_fill
 refine R.walk_R (l := PySem.Challenge.rw_telltight_k36_tables_told_of_locks) (k := LW.e_law.d) (fn := LW.IJ) (tabs := [(198, 196)]) rfl rfl ?hrr (fun w h Y => ⟨km_in_of Y, fun q hq => km_tabs_of Y q.2 (by simp only [zM] at hq ⊢; rw [hq])⟩) ?hcc ?hKK ?htt LW.holds ?F
 case hrr => exact LW.Jx
 case hcc => intro w q hq; simp only [zM] at hq; rw [hq]; kernel_rfl
 case hKK => intro w; kernel_rfl
 case htt => intro t ht; exact LW.AQ t ht
 case F =>
  intro w mg fa h KX G hmg;refine R.law_F (gs := LW.gs) (cl := LW.cl) (pre := LW.pre) (e := LW.e_law) KX G hmg ?nb ?gs ?cl LW.Cd LW.Ce (LW.Do KX G ?h0 ?h1 ?h2 ?h3 ?h4 ?h5 ?h6 ?h7 ?h8 ?h9 ?h10 ?h11 ?h12 ?h13 ?h14 ?h15 ?h16 ?h17 ?h18 ?h19 ?h20 ?h21 ?h22 ?h23 ?h24 ?h25 ?h26 ?h27 ?h28 ?h29 ?h30 ?h31 ?h32 ?h33 ?h34 ?h35 ?h36 ?h37 ?h38 ?h39 ?h40 ?h41 ?h42 ?h43 ?h44 ?h45 ?h46 ?h47 ?h48 ?h49 ?h50 ?h51 ?h52 ?h53 ?h54 ?h55 ?h56 ?h57 ?h58 ?h59 ?h60 ?h61) ?law rfl LW.GM
  case nb => kernel_rfl
  case gs => intro p hp; simp only [LW.gs, zT, zX, or_false] at hp; rcases hp with rfl | rfl <;> exact ⟨_, by k_is⟩
  case cl => intro p hp; simp only [LW.cl, zT, zX, or_false] at hp; rcases hp with rfl <;> exact ⟨⟨_, by k_is, by kernel_rfl, by kernel_rfl, by kernel_rfl, by kernel_rfl⟩, ⟨_, by k_is, by kernel_rfl⟩⟩
  case law => exact ⟨_, _, _, _, _, _, _, _, _, _, by k_is, by k_is, by k_is, by k_is, .inl rfl⟩
  case h0 => exact ⟨_, by k_is, by kernel_rfl, by kernel_rfl, by kernel_rfl, by kernel_rfl⟩
  case h1 => exact ⟨_, by k_is, by kernel_rfl, by kernel_rfl⟩
  case h30 => exact ⟨_, _, _, _, _, _, _, _, _, _, _, by k_is, by k_is, by k_is, by k_is, by k_is, by k_is, .inr ⟨_, _, _, rfl, rfl, by kernel_rfl, rfl⟩⟩
  all_goals first | exact ⟨_, _, _, _, _, _, _, _, _, _, by k_is, by k_is, by k_is, by k_is, .inl rfl⟩ | exact ⟨_, _, _, _, _, _, _, _, _, _, _, by k_is, by k_is, by k_is, by k_is, by k_is, by k_is, .inl rfl⟩
#print axioms PySem.Challenge.cw_telltight_k36_tables_told_of_locks_holds
