import PyProof.Rows.All
import Wide.All
import OpenK.AllK
import Wide.FinOn
import PySem.Challenge.RW_telltight_k84_whole_safes_keep_locks
set_option bootstrap.genMatcherCode false
set_option compiler.extract_closed false
noncomputable section
open Option (bind_some map_some)
open PySem.W (CodeHd Frag InitBack InstAt TabsAt any_some bind_fn callWith_K cellsFrom_some codeHdIn codeHd_of_K codeIn codeRec_of emptyDict findIn findObj_own fnOf get_value handedIn hasDictIn hideAll hideAll_get hideAll_none hideAll_size instObj isFn keepIn ki_setAt ki_setBack kla_callFunE kla_codeExpr kla_eval kla_fn kla_makeFunction kla_makeFunctionHit km_in_of km_tabs_of lookIn looks_clsIn looks_findIn make_core makesIn makes_of mem_of_lookupK methodCall_KW methodObj method_fn mg_none_of mg_of noTabs nsIn of_hideAll osa_open plainGet plainGet_of plainOver set_plain tabObj takerIn truthy_bytes typeIn)
theorem oM {p:Prop} (h:p:=by first | omega | (refine @id (@Ne Nat _ _) ?_;omega)):p:=h
theorem dC {p:Prop} (h:p:=by decide):p:=h
set_option Elab.async false
set_option linter.all false
set_option maxRecDepth 100000
theorem zA{α β}{o:Option α}{f:α->Option β}{b}:o.bind f=some b->∃a,o=some a∧f a=some b:=Option.bind_eq_some_iff.mp
theorem zB:type_of% @List.getElem?_eq_some_iff:=@List.getElem?_eq_some_iff
theorem zC:type_of% @Bool.and_eq_true:=@Bool.and_eq_true
theorem zD:type_of% @List.getD_eq_getElem?_getD:=@List.getD_eq_getElem?_getD
theorem zE:type_of% @Option.map_eq_some_iff:=@Option.map_eq_some_iff
theorem zF:type_of% @List.getElem?_eq_getElem:=@List.getElem?_eq_getElem
theorem zG:type_of% @PySem.Heap.get?_push_of_some:=@PySem.Heap.get?_push_of_some
theorem zH:type_of% @List.length_map:=@List.length_map
theorem zI:type_of% @List.size_toArray:=@List.size_toArray
theorem zJ:type_of% @Nat.lt_of_lt_of_le:=@Nat.lt_of_lt_of_le
theorem zK:type_of% @List.mem_append_right:=@List.mem_append_right
theorem zL:type_of% @List.mem_append_left:=@List.mem_append_left
theorem zM:type_of% @List.mem_singleton:=@List.mem_singleton
theorem zN:type_of% @List.getElem?_append_left:=@List.getElem?_append_left
theorem zO:type_of% @List.map_cons:=@List.map_cons
theorem zP:type_of% @Nat.le_refl:=@Nat.le_refl
theorem zQ:type_of% @List.mem_cons_of_mem:=@List.mem_cons_of_mem
theorem zR:type_of% @List.getElem?_map:=@List.getElem?_map
theorem zS:type_of% @Nat.le_of_ble_eq_true:=@Nat.le_of_ble_eq_true
theorem zT:type_of% @List.mem_cons:=@List.mem_cons
theorem zU:type_of% @Nat.ne_of_lt:=@Nat.ne_of_lt
theorem zV:type_of% @List.length_append:=@List.length_append
theorem zW:type_of% @List.mem_of_getElem?:=@List.mem_of_getElem?
theorem zX:type_of% @List.not_mem_nil:=@List.not_mem_nil
theorem zY:type_of% @PySem.Heap.get?_push_size:=@PySem.Heap.get?_push_size
theorem zZ:type_of% @List.mem_append:=@List.mem_append
theorem z0:type_of% @Nat.le_trans:=@Nat.le_trans
theorem z5:type_of% @List.getElem?_append_right:=@List.getElem?_append_right
theorem z6:type_of% @List.mem_cons_self:=@List.mem_cons_self
theorem z7:type_of% @List.getElem?_of_mem:=@List.getElem?_of_mem
theorem z8:type_of% @decide_eq_false:=@decide_eq_false
theorem z9:type_of% @Bool.false_eq_true:=@Bool.false_eq_true
theorem yA:type_of% @decide_eq_true_eq:=@decide_eq_true_eq
theorem yB:type_of% @List.mem_map:=@List.mem_map
theorem yC:type_of% @Option.some.inj:=@Option.some.inj
theorem yD:type_of% @PySem.wpAny_bind:=@PySem.wpAny_bind
theorem yE:type_of% @PySem.wpAny_pure:=@PySem.wpAny_pure
theorem yF:type_of% @if_neg:=@if_neg
theorem yG:type_of% @if_pos:=@if_pos
theorem yH:type_of% @PySem.Heap.lt_size:=@PySem.Heap.lt_size
theorem yI:type_of% @eq_of_beq:=@eq_of_beq
theorem yJ:type_of% @Nat.ble_eq_true_of_le:=@Nat.ble_eq_true_of_le
theorem yK:type_of% @Nat.lt_of_le_of_lt:=@Nat.lt_of_le_of_lt
theorem yL:type_of% @List.append_assoc:=@List.append_assoc
theorem yM:type_of% @List.lookup_cons:=@List.lookup_cons
theorem yN:type_of% @List.all_eq_true:=@List.all_eq_true
theorem yO:type_of% @PySem.wpAny_holding:=@PySem.wpAny_holding
theorem yP:type_of% @PySem.wpAny_mono:=@PySem.wpAny_mono
theorem yQ:type_of% @Nat.lt_or_ge:=@Nat.lt_or_ge
theorem yR:type_of% @decide_eq_true:=@decide_eq_true
theorem yS:type_of% @List.getElem?_set:=@List.getElem?_set
theorem yT:type_of% @List.length_cons:=@List.length_cons
theorem yU:type_of% @Nat.le_of_lt:=@Nat.le_of_lt
theorem yV:type_of% @Nat.lt_irrefl:=@Nat.lt_irrefl
namespace L2
open PySem PySem.Spec PyProof.Rows
abbrev a0:=Sum Int Str
def gX:a0->Value->Bool
 | .inl k,v=>Value.isInt k v
 | .inr x,v=>Value.isStrOf x v
def JH (w:World):a0->Int
 | .inl k=>hashInt k
 | .inr x=>hashStr w x
theorem cA:∀ {k:a0}{v:Value},gX k v=true->(∃ i t,k=Sum.inl i/\v=Value.int i t)\/(∃ x t,k=Sum.inr x/\v=Value.str x t)
 | .inl i,v,h=>by
  obtain ⟨t,e⟩:=Value.isInt_shape (k:=i) (v:=v) h;exact .inl ⟨i,t,rfl,e⟩
 | .inr x,v,h=>by
  obtain ⟨t,e⟩:=Value.isStrOf_shape (x:=x) (v:=v) h;exact .inr ⟨x,t,rfl,e⟩
theorem v0 (i:Int) (t:Tok):gX (.inl i) (.int i t)=true:=by simp [gX,Value.isInt]
theorem vY (x:Str) (t:Tok):gX (.inr x) (.str x t)=true:=by simp [gX,Value.isStrOf]
theorem EM (a b:Int):decide ((Sum.inl a:a0)=Sum.inl b)=(a == b):=by
 by_cases e:a=b
 ·subst e;simp
 ·have h:¬ (Sum.inl a:a0)=Sum.inl b:=fun q=>e (Sum.inl.inj q)
  rw [z8 h];exact (beq_eq_false_iff_ne.mpr e).symm
theorem EJ (a b:Str):decide ((Sum.inr a:a0)=Sum.inr b)=decide (a=b):=by
 by_cases e:a=b
 ·subst e;simp
 ·have h:¬ (Sum.inr a:a0)=Sum.inr b:=fun q=>e (Sum.inr.inj q)
  rw [z8 h,z8 e]
theorem EL (a:Int) (b:Str):decide ((Sum.inl a:a0)=Sum.inr b)=false:=z8 (fun q=>nomatch q)
theorem EK (a:Str) (b:Int):decide ((Sum.inr a:a0)=Sum.inl b)=false:=z8 (fun q=>nomatch q)
def bX (prog:Program) (w:World):PySem.KeyKind prog w a0 where
 is:=gX
 hash:=JH w
 inj:=fun v a b ha hb=>by
  rcases cA ha with ⟨i,t,rfl,rfl⟩ | ⟨x,t,rfl,rfl⟩
  ·rcases cA hb with ⟨j,u,rfl,e⟩ | ⟨y,u,rfl,e⟩
   ·injection e with e1 _;rw [e1]
   ·exact nomatch e
  ·rcases cA hb with ⟨j,u,rfl,e⟩ | ⟨y,u,rfl,e⟩
   ·exact nomatch e
   ·injection e with e1 _;rw [e1]
 byValue:=fun k v h=>by
  rcases cA h with ⟨i,t,rfl,rfl⟩ | ⟨x,t,rfl,rfl⟩ <;> rfl
 pyHash:=fun hv h=>by
  rcases cA hv with ⟨i,t,rfl,rfl⟩ | ⟨x,t,rfl,rfl⟩
  ·exact wpAny_pyHash_int h
  ·exact wpAny_pyHash_str h
 eqBool:=fun hu hv h=>by
  rcases cA hu with ⟨i,t,rfl,rfl⟩ | ⟨x,t,rfl,rfl⟩
  ·rcases cA hv with ⟨j,u,rfl,rfl⟩ | ⟨y,u,rfl,rfl⟩
   ·rw [EM] at h;exact wpAny_eqBool_int h
   ·rw [EL] at h;exact SeqAt.EqAt.int_str i t y u _ _ _ _ h
  ·rcases cA hv with ⟨j,u,rfl,rfl⟩ | ⟨y,u,rfl,rfl⟩
   ·rw [EK] at h;exact SeqAt.EqAt.str_int x t j u _ _ _ _ h
   ·rw [EJ] at h;exact wpAny_eqBool_str h
 «strs»:=fun k x t v h=>by
  rcases cA h with ⟨i,u,rfl,e⟩ | ⟨y,u,rfl,e⟩
  ·exact nomatch e
  ·injection e with e1 _
   subst e1;cases v <;> rfl
theorem rF (prog:Program) (w:World) (i:Int) (t:Tok):(bX prog w).is (.inl i) (.int i t)=true:=v0 i t
theorem rD (prog:Program) (w:World) (x:Str) (t:Tok):(bX prog w).is (.inr x) (.str x t)=true:=vY x t
inductive V where
 | non | bl (b:Bool) | int (i:Int) | str (x:Str) | byt (b:Array UInt8) | flt (b:UInt64) | ref (a:Addr) | ty (n:String)
 deriving DecidableEq
def RelV:V->Value->Prop
 | .non,u=>u=Value.none
 | .bl b,u=>u=Value.bool b
 | .int i,u=>∃ t,u=Value.int i t
 | .str x,u=>∃ t,u=Value.str x t
 | .byt b,u=>∃ t,u=Value.bytes b t
 | .flt b,u=>∃ t,u=Value.float b t
 | .ref a,u=>u=Value.ref a
 | .ty n,u=>u=Value.type n
abbrev Vals:List V->List Value->Prop:=Paired RelV
theorem Vals.length {xs:List V}{us:List Value} (r:Vals xs us):xs.length=us.length:=Paired.length r
theorem Vals.get:∀ {xs:List V}{us:List Value}{i:Nat}{x:V},Vals xs us->xs[i]?=some x->∃ u,us[i]?=some u/\RelV x u
 | _,_,_,_,.nil,e=>by simp at e
 | _,_,0,_,.cons r _,e=>by simp at e;subst e;exact ⟨_,rfl,r⟩
 | _,_,i + 1,x,.cons _ t,e=>by
  obtain ⟨u,h1,h2⟩:=Vals.get (i:=i) (x:=x) t (by simpa using e);exact ⟨u,by simpa using h1,h2⟩
theorem Vals.set {x:V}{u:Value} (r:RelV x u):∀ {xs:List V}{us:List Value} (i:Nat),Vals xs us->Vals (xs.set i x) (us.set i u)
 | _,_,_,.nil=>.nil
 | _,_,0,.cons _ t=>.cons r t
 | _,_,i + 1,.cons q t=>.cons q (Vals.set r i t)
theorem Vals.append:∀ {xs ys:List V}{us ws:List Value},Vals xs us->Vals ys ws->Vals (xs++ys) (us++ws):=by
 intro xs ys us ws h s
 induction h with
 | nil=>exact s
 | cons r t ih=>exact .cons r ih
theorem Vals.take:∀ {xs:List V}{us:List Value} (n:Nat),Vals xs us->Vals (xs.take n) (us.take n):=by
 intro xs us n h
 induction h generalizing n with
 | nil=>cases n <;> exact .nil
 | cons r t ih=>cases n with
  | zero=>exact .nil
  | succ n=>exact .cons r (ih n)
theorem Vals.drop:∀ {xs:List V}{us:List Value} (n:Nat),Vals xs us->Vals (xs.drop n) (us.drop n):=by
 intro xs us n h
 induction h generalizing n with
 | nil=>cases n <;> exact .nil
 | cons r t ih=>cases n with
  | zero=>exact .cons r t
  | succ n=>exact ih n
def RelO:Option V->Option Value->Prop
 | some v,some u=>RelV v u
 | none,none=>True
 | _,_=>False
def KV {κ:Type}:List (κ × V)->List (κ × Value)->Prop:=Paired fun (p:κ × V) (q:κ × Value)=>p.1=q.1/\RelV p.2 q.2
def kV:a0->V
 | .inl i=>.int i
 | .inr x=>.str x
inductive HO where
  | lst (xs:List V)
  | tup (xs:List V)
  | dK (L6:List (a0 × V)) | dT (L6:List (List a0 × V))
  | set (S:Int->Bool) (n:Nat)
  | ins (C dx:Addr) (fs:List (Str × V))
  | own (x:Addr)
  | xd (fs:List (Str × V))
  | met (f x:Addr)
  | rng (lo hi:Int)
  | frz (o:Obj) (u:HO)
  | tbl (ps:Array Value)
  | ext (φ:Heap->Prop)
abbrev Hp:=Addr->Option HO
def af (H:Hp) (a:Addr) (o:HO):Hp:=fun b=>if b=a then some o else H b
theorem ar {H:Hp}{a:Addr}{o:HO}:af H a o a=some o:=by unfold af;rw [yG rfl]
theorem ad {H:Hp}{a b:Addr}{o:HO} (h:b ≠ a):af H a o b=H b:=by unfold af;rw [yF h]
theorem ue {H:Hp}{a b:Addr}{o u:HO} (h:H a=some o) (h':H b=some u) (d:o ≠ u):a ≠ b:=by
 intro e;subst e;rw [h] at h';exact d (yC h')
theorem be {H:Hp}{a b:Addr}{o:HO} (h:H a=some o) (h':H b=none):a ≠ b:=by
 intro e;subst e;rw [h] at h';cases h'
section
variable (P:Program) (w:World)
def ObjOk (H:Hp) (h:Heap) (a:Addr):HO->Prop
 | .lst xs=>xs.length <= sizeLine/\∃ (L9:List Value) (n:Nat),Vals xs L9/\h.get? a=some { cls:=.type "list",data:=.seq L9.toArray n }
 | .tup xs=>xs.length <= sizeLine/\∃ L9:List Value,Vals xs L9/\IsTup h a L9.toArray
 | .dK L6=>L6.length <= sizeLine/\(a == sysModules)=false/\∃ vs,KV L6 vs/\h.DictOf (bX P w) a vs
 | .dT L6=>L6.length <= sizeLine/\(a == sysModules)=false/\∃ xs:List (List a0 × Addr × Value),
   Paired (fun (p:List a0 × V) (q:List a0 × Addr × Value)=>p.1=q.1/\H q.2.1=some (.tup (p.1.map kV))/\RelV p.2 q.2.2) L6 xs /\
   ∃ o es ep,h.get? a=some o/\o.ExactDict/\o.data=.dict es ep/\es.toList=xs.map (entryOfKey (tupleKind (bX P w)))/\(xs.map (·.1)).Nodup
 | .set S n=>h.SetOf (intKind P w) a S n
 | .ins C dx fs=>H dx=some (.own a)/\fs.length <= 1000/\dx ≠ a/\h.get? a=some (instObj C dx) /\
   ∃ mA,h.Ns1 dx mA/\(∀ f,RelO (fs.lookup f) (mA f))/\PySem.Within mA (fs.map (·.1))
 | .own _=>∃ o,h.get? a=some o
 | .xd fs=>∃ mA,h.Ns1 a mA/\∀ f,RelO (fs.lookup f) (mA f)
 | .rng lo hi=>∃ t u v,h.get? a=some { cls:=.type "range",data:=.fields #[.int lo t,.int hi u,.int 1 v] }
 | .frz o u=>h.get? a=some o/\ObjOk H h a u
 | .tbl ps=>h.get? a=some { cls:=.none,data:=.fields ps }
 | .met f x=>h.get? a=some (methodObj (.ref f) (.ref x))
 | .ext φ=>φ h/\(∃ o,h.get? a=some o)/\∀ h1 h2:Heap,φ h1->(∀ o,h1.get? a=some o->h2.get? a=some o)->φ h2
def HOk (H:Hp) (h:Heap):Prop:=∀ a o,H a=some o->ObjOk P w H h a o
end
section
variable {P:Program}{w:World}{H H':Hp}{h h':Heap}{a:Addr}{o:HO}
theorem ObjOk.lt (x:ObjOk P w H h a o):a < h.objs.size:=by
 cases o with
 | lst xs=>obtain ⟨_,_,_,_,e⟩:=x;exact yH e
 | tup xs=>obtain ⟨_,_,_,p⟩:=x;exact p.lt
 | dK L6=>obtain ⟨_,_,_,_,o,_,_,e,_⟩:=x;exact yH e
 | dT L6=>obtain ⟨_,_,_,_,o,_,_,e,_⟩:=x;exact yH e
 | set S n=>obtain ⟨o,_,_,_,e,_⟩:=x;exact yH e
 | ins C dx fs=>obtain ⟨_,_,_,e,_⟩:=x;exact yH e
 | own y=>obtain ⟨_,e⟩:=x;exact yH e
 | xd fs=>obtain ⟨_,⟨_,_,_,e,_⟩,_⟩:=x;exact yH e
 | rng lo hi=>obtain ⟨_,_,_,e⟩:=x;exact yH e
 | frz ob u=>obtain ⟨e,_⟩:=x;exact yH e
 | tbl ps=>exact yH (show h.get? a=some _ from x)
 | met f y=>exact yH (show h.get? a=some _ from x)
 | ext φ=>obtain ⟨_,⟨_,e⟩,_⟩:=x;exact yH e
theorem Paired.mapP {α β:Type}{F G:α->β->Prop}:∀ {l₁:List α}{l₂:List β},Paired F l₁ l₂->(∀ a b,F a b->G a b)->Paired G l₁ l₂:=by
 intro l₁ l₂ h f
 induction h with
 | nil=>exact .nil
 | cons r t ih=>exact .cons (f _ _ r) ih
theorem ObjOk.stay (x:ObjOk P w H h a o) (k:∀ b u,(b=a\/H b=some (.own a))->h.get? b=some u->h'.get? b=some u)
  (ho:∀ b,H b=some (.own a)->H' b=some (.own a)) (ht:∀ b xs,H b=some (.tup xs)->H' b=some (.tup xs)):ObjOk P w H' h' a o:=by
 induction o with
 | lst xs=>obtain ⟨z,L9,n,r,e⟩:=x;exact ⟨z,L9,n,r,k _ _ (.inl rfl) e⟩
 | tup xs=>obtain ⟨z,L9,r,ob,e,c⟩:=x;exact ⟨z,L9,r,ob,k _ _ (.inl rfl) e,c⟩
 | dK L6=>obtain ⟨z,y,vs,r,ob,es,ep,e,c⟩:=x;exact ⟨z,y,vs,r,ob,es,ep,k _ _ (.inl rfl) e,c⟩
 | dT L6 =>
  obtain ⟨z,y,xs,r,ob,es,ep,e,c⟩:=x;exact ⟨z,y,xs,Paired.mapP r fun p q z=>⟨z.1,ht _ _ z.2.1,z.2.2⟩,ob,es,ep,k _ _ (.inl rfl) e,c⟩
 | set S n=>obtain ⟨ob,es,ep,t,e,c⟩:=x;exact ⟨ob,es,ep,t,k _ _ (.inl rfl) e,c⟩
 | ins C dx fs =>
  obtain ⟨d,z,ne,e,mA,⟨od,es,ep,e2,c⟩,r⟩:=x;exact ⟨ho _ d,z,ne,k _ _ (.inl rfl) e,mA,⟨od,es,ep,k _ _ (.inr d) e2,c⟩,r⟩
 | own y=>obtain ⟨ob,e⟩:=x;exact ⟨ob,k _ _ (.inl rfl) e⟩
 | xd fs=>obtain ⟨mA,⟨od,es,ep,e,c⟩,r⟩:=x;exact ⟨mA,⟨od,es,ep,k _ _ (.inl rfl) e,c⟩,r⟩
 | rng lo hi=>obtain ⟨t,u,v,e⟩:=x;exact ⟨t,u,v,k _ _ (.inl rfl) e⟩
 | frz ob u ih=>obtain ⟨e,q⟩:=x;exact ⟨k _ _ (.inl rfl) e,ih q⟩
 | tbl ps =>
  have e:h.get? a=some { cls:=.none,data:=.fields ps }:=x;show h'.get? a=some { cls:=.none,data:=.fields ps };exact k a _ (.inl rfl) e
 | met f y =>
  have e:h.get? a=some (methodObj (.ref f) (.ref y)):=x;show h'.get? a=some (methodObj (.ref f) (.ref y));exact k a _ (.inl rfl) e
 | ext φ=>obtain ⟨p,⟨o,e⟩,st⟩:=x;exact ⟨st _ _ p fun o q=>k _ _ (.inl rfl) q,⟨o,k _ _ (.inl rfl) e⟩,st⟩
theorem HOk.lt (x:HOk P w H h) (e:H a=some o):a < h.objs.size:=(x a o e).lt
theorem HOk.fresh (x:HOk P w H h) (e:h.objs.size <= a):H a=none:=by
 cases q:H a with
 | none=>rfl
 | some u=>exact absurd (zJ (x.lt q) e) (yV _)
theorem HOk.kept (x:HOk P w H h) (k:∀ b u,h.get? b=some u->h'.get? b=some u):HOk P w H h':=fun a o e =>
 (x a o e).stay (fun b u _ q=>k b u q) (fun _ q=>q) fun _ _ q=>q
theorem HOk.laid (x:HOk P w H h) (k:∀ b u,h.get? b=some u->h'.get? b=some u) (hp:h.objs.size <= a) (new:ObjOk P w (af H a o) h' a o):HOk P w (af H a o) h':=fun b u e=>by
 have hn:=x.fresh hp;by_cases hb:b=a
 ·subst hb;rw [ar] at e;cases e;exact new
 ·rw [ad hb] at e
  exact (x b u e).stay (fun c v _ q=>k c v q) (fun c q=>by rw [ad (be q hn)];exact q) fun c xs q=>by rw [ad (be q hn)];exact q
end
def Rd (H:Hp) (a:Addr) (u:HO):Prop:=H a=some u\/∃ o,H a=some (.frz o u)
theorem Rd.ok {P:Program}{w:World}{H:Hp}{h:Heap}{a:Addr}{u:HO} (r:Rd H a u) (x:HOk P w H h):ObjOk P w H h a u:=by
 rcases r with r | ⟨o,r⟩
 ·exact x a u r
 ·obtain ⟨_,q⟩:=x a _ r
  exact q
def wB:Option HO->Prop
 | some (.lst _)=>True
 | some (.dK _)=>True
 | some (.dT _)=>True
 | some (.set _ _)=>True
 | some (.ins _ _ _)=>True
 | some (.ext _)=>True
 | _=>False
section
variable {P:Program}{w:World}{H:Hp}{h h':Heap}{x e:Addr}{o':HO}
theorem HOk.write (ok:HOk P w H h) (mu:wB (H x)) (he:e=x\/H e=some (.own x)) (k:∀ b u,b ≠ e->h.get? b=some u->h'.get? b=some u) (heo:∃ u,h'.get? e=some u)
  (new:ObjOk P w (af H x o') h' x o'):HOk P w (af H x o') h':=fun b u q=>by
 have nown:∀ c y,H c=some (.own y)->c ≠ x:=fun c y r z=>by subst z;rw [r] at mu;exact mu
 have ntup:∀ c xs,H c=some (.tup xs)->c ≠ x:=fun c xs r z=>by subst z;rw [r] at mu;exact mu
 by_cases hb:b=x
 ·subst hb;rw [ar] at q;cases q;exact new
 ·rw [ad hb] at q
  by_cases hbe:b=e
  ·have q':H b=some (.own x):=by
    rcases he with z | z
    ·exact absurd (hbe.trans z) hb
    ·rw [hbe];exact z
   rw [q] at q';cases q';obtain ⟨v,hv⟩:=heo;exact ⟨v,by rw [hbe];exact hv⟩
  ·refine (ok b u q).stay (fun c v hc r=>k c v ?_ r) (fun c r=>by rw [ad (nown c b r)];exact r) fun c xs r=>by rw [ad (ntup c xs r)];exact r
   rcases hc with rfl | hc
   ·exact hbe
   ·rintro rfl
    rcases he with z | z
    ·exact nown c b hc z
    ·rw [hc] at z;cases z;exact hb rfl
end
structure Un (fs ex:List Addr) (H H':Hp) (h h':Heap):Prop where
 keep:∀ b o,h.get? b=some o->H b=none->b ∉ fs->b ∉ ex->h'.get? b=some o
 slot:∀ b o,h.get? b=some o->H b=none->b ∈ fs->b ∉ ex->∃ sl,h'.get? b=some { o with slots:=sl }
 free:∀ b o,h.get? b=some o->H b=none->b ∉ ex->H' b=none
 there:∀ b o,h.get? b=some o->b ∉ ex->∃ o',h'.get? b=some o'
 tups:∀ b xs,H b=some (.tup xs)->H' b=some (.tup xs)
 frzs:∀ b o u,H b=some (.frz o u)->H' b=some (.frz o u)
 tbls:∀ b ps,H b=some (.tbl ps)->∃ more,H' b=some (.tbl (ps++more))
section
variable {fs fs' ex ex':List Addr}{H H1 H2:Hp}{h h1 h2 h':Heap}{a x e:Addr}{o:HO}
theorem Un.any (u:Un fs ex H H1 h h1) {b:Addr}{ob:Obj} (q:h.get? b=some ob) (n:H b=none) (hx:b ∉ ex):∃ sl,h1.get? b=some { ob with slots:=sl }:=by
 by_cases hb:b ∈ fs
 ·exact u.slot b ob q n hb hx
 ·exact ⟨ob.slots,u.keep b ob q n hb hx⟩
theorem Un.kept (k:∀ b u,h.get? b=some u->h'.get? b=some u):Un fs ex H H h h' :=
 ⟨fun b ob q _ _ _=>k b ob q,fun b ob q _ _ _=>⟨ob.slots,k b ob q⟩,fun _ _ _ n _=>n,fun b ob q _=>⟨ob,k b ob q⟩,fun _ _ q=>q,fun _ _ _ q=>q,fun _ ps q=>⟨#[],by rw [q];simp⟩⟩
theorem Un.refl:Un fs ex H H h h:=Un.kept fun _ _ q=>q
theorem Un.laid (k:∀ b u,h.get? b=some u->h'.get? b=some u) (hp:h.objs.size <= a) (hn:H a=none):Un fs ex H (af H a o) h h' where
 keep:=fun b u q _ _ _=>k b u q
 slot:=fun b u q _ _ _=>⟨u.slots,k b u q⟩
 free:=fun b u q n _=>by rw [ad (zU (zJ (yH q) hp))];exact n
 there:=fun b u q _=>⟨u,k b u q⟩
 tups:=fun b xs q=>by rw [ad (be q hn)];exact q
 frzs:=fun b u xs q=>by rw [ad (be q hn)];exact q
 tbls:=fun b ps q=>⟨#[],by rw [ad (be q hn),q];simp⟩
theorem Un.write (mu:wB (H x)) (he:e=x\/H e=some (.own x)) (k:∀ b u,b ≠ e->h.get? b=some u->h'.get? b=some u) (heo:∃ u,h'.get? e=some u):Un fs ex H (af H x o) h h':=by
 have hx:∀ b,H b=none->b ≠ x:=fun b n z=>by subst z;rw [n] at mu;exact mu
 have hb:∀ b,H b=none->b ≠ e:=fun b n z=>by
  subst z;rcases he with r | r
  ·exact hx b n r
  ·rw [n] at r;cases r
 have hm:∀ b u,H b=some u->¬ wB (some u)->b ≠ x:=fun b u q nm z=>by subst z;rw [q] at mu;exact nm mu
 refine ⟨fun b u q n _ _=>k b u (hb b n) q,fun b u q n _ _=>⟨u.slots,k b u (hb b n) q⟩,fun b u q n _=>by rw [ad (hx b n)];exact n,fun b u q _=>?_,
  fun b xs q=>by rw [ad (hm b _ q fun z=>z)];exact q,fun b u xs q=>by rw [ad (hm b _ q fun z=>z)];exact q,fun b ps q=>⟨#[],by rw [ad (hm b _ q fun z=>z),q];simp⟩⟩
 by_cases hbe:b=e
 ·subst hbe;exact heo
 ·exact ⟨u,k b u hbe q⟩
end
def yX (h:Heap) (H:Hp):List Addr:=(List.range h.objs.size).filter fun a=>(H a).isSome
def iQ (h:Heap) (H:Hp):Heap:=hideAll h (yX h H)
theorem v4 (h:Heap) (H:Hp):(iQ h H).objs.size=h.objs.size:=hideAll_size _ _
theorem yc {h:Heap}{H:Hp}{b:Addr}{o:Obj} (e:h.get? b=some o) (n:H b=none):(iQ h H).get? b=some o :=
 hideAll_get _ e fun hm=>by
  have q:(H b).isSome=true:=(List.mem_filter.mp hm).2;rw [n] at q;simp at q
theorem BC {h:Heap}{H:Hp}{b:Addr}{o:Obj} (e:(iQ h H).get? b=some o):h.get? b=some o/\H b=none:=by
 have e':h.get? b=some o:=of_hideAll (yX h H) e;refine ⟨e',?_⟩;cases q:H b with
 | none=>rfl
 | some x =>
  have hm:b ∈ yX h H:=List.mem_filter.mpr ⟨List.mem_range.mpr (yH e'),by simp [q]⟩;have z:(iQ h H).get? b=none:=hideAll_none (yX h H) hm;rw [z] at e;cases e
structure Mod (K:Frag) (mg:Str->Option Value) (base:Heap):Prop where
 kin:K.In base
 glob:base.Ns mainGlobals mg
 blt:∃ mb,base.Ns builtinsNs mb/\∀ x:Str,x ≠ "__name__"->mb x=bootBuiltins x
 nolimit:base.NoLimit
structure Cx where
 prog:Program
 w:World
 K:Frag
 mg:Str->Option Value
 base:Heap
 A:Around
 N:List Str
 s₀:Shared
 H₀:Hp
 env:Env
 outer:List Env
 stack:List Env
 ex:List Addr
 fn:Str->Bool
 calm:Bool
 pn:List (Addr × Obj)
 xe:Value->Shared->Prop
noncomputable def jf (l:List Env):List Addr:=l.filterMap (·.frame)
abbrev Cx.fs (X:Cx):List Addr:=jf X.outer
def tG (sc:Scope) (x:Str):Prop:=sc.names.lookup x=some .local\/sc.names.lookup x=some .cell\/sc.names.lookup x=some .free
def Loc (sc:Scope) (x:Str):Prop:=sc.names.lookup x=some .local\/sc.names.lookup x=some .cell
def Ka (env:Env) (h:Heap) (m:Str->Option Value) (x:Str) (u:Value):Prop :=
 (env.kindOf x=some .local/\m x=some u)\/((env.kindOf x=some .cell\/env.kindOf x=some .free)/\∃ c,env.cells.lookup x=some c/\h.IsCell c (some u))
structure Cx.Ok (X:Cx):Prop where
 mod:Mod X.K X.mg X.base
 kind:X.env.scope.kind=.function
 glob:X.env.globals=mainGlobals
 blt:X.env.builtins=builtinsNs
 above:X.s₀.heap.objs.size <= X.env.locals
 inj:∀ x y c,X.env.cells.lookup x=some c->X.env.cells.lookup y=some c->x=y
 has:∀ x,(X.env.kindOf x=some .cell\/X.env.kindOf x=some .free)->∃ c,X.env.cells.lookup x=some c
 cab:∀ x c,X.fn x=true->X.env.cells.lookup x=some c->X.s₀.heap.objs.size <= c
 hd:X.calm=true->X.A.handled=none
 frames:X.A.frames=some X.stack
 stk:X.stack=X.outer\/(X.stack=X.env::X.outer/\X.env.frame=some X.env.locals)
 exf:∀ b ∈ X.ex,b ≠ X.env.locals/\∀ x c,X.env.cells.lookup x=some c->c ≠ b
 bs:∀ b o,X.base.get? b=some o->X.s₀.heap.get? b=some o/\X.H₀ b=none
 bsz:X.base.objs.size <= X.s₀.heap.objs.size
 noex:∀ b o,X.base.get? b=some o->b ∉ X.ex
 exfs:∀ b ∈ X.ex,b ∉ X.fs
 funs:X.s₀.heap.FunFrames X.base X.outer
 frf:∀ b ∈ X.fs,X.H₀ b=none
structure Inv (X:Cx) (L5:List (Addr × Obj)) (σ:List (Option V)) (H:Hp) (s:Shared):Prop where
 ok:X.Ok
 os:s.os=X.s₀.os
 bare:AllBare s.gens
 base:Un X.fs X.ex X.H₀ H X.s₀.heap s.heap
 loc:∃ m,s.heap.Ns X.env.locals m/\∀ (i:Nat) (x:Str) (v:V),X.N[i]?=some x->σ[i]?=some (some v)->tG X.env.scope x->∃ u,RelV v u/\Ka X.env s.heap m x u
 cell:∀ x c,X.env.cells.lookup x=some c->∃ v,s.heap.IsCell c v
 free:H X.env.locals=none
 freeC:∀ x c,X.env.cells.lookup x=some c->H c=none
 pin:∀ p ∈ X.pn++L5,s.heap.get? p.1=some p.2/\H p.1=none/\p.1 ≠ X.env.locals/\p.1 ∉ X.fs/\∀ v,p.2.data ≠ .cell v
 Mb:HOk X.prog X.w H s.heap
 len:σ.length=X.N.length
section
variable {X:Cx}{L5:List (Addr × Obj)}{σ:List (Option V)}{H H':Hp}{s:Shared}{h':Heap}
theorem Cx.Ok.nofr (ok:X.Ok) {b:Addr}{o:Obj} (e:X.base.get? b=some o):b ∉ X.fs:=fun hb=>by
 have:=(ok.funs.mem hb).1
 rw [e] at this;cases this
theorem Inv.bs (I:Inv X L5 σ H s):∀ b o,X.base.get? b=some o->s.heap.get? b=some o/\H b=none:=fun b o e =>
 ⟨I.base.keep b o (I.ok.bs b o e).1 (I.ok.bs b o e).2 (I.ok.nofr e) (I.ok.noex b o e),I.base.free b o (I.ok.bs b o e).1 (I.ok.bs b o e).2 (I.ok.noex b o e)⟩
theorem Inv.bk (I:Inv X L5 σ H s):∀ b o,X.base.get? b=some o->s.heap.get? b=some o:=fun b o e=>(I.bs b o e).1
theorem Inv.mod (I:Inv X L5 σ H s):Mod X.K X.mg X.base:=I.ok.mod
theorem Inv.kIn (I:Inv X L5 σ H s):X.K.In s.heap:=I.ok.mod.kin.keeps I.bk
theorem Inv.nolimit (I:Inv X L5 σ H s):s.heap.NoLimit:=I.ok.mod.nolimit.keeps I.bk
theorem Inv.lt (I:Inv X L5 σ H s):X.env.locals < s.heap.objs.size:=let ⟨_,hn,_⟩:=I.loc;hn.lt
theorem Inv.sz (I:Inv X L5 σ H s):X.s₀.heap.objs.size <= s.heap.objs.size:=z0 I.ok.above (yU I.lt)
theorem Inv.nofs (I:Inv X L5 σ H s) {a:Addr} (h:s.heap.objs.size <= a):a ∉ X.fs:=fun hb=>by
 obtain ⟨_,o,ho,_⟩:=I.ok.funs.mem hb;exact absurd (zJ (yH ho) (z0 I.sz h)) (yV _)
theorem Inv.cne (I:Inv X L5 σ H s):∀ x c,X.env.cells.lookup x=some c->c ≠ X.env.locals:=fun x c e z=>by
 obtain ⟨v,o,ho,hd⟩:=I.cell x c e;obtain ⟨m,⟨o',es,ep,ho',hd',_⟩,_⟩:=I.loc;rw [z,ho'] at ho;cases ho;rw [hd'] at hd;cases hd
theorem Inv.funs (I:Inv X L5 σ H s):s.heap.FunFrames X.base X.outer:=by
 have all:∀ (l:List Env),(∀ b ∈ jf l,b ∈ X.fs)->X.s₀.heap.FunFrames X.base l->s.heap.FunFrames X.base l:=by
  intro l
  induction l with
  | nil=>intro _ _;trivial
  | cons env r ih =>
   intro hs hl;obtain ⟨hk,⟨L,o,hf,hn,ho,hd⟩,hr⟩:=hl;have hL:L ∈ X.fs:=hs L (by unfold jf;rw [List.filterMap_cons,hf];exact z6);obtain ⟨sl,e⟩:=I.base.slot L o ho (I.ok.frf L hL) hL fun z=>I.ok.exfs L z hL
   exact ⟨hk,⟨L,_,hf,hn,e,hd⟩,ih (fun b hb=>hs b (by unfold jf;rw [List.filterMap_cons,hf];exact zQ _ hb)) hr⟩
 exact all X.outer (fun _ hb=>hb) I.ok.funs
theorem Inv.stack (I:Inv X L5 σ H s):s.heap.FunFrames X.base X.stack:=by
 rcases I.ok.stk with e | ⟨e,hf⟩
 ·rw [e];exact I.funs
 ·rw [e]
  obtain ⟨m,hn,_⟩:=I.loc;refine .cons (by rw [I.ok.kind];decide) hf hn ?_ I.funs;exact Heap.get?_none_of_le (z0 I.ok.bsz I.ok.above)
theorem Inv.stkSub (I:Inv X L5 σ H s):∀ b ∈ jf X.stack,b ∈ X.env.locals::X.fs:=fun b hb=>by
 rcases I.ok.stk with e | ⟨e,hf⟩
 ·rw [e] at hb;exact zQ _ hb
 ·rw [e] at hb
  unfold jf at hb;rw [List.filterMap_cons,hf] at hb;exact hb
theorem Inv.stkFree (I:Inv X L5 σ H s):∀ b ∈ jf X.stack,H b=none:=fun b hb=>by
 rcases zT.mp (I.stkSub b hb) with e | hb
 ·rw [e];exact I.free
 ·obtain ⟨_,o,ho,_⟩:=I.ok.funs.mem hb
  exact I.base.free b o ho (I.ok.frf b hb) fun z=>I.ok.exfs b z hb
theorem Inv.step {g':Array GenState}{t':Nat}{d':Drawn}{ch:List Addr} (I:Inv X L5 σ H s)
  (hch:∀ b ∈ ch,(b ∈ X.ex\/X.s₀.heap.objs.size <= b)/\b ≠ X.env.locals/\(∀ x c,X.env.cells.lookup x=some c->c ≠ b)/\∀ p ∈ X.pn++L5,p.1 ≠ b)
  (keep:∀ b o,b ≠ X.env.locals->b ∉ X.fs->b ∉ ch->s.heap.get? b=some o->H b=none->h'.get? b=some o)
  (slot:∀ b o,b ≠ X.env.locals->b ∈ X.fs->b ∉ ch->s.heap.get? b=some o->H b=none->∃ sl,h'.get? b=some { o with slots:=sl }) (free:∀ b o,b ∉ ch->s.heap.get? b=some o->H b=none->H' b=none)
  (there:∀ b o,b ∉ ch->s.heap.get? b=some o->∃ o',h'.get? b=some o')
  (tups:∀ b xs,H b=some (.tup xs)->H' b=some (.tup xs)) (frzs:∀ b o u,H b=some (.frz o u)->H' b=some (.frz o u)) (tbls:∀ b ps,H b=some (.tbl ps)->∃ more,H' b=some (.tbl (ps++more)))
  (ns:∀ m,s.heap.Ns X.env.locals m->h'.Ns X.env.locals m) (Mb:HOk X.prog X.w H' h') (hg:AllBare g') :
  Inv X L5 σ H' { s with heap:=h',gens:=g',drawn:=d',toks:=t' }:=by
 have neL:∀ b o,X.s₀.heap.get? b=some o->b ≠ X.env.locals:=fun b o e=>zU (zJ (yH e) I.ok.above)
 have neC:∀ b o,X.s₀.heap.get? b=some o->b ∉ X.ex->b ∉ ch:=fun b o e hx hb=>by
  rcases (hch b hb).1 with z | z
  ·exact hx z
  ·exact absurd (zJ (yH e) z) (yV _)
 have cellK:∀ x c,X.env.cells.lookup x=some c->∀ v,s.heap.IsCell c v->h'.IsCell c v:=fun x c e v hq0=>by
  obtain ⟨o,ho,hd⟩:=hq0;have nch:c ∉ ch:=fun z=>(hch c z).2.2.1 x c e rfl
  by_cases hc:c ∈ X.fs
  ·obtain ⟨sl,q⟩:=slot c o (I.cne x c e) hc nch ho (I.freeC x c e)
   exact ⟨_,q,hd⟩
  ·exact ⟨o,keep c o (I.cne x c e) hc nch ho (I.freeC x c e),hd⟩
 refine ⟨I.ok,I.os,hg,⟨fun b o e n hb hx=>?_,fun b o e n hb hx=>?_,fun b o e n hx=>?_,fun b o e hx=>?_,fun b xs e=>tups b xs (I.base.tups b xs e),fun b o xs e=>frzs b o xs (I.base.frzs b o xs e),fun b ps e=>?_⟩,?_,fun x c e=>?_,?_,fun x c e=>?_,fun p hp=>?_,Mb,I.len⟩
 ·exact keep b o (neL b o e) hb (neC b o e hx) (I.base.keep b o e n hb hx) (I.base.free b o e n hx)
 ·obtain ⟨sl,e1⟩:=I.base.slot b o e n hb hx
  obtain ⟨sl',e2⟩:=slot b _ (neL b o e) hb (neC b o e hx) e1 (I.base.free b o e n hx);exact ⟨sl',e2⟩
 ·obtain ⟨o',e1⟩:=I.base.there b o e hx
  exact free b o' (neC b o e hx) e1 (I.base.free b o e n hx)
 ·obtain ⟨o',e1⟩:=I.base.there b o e hx
  exact there b o' (neC b o e hx) e1
 ·obtain ⟨m1,e1⟩:=I.base.tbls b ps e
  obtain ⟨m2,e2⟩:=tbls b _ e1;exact ⟨m1++m2,by rw [e2,Array.append_assoc]⟩
 ·obtain ⟨m,hn,hl⟩:=I.loc
  refine ⟨m,ns m hn,fun i x v e1 e2 e3=>?_⟩;obtain ⟨u,r,l⟩:=hl i x v e1 e2 e3;refine ⟨u,r,?_⟩;rcases l with l | ⟨k,c,e,z⟩
  ·exact .inl l
  ·exact .inr ⟨k,c,e,cellK x c e _ z⟩
 ·obtain ⟨v,z⟩:=I.cell x c e
  exact ⟨v,cellK x c e v z⟩
 ·obtain ⟨m,⟨o,_,_,ho,_⟩,_⟩:=I.loc
  exact free _ o (fun z=>(hch _ z).2.1 rfl) ho I.free
 ·obtain ⟨v,o,ho,hd⟩:=I.cell x c e
  exact free c o (fun z=>(hch c z).2.2.1 x c e rfl) ho (I.freeC x c e)
 ·obtain ⟨e,n,ne,nf,d⟩:=I.pin p hp
  have nch:p.1 ∉ ch:=fun z=>(hch p.1 z).2.2.2 p hp rfl
  exact ⟨keep p.1 p.2 ne nf nch e n,free p.1 p.2 nch e n,ne,nf,d⟩
theorem Inv.un {t':Nat} (I:Inv X L5 σ H s) (u:Un X.fs [] H H' s.heap h') (Mb:HOk X.prog X.w H' h'):Inv X L5 σ H' { s with heap:=h',toks:=t' }:=by
 obtain ⟨m,⟨o,es,ep,ho,r⟩,_⟩:=id I.loc;obtain ⟨sl,hL⟩:=u.any ho I.free (by simp);exact I.step (g':=s.gens) (d':=s.drawn) (ch:=[]) (fun _ z=>nomatch z) (fun b o _ hb _ e n=>u.keep b o e n hb (by simp)) (fun b o _ hb _ e n=>u.slot b o e n hb (by simp)) (fun b o _ e n=>u.free b o e n (by simp)) (fun b o _ e=>u.there b o e (by simp)) u.tups u.frzs u.tbls (fun m' hm=>by
  obtain ⟨o',es',ep',ho',r'⟩:=hm;rw [ho] at ho';cases ho';exact ⟨_,es',ep',hL,r'⟩) Mb I.bare
theorem Inv.call {g':Array GenState}{t':Nat}{d':Drawn}{ch:List Addr} (I:Inv X L5 σ H s) (u:Un (jf X.stack) ch H H' s.heap h') (Mb:HOk X.prog X.w H' h') (hg:AllBare g')
  (hch:∀ b ∈ ch,(b ∈ X.ex\/X.s₀.heap.objs.size <= b)/\b ≠ X.env.locals/\(∀ x c,X.env.cells.lookup x=some c->c ≠ b)/\∀ p ∈ X.pn++L5,p.1 ≠ b) :
  Inv X L5 σ H' { s with heap:=h',gens:=g',drawn:=d',toks:=t' }:=by
 obtain ⟨m,⟨o,es,ep,ho,r⟩,_⟩:=id I.loc;obtain ⟨sl,hL⟩:=u.any ho I.free fun z=>(hch _ z).2.1 rfl
 exact I.step (ch:=ch) hch (fun b o hL hb hc e n=>u.keep b o e n (fun z=>(zT.mp (I.stkSub b z)).elim hL hb) hc) (fun b o _ _ hc e n=>u.any e n hc) (fun b o hc e n=>u.free b o e n hc) (fun b o hc e=>u.there b o e hc) u.tups u.frzs u.tbls (fun m' hm=>by
  obtain ⟨o',es',ep',ho',r'⟩:=hm;rw [ho] at ho';cases ho';exact ⟨_,es',ep',hL,r'⟩) Mb hg
theorem Inv.turned {t':Nat}{it:Addr} (I:Inv X L5 σ H s) (k:∀ b o,b ≠ it->s.heap.get? b=some o->h'.get? b=some o) (hn:H it=none) (hL:it ≠ X.env.locals)
  (h1:it ∈ X.ex\/X.s₀.heap.objs.size <= it) (h2:∀ x c,X.env.cells.lookup x=some c->c ≠ it) (h3:∀ p ∈ X.pn++L5,p.1 ≠ it):Inv X L5 σ H { s with heap:=h',toks:=t' }:=by
 have nit:∀ b u,H b=some u->b ≠ it:=fun b u e z=>by rw [z,hn] at e;cases e
 refine I.step (g':=s.gens) (d':=s.drawn) (ch:=[it]) (fun b hb=>?_) (fun b o _ _ hc e _=>k b o (fun z=>hc (by simp [z])) e) (fun b o _ _ hc e _=>⟨o.slots,k b o (fun z=>hc (by simp [z])) e⟩) (fun _ _ _ _ n=>n)
  (fun b o hc e=>⟨o,k b o (fun z=>hc (by simp [z])) e⟩) (fun _ _ e=>e) (fun _ _ _ e=>e) (fun b ps e=>⟨#[],by rw [e];simp⟩) (fun m hm=>?_) (fun b u e=>?_) I.bare
 ·have e:b=it:=by simpa using hb
  subst e;exact ⟨h1,hL,h2,h3⟩
 ·obtain ⟨o,es,ep,ho,r⟩:=hm
  exact ⟨o,es,ep,k _ o (Ne.symm hL) ho,r⟩
 ·refine (I.Mb b u e).stay (fun c v hc q=>k c v ?_ q) (fun _ q=>q) fun _ _ q=>q
  rcases hc with z | z
  ·rw [z];exact nit b u e
  ·exact nit c _ z
theorem Inv.tok (I:Inv X L5 σ H s) (t:Nat):Inv X L5 σ H { s with toks:=t }:=I.un (h':=s.heap) (t':=t) Un.refl I.Mb
theorem Inv.kept {t':Nat} (I:Inv X L5 σ H s) (k:∀ b u,s.heap.get? b=some u->h'.get? b=some u):Inv X L5 σ H { s with heap:=h',toks:=t' }:=I.un (Un.kept k) (I.Mb.kept k)
theorem Inv.laid {a:Addr}{o:HO}{t':Nat} (I:Inv X L5 σ H s) (k:∀ b u,s.heap.get? b=some u->h'.get? b=some u) (hp:s.heap.objs.size <= a) (new:ObjOk X.prog X.w (af H a o) h' a o) :
  Inv X L5 σ (af H a o) { s with heap:=h',toks:=t' }:=I.un (Un.laid k hp (I.Mb.fresh hp)) (I.Mb.laid k hp new)
theorem Inv.write {x e:Addr}{o:HO}{t':Nat} (I:Inv X L5 σ H s) (mu:wB (H x)) (he:e=x\/H e=some (.own x)) (k:∀ b u,b ≠ e->s.heap.get? b=some u->h'.get? b=some u) (heo:∃ u,h'.get? e=some u)
  (new:ObjOk X.prog X.w (af H x o) h' x o):Inv X L5 σ (af H x o) { s with heap:=h',toks:=t' }:=I.un (Un.write mu he k heo) (I.Mb.write mu he k heo new)
theorem Inv.pins_of {pins':List (Addr × Obj)} (I:Inv X L5 σ H s) (h:∀ p ∈ pins',s.heap.get? p.1=some p.2/\H p.1=none/\p.1 ≠ X.env.locals/\p.1 ∉ X.fs/\∀ v,p.2.data ≠ .cell v):Inv X pins' σ H s :=
 ⟨I.ok,I.os,I.bare,I.base,I.loc,I.cell,I.free,I.freeC,fun p hp=>(zZ.mp hp).elim (fun z=>I.pin p (zL _ z)) (h p),I.Mb,I.len⟩
theorem qd {N:List Str} (hN:N.Nodup) {i j:Nat}{x:Str} (a:N[i]?=some x) (b:N[j]?=some x):i=j:=by
 obtain ⟨h1,e1⟩:=zB.mp a;obtain ⟨h2,e2⟩:=zB.mp b;exact (List.getElem_inj hN).mp (e1.trans e2.symm)
theorem oE {M:Model}{A:Around}{E:Value->Shared->Prop}{i:Nat}{x:Str}{v:V}{u:Value}{Q:Unit->Shared->Prop} (I:Inv X L5 σ H s) (hN:X.N.Nodup) (hi:X.N[i]?=some x) (hx:Loc X.env.scope x) (r:RelV v u)
  (h:∀ s',Inv X L5 (σ.set i (some v)) H s'->(∃ a,Heap.SameBut a s.heap s'.heap/\(a=X.env.locals\/X.env.cells.lookup x=some a))->Q () s') (hf:X.fn x=true\/X.env.scope.names.lookup x=some .local:=by first | exact .inl rfl | exact .inr rfl | assumption):wpAny M A (storeName X.env x u) Q E s:=by
 obtain ⟨m,hn,hl⟩:=id I.loc;have hcls:(X.env.scope.kind == .class || (X.env.scope.kind == .module && X.env.locals != X.env.globals))=false:=by rw [I.ok.kind];rfl
 have hiσ:i < σ.length:=by rw [I.len];exact (zB.mp hi).1
 have cne:=I.cne;have tracked:∀ {a:Addr}{h':Heap},(∃ o,s.heap.get? a=some o/\H a=none)->Heap.SameBut a s.heap h'->HOk X.prog X.w H h':=fun {a h'} ha hs b ob e=>by
  obtain ⟨_,_,hfree⟩:=ha;refine (I.Mb b ob e).stay (fun c w' hc q=>(hs.2 c ?_).trans q) (fun _ q=>q) fun _ _ q=>q
  rintro rfl;rcases hc with rfl | hc
  ·rw [hfree] at e;cases e
  ·rw [hfree] at hc;cases hc
 rcases hx with hk | hk
 ·refine wpAny_storeName_local hk hn (fun h' hn' hs=>?_) hcls
  obtain ⟨oL,_,_,hoL,_⟩:=id hn;refine h _ ⟨I.ok,I.os,I.bare,⟨fun b o e n hb hx=>?_,fun b o e n hb hx=>?_,I.base.free,fun b o e hx=>?_,I.base.tups,I.base.frzs,I.base.tbls⟩,⟨_,hn',fun j y v' e1 e2 e3=>?_⟩,fun y c e=>?_,I.free,I.freeC,fun p hp=>?_,tracked ⟨oL,hoL,I.free⟩ hs,by simpa using I.len⟩ ⟨_,hs,.inl rfl⟩
  ·exact (hs.2 b (zU (zJ (yH e) I.ok.above))).trans (I.base.keep b o e n hb hx)
  ·obtain ⟨sl,e1⟩:=I.base.slot b o e n hb hx
   exact ⟨sl,(hs.2 b (zU (zJ (yH e) I.ok.above))).trans e1⟩
  ·obtain ⟨o',e1⟩:=I.base.there b o e hx
   exact ⟨o',(hs.2 b (zU (zJ (yH e) I.ok.above))).trans e1⟩
  ·by_cases hj:j=i
   ·subst hj
    rw [hi] at e1;cases e1;rw [List.getElem?_set_self hiσ] at e2;cases e2;exact ⟨u,r,.inl ⟨hk,by simp⟩⟩
   ·rw [List.getElem?_set_ne (Ne.symm hj)] at e2
    obtain ⟨u',r',q⟩:=hl j y v' e1 e2 e3;refine ⟨u',r',?_⟩;rcases q with ⟨k,e⟩ | ⟨k,c,e,z⟩
    ·refine .inl ⟨k,?_⟩
     have:y ≠ x:=fun e=>hj (qd hN e1 (e ▸ hi))
     simp [this,e]
    ·exact .inr ⟨k,c,e,z.sameBut hs (cne y c e)⟩
  ·obtain ⟨w',z⟩:=I.cell y c e
   exact ⟨w',z.sameBut hs (cne y c e)⟩
  ·obtain ⟨e,n,ne,nf,d⟩:=I.pin p hp
   exact ⟨(hs.2 p.1 ne).trans e,n,ne,nf,d⟩
 ·have hfn:X.fn x=true:=by
   rcases hf with z | z
   ·exact z
   ·rw [z] at hk;cases hk
  obtain ⟨c,hc⟩:=I.ok.has x (.inl hk);obtain ⟨w',z⟩:=I.cell x c hc;refine wpAny_storeName_cell I.ok.kind hk hc z (fun h' hc' hs=>?_);obtain ⟨oc,hoc,hocd⟩:=id z;refine h { s with heap:=h' } ⟨I.ok,I.os,I.bare,⟨fun b o e n hb hx=>?_,fun b o e n hb hx=>?_,I.base.free,fun b o e hx=>?_,I.base.tups,I.base.frzs,I.base.tbls⟩,⟨m,hn.sameBut hs (Ne.symm (cne x c hc)),fun j y v' e1 e2 e3=>?_⟩,fun y c' e=>?_,I.free,I.freeC,fun p hp=>?_,tracked ⟨oc,hoc,I.freeC x c hc⟩ hs,by simpa using I.len⟩ ⟨c,hs,.inr hc⟩
  ·exact (hs.2 b (zU (zJ (yH e) (I.ok.cab x c hfn hc)))).trans (I.base.keep b o e n hb hx)
  ·obtain ⟨sl,e1⟩:=I.base.slot b o e n hb hx
   exact ⟨sl,(hs.2 b (zU (zJ (yH e) (I.ok.cab x c hfn hc)))).trans e1⟩
  ·obtain ⟨o',e1⟩:=I.base.there b o e hx
   exact ⟨o',(hs.2 b (zU (zJ (yH e) (I.ok.cab x c hfn hc)))).trans e1⟩
  ·by_cases hj:j=i
   ·subst hj
    rw [hi] at e1;cases e1;rw [List.getElem?_set_self hiσ] at e2;cases e2;exact ⟨u,r,.inr ⟨.inl hk,c,hc,hc'⟩⟩
   ·rw [List.getElem?_set_ne (Ne.symm hj)] at e2
    obtain ⟨u',r',q⟩:=hl j y v' e1 e2 e3;refine ⟨u',r',?_⟩;rcases q with q | ⟨k,c',e,z'⟩
    ·exact .inl q
    ·refine .inr ⟨k,c',e,z'.sameBut hs ?_⟩
     rintro rfl;exact hj (qd hN e1 (I.ok.inj _ _ _ e hc ▸ hi))
  ·by_cases hcc:c'=c
   ·subst hcc;exact ⟨_,hc'⟩
   ·obtain ⟨w2,z2⟩:=I.cell y c' e
    exact ⟨w2,z2.sameBut hs hcc⟩
  ·obtain ⟨e,n,ne,nf,d⟩:=I.pin p hp
   refine ⟨(hs.2 p.1 ?_).trans e,n,ne,nf,d⟩;intro q;rw [q,hoc] at e;have q':oc=p.2:=yC e;exact d w' (by rw [<- q'];exact hocd)
theorem lW {M:Model}{A:Around}{E:Value->Shared->Prop}{i:Nat}{x:Str}{v:V}{u:Value}{Q:Unit->Shared->Prop} (I:Inv X L5 σ H s) (hN:X.N.Nodup) (hi:X.N[i]?=some x) (hx:Loc X.env.scope x) (r:RelV v u)
  (h:∀ s',Inv X L5 (σ.set i (some v)) H s'->Q () s') (hf:X.fn x=true\/X.env.scope.names.lookup x=some .local:=by first | exact .inl rfl | exact .inr rfl | assumption):wpAny M A (storeName X.env x u) Q E s :=
 oE I hN hi hx r (fun s' I' _=>h s' I') hf
theorem Inv.call' {s':Shared}{ch:List Addr} (I:Inv X L5 σ H s) (ho:s'.os=s.os) (u:Un (jf X.stack) ch H H' s.heap s'.heap) (Mb:HOk X.prog X.w H' s'.heap) (hg:AllBare s'.gens)
  (hch:∀ b ∈ ch,(b ∈ X.ex\/X.s₀.heap.objs.size <= b)/\b ≠ X.env.locals/\(∀ x c,X.env.cells.lookup x=some c->c ≠ b)/\∀ p ∈ X.pn++L5,p.1 ≠ b):Inv X L5 σ H' s':=by
 obtain ⟨h',g',d',t',o'⟩:=s';have e:o'=s.os:=ho;subst e;exact I.call (g':=g') (t':=t') (d':=d') u Mb hg hch
end
abbrev XK:=Value->Option Addr->Hp->Prop
abbrev St:=List (Option V)
abbrev VK:=V->Hp->Prop
abbrev TE:=St->Hp->VK->Prop
abbrev TT:=St->Hp->(Bool->Hp->Prop)->Prop
abbrev TA:=St->Hp->(List V->Hp->Prop)->Prop
structure i5 where
 nx:St->Hp->Prop
 rt:VK
 bk:St->Hp->Prop:=fun _ _=>False
 ct:St->Hp->Prop:=fun _ _=>False
abbrev TS:=i5->St->Hp->Prop
def EP (X:Cx) (L5:List (Addr × Obj)) (σ:St) (Q:VK) (u:Value) (s':Shared):Prop:=∃ v H',Inv X L5 σ H' s'/\RelV v u/\Q v H'
def TP (X:Cx) (L5:List (Addr × Obj)) (σ:St) (Q:Bool->Hp->Prop) (b:Bool) (s':Shared):Prop:=∃ H',Inv X L5 σ H' s'/\Q b H'
def AP (X:Cx) (L5:List (Addr × Obj)) (σ:St) (Q:List V->Hp->Prop) (us:List Value) (s':Shared):Prop:=∃ vs H',Inv X L5 σ H' s'/\Vals vs us/\Q vs H'
def SP (X:Cx) (L5:List (Addr × Obj)) (D:i5) (f:Flow) (s':Shared):Prop :=
 match f with
 | .next=>∃ σ' H',Inv X L5 σ' H' s'/\D.nx σ' H'
 | .brk=>∃ σ' H',Inv X L5 σ' H' s'/\D.bk σ' H'
 | .cont=>∃ σ' H',Inv X L5 σ' H' s'/\D.ct σ' H'
 | .ret u=>∃ v σ' H',Inv X L5 σ' H' s'/\RelV v u/\D.rt v H'
def PE (X:Cx) (e:Expr) (t:TE):Prop :=
 ∀ (L5:List (Addr × Obj)) (s:Shared) (σ:St) (H:Hp) (Q:VK),Inv X L5 σ H s->t σ H Q->wpAny (model X.prog X.w) X.A (eval e X.env) (EP X L5 σ Q) X.xe s
def PT (X:Cx) (e:Expr) (t:TT):Prop :=
 ∀ (L5:List (Addr × Obj)) (s:Shared) (σ:St) (H:Hp) (Q:Bool->Hp->Prop),Inv X L5 σ H s->t σ H Q->wpAny (model X.prog X.w) X.A (isTrue e X.env (eval e X.env)) (TP X L5 σ Q) X.xe s
def PW (X:Cx) (e:Expr) (t:TT):Prop :=
 ∀ (whole:Sem Value) (L5:List (Addr × Obj)) (s:Shared) (σ:St) (H:Hp) (Q:Bool->Hp->Prop),Inv X L5 σ H s->t σ H Q->wpAny (model X.prog X.w) X.A (isTrue e X.env whole) (TP X L5 σ Q) X.xe s
theorem PW.pt {X:Cx}{e:Expr}{t:TT} (h:PW X e t):PT X e t:=h _
def PA (X:Cx) (es:List Expr) (t:TA):Prop :=
 ∀ (pos:Pos) (L5:List (Addr × Obj)) (s:Shared) (σ:St) (H:Hp) (Q:List V->Hp->Prop),Inv X L5 σ H s->t σ H Q->wpAny (model X.prog X.w) X.A (spliced (backTo pos (starEach es X.env))) (AP X L5 σ Q) X.xe s
def PS (X:Cx) (st:Stmt) (t:TS):Prop :=
 ∀ (L5:List (Addr × Obj)) (s:Shared) (σ:St) (H:Hp) (D:i5),Inv X L5 σ H s->t D σ H->wpAny (model X.prog X.w) X.A (exec st X.env) (SP X L5 D) X.xe s
def PSs (X:Cx) (st:List Stmt) (t:TS):Prop :=
 ∀ (L5:List (Addr × Obj)) (s:Shared) (σ:St) (H:Hp) (D:i5),Inv X L5 σ H s->t D σ H->wpAny (model X.prog X.w) X.A (execs st X.env) (SP X L5 D) X.xe s
theorem aB {α:Type}{t:Sem α}{Q Q':α->Shared->Prop}{M:Model}{A:Around}{E:Value->Shared->Prop}{s:Shared} (h:wpAny M A t Q E s) (hQ:∀ a s,Q a s->Q' a s):wpAny M A t Q' E s:=yP h hQ fun _ _ x=>x
section
variable {X:Cx}
theorem bin {a b:Expr}{ta tb:TE} (ha:PE X a ta) (hb:PE X b tb) {L5:List (Addr × Obj)}{s:Shared}{σ:St}{H:Hp}{R:V->V->Hp->Prop} (I:Inv X L5 σ H s) (h:ta σ H fun x H1=>tb σ H1 fun y H2=>R x y H2)
  {α:Type}{Q:α->Shared->Prop}{f:Value->Value->Sem α}
  (hf:∀ v u s2 x y H2,Inv X L5 σ H2 s2->RelV x v->RelV y u->R x y H2->wpAny (model X.prog X.w) X.A (f v u) Q X.xe s2) :
  wpAny (model X.prog X.w) X.A (eval a X.env) (fun v s₁=>wpAny (model X.prog X.w) X.A (eval b X.env) (fun u s₂=>wpAny (model X.prog X.w) X.A (f v u) Q X.xe s₂) X.xe s₁) X.xe s:=by
 refine aB (ha L5 s σ H _ I h) fun v s1 hq0=>?_
 obtain ⟨x,H1,I1,r1,q1⟩:=hq0;refine aB (hb L5 s1 σ H1 _ I1 q1) fun u s2 hq0=>?_
 obtain ⟨y,H2,I2,r2,q2⟩:=hq0;exact hf v u s2 x y H2 I2 r1 r2 q2
noncomputable def IZ (i:Nat):TE:=fun σ H Q=>∃ v,σ[i]?=some (some v)/\Q v H
noncomputable def tC (v:V):TE:=fun _ H Q=>Q v H
theorem Dv {i:Nat}{x:Str}{pos:Pos} (hN:X.N[i]?=some x) (hv:tG X.env.scope x) (hd:(x == ("__debug__":Str))=false:=by decide) (hcd:(x == ("__classdict__":Str))=false:=by decide):PE X (.Name x pos) (IZ i):=by
 intro L5 s σ H Q I h;obtain ⟨v,e,h⟩:=h;obtain ⟨m,hn,hl⟩:=I.loc;obtain ⟨u,r,l⟩:=hl i x v hN e hv;have aF:EP X L5 σ Q u s:=⟨v,H,I,r,h⟩;rcases l with ⟨hk,hm⟩ | ⟨hk,c,hc,hcell⟩
 ·exact wpAny_Name (wpAny_loadName_local I.ok.kind hk hn hm aF) hd
 ·rcases hk with hk | hk
  ·exact wpAny_Name (wpAny_loadName_cell I.ok.kind hk hc hcell aF) hd
  ·exact wpAny_Name (wpAny_loadName_free I.ok.kind hk hc hcell aF hcd) hd
theorem DA {i j pos}:PE X (.Constant (.int i) j pos) (tC (.int i)):=fun _ _ _ H _ I h=>wpAny_Constant_int ⟨.int i,H,I.tok _,⟨_,rfl⟩,h⟩
theorem GH {b j pos}:PE X (.Constant (.bool b) j pos) (tC (.bl b)):=fun _ _ _ H _ I h=>Constant_bool ⟨.bl b,H,I,rfl,h⟩
theorem Dz {j pos}:PE X (.Constant .none j pos) (tC .non):=fun _ _ _ H _ I h=>Constant_none ⟨.non,H,I,rfl,h⟩
theorem Dx {x j pos}:PE X (.Constant (.str x) j pos) (tC (.str x)):=fun _ _ _ H _ I h=>Calls.Constant_str ⟨.str x,H,I.tok _,⟨_,rfl⟩,h⟩
def Gl (X:Cx) (x:Str):Prop:=X.env.kindOf x=some .globalImplicit
theorem k8 {E:Value->Shared->Prop}{L5:List (Addr × Obj)}{s:Shared}{σ:St}{H:Hp}{x:Str}{u:Value}{pos:Pos}{Q:Value->Shared->Prop} (I:Inv X L5 σ H s) (hg:Gl X x) (hm:X.mg x=some u) (h:Q u s)
  (hd:(x == ("__debug__":Str))=false:=by decide):wpAny (model X.prog X.w) X.A (eval (.Name x pos) X.env) Q E s :=
 Calls.Name_function_global I.ok.kind hg (Calls.loadGlobal_global (by rw [I.ok.glob];exact I.mod.glob.keeps I.bk) hm h) hd
theorem cN {E:Value->Shared->Prop}{L5:List (Addr × Obj)}{s:Shared}{σ:St}{H:Hp}{x:Str}{u:Value}{pos:Pos}{Q:Value->Shared->Prop} (I:Inv X L5 σ H s) (hg:Gl X x) (hm:X.mg x=none) (hv:bootBuiltins x=some u) (h:Q u s)
  (hn:x ≠ "__name__":=by decide) (hd:(x == ("__debug__":Str))=false:=by decide):wpAny (model X.prog X.w) X.A (eval (.Name x pos) X.env) Q E s:=by
 obtain ⟨mb,h1,h2⟩:=I.mod.blt;exact Calls.Name_function_global I.ok.kind hg (Calls.loadGlobal_builtin (by rw [I.ok.glob];exact I.mod.glob.keeps I.bk) hm (by rw [I.ok.blt];exact h1.keeps I.bk) ((h2 x hn).trans hv) h) hd
theorem Bs {x:Str}{v:V}{u:Value}{pos:Pos} (hg:Gl X x) (hm:X.mg x=some u) (r:RelV v u) (hd:(x == ("__debug__":Str))=false:=by decide):PE X (.Name x pos) (tC v) :=
 fun _ _ _ H _ I h=>k8 I hg hm ⟨v,H,I,r,h⟩ hd
variable {a b:Expr}{ta tb:TE}{pos:Pos}
theorem RelV.none_iff {x:V}{v:Value} (r:RelV x v):(v == Value.none)=decide (x=.non):=by
 cases x with
 | non=>cases r;rfl
 | bl _=>cases r;rfl
 | int _=>obtain ⟨t,rfl⟩:=r;rfl
 | str _=>obtain ⟨t,rfl⟩:=r;rfl
 | byt _=>obtain ⟨t,rfl⟩:=r;rfl
 | flt _=>obtain ⟨t,rfl⟩:=r;rfl
 | ref _=>cases r;rfl
 | ty _=>cases r;rfl
variable {tA tB':TT}{rest:List Expr}
noncomputable def Jl (t u:TT):TT:=fun σ H Q=>t σ H fun c H1=>if c=true then u σ H1 Q else Q false H1
noncomputable def Kn (t u:TT):TT:=fun σ H Q=>t σ H fun c H1=>if c=true then Q true H1 else u σ H1 Q
noncomputable def Je (t:TT):TT:=fun σ H Q=>t σ H fun c H1=>Q (!c) H1
theorem A9 (ha:PT X a tA):PW X (.BoolOp .And [a] pos) tA:=by
 intro wh L5 s σ H Q I h;refine isTrue_and (aB (ha L5 s σ H Q I h) fun c s1 e=>?_);cases c with
 | true=>exact isTrue_and_nil e
 | false=>exact e
theorem Dh (ha:PT X a tA):PW X (.BoolOp .Or [a] pos) tA:=by
 intro wh L5 s σ H Q I h;refine isTrue_or (aB (ha L5 s σ H Q I h) fun c s1 e=>?_);cases c with
 | false=>exact isTrue_or_nil e
 | true=>exact e
theorem Di (ha:PT X a tA) (hb:PW X (.BoolOp .And (b::rest) pos) tB'):PW X (.BoolOp .And (a::b::rest) pos) (Jl tA tB'):=by
 intro wh L5 s σ H Q I h;refine isTrue_and (aB (ha L5 s σ H _ I h) fun c s1 hq0=>?_);obtain ⟨H1,I1,q1⟩:=hq0;cases c with
 | true=>exact hb wh L5 s1 σ H1 Q I1 q1
 | false=>exact ⟨H1,I1,q1⟩
theorem Gx (ha:PT X a tA) (hb:PW X (.BoolOp .Or (b::rest) pos) tB'):PW X (.BoolOp .Or (a::b::rest) pos) (Kn tA tB'):=by
 intro wh L5 s σ H Q I h;refine isTrue_or (aB (ha L5 s σ H _ I h) fun c s1 hq0=>?_);obtain ⟨H1,I1,q1⟩:=hq0;cases c with
 | true=>exact ⟨H1,I1,q1⟩
 | false=>exact hb wh L5 s1 σ H1 Q I1 q1
theorem Dj (ha:PT X a tA):PT X (.UnaryOp .Not a pos) (Je tA):=by
 intro L5 s σ H Q I h;exact isTrue_not (ha L5 s σ H (fun c H1=>Q (!c) H1) I h)
noncomputable def F5 (ta tb:TE):TE:=fun σ H Q=>ta σ H fun x H1=>∃ c,x=.bl c/\if c=true then tb σ H1 Q else Q (.bl false) H1
noncomputable def Jd (ta tb:TE):TE:=fun σ H Q=>ta σ H fun x H1=>∃ c,x=.bl c/\if c=true then Q (.bl true) H1 else tb σ H1 Q
noncomputable def F1 (ta:TE):TE:=fun σ H Q=>ta σ H fun x H1=>∃ c,x=.bl c/\Q (.bl (!c)) H1
theorem vE {op}{t:TE} (h:PE X a t):PE X (.BoolOp op [a] pos) t:=fun L5 s σ H Q I hw=>BoolOp_one (h L5 s σ H Q I hw)
theorem DF (ha:PE X a ta) (hb:PE X (.BoolOp .And (b::rest) pos) tb):PE X (.BoolOp .And (a::b::rest) pos) (F5 ta tb):=by
 intro L5 s σ H Q I h;refine BoolOp_and (aB (ha L5 s σ H _ I h) fun v s1 hq0=>?_);obtain ⟨x,H1,I1,r1,q1⟩:=hq0;obtain ⟨c,rfl,q1⟩:=q1;cases r1;refine wpAny_truthy_bool ?_;cases c with
 | true=>exact hb L5 s1 σ H1 Q I1 q1
 | false=>exact ⟨.bl false,H1,I1,rfl,q1⟩
theorem GC (ha:PE X a ta) (hb:PE X (.BoolOp .Or (b::rest) pos) tb):PE X (.BoolOp .Or (a::b::rest) pos) (Jd ta tb):=by
 intro L5 s σ H Q I h;refine BoolOp_or (aB (ha L5 s σ H _ I h) fun v s1 hq0=>?_);obtain ⟨x,H1,I1,r1,q1⟩:=hq0;obtain ⟨c,rfl,q1⟩:=q1;cases r1;refine wpAny_truthy_bool ?_;cases c with
 | false=>exact hb L5 s1 σ H1 Q I1 q1
 | true=>exact ⟨.bl true,H1,I1,rfl,q1⟩
theorem Dy (ha:PE X a ta):PE X (.UnaryOp .Not a pos) (F1 ta):=by
 intro L5 s σ H Q I h;refine UnaryOp_ (aB (ha L5 s σ H _ I h) fun v s1 hq0=>?_);obtain ⟨x,H1,I1,r1,q1⟩:=hq0;obtain ⟨c,rfl,q1⟩:=q1;cases r1;exact not_of (wpAny_truthy_bool ⟨.bl (!c),H1,I1,rfl,q1⟩)
noncomputable def Ko (t:TT) (ta tb:TE):TE:=fun σ H Q=>t σ H fun c H1=>if c=true then ta σ H1 Q else tb σ H1 Q
theorem xr {c:Expr} (hc:PT X c tA) (ha:PE X a ta) (hb:PE X b tb):PE X (.IfExp c a b pos) (Ko tA ta tb):=by
 intro L5 s σ H Q I h;refine wpAny_IfExp (aB (hc L5 s σ H _ I h) fun d s1 hq0=>?_);obtain ⟨H1,I1,q1⟩:=hq0;cases d with
 | true=>exact ha L5 s1 σ H1 Q I1 q1
 | false=>exact hb L5 s1 σ H1 Q I1 q1
end
def bJ (K:Frag) (H:Hp) (a:Addr) (xs:List V):Prop :=
 Rd H a (.lst xs) \/
  ∃ (o:Obj) (L9:Array Value) (n:Nat),K.lookup a=some o/\o.cls=.type "list"/\o.dict=none/\o.data=.seq L9 n/\L9.size <= sizeLine/\Vals xs L9.toList
def gF (K:Frag) (H:Hp) (a:Addr) (xs:List V):Prop :=
 Rd H a (.tup xs) \/
  ∃ (o:Obj) (L9:Array Value) (n:Nat),K.lookup a=some o/\o.cls=.type "tuple"/\o.data=.seq L9 n/\L9.size <= sizeLine/\Vals xs L9.toList
noncomputable def J7:Value->Option V
 | .none=>some .non
 | .bool b=>some (.bl b)
 | .int i _=>some (.int i)
 | .str x _=>some (.str x)
 | .bytes b _=>some (.byt b)
 | .float b _=>some (.flt b)
 | .ref a=>some (.ref a)
 | .type n=>some (.ty n)
 | _=>none
theorem RelV.abs {x:V}{u:Value} (r:RelV x u):J7 u=some x:=by
 cases x with
 | non=>cases r;rfl
 | bl _=>cases r;rfl
 | int _=>obtain ⟨t,rfl⟩:=r;rfl
 | str _=>obtain ⟨t,rfl⟩:=r;rfl
 | byt _=>obtain ⟨t,rfl⟩:=r;rfl
 | flt _=>obtain ⟨t,rfl⟩:=r;rfl
 | ref _=>cases r;rfl
 | ty _=>cases r;rfl
theorem RelV.inj {x y:V}{u:Value} (r:RelV x u) (q:RelV y u):x=y:=yC (r.abs.symm.trans q.abs)
theorem Vals.inj {xs ys:List V}{us:List Value} (h:Vals xs us):Vals ys us->xs=ys:=by
 induction h generalizing ys with
 | nil=>intro h';cases h';rfl
 | cons r t ih =>
  intro h';cases h' with
  | cons r' t'=>rw [r.inj r',ih t']
section
variable {X:Cx}{L5:List (Addr × Obj)}{σ:St}{H:Hp}{s:Shared}{a:Addr}{xs ys:List V}
theorem Inv.list (I:Inv X L5 σ H s) (h:bJ X.K H a xs):∃ L9:List Value,Vals xs L9/\PlainL s.heap a L9.toArray/\xs.length <= sizeLine:=by
 rcases h with h | ⟨o,L9,n,hk,hc,hd,hs,hz,r⟩
 ·obtain ⟨z,L9,n,r,e⟩:=h.ok I.Mb
  exact ⟨L9,r,⟨_,n,e,rfl,rfl,rfl⟩,z⟩
 ·refine ⟨L9.toList,r,⟨o,n,I.kIn a o hk,hc,hd,by simpa using hs⟩,?_⟩
  have e:=r.length;simp only [Array.length_toList] at e;omega
theorem Inv.tuple (I:Inv X L5 σ H s) (h:gF X.K H a xs):∃ L9:List Value,Vals xs L9/\IsTup s.heap a L9.toArray/\xs.length <= sizeLine:=by
 rcases h with h | ⟨o,L9,n,hk,hc,hs,hz,r⟩
 ·obtain ⟨z,L9,r,p⟩:=h.ok I.Mb
  exact ⟨L9,r,p,z⟩
 ·refine ⟨L9.toList,r,⟨o,I.kIn a o hk,hc,n,by simpa using hs⟩,?_⟩
  have e:=r.length;simp only [Array.length_toList] at e;omega
theorem Inv.list_inj (I:Inv X L5 σ H s) (h:bJ X.K H a xs) (h':bJ X.K H a ys):xs=ys:=by
 obtain ⟨L9,r,⟨o,n,e,_,_,d⟩,_⟩:=I.list h;obtain ⟨its',r',⟨o',n',e',_,_,d'⟩,_⟩:=I.list h';rw [e] at e';cases e';rw [d] at d';injection d' with d1 _;have:L9=its':=by simpa using congrArg Array.toList d1
 subst this;exact r.inj r'
theorem Inv.tuple_inj (I:Inv X L5 σ H s) (h:gF X.K H a xs) (h':gF X.K H a ys):xs=ys:=by
 obtain ⟨L9,r,⟨o,e,_,n,d⟩,_⟩:=I.tuple h;obtain ⟨its',r',⟨o',e',_,n',d'⟩,_⟩:=I.tuple h';rw [e] at e';cases e';rw [d] at d';injection d' with d1 _;have:L9=its':=by simpa using congrArg Array.toList d1
 subst this;exact r.inj r'
end
abbrev Cx.wish (X:Cx) (E:Value->Shared->Prop):Cx:={ X with xe:=E }
abbrev Cx.nox (X:Cx):Cx:=X.wish fun _ _=>False
theorem Cx.Ok.wish {X:Cx} (ok:X.Ok) (E:Value->Shared->Prop):(X.wish E).Ok :=
 ⟨ok.mod,ok.kind,ok.glob,ok.blt,ok.above,ok.inj,ok.has,ok.cab,ok.hd,ok.frames,ok.stk,ok.exf,ok.bs,ok.bsz,ok.noex,ok.exfs,ok.funs,ok.frf⟩
theorem Cx.Ok.unwish {X:Cx}{E:Value->Shared->Prop} (ok:(X.wish E).Ok):X.Ok :=
 ⟨ok.mod,ok.kind,ok.glob,ok.blt,ok.above,ok.inj,ok.has,ok.cab,ok.hd,ok.frames,ok.stk,ok.exf,ok.bs,ok.bsz,ok.noex,ok.exfs,ok.funs,ok.frf⟩
section
variable {X:Cx}{L5:List (Addr × Obj)}{σ:St}{H:Hp}{s:Shared}{E:Value->Shared->Prop}
theorem Inv.wish (I:Inv X L5 σ H s) (E:Value->Shared->Prop):Inv (X.wish E) L5 σ H s:=⟨I.ok.wish E,I.os,I.bare,I.base,I.loc,I.cell,I.free,I.freeC,I.pin,I.Mb,I.len⟩
theorem Inv.unwish (I:Inv (X.wish E) L5 σ H s):Inv X L5 σ H s:=⟨I.ok.unwish,I.os,I.bare,I.base,I.loc,I.cell,I.free,I.freeC,I.pin,I.Mb,I.len⟩
theorem SP.unwish {D:i5}{f:Flow}{s':Shared} (h:SP (X.wish E) L5 D f s'):SP X L5 D f s':=by
 cases f with
 | next=>obtain ⟨σ',H',I,q⟩:=h;exact ⟨σ',H',I.unwish,q⟩
 | brk=>obtain ⟨σ',H',I,q⟩:=h;exact ⟨σ',H',I.unwish,q⟩
 | cont=>obtain ⟨σ',H',I,q⟩:=h;exact ⟨σ',H',I.unwish,q⟩
 | ret u=>obtain ⟨v,σ',H',I,r,q⟩:=h;exact ⟨v,σ',H',I.unwish,r,q⟩
theorem PSs.nox {st:List Stmt}{t:TS} (h:PSs X.nox st t):PSs X st t:=fun L5 s σ H D I hw =>
 yP (h L5 s σ H D (I.wish _) hw) (fun _ _ q=>q.unwish) fun _ _ z=>False.elim z
end
section
variable {X:Cx}{st:Stmt}{rest:List Stmt}{t u:TS}{e:Expr}{te:TE}{pos:Pos}
noncomputable def F2:TS:=fun D σ H=>D.nx σ H
noncomputable def Jb (t u:TS):TS:=fun D σ H=>t { D with nx:=u D } σ H
theorem Bb:PSs X [] F2:=fun _ _ σ H _ I h=>wpAny_execs_nil ⟨σ,H,I,h⟩
theorem xc (h1:PS X st t) (h2:PSs X rest u):PSs X (st::rest) (Jb t u):=by
 intro L5 s σ H D I h;refine wpAny_execs_cons (aB (h1 L5 s σ H { D with nx:=u D } I h) fun f s1 q=>?_);cases f with
 | next =>
  obtain ⟨σ',H',I',q⟩:=q;exact h2 L5 s1 σ' H' D I' q
 | ret v=>exact q
 | brk=>exact q
 | cont=>exact q
theorem Inv.quiet {L5:List (Addr × Obj)}{σ:St}{H:Hp}{s:Shared} (I:Inv X L5 σ H s):interactive X.env=false:=by simp [interactive,I.ok.kind]
noncomputable def F3 (te:TE):TS:=fun D σ H=>te σ H fun _ H1=>D.nx σ H1
theorem Be (he:PE X e te) (hs:swapsWith e none pos.line X.env=pure false:=by rfl):PS X (.Expr e pos) (F3 te):=by
 intro L5 s σ H D I h;exact wpAny_Expr_any (aB (he L5 s σ H _ I h) fun v s1 ⟨x,H1,I1,r1,q1⟩=>⟨σ,H1,I1,q1⟩) I.quiet hs
noncomputable def Jc (te:TE):TS:=fun D σ H=>te σ H D.rt
theorem Dl (he:PE X e te):PS X (.Return (some e) pos) (Jc te):=by
 intro L5 s σ H D I h;exact wpAny_Return_some (aB (he L5 s σ H _ I h) fun v s1 ⟨x,H1,I1,r1,q1⟩=>⟨x,σ,H1,I1,r1,q1⟩)
noncomputable def Jg (c:TT) (t u:TS):TS:=fun D σ H=>c σ H fun b H1=>if b=true then t D σ H1 else u D σ H1
theorem Gy {c:Expr}{a b:List Stmt}{tc:TT} (hc:PT X c tc) (ha:PSs X a t) (hb:PSs X b u):PS X (.If c a b pos) (Jg tc t u):=by
 intro L5 s σ H D I h;refine wpAny_If (aB (hc L5 s σ H _ I h) fun d s1 hq0=>?_);obtain ⟨H1,I1,q1⟩:=hq0;cases d with
 | true=>exact ha L5 s1 σ H1 D I1 q1
 | false=>exact hb L5 s1 σ H1 D I1 q1
noncomputable def vf:TS:=fun _ _ _=>False
theorem xg:PS X st vf:=fun _ _ _ _ _ _ h=>h.elim
theorem vw {sts:List Stmt}:PSs X sts vf:=fun _ _ _ _ _ _ h=>h.elim
end
abbrev TG:=V->St->Hp->(St->Hp->Prop)->Prop
abbrev lR:=List V->St->Hp->(St->Hp->Prop)->Prop
def PG (X:Cx) (target:Expr) (t:TG):Prop :=
 ∀ (L5:List (Addr × Obj)) (s:Shared) (σ:St) (H:Hp) (v:V) (u:Value) (Q:St->Hp->Prop),Inv X L5 σ H s->RelV v u->t v σ H Q ->
  wpAny (model X.prog X.w) X.A (assign target X.env u) (fun _ s'=>∃ σ' H',Inv X L5 σ' H' s'/\Q σ' H') X.xe s
def pf (X:Cx) (ts:List Expr) (t:lR):Prop :=
 ∀ (L5:List (Addr × Obj)) (s:Shared) (σ:St) (H:Hp) (vs:List V) (us:List Value) (Q:St->Hp->Prop),Inv X L5 σ H s->Vals vs us->t vs σ H Q ->
  wpAny (model X.prog X.w) X.A (assignInOrder ((assignEach ts X.env).map (·.2)) us) (fun _ s'=>∃ σ' H',Inv X L5 σ' H' s'/\Q σ' H') X.xe s
abbrev rj:=V->V->V->Hp->(Hp->Prop)->Prop
def uX (X:Cx) (t:rj):Prop :=
 ∀ (L5:List (Addr × Obj)) (s:Shared) (σ:St) (H:Hp) (o i v:V) (ov iv u:Value) (Q:Hp->Prop),Inv X L5 σ H s->RelV o ov->RelV i iv->RelV v u->t o i v H Q ->
  wpAny (model X.prog X.w) X.A (setItem ov iv u) (fun _ s'=>∃ H',Inv X L5 σ H' s'/\Q H') X.xe s
abbrev tH:=V->V->Hp->VK->Prop
def wA (X:Cx) (op:Operator) (t:tH):Prop :=
 ∀ (L5:List (Addr × Obj)) (s:Shared) (σ:St) (H:Hp) (x y:V) (v u:Value) (Q:VK),Inv X L5 σ H s->RelV x v->RelV y u->t x y H Q ->
  wpAny (model X.prog X.w) X.A (inplaceOp op v u) (EP X L5 σ Q) X.xe s
section
variable {X:Cx}{pos:Pos}
noncomputable def mW (i:Nat):TG:=fun v σ H Q=>Q (σ.set i (some v)) H
theorem Bp {i:Nat}{x:Str} (hN:X.N.Nodup) (hi:X.N[i]?=some x) (hx:Loc X.env.scope x) (hf:X.fn x=true\/X.env.scope.names.lookup x=some .local:=by first | exact .inl rfl | exact .inr rfl | assumption):PG X (.Name x pos) (mW i):=by
 intro L5 s σ H v u Q I r h;exact wpAny_assign_Name (lW I hN hi hx r (fun s' I'=>⟨_,H,I',h⟩) hf)
noncomputable def JQ:lR:=fun vs σ H Q=>vs=[]/\Q σ H
noncomputable def Hd (t:TG) (u:lR):lR:=fun vs σ H Q=>∃ v r,vs=v::r/\t v σ H fun σ' H'=>u r σ' H' Q
theorem Bn:pf X [] JQ:=by
 intro L5 s σ H vs us Q I r h;obtain ⟨e,h⟩:=h;subst e;cases r;exact assignInOrder_nil ⟨σ,H,I,h⟩
theorem xj {e:Expr}{es:List Expr}{t:TG}{u:lR} (h1:PG X e t) (h2:pf X es u)
  (hs:(assignEach (e::es) X.env).map (·.2)=assign e X.env::(assignEach es X.env).map (·.2):=by rfl):pf X (e::es) (Hd t u):=by
 intro L5 s σ H vs us Q I r h;obtain ⟨v,vr,e1,h⟩:=h;subst e1;cases r with
 | cons r rr =>
  rw [hs];refine assignInOrder_cons (aB (h1 L5 s σ H _ _ _ I r h) fun _ s1 hq0=>?_);obtain ⟨σ1,H1,I1,q1⟩:=hq0;exact h2 L5 s1 σ1 H1 _ _ Q I1 rr q1
noncomputable def JO (K:Frag) (n:Nat) (t:lR):TG:=fun v σ H Q=>∃ a xs,v=.ref a/\gF K H a xs/\xs.length=n/\t xs σ H Q
theorem Dt {es:List Expr}{k:Nat}{t:lR}{n:Nat} (hc:X.calm=true) (h:pf X es t)
  (hn:(assignEach es X.env).length=n:=by rfl) (hst:(assignEach es X.env).findIdx? (·.1)=none:=by rfl):PG X (.Tuple es k pos) (JO X.K n t):=by
 intro L5 s σ H v u Q I r hw;obtain ⟨a,xs,e1,hq,hl,hw⟩:=hw;subst e1;cases r;obtain ⟨L9,rv,ht,hz⟩:=I.tuple hq;refine assign_Tuple_tuple (I.ok.hd hc) ht (by simp [hn,<- hl,rv.length]) hst fun h' hx=>?_
 have I1:Inv X L5 σ H { s with heap:=h' }:=I.kept (t':=s.toks) fun b o e=>hx b o (zU (yH e)) e
 exact h L5 _ σ H xs _ Q I1 (by simpa using rv) hw
noncomputable def JP (to ti:TE) (t:rj):TG:=fun v σ H Q=>to σ H fun o H1=>ti σ H1 fun i H2=>t o i v H2 fun H3=>Q σ H3
theorem Du {o i:Expr}{to ti:TE}{t:rj} (ho:PE X o to) (hi:PE X i ti) (hs:uX X t)
  (ha:∀ v,assign (.Subscript o i pos) X.env v=(do
   let ov <- holding [v] (eval o X.env)
   let iv <- holding [v,ov] (eval i X.env)
   standAt pos
   holding [v,ov,iv] (setItem ov iv v)
   release [v,ov,iv] []):=by intro _;rfl):PG X (.Subscript o i pos) (JP to ti t):=by
 intro L5 s σ H v u Q I r h;rw [ha];refine yD (yO (aB (ho L5 s σ H _ I h) fun ov s1 hq0=>?_));obtain ⟨x,H1,I1,r1,q1⟩:=hq0;refine yD (yO (aB (hi L5 s1 σ H1 _ I1 q1) fun iv s2 hq0=>?_));obtain ⟨y,H2,I2,r2,q2⟩:=hq0;refine yD (wpAny_standAt (yD (yO (aB (hs L5 s2 σ H2 x y v ov iv u _ I2 r1 r2 r q2) fun _ s3 hq0=>?_))));obtain ⟨H3,I3,q3⟩:=hq0;exact wpAny_release ⟨σ,H3,I3,q3⟩
noncomputable def tU (te:TE) (g:TG):TS:=fun D σ H=>te σ H fun x H1=>g x σ H1 D.nx
theorem Do {tg e:Expr}{te:TE}{g:TG} (he:PE X e te) (hg:PG X tg g) (hs:swapsWithSole [tg] e pos.line X.env=pure false:=by rfl) (hw:swappedStores [tg] e X.env=pure none:=by rfl)
  (h1:(assignEach [tg] X.env).map (·.2)=[assign tg X.env]:=by rfl):PS X (.Assign [tg] e pos) (tU te g):=by
 intro L5 s σ H D I h;refine wpAny_Assign_stores (aB (he L5 s σ H _ I h) fun v s1 hq0=>?_) hs hw;obtain ⟨x,H1,I1,r1,q1⟩:=hq0;rw [h1];exact aB (hg L5 s1 σ H1 x v _ I1 r1 q1) fun _ s2 q=>q
theorem Dk {i:Nat}{x:Str}{e:Expr}{te:TE}{pos':Pos} (hN:X.N.Nodup) (hi:X.N[i]?=some x) (hx:Loc X.env.scope x) (he:PE X e te) (hs:swapsWith e (some (.Name x pos')) pos.line X.env=pure false:=by rfl) (hf:X.fn x=true\/X.env.scope.names.lookup x=some .local:=by first | exact .inl rfl | exact .inr rfl | assumption) :
  PS X (.Assign [.Name x pos'] e pos) (tU te (mW i)):=by
 intro L5 s σ H D I h;refine wpAny_Assign_Name (aB (he L5 s σ H _ I h) fun v s1 hq0=>?_) hs;obtain ⟨y,H1,I1,r1,q1⟩:=hq0;exact lW I1 hN hi hx r1 (fun s2 I2=>⟨_,H1,I2,q1⟩) hf
noncomputable def Jk (i:Nat) (te:TE) (ti:tH):TS:=fun D σ H=>∃ x,σ[i]?=some (some x)/\te σ H fun y H1=>ti x y H1 fun z H2=>D.nx (σ.set i (some z)) H2
theorem Dn {i:Nat}{x:Str}{e:Expr}{te:TE}{op:Operator}{ti:tH}{pos':Pos} (hN:X.N.Nodup) (hi:X.N[i]?=some x) (hx:Loc X.env.scope x) (he:PE X e te) (ho:wA X op ti) (hf:X.fn x=true\/X.env.scope.names.lookup x=some .local:=by first | exact .inl rfl | exact .inr rfl | assumption) :
  PS X (.AugAssign (.Name x pos') op e pos) (Jk i te ti):=by
 intro L5 s σ H D I h;obtain ⟨v,e1,h⟩:=h;obtain ⟨m,hn,hl⟩:=I.loc;have vis:tG X.env.scope x:=by rcases hx with k | k;exact .inl k;exact .inr (.inl k)
 obtain ⟨u,r,l⟩:=hl i x v hi e1 vis;refine wpAny_AugAssign_Name ?_;have go:wpAny (model X.prog X.w) X.A (eval e X.env) (fun w s₂=>wpAny (model X.prog X.w) X.A (inplaceOp op u w) (fun r s₃=>wpAny (model X.prog X.w) X.A (storeName X.env x r) (fun _=>SP X L5 D .next) X.xe s₃) X.xe s₂) X.xe s:=by
  refine aB (he L5 s σ H _ I h) fun w s1 hq0=>?_
  obtain ⟨y,H1,I1,r1,q1⟩:=hq0;refine aB (ho L5 s1 σ H1 v y u w _ I1 r r1 q1) fun z s2 hq0=>?_
  obtain ⟨zv,H2,I2,r2,q2⟩:=hq0;exact lW I2 hN hi hx r2 (fun s3 I3=>⟨_,H2,I3,q2⟩) hf
 rcases l with ⟨hk,hm⟩ | ⟨hk,c,hc,hcell⟩
 ·exact wpAny_loadName_local I.ok.kind hk hn hm go
 ·rcases hk with hk | hk
  ·exact wpAny_loadName_cell I.ok.kind hk hc hcell go
  ·rcases hx with k | k
   ·have:X.env.scope.names.lookup x=some .free:=hk
    rw [k] at this;cases this
   ·have:X.env.scope.names.lookup x=some .free:=hk
    rw [k] at this;cases this
def F4 (to ti te:TE) (tget:V->V->Hp->VK->Prop) (tip:tH) (tset:rj):TS:=fun D σ H=>to σ H fun o H1=>ti σ H1 fun i H2=>tget o i H2 fun x H3=>te σ H3 fun y H4=>tip x y H4 fun z H5=>tset o i z H5 fun H6=>D.nx σ H6
def yu (X:Cx) (t:V->V->Hp->VK->Prop):Prop :=
 ∀ (L5:List (Addr × Obj)) (s:Shared) (σ:St) (H:Hp) (o i:V) (ov iv:Value) (Q:VK),Inv X L5 σ H s->RelV o ov->RelV i iv->t o i H Q ->
  wpAny (model X.prog X.w) X.A (getItem ov iv) (EP X L5 σ Q) X.xe s
theorem Bf {o i e:Expr}{to ti te:TE}{tget:V->V->Hp->VK->Prop}{tip:tH}{tset:rj}{op:Operator}{tpos:Pos} (ho:PE X o to) (hi:PE X i ti) (hg:yu X tget) (he:PE X e te) (hp:wA X op tip) (hs:uX X tset)
  (ha:∀ ov iv new,augStore i ov iv new=(do holding [new,ov,iv] (setItem ov iv new);release [new,ov,iv] [];pure .next):=by intros;rfl):PS X (.AugAssign (.Subscript o i tpos) op e pos) (F4 to ti te tget tip tset):=by
 intro L5 s σ H D I h;refine wpAny_AugAssign_SubscriptAny (aB (ho L5 s σ H _ I h) fun ov s1 hq0=>?_) ha;obtain ⟨x1,H1,I1,r1,q1⟩:=hq0;refine aB (hi L5 s1 σ H1 _ I1 q1) fun iv s2 hq0=>?_
 obtain ⟨x2,H2,I2,r2,q2⟩:=hq0;refine aB (hg L5 s2 σ H2 x1 x2 ov iv _ I2 r1 r2 q2) fun old s3 hq0=>?_
 obtain ⟨x3,H3,I3,r3,q3⟩:=hq0;refine aB (he L5 s3 σ H3 _ I3 q3) fun v s4 hq0=>?_
 obtain ⟨x4,H4,I4,r4,q4⟩:=hq0;refine aB (hp L5 s4 σ H4 x3 x4 old v _ I4 r3 r4 q4) fun new s5 hq0=>?_
 obtain ⟨x5,H5,I5,r5,q5⟩:=hq0;exact aB (hs L5 s5 σ H5 x1 x2 x5 ov iv new _ I5 r1 r2 r5 q5) fun _ s6 ⟨H6,I6,q6⟩=>⟨σ,H6,I6,q6⟩
noncomputable def IA (f:Int->Int->Int):tH:=fun x y H Q=>∃ i j,x=.int i/\y=.int j/\Q (.int (f i j)) H
theorem EU:wA X .Add (IA fun i j=>i + j):=by
 intro L5 s σ H x y v u Q I r1 r2 h;obtain ⟨i,j,e1,e2,q⟩:=h;subst e1;subst e2;obtain ⟨t,rfl⟩:=r1;obtain ⟨t',rfl⟩:=r2;exact iadd_int ⟨.int _,H,I.tok _,⟨_,rfl⟩,q⟩
theorem ET:wA X .Sub (IA fun i j=>i - j):=by
 intro L5 s σ H x y v u Q I r1 r2 h;obtain ⟨i,j,e1,e2,q⟩:=h;subst e1;subst e2;obtain ⟨t,rfl⟩:=r1;obtain ⟨t',rfl⟩:=r2;exact isub_int ⟨.int _,H,I.tok _,⟨_,rfl⟩,q⟩
end
section
variable {X:Cx}{pos:Pos}
def Cs (c:TT) (tb:TS):TS:=fun D σ H=>∃ W:Nat->St->Hp->Prop,(∃ m,W m σ H)/\∀ m σ H,W m σ H ->
 c σ H fun b H1=>if b=true then ∃ N:St->Hp->Prop,(∀ σ' H',N σ' H'->∃ m',m' < m/\W m' σ' H')/\tb { D with nx:=N,ct:=N,bk:=D.nx } σ H1 else D.nx σ H1
theorem xf {c:Expr}{body:List Stmt}{tc:TT}{tb:TS} (hp:PassesOwn (model X.prog X.w) X.A X.env X.xe) (hc:PT X c tc) (hb:PSs X body tb):PS X (.While c body [] pos) (Cs tc tb):=by
 intro L5 s σ H D I h;obtain ⟨W,⟨m0,w0⟩,turn⟩:=h;refine wpAny_While (codeAny_whileLoop (fun n s'=>∃ σ' H',Inv X L5 σ' H' s'/\W n σ' H') ?_ m0 ⟨σ,H,I,w0⟩);rintro n s1 ⟨σ1,H1,I1,w1⟩;refine wpAny_passesOwn hp (aB (hc L5 s1 σ1 H1 _ I1 (turn n σ1 H1 w1)) fun b s2 hq0=>?_);obtain ⟨H2,I2,q2⟩:=hq0;cases b with
 | true =>
  obtain ⟨N,hN,q2⟩:=q2;rw [yG rfl];refine wpAny_passesOwn hp (aB (hb L5 s2 σ1 H2 _ I2 q2) fun f s3 q3=>?_);cases f with
  | next =>
   obtain ⟨σ3,H3,I3,n3⟩:=q3;obtain ⟨m',hm,w3⟩:=hN σ3 H3 n3;exact ⟨m',hm,σ3,H3,I3,w3⟩
  | cont =>
   obtain ⟨σ3,H3,I3,n3⟩:=q3;obtain ⟨m',hm,w3⟩:=hN σ3 H3 n3;exact ⟨m',hm,σ3,H3,I3,w3⟩
  | brk=>exact q3
  | ret v=>exact q3
 | false =>
  rw [yF Bool.false_ne_true];exact wpAny_execs_nil ⟨σ1,H2,I2,q2⟩
end
structure It where
 go:Nat->Hp->Prop
 yld:Nat->Hp->V->Hp->Prop
 stop:Nat->Hp->Prop
def dB (X:Cx) (L5:List (Addr × Obj)) (H:Hp) (b:Addr):Prop :=
 H b=none/\b ≠ X.env.locals/\b ∉ X.fs/\(b ∈ X.ex\/X.s₀.heap.objs.size <= b)/\(∀ x c,X.env.cells.lookup x=some c->c ≠ b)/\∀ p ∈ X.pn++L5,p.1 ≠ b
theorem Inv.fpOk {X:Cx}{L5:List (Addr × Obj)}{σ:St}{H H':Hp}{s:Shared}{b:Addr} (I:Inv X L5 σ H s) (hb:s.heap.objs.size <= b) (hn:H' b=none):dB X L5 H' b:=by
 refine ⟨hn,Nat.ne_of_gt (zJ I.lt hb),I.nofs hb,.inr (z0 I.sz hb),fun x c e z=>?_,fun p hp z=>?_⟩
 ·obtain ⟨v,q⟩:=I.cell x c e
  exact absurd (zJ q.lt (by rw [z];exact hb)) (yV _)
 ·exact absurd (zJ (yH (I.pin p hp).1) (by rw [z];exact hb)) (yV _)
structure iX (P:Program) (w:World) (K:Frag) (tg:Expr) (J:It) (fp:List Addr) (it:Addr) (tn:Nat->Heap->Prop):Prop where
 mem:it ∈ fp
 obj:∀ i h,tn i h->∀ b ∈ fp,∃ o,h.get? b=some o/\∀ v,o.data ≠ .cell v
 keep:∀ i h h',tn i h->(∀ b ∈ fp,∀ o,h.get? b=some o->h'.get? b=some o)->tn i h'
 item:∀ (X:Cx),X.prog=P->X.w=w->X.K=K->X.calm=true->∀ (i:Nat) (L5:List (Addr × Obj)) (s:Shared) (σ:St) (H:Hp) (E:Value->Shared->Prop),Inv X L5 σ H s->(∀ b ∈ fp,dB X L5 H b)->tn i s.heap->J.go i H ->
  wpAny (model P w) X.A (pyNext (.ref it)) (fun r s1=>∃ u,r=some u /\
   wpAny (model P w) X.A (letOwnedTupleGo tg (.ref it) u) (fun _ s2=>∃ x H',Inv X L5 σ H' s2/\RelV x u/\J.yld i H x H'/\tn (i + 1) s2.heap/\∀ b ∈ fp,H' b=none) E s1) E s
 done:∀ (X:Cx),X.prog=P->X.w=w->X.K=K->X.calm=true->∀ (i:Nat) (L5:List (Addr × Obj)) (s:Shared) (σ:St) (H:Hp) (E:Value->Shared->Prop),Inv X L5 σ H s->(∀ b ∈ fp,dB X L5 H b)->tn i s.heap->J.stop i H ->
  wpAny (model P w) X.A (pyNext (.ref it)) (fun r s1=>r=none/\Inv X L5 σ H s1) E s
 self:∀ (A:Around) (i:Nat) (s:Shared) (Q:Value->Shared->Prop) (E:Value->Shared->Prop),tn i s.heap->Q (.ref it) s->wpAny (model P w) A (pyIter (.ref it)) Q E s
abbrev TI:=St->Hp->(It->Hp->Prop)->Prop
def FI (X:Cx) (L5:List (Addr × Obj)) (σ:St) (tg:Expr) (R:It->Hp->Prop) (itv:Value) (s2:Shared):Prop :=
 ∃ (it:Addr) (fp:List Addr) (tn:Nat->Heap->Prop) (J:It) (H':Hp),itv=.ref it/\Inv X L5 σ H' s2/\iX X.prog X.w X.K tg J fp it tn/\tn 0 s2.heap/\(∀ b ∈ fp,dB X L5 H' b)/\R J H'
def PI (X:Cx) (tg iter:Expr) (wi:TI):Prop :=
 ∀ (L5:List (Addr × Obj)) (s:Shared) (σ:St) (H:Hp) (R:It->Hp->Prop),Inv X L5 σ H s->wi σ H R ->
  wpAny (model X.prog X.w) X.A (eval iter X.env) (fun v s1=>wpAny (model X.prog X.w) X.A (pyIter v) (FI X L5 σ tg R) X.xe s1) X.xe s
theorem ld {M:Model}{A:Around}{E:Value->Shared->Prop}{s:Shared}{tg:Expr}{it:Addr}{u:Value}{o:Obj}{n:String}{vs:Array Value}{Q:Unit->Shared->Prop} (ho:s.heap.get? it=some o) (hc:o.cls=.type n) (hd:o.data=.fields vs)
  (hn:["enumerate","zip","dict_itemiterator","dict_reverseitemiterator","odict_iterator","itertools.zip_longest","itertools.pairwise"].contains n=false) (hQ:Q () s):wpAny M A (letOwnedTupleGo tg (.ref it) u) Q E s:=by
 unfold letOwnedTupleGo;cases tg <;> first
  | exact yE hQ
  | (cases u <;> first
    | exact yE hQ
    | (refine yD (wpAny_load ho ?_)
       rw [hc,hd];show wpAny M A (if (["enumerate","zip","dict_itemiterator","dict_reverseitemiterator","odict_iterator","itertools.zip_longest","itertools.pairwise"].contains n && vs[0]? == some (rawInt _))=true then _ else _) Q E s;rw [yF (by intro h;rw [hn,Bool.false_and] at h;cases h)];exact yE hQ))
noncomputable def Aw (K:Frag) (a:Addr):It :=
 ⟨fun i H=>∃ xs x,bJ K H a xs/\xs[i]?=some x,fun i H x H'=>H'=H/\∀ xs,bJ K H a xs->xs[i]?=some x,fun i H=>∃ xs,bJ K H a xs/\xs.length <= i⟩
noncomputable def Au (K:Frag) (a:Addr):It :=
 ⟨fun i H=>∃ xs x,gF K H a xs/\xs[i]?=some x,fun i H x H'=>H'=H/\∀ xs,gF K H a xs->xs[i]?=some x,fun i H=>∃ xs,gF K H a xs/\xs.length <= i⟩
noncomputable def wC (lo:Int) (n:Nat):It:=⟨fun i _=>i < n,fun i H x H'=>H'=H/\x=.int (lo + i),fun i _=>n <= i⟩
theorem u8 {P:Program}{w:World}{K:Frag}{tg:Expr} (a it:Addr):iX P w K tg (Aw K a) [it] it (fun i h=>h.IsListIter it a i) where
 mem:=by simp
 obj:=fun i h st b hb=>by
  have e:b=it:=by simpa using hb
  subst e;obtain ⟨o,e,c,d⟩:=st;exact ⟨o,e,fun v z=>by rw [d] at z;cases z⟩
 keep:=fun i h h' st k=>st.at fun o e=>k it (by simp) o e
 item:=by
  intro X hP hw hK hc i L5 s σ H E I hf st hg;subst hP hw hK;obtain ⟨xs,x,hq,hx⟩:=hg;obtain ⟨L9,rv,p,hz⟩:=I.list hq;obtain ⟨u,hu,ru⟩:=rv.get hx;obtain ⟨f0,f1,f2,f3,f4,f5⟩:=hf it (by simp);refine wpAny_pyNext_list_item st p.isList (x:=u) (by simpa using hu) fun h' st' sb=>?_
  have I1:Inv X L5 σ H { s with heap:=h' }:=I.turned (t':=s.toks) (fun b o hb e=>(sb.2 b hb).trans e) f0 f1 f3 f4 f5;obtain ⟨o,e,c,d⟩:=id st';exact ⟨u,rfl,ld (s:={ s with heap:=h' }) e c d dC ⟨x,H,I1,ru,⟨rfl,fun ys hy=>by rw [I.list_inj hy hq];exact hx⟩,st',fun b hb=>(hf b hb).1⟩⟩
 done:=by
  intro X hP hw hK hc i L5 s σ H E I hf st hg;subst hP hw hK;obtain ⟨xs,hq,hx⟩:=hg;obtain ⟨L9,rv,p,hz⟩:=I.list hq;obtain ⟨f0,f1,f2,f3,f4,f5⟩:=hf it (by simp);have hl:=rv.length;exact wpAny_pyNext_list_end (I.ok.hd hc) st p.isList (by simp;omega) fun h' eb=>⟨rfl,I.turned (t':=s.toks) (fun b o hb e=>eb b o hb e) f0 f1 f3 f4 f5⟩
 self:=fun _ _ _ _ _ st h=>wpAny_pyIter_listiter st h
theorem tO {P:Program}{w:World}{K:Frag}{tg:Expr} (a it:Addr):iX P w K tg (Au K a) [it] it (fun i h=>h.IsTupleIter it a i) where
 mem:=by simp
 obj:=fun i h st b hb=>by
  have e:b=it:=by simpa using hb
  subst e;obtain ⟨o,e,c,d⟩:=st;exact ⟨o,e,fun v z=>by rw [d] at z;cases z⟩
 keep:=fun i h h' st k=>st.at fun o e=>k it (by simp) o e
 item:=by
  intro X hP hw hK hc i L5 s σ H E I hf st hg;subst hP hw hK;obtain ⟨xs,x,hq,hx⟩:=hg;obtain ⟨L9,rv,p,hz⟩:=I.tuple hq;obtain ⟨u,hu,ru⟩:=rv.get hx;obtain ⟨f0,f1,f2,f3,f4,f5⟩:=hf it (by simp);refine wpAny_pyNext_tuple_item st (show s.heap.IsTuple a L9.toArray from p) (x:=u) (by simpa using hu) fun h' st' sb=>?_
  have I1:Inv X L5 σ H { s with heap:=h' }:=I.turned (t':=s.toks) (fun b o hb e=>(sb.2 b hb).trans e) f0 f1 f3 f4 f5;obtain ⟨o,e,c,d⟩:=id st';exact ⟨u,rfl,ld (s:={ s with heap:=h' }) e c d dC ⟨x,H,I1,ru,⟨rfl,fun ys hy=>by rw [I.tuple_inj hy hq];exact hx⟩,st',fun b hb=>(hf b hb).1⟩⟩
 done:=by
  intro X hP hw hK hc i L5 s σ H E I hf st hg;subst hP hw hK;obtain ⟨xs,hq,hx⟩:=hg;obtain ⟨L9,rv,p,hz⟩:=I.tuple hq;obtain ⟨f0,f1,f2,f3,f4,f5⟩:=hf it (by simp);have hl:=rv.length;exact wpAny_pyNext_tuple_end (I.ok.hd hc) st (show s.heap.IsTuple a L9.toArray from p) (by simp;omega) fun h' eb=>⟨rfl,I.turned (t':=s.toks) (fun b o hb e=>eb b o hb e) f0 f1 f3 f4 f5⟩
 self:=fun _ _ _ _ _ st h=>wpAny_pyIter_tupleiter st h
theorem tP {P:Program}{w:World}{K:Frag}{tg:Expr} (it:Addr) (lo:Int) (n:Nat):iX P w K tg (wC lo n) [it] it (fun i h=>IsRangeIter h it (lo + (i:Nat) * 1) ((n:Int) - (i:Nat)) 1) where
 mem:=by simp
 obj:=fun i h st b hb=>by
  have e:b=it:=by simpa using hb
  subst e;exact ⟨_,st,fun v z=>by
   have z':Data.fields _=Data.cell v:=z;cases z'⟩
 keep:=fun i h h' st k=>k it (by simp) _ st
 item:=by
  intro X hP hw hK hc i L5 s σ H E I hf st hg;subst hP hw hK;obtain ⟨f0,f1,f2,f3,f4,f5⟩:=hf it (by simp);have W:=Walks.range (prog:=X.prog) (w:=X.w) (I.ok.hd hc) it lo 1 n;refine W.item i s _ _ hg st fun v h' tk hv st' kk=>?_
  obtain ⟨t,rfl⟩:=hv;have I1:Inv X L5 σ H { s with heap:=h',toks:=tk }:=I.turned (fun b o hb e=>kk b o (by simpa using hb) e) f0 f1 f3 f4 f5;refine ⟨_,rfl,ld (s:={ s with heap:=h',toks:=tk }) (n:="range_iterator") st' rfl rfl dC ⟨.int (lo + i),H,I1,⟨t,?_⟩,⟨rfl,rfl⟩,st',fun b hb=>(hf b hb).1⟩⟩;rw [Int.mul_one]
 done:=by
  intro X hP hw hK hc i L5 s σ H E I hf st hg;subst hP hw hK;obtain ⟨f0,f1,f2,f3,f4,f5⟩:=hf it (by simp);exact wpAny_pyNext_range_end (I.ok.hd hc) st (by have:n <= i:=hg;omega) fun h' eb=>⟨rfl,I.turned (t':=s.toks) (fun b o hb e=>eb b o hb e) f0 f1 f3 f4 f5⟩
 self:=fun _ _ _ _ _ st h=>wpAny_pyIter_rangeiter st h
section
variable {X:Cx}{tg:Expr}
theorem pW {L5:List (Addr × Obj)}{σ:St}{H:Hp}{s:Shared}{R:It->Hp->Prop}{E:Value->Shared->Prop}{lo hi:Int}{t u v:Tok}{tk:Nat} (I:Inv X L5 σ H s) (h1:-(2 ^ 62) <= lo) (h2:lo < 2 ^ 62) (h3:-(2 ^ 62) <= hi) (h4:hi < 2 ^ 62)
  (q:R (wC lo (hi - lo).toNat) H):wpAny (model X.prog X.w) X.A (pyIter (.ref s.heap.objs.size)) (FI X L5 σ tg R) E { s with heap:=s.heap.push { cls:=.type "range",data:=.fields #[.int lo t,.int hi u,.int 1 v] },toks:=tk }:=by
 refine wpAny_pyIter_range (IsRange.new ..) (small_one h1 h2 h3 h4) ?_;have I1:Inv X L5 σ H { s with heap:=s.heap.push { cls:=.type "range",data:=.fields #[.int lo t,.int hi u,.int 1 v] },toks:=tk }:=I.kept fun b o e=>zG _ e
 refine ⟨(s.heap.push { cls:=.type "range",data:=.fields #[.int lo t,.int hi u,.int 1 v] }).objs.size,[(s.heap.push { cls:=.type "range",data:=.fields #[.int lo t,.int hi u,.int 1 v] }).objs.size],_,_,H,rfl,
  I1.kept (t':=tk) fun b o e=>zG _ e,tP _ lo (hi - lo).toNat,?_,fun b hb=>?_,q⟩
 ·have e1:lo + ((0:Nat):Int) * 1=lo:=by simp
  have e2:(((hi - lo).toNat:Nat):Int) - ((0:Nat):Int)=Builtin.Range.rangeSize lo hi 1:=by rw [rangeSize_one];split <;> omega
  show IsRangeIter _ _ (lo + ((0:Nat):Int) * 1) ((((hi - lo).toNat:Nat):Int) - ((0:Nat):Int)) 1;rw [e1,e2];exact zY _ rfl
 ·have e:b=(s.heap.push { cls:=.type "range",data:=.fields #[.int lo t,.int hi u,.int 1 v] }).objs.size:=by simpa using hb
  subst e;exact I1.fpOk (zP _) (I1.Mb.fresh (zP _))
def G6 (ta:TA):TI:=fun σ H R=>ta σ H fun vs H1=>∃ j:Int,vs=[.int j]/\-(2 ^ 62) <= j/\j < 2 ^ 62/\R (wC 0 j.toNat) H1
def G5 (ta:TA):TI:=fun σ H R=>ta σ H fun vs H1=>∃ i j:Int,vs=[.int i,.int j]/\(-(2 ^ 62) <= i/\i < 2 ^ 62/\-(2 ^ 62) <= j/\j < 2 ^ 62)/\R (wC i (j - i).toNat) H1
theorem vD {a:Expr}{ta:TA}{p pos:Pos} (hg:Gl X "range") (hm:X.mg "range"=none) (ha:PA X [a] ta) (hs:starEach [a] X.env=[(false,eval a X.env)]:=by rfl):PI X tg (.Call (.Name "range" p) [a] [] pos) (G6 ta):=by
 intro L5 s σ H R I h;refine Call_ (cN I hg hm boot_range (PyProof.Rows.callWith_type1 (aB (ha pos L5 s σ H _ I h) fun us s1 hq0=>?_) hs rfl));obtain ⟨vs,H1,I1,r1,q1⟩:=hq0;obtain ⟨j,e,q1,q2,q⟩:=q1;subst e;cases r1 with
 | cons r rr =>
  cases rr;obtain ⟨t,rfl⟩:=r;exact call_range_1 (pW I1 oM oM q1 q2 (by simpa using q))
theorem vC {a b:Expr}{ta:TA}{p pos:Pos} (hg:Gl X "range") (hm:X.mg "range"=none) (ha:PA X [a,b] ta) (hs:starEach [a,b] X.env=[(false,eval a X.env),(false,eval b X.env)]:=by rfl) (hs2:starEach [b] X.env=[(false,eval b X.env)]:=by rfl) :
  PI X tg (.Call (.Name "range" p) [a,b] [] pos) (G5 ta):=by
 intro L5 s σ H R I h;refine Call_ (cN I hg hm boot_range (PyProof.Rows.callWith_type1 (aB (ha pos L5 s σ H _ I h) fun us s1 ⟨vs,H1,I1,r1,q1⟩=>?_) (by rw [hs,hs2]) (by rw [hs2];rfl)));obtain ⟨i,j,e,⟨q1,q2,q3,q4⟩,q⟩:=q1;subst e;cases r1 with
 | cons r rr =>
  cases rr with
  | cons r' rr =>
   cases rr;obtain ⟨t,rfl⟩:=r;obtain ⟨t',rfl⟩:=r';exact call_range_2 (pW I1 q1 q2 q3 q4 q)
def Jh (wi:TI) (g:TG) (tb:TS):TS:=fun D σ H=>wi σ H fun J H1=>∃ W:Nat->Nat->St->Hp->Prop,(∃ m,W 0 m σ H1)/\∀ i m σ H,W i m σ H ->
 (J.stop i H/\D.nx σ H)\/(J.go i H/\∃ N:St->Hp->Prop,(∀ σ' H',N σ' H'->∃ m',m' < m/\W (i + 1) m' σ' H')/\∀ x H',J.yld i H x H'->g x σ H' fun σ2 H2=>tb { D with nx:=N,ct:=N,bk:=D.nx } σ2 H2)
noncomputable def fB (fp:List Addr) (h:Heap):List (Addr × Obj):=fp.filterMap fun b=>(h.get? b).map fun o=>(b,o)
theorem c9 {fp:List Addr}{h:Heap}{b:Addr}{o:Obj} (hb:b ∈ fp) (e:h.get? b=some o):(b,o) ∈ fB fp h:=List.mem_filterMap.mpr ⟨b,hb,by rw [e];rfl⟩
theorem vN {fp:List Addr}{h:Heap}{p:Addr × Obj} (hp:p ∈ fB fp h):p.1 ∈ fp/\h.get? p.1=some p.2:=by
 obtain ⟨b,hb,e⟩:=List.mem_filterMap.mp hp;cases q:h.get? b with
 | none=>rw [q] at e;cases e
 | some o =>
  rw [q] at e;have e':(b,o)=p:=yC e;subst e';exact ⟨hb,q⟩
theorem Inv.pinned {L5:List (Addr × Obj)}{σ:St}{H:Hp}{s:Shared}{fp:List Addr} (I:Inv X L5 σ H s) (hf:∀ b ∈ fp,dB X L5 H b) (ho:∀ b ∈ fp,∃ o,s.heap.get? b=some o/\∀ v,o.data ≠ .cell v):Inv X (L5++fB fp s.heap) σ H s :=
 I.pins_of fun p hp=>(zZ.mp hp).elim (fun z=>I.pin p (zK _ z)) fun z=>by
  obtain ⟨hb,e⟩:=vN z;obtain ⟨f0,f1,f2,_⟩:=hf p.1 hb;obtain ⟨o,e',d⟩:=ho p.1 hb;rw [e] at e';cases e';exact ⟨e,f0,f1,f2,d⟩
theorem Inv.unpinned {L5 pl:List (Addr × Obj)}{σ:St}{H:Hp}{s:Shared} (I:Inv X (L5++pl) σ H s):Inv X L5 σ H s:=I.pins_of fun p hp=>I.pin p (zK _ (zL _ hp))
theorem vy {iter:Expr}{body:List Stmt}{wi:TI}{g:TG}{tb:TS}{pos:Pos} (hp:PassesOwn (model X.prog X.w) X.A X.env X.xe) (hc:X.calm=true) (hi:PI X tg iter wi) (hg:PG X tg g) (hb:PSs X body tb)
  (hs:∀ x,foldedSetIterable iter X.env x=pure x:=by intro _;rfl):PS X (.For tg iter body [] pos) (Jh wi g tb):=by
 intro L5 s σ H D I h;refine wpAny_For (aB (hi L5 s σ H _ I h) fun v s1 h1=>aB h1 fun itv s2 h2=>?_) hs;obtain ⟨it,fp,tn,J,H2,e,I2,T,st2,f2,W,⟨m0,w0⟩,turn⟩:=h2;subst e
 -- what stays true of the iterator's objects through the loop
 have stat:∀ {H':Hp},(∀ b ∈ fp,H' b=none)->∀ b ∈ fp,dB X L5 H' b:=fun hn b hb=>⟨hn b hb,(f2 b hb).2⟩
 refine codeAny_forLoop_any (fun n s'=>∃ i σ' H',Inv X L5 σ' H' s'/\tn i s'.heap/\(∀ b ∈ fp,H' b=none)/\W i n σ' H') ?_ m0 ⟨0,σ,H2,I2,st2,fun b hb=>(f2 b hb).1,w0⟩;rintro n s3 ⟨i,σ3,H3,I3,st3,fr3,w3⟩;rcases turn i n σ3 H3 w3 with ⟨stop,qn⟩ | ⟨go,N,hN,step⟩
 ·refine wpAny_passesOwn hp (aB (T.done X rfl rfl rfl hc i L5 s3 σ3 H3 X.xe I3 (stat fr3) st3 stop) fun r s4 hq0=>?_)
  obtain ⟨hr,I4⟩:=hq0;subst hr;exact wpAny_execs_nil ⟨σ3,H3,I4,qn⟩
 ·refine wpAny_passesOwn hp (aB (T.item X rfl rfl rfl hc i L5 s3 σ3 H3 X.xe I3 (stat fr3) st3 go) fun r s4 hq0=>?_)
  obtain ⟨u,hr,h4⟩:=hq0;subst hr;refine wpAny_passesOwn hp (aB h4 fun _ s5 hq0=>?_);obtain ⟨x,H5,I5,r5,y5,st5,fr5⟩:=hq0;have I5':=I5.pinned (stat fr5) (T.obj _ _ st5);refine wpAny_passesOwn hp (aB (hg _ s5 σ3 H5 x u _ I5' r5 (step x H5 y5)) fun _ s6 hq0=>?_);obtain ⟨σ6,H6,I6,q6⟩:=hq0;refine wpAny_passesOwn hp (aB (hb _ s6 σ6 H6 _ I6 q6) fun f s7 q7=>?_);have again:∀ {σ7:St}{H7:Hp},Inv X (L5++fB fp s5.heap) σ7 H7 s7->N σ7 H7->∃ m,m < n/\∃ i σ' H',Inv X L5 σ' H' s7/\tn i s7.heap/\(∀ b ∈ fp,H' b=none)/\W i m σ' H':=fun {σ7 H7} I7 n7=>by
   obtain ⟨m',hm,w7⟩:=hN σ7 H7 n7;refine ⟨m',hm,i + 1,σ7,H7,I7.unpinned,T.keep _ _ _ st5 fun b hb o e=>(I7.pin (b,o) (zK _ (zK _ (c9 hb e)))).1,fun b hb=>?_,w7⟩;obtain ⟨o,e,d⟩:=T.obj _ _ st5 b hb;exact (I7.pin (b,o) (zK _ (zK _ (c9 hb e)))).2.1
  cases f with
  | next=>obtain ⟨σ7,H7,I7,n7⟩:=q7;exact again I7 n7
  | cont=>obtain ⟨σ7,H7,I7,n7⟩:=q7;exact again I7 n7
  | brk=>obtain ⟨σ7,H7,I7,q7⟩:=q7;exact ⟨σ7,H7,I7.unpinned,q7⟩
  | ret v=>obtain ⟨x7,σ7,H7,I7,r7,q7⟩:=q7;exact ⟨x7,σ7,H7,I7.unpinned,r7,q7⟩
end
abbrev R2:=V->V->Hp->VK->Prop
def kM (X:Cx) (f:Value->Value->Sem Value) (r:R2):Prop :=
 ∀ (L5:List (Addr × Obj)) (s:Shared) (σ:St) (H:Hp) (x y:V) (v u:Value) (Q:VK),Inv X L5 σ H s->RelV x v->RelV y u->r x y H Q ->
  wpAny (model X.prog X.w) X.A (f v u) (EP X L5 σ Q) X.xe s
def wx (X:Cx) (f:Value->Sem Value) (r:V->Hp->VK->Prop):Prop :=
 ∀ (L5:List (Addr × Obj)) (s:Shared) (σ:St) (H:Hp) (x:V) (v:Value) (Q:VK),Inv X L5 σ H s->RelV x v->r x H Q ->
  wpAny (model X.prog X.w) X.A (f v) (EP X L5 σ Q) X.xe s
def cS (X:Cx) (f:Value) (r:List V->Hp->VK->Prop):Prop :=
 ∀ (L5:List (Addr × Obj)) (s:Shared) (σ:St) (H:Hp) (xs:List V) (us:List Value) (Q:VK),Inv X L5 σ H s->Vals xs us->r xs H Q ->
  wpAny (model X.prog X.w) X.A (call f us) (EP X L5 σ Q) X.xe s
def J9 (X:Cx) (r:V->Hp->(Bool->Hp->Prop)->Prop):Prop :=
 ∀ (L5:List (Addr × Obj)) (s:Shared) (σ:St) (H:Hp) (x:V) (v:Value) (Q:Bool->Hp->Prop),Inv X L5 σ H s->RelV x v->r x H Q ->
  wpAny (model X.prog X.w) X.A (truthy v) (TP X L5 σ Q) X.xe s
noncomputable def ve (r:R2) (ta tb:TE):TE:=fun σ H Q=>ta σ H fun x H1=>tb σ H1 fun y H2=>r x y H2 Q
def HQ (r:V->Hp->VK->Prop) (ta:TE):TE:=fun σ H Q=>ta σ H fun x H1=>r x H1 Q
def rU (g:Int->V):V->Hp->VK->Prop:=fun x H Q=>∃ i,x=.int i/\Q (g i) H
section
variable {X:Cx}{a b c:Expr}{ta tb tc:TE}{pos:Pos}
theorem yp (ha:PE X a ta) (hb:PE X b tb) {L5:List (Addr × Obj)}{s:Shared}{σ:St}{H:Hp}{R:V->V->Hp->Prop} (I:Inv X L5 σ H s)
  (h:ta σ H fun x H1=>tb σ H1 fun y H2=>R x y H2) {Q:Value->Shared->Prop}{f:Value->Value->Sem Value}
  (hf:∀ v u s2 x y H2,Inv X L5 σ H2 s2->RelV x v->RelV y u->R x y H2->wpAny (model X.prog X.w) X.A (f v u) Q X.xe s2) :
  wpAny (model X.prog X.w) X.A (eval a X.env) (fun v s₁=>wpAny (model X.prog X.w) X.A (eval b X.env) (fun u s₂=>wpAny (model X.prog X.w) X.A (f v u) Q X.xe s₂) X.xe s₁) X.xe s:=by
 refine aB (ha L5 s σ H _ I h) fun v s1 hq0=>?_
 obtain ⟨x,H1,I1,r1,q1⟩:=hq0;refine aB (hb L5 s1 σ H1 _ I1 q1) fun u s2 hq0=>?_
 obtain ⟨y,H2,I2,r2,q2⟩:=hq0;exact hf v u s2 x y H2 I2 r1 r2 q2
theorem uc {op:Operator}{r:R2} (ho:kM X (binaryOp op) r) (ha:PE X a ta) (hb:PE X b tb):PE X (.BinOp a op b pos) (ve r ta tb):=by
 intro L5 s σ H Q I h;exact wpAny_BinOp (yp ha hb I h fun v u s2 x y H2 I2 rx ry q=>ho L5 s2 σ H2 x y v u Q I2 rx ry q)
theorem GB {op:UnaryOp}{r:V->Hp->VK->Prop} (ho:wx X (unaryOp op) r) (ha:PE X a ta):PE X (.UnaryOp op a pos) (HQ r ta):=by
 intro L5 s σ H Q I h;exact UnaryOp_ (aB (ha L5 s σ H _ I h) fun v s1 ⟨x,H1,I1,r1,q1⟩=>ho L5 s1 σ H1 x v Q I1 r1 q1)
def Kb (i j:Int):Prop:=0 <= j/\j <= 1000000/\i.natAbs < 2 ^ 64
theorem tN (k:Nat):(0:Int) <= 2 ^ k:=by
 rw [two_pow_cast];exact Int.natCast_nonneg _
theorem HN {f:Value->Sem Value}{g:Int->Int}
  (rule:∀ (i:Int) (t:Tok) (s:Shared) (Q:Value->Shared->Prop) (E:Value->Shared->Prop),Q (.int (g i) s.toks) { s with toks:=s.toks + 1 }->wpAny (model X.prog X.w) X.A (f (.int i t)) Q E s) :
  wx X f (rU fun i=>.int (g i)):=by
 intro L5 s σ H x v Q I rx h;obtain ⟨i,rfl,q⟩:=h;obtain ⟨t,rfl⟩:=rx;exact rule i t s _ _ ⟨.int (g i),H,I.tok _,⟨_,rfl⟩,q⟩
theorem Cl:wx X (unaryOp .USub) (rU fun i=>.int (-i)):=HN fun _ _ _ _ _ q=>neg_int q
theorem Cm:wx X (unaryOp .Invert) (rU fun i=>.int (Builtin.bitNot i)):=HN fun _ _ _ _ _ q=>invert_int q
end
section
variable {X:Cx}{a b c:Expr}{ta tb tc:TE}{pos:Pos}
theorem Bt {op:CmpOp}{r:R2} (ho:kM X (compareOp op) r) (ha:PE X a ta) (hb:PE X b tb) (hm:behindInMarks op b=false):PE X (.Compare a [op] [b] pos) (ve r ta tb):=by
 intro L5 s σ H Q I h;exact wpAny_Compare1 (yp ha hb I h fun v u s2 x y H2 I2 rx ry q=>ho L5 s2 σ H2 x y v u Q I2 rx ry q) hm
noncomputable def FZ (t:TE):TT:=fun σ H Q=>t σ H fun x H'=>∃ k,x=.bl k/\Q k H'
theorem Ba {op:CmpOp}{r:R2} (ho:kM X (compareOp op) r) (ha:PE X a ta) (hb:PE X b tb) (hm:behindInMarks op b=false):PT X (.Compare a [op] [b] pos) (FZ (ve r ta tb)):=by
 intro L5 s σ H Q I h;refine wpAny_isTrue_Compare1 (aB (ha L5 s σ H _ I h) fun v s1 ⟨x,H1,I1,r1,q1⟩=>aB (hb L5 s1 σ H1 _ I1 q1) fun u s2 ⟨y,H2,I2,r2,q2⟩ =>
  aB (ho L5 s2 σ H2 x y v u _ I2 r1 r2 q2) fun c s3 ⟨z,H3,I3,r3,k,e,q3⟩=>?_) hm
 subst e;cases r3;exact wpAny_truthy_bool ⟨H3,I3,q3⟩
def yt (K:Frag) (x:V) (H:Hp) (k:Bool):Prop :=
 match x with
 | .non=>k=false
 | .bl b=>k=b
 | .int i=>k=(i != 0)
 | .str y=>y.length <= sizeLine/\k=((y.length:Int) != 0)
 | .byt y=>y.size <= sizeLine/\k=((y.size:Int) != 0)
 | .ref p=>(∃ xs,bJ K H p xs/\k=!xs.isEmpty)\/(∃ xs,gF K H p xs/\k=!xs.isEmpty)\/∃ L6,H p=some (.dK L6)/\k=!L6.isEmpty
 | _=>False
theorem uB {κ:Type}{L6:List (κ × V)}{vs:List (κ × Value)} (r:KV L6 vs):(!vs.isEmpty)=!L6.isEmpty:=by
 cases r <;> rfl
theorem mT {xs:List V}{L9:List Value} (r:Vals xs L9):(!L9.toArray.isEmpty)=!xs.isEmpty:=by
 cases r <;> simp
theorem gz:(sizeLine:Nat) < 2 ^ 63:=by rw [sizeLine_eq];decide
theorem Cp:J9 X (fun x H Q=>∃ k,yt X.K x H k/\Q k H):=by
 intro L5 s σ H x v Q I rx h;obtain ⟨k,e,q⟩:=h;have hl:=gz;have hs:sizeLine=16777216:=sizeLine_eq;cases x with
 | non =>
  cases rx;have e':k=false:=e;subst e';exact truthy_none ⟨H,I,q⟩
 | bl b =>
  cases rx;have e':k=b:=e;subst e';exact wpAny_truthy_bool ⟨H,I,q⟩
 | int i =>
  obtain ⟨t,rfl⟩:=rx;have e':k=(i != 0):=e;subst e';exact PySem.P.truthy_int ⟨H,I,q⟩
 | str y =>
  obtain ⟨t,rfl⟩:=rx;obtain ⟨hy,e'⟩:y.length <= sizeLine/\k=((y.length:Int) != 0):=e;subst e';exact PySem.P.truthy_str oM ⟨H,I.tok _,q⟩
 | byt y =>
  obtain ⟨t,rfl⟩:=rx;obtain ⟨hy,e'⟩:y.size <= sizeLine/\k=((y.size:Int) != 0):=e;subst e';exact truthy_bytes oM ⟨H,I.tok _,q⟩
 | ref p =>
  cases rx;have e':(∃ xs,bJ X.K H p xs/\k=!xs.isEmpty)\/(∃ xs,gF X.K H p xs/\k=!xs.isEmpty)\/∃ L6,H p=some (.dK L6)/\k=!L6.isEmpty:=e;rcases e' with ⟨xs,hx,e'⟩ | ⟨xs,hx,e'⟩ | ⟨L6,hx,e'⟩
  ·subst e'
   obtain ⟨L9,r,pl,hz⟩:=I.list hx;have hlen:=r.length;exact wpAny_truthy_list pl.isList (by simp only [zI];omega) ⟨H,I.tok _,by rw [mT r];exact q⟩
  ·subst e'
   obtain ⟨L9,r,pl,hz⟩:=I.tuple hx;have hlen:=r.length;exact truthy_tuple pl (by simp only [zI];omega) ⟨H,I.tok _,by rw [mT r];exact q⟩
  ·subst e'
   obtain ⟨hz,hS,vs,r,m⟩:L6.length <= sizeLine/\(p == sysModules)=false/\∃ vs,KV L6 vs/\s.heap.DictOf (bX X.prog X.w) p vs:=I.Mb p _ hx;have hlen:L6.length=vs.length:=Paired.length r;exact wpAny_truthy_dict hS m oM ⟨H,I.tok _,by rw [uB r];exact q⟩
 | _=>exact (show False from e).elim
theorem xb (ha:PE X a ta) (he:∀ whole,isTrue a X.env whole=(do let v <- whole;standAt a.pos;holding [v] (truthy v))) :
  PT X a (fun σ H Q=>ta σ H fun x H'=>∃ k,yt X.K x H' k/\Q k H'):=by
 intro L5 s σ H Q I h;exact isTrue_plain (aB (ha L5 s σ H _ I h) fun v s1 ⟨x,H1,I1,r1,q1⟩=>Cp L5 s1 σ H1 x v Q I1 r1 q1) (he _)
theorem ud:kM X (binaryOp .Add) (fun x y H Q=>∃ i j,x=.str i/\y=.str j/\i.length + j.length <= sizeLine/\Q (.str (i++j)) H):=by
 intro L5 s σ H x y v u Q I rx ry h;obtain ⟨i,j,rfl,rfl,hz,q⟩:=h;obtain ⟨t,rfl⟩:=rx;obtain ⟨t',rfl⟩:=ry;exact add_str (fun t' tk=>⟨.str (i++j),H,I.tok _,⟨_,rfl⟩,q⟩) hz
theorem eP {x:V}{us:List Value} (r:Vals [x] us):∃ u,us=[u]/\RelV x u:=by
 cases r with
 | cons r1 r2=>cases r2;exact ⟨_,rfl,r1⟩
theorem yz {x y:V}{us:List Value} (r:Vals [x,y] us):∃ u w',us=[u,w']/\RelV x u/\RelV y w':=by
 cases r with
 | cons r1 r2 =>
  cases r2 with
  | cons r3 r4=>cases r4;exact ⟨_,_,rfl,r1,r3⟩
theorem yo:cS X (.builtin "abs") (fun xs H Q=>∃ i,xs=[.int i]/\Q (.int (if i < 0 then -i else i)) H):=by
 intro L5 s σ H xs us Q I r h;obtain ⟨i,rfl,q⟩:=h;obtain ⟨u,rfl,t,rfl⟩:=eP r;exact call_abs_int fun u tk=>⟨.int (if i < 0 then -i else i),H,I.tok _,⟨_,rfl⟩,q⟩
theorem wm (hc:X.calm=true):cS X (.builtin "max") (fun xs H Q=>∃ i j,xs=[.int i,.int j]/\Q (.int (if j > i then j else i)) H):=by
 intro L5 s σ H xs us Q I r h;obtain ⟨i,j,rfl,q⟩:=h;obtain ⟨u,w',rfl,⟨t,rfl⟩,⟨t',rfl⟩⟩:=yz r;refine max_two_ints (I.ok.hd hc) fun h' tk k=>⟨_,H,I.kept k,?_,q⟩
 by_cases hj:j > i
 ·rw [yG hj,yG hj];exact ⟨_,rfl⟩
 ·rw [yF hj,yF hj];exact ⟨_,rfl⟩
theorem wl (hc:X.calm=true):cS X (.builtin "min") (fun xs H Q=>∃ i j,xs=[.int i,.int j]/\Q (.int (if j < i then j else i)) H):=by
 intro L5 s σ H xs us Q I r h;obtain ⟨i,j,rfl,q⟩:=h;obtain ⟨u,w',rfl,⟨t,rfl⟩,⟨t',rfl⟩⟩:=yz r;refine min_two_ints (I.ok.hd hc) fun h' tk k=>⟨_,H,I.kept k,?_,q⟩
 by_cases hj:j < i
 ·rw [yG hj,yG hj];exact ⟨_,rfl⟩
 ·rw [yF hj,yF hj];exact ⟨_,rfl⟩
end
structure ObjM (h:Heap) (x dx C:Addr) (mA:Str->Option Value):Prop where
 obj:h.get? x=some (instObj C dx)
 ns:h.Ns1 dx mA
 ne:dx ≠ x
theorem vT {h:Heap}{dx:Addr}{mA:Str->Option Value} (n:h.Ns1 dx mA):∃ od,h.get? dx=some od/\∀ name,lookIn name od=some (mA name):=by
 obtain ⟨o,es,ep,ho,hd,hk,_,hm⟩:=n;refine ⟨o,ho,fun name=>?_⟩;have e:=hm name;unfold nsFind findBy at e;rw [<- Array.find?_toList] at e;unfold lookIn;rw [hd];dsimp only;split
 ·rename_i y q
  rw [q] at e;exact congrArg some e
 ·rename_i q
  rw [q] at e;have a:es.toList.any (·.refKey)=false:=by
   rw [List.any_eq_false];intro y hy;obtain ⟨z,t,hkey⟩:=hk y (Array.mem_toList_iff.mp hy);simp [DictEntry.refKey,hkey]
  have a':¬ es.toList.any (·.refKey)=true:=by rw [a];exact Bool.false_ne_true
  rw [yF a'];exact congrArg some e
theorem ObjM.look {h:Heap}{x dx C:Addr}{mA:Str->Option Value} (I:ObjM h x dx C mA):∃ od,InstAt h x (instObj C dx) C (some od)/\∀ name,lookIn name od=some (mA name) :=
 let ⟨od,ho,hl⟩:=vT I.ns
 ⟨od,⟨I.obj,rfl,rfl,ho⟩,hl⟩
section
variable {prog:Program}{w:World}{A:Around}{E:Value->Shared->Prop}{s:Shared}{K:Frag}{x dx C f:Addr}{mA:Str->Option Value}{name:Str}{v:Value}
theorem BZ {expr:Bool}{Q:Value->Shared->Prop} (X:K.In s.heap) (I:ObjM s.heap x dx C mA) (hg:plainGet K C name=true) (hh:hasDictIn K C=true)
  (ha:findIn K (.ref C) name=some none) (hv:mA name=some v) (hv':handedIn v=true) (h:Q v { s with toks:=s.toks + 1 }) :
  wpAny (model prog w) A (getAttr (.ref x) name expr) Q E s:=by
 obtain ⟨od,J,hl⟩:=I.look;exact get_value X J (plainGet_of hg).1 (findObj_own hh ha rfl (by rw [hl,hv])) hv' h
theorem yd {pl:Sem Bool}{Q:Value × List Value->Shared->Prop} (X:K.In s.heap) (I:ObjM s.heap x dx C mA) (hg:plainGet K C name=true)
  (hf:findIn K (.ref C) name=some (some (.ref f))) (ht:isFn K (.ref f)=true) (hv:mA name=none) (h:Q (.ref f,[.ref x]) s) :
  wpAny (model prog w) A (getMethod (.ref x) name pl) Q E s:=by
 obtain ⟨od,J,hl⟩:=I.look;exact method_fn X J (plainGet_of hg).1 (plainGet_of hg).2 hf (beq_iff_eq.mp ht) (by show (lookIn name od).map (·.isSome)=some false;rw [hl,hv];rfl) h
theorem AN {ns:List Str}{Q:Unit->Shared->Prop} (X:K.In s.heap) (I:ObjM s.heap x dx C mA)
  (hs:findIn K (.ref C) "__setattr__"=some (some (.builtin "object.__setattr__"))) (hp:plainOver K C=true) (ht:takerIn K C name=some none) (hh:hasDictIn K C=true)
  (hw:PySem.Within mA ns) (hsz:ns.length <= sizeLine)
  (h:∀ h',ObjM h' x dx C (fun y=>if y=name then some v else mA y)->Heap.SameBut dx s.heap h'->Q () { s with heap:=h',toks:=s.toks + 2 }) :
  wpAny (model prog w) A (setAttr (.ref x) name v) Q E s:=by
 obtain ⟨od,J,hl⟩:=I.look;refine set_plain X J hs (osa_open (s:={ s with toks:=s.toks + 1 }) (r:=none) X J hp ht fun b=>?_);obtain ⟨cd,hc,hd'⟩:=any_some hh;have hx:s.heap.get? x=some ⟨.ref C,some dx,.plain,#[]⟩:=I.obj;refine yD (yE (yD (yD (wpAny_loadPart hx (yD (PySem.W.Looks.here (s:={ s with toks:=s.toks + 1 }) (looks_clsIn X hc) ?_))))));rw [hd'];refine yE (a:=some dx) (yD (yE (yD ?_)));refine wpAny_nsSet1 (s:={ s with toks:=s.toks + 1 }) I.ns fun h' hn2 hs2=>?_
 obtain ⟨oD,esD,epD,hoD,hdD,hcD⟩:=hn2.count (PySem.Within.cons name v hw);refine yD (wpAny_lookBehind hoD (by rw [hdD];exact pastItsLine_dict (z0 hcD (by rw [yT];omega))) ?_);exact yE (h _ ⟨(hs2.2 _ (Ne.symm I.ne)).trans I.obj,hn2,I.ne⟩ hs2)
theorem xO {R:Result->Shared->Prop}{vs:List Value}{kw:List (Str × Value)} (X:K.In s.heap) (hm:makesIn K C=true)
  (hi:findIn K (.ref C) "__init__"=some (some (.ref f))) (hf:typeIn K (.ref f)=some (.type "function"))
  (h:codeAny (model prog w) (A.under (.builtin "type.__call__" ⟨.ref C::vs,kw⟩)) (.call (.ref f) ⟨.ref (s.heap.objs.size + 1)::vs,kw⟩) (InitBack (s.heap.objs.size + 1) R)
   { s with heap:=(s.heap.push emptyDict).push (instObj C s.heap.objs.size) }) :
  codeAny (model prog w) A (.call (.ref C) ⟨vs,kw⟩) R s:=by
 obtain ⟨hh,g,d,t,os⟩:=s;exact make_core (makes_of X hm) (looks_findIn X hi) (fun self=>bind_fn X self hf) (.inl rfl) h
end
noncomputable def dI (f:Str) (v:V):List (Str × V)->List (Str × V)
 | []=>[(f,v)]
 | (g,x)::r=>if g=f then (g,v)::r else (g,x)::dI f v r
theorem lz (f g:Str) (v:V):∀ fs:List (Str × V),(dI f v fs).lookup g=if g=f then some v else fs.lookup g
 | []=>by
  show List.lookup g [(f,v)]=_;by_cases h:g=f
  ·have hb:(g == f)=true:=beq_iff_eq.mpr h
   simp only [List.lookup,hb,yG h]
  ·have hb:(g == f)=false:=beq_eq_false_iff_ne.mpr h
   simp only [List.lookup,hb,yF h]
 | (k,x)::r=>by
  have ih:=lz f g v r;rw [show dI f v ((k,x)::r)=(if k=f then (k,v)::r else (k,x)::dI f v r) from rfl];by_cases hk:k=f
  ·rw [yG hk]
   by_cases h:g=k
   ·have hb:(g == k)=true:=beq_iff_eq.mpr h
    simp only [List.lookup,hb,yG (h.trans hk)]
   ·have hb:(g == k)=false:=beq_eq_false_iff_ne.mpr h
    simp only [List.lookup,hb,yF (fun e:g=f=>h (e.trans hk.symm))]
  ·rw [yF hk]
   by_cases h:g=k
   ·have hb:(g == k)=true:=beq_iff_eq.mpr h
    simp only [List.lookup,hb,yF (fun e:g=f=>hk (h.symm.trans e))]
   ·have hb:(g == k)=false:=beq_eq_false_iff_ne.mpr h
    simp only [List.lookup,hb];exact ih
theorem j5 (f:Str) (v:V):∀ fs:List (Str × V),f ∈ (dI f v fs).map (·.1)/\∀ g,g ∈ fs.map (·.1)->g ∈ (dI f v fs).map (·.1)
 | []=>⟨by simp [dI],fun g h=>by simp at h⟩
 | (k,x)::r=>by
  obtain ⟨i1,i2⟩:=j5 f v r;rw [show dI f v ((k,x)::r)=(if k=f then (k,v)::r else (k,x)::dI f v r) from rfl];by_cases hk:k=f
  ·rw [yG hk]
   subst hk;exact ⟨by simp,fun g h=>by simpa using h⟩
  ·rw [yF hk]
   refine ⟨?_,fun g h=>?_⟩
   ·rw [zO]
    exact zQ _ i1
   ·rw [zO] at h ⊢
    rcases zT.mp h with e | e
    ·exact zT.mpr (.inl e)
    ·exact zQ _ (i2 g e)
theorem lB (f:Str) (v:V):∀ fs:List (Str × V),(dI f v fs).length <= fs.length + 1
 | []=>by simp [dI]
 | (k,x)::r=>by
  have ih:=lB f v r;rw [show dI f v ((k,x)::r)=(if k=f then (k,v)::r else (k,x)::dI f v r) from rfl];by_cases hk:k=f
  ·rw [yG hk,yT,yT];omega
  ·rw [yF hk,yT,yT];omega
theorem RelO.some_of {v:V}{o:Option Value} (r:RelO (some v) o):∃ u,o=some u/\RelV v u:=by
 cases o with
 | none=>exact (show False from r).elim
 | some u=>exact ⟨u,rfl,r⟩
theorem RelO.none_of {o:Option Value} (r:RelO none o):o=none:=by
 cases o with
 | none=>rfl
 | some u=>exact (show False from r).elim
theorem v6 {v:V}{u:Value} (r:RelV v u):handedIn u=true:=by
 cases v with
 | non=>cases (show u=Value.none from r);rfl
 | bl b=>cases (show u=Value.bool b from r);rfl
 | int i=>obtain ⟨t,e⟩:=(show ∃ t,u=Value.int i t from r);cases e;rfl
 | str x=>obtain ⟨t,e⟩:=(show ∃ t,u=Value.str x t from r);cases e;rfl
 | byt b=>obtain ⟨t,e⟩:=(show ∃ t,u=Value.bytes b t from r);cases e;rfl
 | flt b=>obtain ⟨t,e⟩:=(show ∃ t,u=Value.float b t from r);cases e;rfl
 | ref a=>cases (show u=Value.ref a from r);rfl
 | ty n=>cases (show u=Value.type n from r);rfl
section
variable {P:Program}{w:World}{H H':Hp}{h h':Heap}{a C dx:Addr}{fs fs':List (Str × V)}
theorem oh (Mb:HOk P w H h) (e:H a=some (.ins C dx fs)):∃ mA,ObjM h a dx C mA/\(∀ f,RelO (fs.lookup f) (mA f))/\PySem.Within mA (fs.map (·.1))/\fs.length <= 1000/\H dx=some (.own a):=by
 obtain ⟨d,z,ne,ob,mA,n,r,q⟩:=(show ObjOk P w H h a (.ins C dx fs) from Mb a _ e);exact ⟨mA,⟨ob,n,ne⟩,r,q,z,d⟩
end
structure Cls (K:Frag) (C:Addr):Prop where
 pg:plainGet K C Str.empty=true
 hd:hasDictIn K C=true
 po:plainOver K C=true
 sa:findIn K (.ref C) "__setattr__"=some (some (.builtin "object.__setattr__"))
theorem Cls.get {K:Frag}{C:Addr} (c:Cls K C) (f:Str):plainGet K C f=true:=c.pg
def NoAttr (K:Frag) (C:Addr) (f:Str):Prop:=findIn K (.ref C) f=some none
theorem NoAttr.taker {K:Frag}{C:Addr}{f:Str} (n:NoAttr K C f):takerIn K C f=some none:=by
 unfold takerIn;rw [show findIn K (.ref C) f=some none from n];rfl
structure jD (K:Frag) (C:Addr) (m:Str) (f:Addr):Prop where
 at_:findIn K (.ref C) m=some (some (.ref f))
 fn:isFn K (.ref f)=true
 kp:keepIn K (.ref f)=true
section
variable {X:Cx}{L5:List (Addr × Obj)}{σ:St}{H:Hp}{s:Shared}{a C dx:Addr}{fs:List (Str × V)}{f:Str}{v:V}{A:Around}{E:Value->Shared->Prop}
theorem uH {b:Bool}{Q:Value->Shared->Prop} (I:Inv X L5 σ H s) (e:H a=some (.ins C dx fs)) (c:Cls X.K C) (n:NoAttr X.K C f) (l:fs.lookup f=some v)
  (h:∀ u s',Inv X L5 σ H s'->RelV v u->Q u s'):wpAny (model X.prog X.w) A (getAttr (.ref a) f b) Q E s:=by
 obtain ⟨mA,O,r,_,_,_⟩:=oh I.Mb e;obtain ⟨u,hu,ru⟩:=RelO.some_of (v:=v) (o:=mA f) (by rw [<- l];exact r f);exact BZ I.kIn O (c.get f) c.hd n hu (v6 ru) (h u _ (I.tok _) ru)
theorem jy {m:Str}{g:Addr}{pl:Sem Bool}{Q:Value × List Value->Shared->Prop} (I:Inv X L5 σ H s) (e:H a=some (.ins C dx fs)) (c:Cls X.K C) (k:jD X.K C m g) (l:fs.lookup m=none)
  (h:Q (.ref g,[.ref a]) s):wpAny (model X.prog X.w) A (getMethod (.ref a) m pl) Q E s:=by
 obtain ⟨mA,O,r,_,_,_⟩:=oh I.Mb e;have hn:mA m=none:=RelO.none_of (by rw [<- l];exact r m);exact yd I.kIn O (c.get m) k.at_ k.fn hn h
theorem tW {y:V}{u:Value}{Q:Unit->Shared->Prop} (I:Inv X L5 σ H s) (e:H a=some (.ins C dx fs)) (c:Cls X.K C) (n:NoAttr X.K C f) (hl:fs.length < 1000) (ry:RelV y u)
  (h:∀ s',Inv X L5 σ (af H a (.ins C dx (dI f y fs))) s'->Q () s'):wpAny (model X.prog X.w) A (setAttr (.ref a) f u) Q E s:=by
 obtain ⟨mA,O,r,wi,_,ho⟩:=oh I.Mb e;have hz:(fs.map (·.1)).length <= sizeLine:=by rw [zH,sizeLine_eq];omega
 refine AN I.kIn O c.sa c.po n.taker c.hd wi hz fun h' O' sb=>h _ ?_
 have hd:∃ o,h'.get? dx=some o:=let ⟨o,_,_,e',_⟩:=O'.ns;⟨o,e'⟩;refine I.write (x:=a) (e:=dx) (by rw [e];exact True.intro) (.inr ho) (fun b q hb z=>(sb.2 b hb).trans z) hd ?_;refine ⟨by rw [ad O.ne];exact ho,?_,O.ne,O'.obj,_,O'.ns,fun g=>?_,fun g hg=>?_⟩
 ·have:=lB f y fs;omega
 ·show RelO ((dI f y fs).lookup g) (if g=f then some u else mA g)
  rw [lz];by_cases q:g=f
  ·rw [yG q,yG q];exact ry
  ·rw [yF q,yF q];exact r g
 ·by_cases q:g=f
  ·rw [q];exact (j5 f y fs).1
  ·refine (j5 f y fs).2 g (wi g fun z=>hg ?_)
   show (if g=f then some u else mA g)=none;rw [yF q];exact z
theorem Inv.made (I:Inv X L5 σ H s):Inv X L5 σ (af (af H s.heap.objs.size (.own (s.heap.objs.size + 1))) (s.heap.objs.size + 1) (.ins C s.heap.objs.size []))
  { s with heap:=(s.heap.push emptyDict).push (instObj C s.heap.objs.size) }:=by
 have e1:(s.heap.push emptyDict).get? s.heap.objs.size=some emptyDict:=zY s.heap rfl;have e2:((s.heap.push emptyDict).push (instObj C s.heap.objs.size)).get? (s.heap.objs.size + 1)=some (instObj C s.heap.objs.size):=by
  have:=zY (s.heap.push emptyDict) (o:=instObj C s.heap.objs.size) rfl
  rwa [Heap.size_push] at this
 have e3:(s.heap.push emptyDict).Ns s.heap.objs.size (fun _=>none):=⟨emptyDict,#[],_,e1,rfl,(fun e he=>absurd he (by simp)),fun _=>rfl⟩;have I1:=I.laid (a:=s.heap.objs.size) (o:=.own (s.heap.objs.size + 1)) (h':=s.heap.push emptyDict) (t':=s.toks) (fun b u q=>zG _ q) (zP _) ⟨_,e1⟩;refine I1.laid (a:=s.heap.objs.size + 1) (o:=.ins C s.heap.objs.size []) (t':=s.toks) (fun b u q=>zG _ q) (Nat.le_of_eq (Heap.size_push _ _)) ?_;have ne:s.heap.objs.size ≠ s.heap.objs.size + 1:=zU (Nat.lt_succ_self _);refine ⟨by rw [ad ne,ar],Nat.zero_le _,ne,e2,fun _=>none,(Heap.Ns1.of_empty e3).at fun o q=>zG _ q,fun _=>True.intro,fun y hy=>absurd rfl hy⟩
theorem Cc {prog:Program}{w:World}{env:Env}{e:Expr}{f:Str}{pos:Pos}{s:Shared}{Q:Value->Shared->Prop} (hb:attributeBase e f env (eval e env)=eval e env)
  (h:wpAny (model prog w) A (eval e env) (fun o s₁=>wpAny (model prog w) A (getAttr o f true) Q E s₁) E s):wpAny (model prog w) A (eval (.Attribute e f pos) env) Q E s :=
 Attribute_any_ h (by rw [arm_eval_Attribute,hb])
end
def Ji (K:Frag) (ta:TE) (f:Str):TE:=fun σ H Q=>ta σ H fun x H1=>∃ a C dx fs v,x=.ref a/\H1 a=some (.ins C dx fs)/\Cls K C/\NoAttr K C f/\fs.lookup f=some v/\Q v H1
def Jn (K:Frag) (ta tv:TE) (f:Str):TS:=fun D σ H=>tv σ H fun y H1=>ta σ H1 fun x H2=>∃ a C dx fs,x=.ref a/\H2 a=some (.ins C dx fs)/\Cls K C/\NoAttr K C f/\fs.length < 1000 /\
 D.nx σ (af H2 a (.ins C dx (dI f y fs)))
section
variable {X:Cx}{o e value:Expr}{f:Str}{pos pos' tpos:Pos}{ta tv:TE}
theorem DB (he:PE X e ta) (hb:attributeBase e f X.env (eval e X.env)=eval e X.env):PE X (.Attribute e f pos) (Ji X.K ta f):=by
 intro L5 s σ H Q I h;refine Cc hb (aB (he L5 s σ H _ I h) fun u s1 hq0=>?_);obtain ⟨x,H1,I1,rx,a,C,dx,fs,v,ex,ea,c,n,l,q⟩:=hq0;subst ex;obtain rfl:u=Value.ref a:=rx;exact uH I1 ea c n l fun u' s2 I2 ru=>⟨v,H1,I2,ru,q⟩
theorem Dm (ha:PE X o ta) (hv:PE X value tv) (hs:swapsWith value (some (.Attribute o f pos')) pos.line X.env=pure false):PS X (.Assign [.Attribute o f pos'] value pos) (Jn X.K ta tv f):=by
 intro L5 s σ H D I h;refine plainObj_wpAny_Assign_Attribute (aB (hv L5 s σ H _ I h) fun u s1 ⟨y,H1,I1,ry,q⟩=>aB (ha L5 s1 σ H1 _ I1 q) fun ov s2 hq0=>?_) hs;obtain ⟨x,H2,I2,rx,a,C,dx,fs,ex,ea,c,n,l,q2⟩:=hq0;subst ex;obtain rfl:ov=Value.ref a:=rx;exact tW I2 ea c n l ry fun s3 I3=>⟨σ,_,I3,q2⟩
theorem FP {pl:Sem Bool}{m:Str}{apos:Pos}{args:List Expr}{L5:List (Addr × Obj)}{s:Shared}{σ:St}{H:Hp}{Q:Value->Shared->Prop}{te:TE} (he:PE X e te) (I:Inv X L5 σ H s)
  (h:te σ H fun x H1=>∃ a C dx fs g,x=.ref a/\H1 a=some (.ins C dx fs)/\Cls X.K C/\jD X.K C m g/\fs.lookup m=none /\
   ∀ s1,Inv X L5 σ H1 s1->wpAny (model X.prog X.w) X.A (callWith pos (.ref g) [.ref a] (backTo pos (starEach args X.env)) (backToKw pos (keywordEach [] X.env))) Q X.xe s1)
  (ht:eval (.Call (.Attribute e m apos) args [] pos) X.env=(do
   let ov <- eval e X.env
   standAt apos.atName
   let (f,first) <- holding [ov] (getMethod ov m pl)
   callWith pos f first (backTo pos (starEach args X.env)) (backToKw pos (keywordEach [] X.env)))) :
  wpAny (model X.prog X.w) X.A (eval (.Call (.Attribute e m apos) args [] pos) X.env) Q X.xe s:=by
 refine methodCall_KW (pl:=pl) (aB (he L5 s σ H _ I h) fun u s1 hq0=>?_) ht;obtain ⟨x,H1,I1,rx,a,C,dx,fs,g,ex,ea,c,k,l,q⟩:=hq0;subst ex;obtain rfl:u=Value.ref a:=rx;exact jy I1 ea c k l (q s1 I1)
end
structure Room (k:Nat) (A:Around):Prop where
 hd:A.handled=none
 dp:A.depth + 3 * k + 5 < recursionLimit
 un:A.units + 16 * k + 200 < cLine
 gd:A.guards=some []
theorem Room.mono {j k:Nat}{A:Around} (r:Room k A) (h:j <= k):Room j A:=⟨r.hd,by have:=r.dp;omega,by have:=r.un;omega,r.gd⟩
theorem Room.deeper {k:Nat}{A:Around} (r:Room (k + 1) A) (env:Env):Room k (A.deeper env) :=
 ⟨r.hd,by have:=r.dp;show A.depth + 1 + 3 * k + 5 < _;omega,by have:=r.un;show A.units + 3 + 16 * k + 200 < _;omega,r.gd⟩
theorem Room.in1 {k:Nat}{A:Around} (r:Room (k + 1) A):Room k A.in1 :=
 ⟨r.hd,by have:=r.dp;show A.depth + 3 * k + 5 < _;omega,by have:=r.un;show A.units + 1 + 16 * k + 200 < _;omega,r.gd⟩
theorem ut {A:Around}{C:Addr}{us:List Value}{kw:List (Str × Value)}:(A.under (.builtin "type.__call__" ⟨.ref C::us,kw⟩)).depth=A.depth + 1:=by
 first | rfl | simp [Around.under,Code.weight,Code.isCreation,Code.isGuard,Code.isCaller,Code.frames,Code.isFrame,guardIds]
theorem ur {A:Around}{C:Addr}{us:List Value}{kw:List (Str × Value)}:(A.under (.builtin "type.__call__" ⟨.ref C::us,kw⟩)).units=A.units + 1:=by
 first | rfl | simp [Around.under,Code.cUnits,Code.frames,Code.isFrame]
theorem rH {A:Around}{C:Addr}{us:List Value}{kw:List (Str × Value)}:(A.under (.builtin "type.__call__" ⟨.ref C::us,kw⟩)).guards=A.guards:=by
 first | rfl | simp [Around.under,Code.guards,Code.isGuard,guardIds,pushGuards]
theorem Room.make {k:Nat}{A:Around} (r:Room (k + 1) A) (C:Addr) (us:List Value) (kw:List (Str × Value)):Room k (A.under (.builtin "type.__call__" ⟨.ref C::us,kw⟩)) :=
 ⟨r.hd,by have:=r.dp;rw [ut];omega,by have:=r.un;rw [ur];omega,by rw [rH];exact r.gd⟩
theorem Room.depth {k:Nat}{A:Around} (r:Room k A):A.depth < recursionLimit:=by have:=r.dp;omega
theorem Room.units {k:Nat}{A:Around} (r:Room k A):A.units + 64 < cLine:=by have:=r.un;omega
noncomputable def tR:TA:=fun _ H Q=>Q [] H
noncomputable def zc (ta:TE) (tr:TA):TA:=fun σ H Q=>ta σ H fun x H1=>tr σ H1 fun xs H2=>Q (x::xs) H2
section
variable {X:Cx}{e:Expr}{es:List Expr}{te:TE}{t:TA}{pos:Pos}
theorem vI:PA X [] tR:=fun _ _ _ _ H Q I h=>Calls.spliced_nil ⟨[],H,I,.nil,h⟩
theorem sf (ha:PE X e te) (hr:PA X es t) (hs:starEach (e::es) X.env=(false,eval e X.env)::starEach es X.env:=by rfl):PA X (e::es) (zc te t):=by
 intro pos L5 s σ H Q I h;rw [hs];show wpAny _ _ (spliced ((false,eval e X.env)::backTo pos (starEach es X.env))) _ _ s;refine Calls.spliced_cons (aB (ha L5 s σ H _ I h) fun u s1 hq0=>?_);obtain ⟨x,H1,I1,r1,q1⟩:=hq0;exact aB (hr pos L5 s1 σ H1 _ I1 q1) fun us s2 ⟨xs,H2,I2,r2,q2⟩=>⟨x::xs,H2,I2,.cons r1 r2,q2⟩
def Ja (t:TA):TE:=fun σ H Q=>t σ H fun xs H1=>xs.length <= sizeLine/\∀ p,H1 p=none->Q (.ref p) (af H1 p (.tup xs))
def Jf (t:TA):TE:=fun σ H Q=>t σ H fun xs H1=>xs.length <= sizeLine/\∀ p,H1 p=none->Q (.ref p) (af H1 p (.lst xs))
theorem Dw {x1} (h:PA X es t):PE X (.Tuple es x1 pos) (Ja t):=by
 intro L5 s σ H Q I hq;refine wpAny_Tuple_spliced (aB (h pos L5 s σ H _ I hq) fun us s1 ⟨xs,H1,I1,r,z,q⟩=>⟨by rw [<- r.length];exact z,?_⟩);have hf:H1 s1.heap.objs.size=none:=I1.Mb.fresh (zP _);refine ⟨.ref s1.heap.objs.size,af H1 s1.heap.objs.size (.tup xs),I1.laid (t':=s1.toks) (fun b u e=>zG _ e) (zP _) ?_,rfl,q _ hf⟩;exact ⟨z,us,r,⟨_,zY _ rfl,rfl,_,rfl⟩⟩
theorem vF (h:PA X es t):PE X (.List es pos) (Jf t):=by
 intro L5 s σ H Q I hq;refine wpAny_List_spliced (aB (h pos L5 s σ H _ I hq) fun us s1 ⟨xs,H1,I1,r,z,q⟩=>⟨by rw [<- r.length];exact z,?_⟩);have hf:H1 s1.heap.objs.size=none:=I1.Mb.fresh (zP _);refine ⟨.ref s1.heap.objs.size,af H1 s1.heap.objs.size (.lst xs),I1.laid (t':=s1.toks) (fun b u e=>zG _ e) (zP _) ?_,rfl,q _ hf⟩;exact ⟨z,us,0,r,zY _ rfl⟩
end
abbrev Sp:=List V->Hp->VK->XK->Prop
abbrev kR:=List Env->Hp->Shared->XK->Value->Shared->Prop
structure Env0 (P:Program) (w:World) (K:Frag) (mg:Str->Option Value) (base:Heap) (A:Around) (outer:List Env) (s:Shared) (H:Hp):Prop where
 frames:A.frames=some outer
 mod:Mod K mg base
 bs:∀ b o,base.get? b=some o->s.heap.get? b=some o/\H b=none
 bsz:base.objs.size <= s.heap.objs.size
 funs:s.heap.FunFrames base outer
 frf:∀ b ∈ jf outer,H b=none
 Mb:HOk P w H s.heap
 bare:AllBare s.gens
def CE (outer:List Env) (P:Program) (w:World) (H:Hp) (s:Shared) (Q:VK) (u:Value) (s':Shared):Prop :=
 ∃ v H',s'.os=s.os/\AllBare s'.gens/\Un (jf outer) [] H H' s.heap s'.heap/\HOk P w H' s'.heap/\RelV v u/\Q v H'
def CR (CX:kR) (outer:List Env) (P:Program) (w:World) (H:Hp) (s:Shared) (Q:VK) (E:XK) (r:Result) (s':Shared):Prop :=
 match r with
 | .ok (.ret u)=>CE outer P w H s Q u s'
 | .ok _=>False
 | .error e=>CX outer H s E e s'
structure FnOk (P:Program) (w:World) (K:Frag) (mg:Str->Option Value) (base:Heap) (CX:kR) (k:Nat) (f:Addr) (fd:FuncData) (ps:List Str) (sp:Sp):Prop where
 len:∀ vs H Q E,sp vs H Q E->vs.length=ps.length
 run:∀ (A:Around) (outer:List Env) (s:Shared) (H:Hp) (args:Args) (us:List Value) (vs:List V) (Q:VK) (E:XK),Room k A->Env0 P w K mg base A outer s H->BindsTo s fd args (ps.zip us)->Vals vs us->sp vs H Q E ->
  codeAny (model P w) A (.call (.ref f) args) (CR CX outer P w H s Q E) s
theorem FnOk.mono {P:Program}{w:World}{K:Frag}{mg:Str->Option Value}{base:Heap}{CX:kR}{j k:Nat}{f:Addr}{fd:FuncData}{ps:List Str}{sp:Sp} (F:FnOk P w K mg base CX j f fd ps sp) (h:j <= k) :
  FnOk P w K mg base CX k f fd ps sp:=⟨F.len,fun A outer s H args us vs Q E hr=>F.run A outer s H args us vs Q E (hr.mono h)⟩
theorem FnOk.imp {P:Program}{w:World}{K:Frag}{mg:Str->Option Value}{base:Heap}{CX:kR}{k:Nat}{f:Addr}{fd:FuncData}{ps:List Str}{sp sp':Sp} (F:FnOk P w K mg base CX k f fd ps sp)
  (h:∀ vs H Q E,sp' vs H Q E->sp vs H Q E):FnOk P w K mg base CX k f fd ps sp' :=
 ⟨fun vs H Q E q=>F.len vs H Q E (h _ _ _ _ q),fun A outer s H args us vs Q E hr he hb hv hs=>F.run A outer s H args us vs Q E hr he hb hv (h _ _ _ _ hs)⟩
theorem Env0.make {P:Program}{w:World}{K:Frag}{mg:Str->Option Value}{base:Heap}{A:Around}{outer:List Env}{s:Shared}{H:Hp} (e:Env0 P w K mg base A outer s H) (C:Addr) (us:List Value) (kw:List (Str × Value)) :
  Env0 P w K mg base (A.under (.builtin "type.__call__" ⟨.ref C::us,kw⟩)) outer s H:=⟨by first | exact e.frames | (simpa [Around.under,Code.envs,Code.isFrame,pushEnvs] using e.frames),e.mod,e.bs,e.bsz,e.funs,e.frf,e.Mb,e.bare⟩
section
variable {X:Cx}{L5:List (Addr × Obj)}{σ:St}{H:Hp}{s s':Shared}
theorem Inv.env0 (I:Inv X L5 σ H s):Env0 X.prog X.w X.K X.mg X.base X.A X.stack s H :=
 ⟨I.ok.frames,I.ok.mod,I.bs,z0 I.ok.bsz I.sz,I.stack,I.stkFree,I.Mb,I.bare⟩
theorem Inv.after {Q:VK}{u:Value} (I:Inv X L5 σ H s) (h:CE X.stack X.prog X.w H s Q u s'):EP X L5 σ Q u s':=by
 obtain ⟨v,H',os,bare,un,Mb,r,q⟩:=h;obtain ⟨hh,g,d,t,os'⟩:=s';obtain rfl:os'=s.os:=os;exact ⟨v,H',I.call (h':=hh) (g':=g) (d':=d) (t':=t) (ch:=[]) un Mb bare (fun b z=>absurd z (by simp)),r,q⟩
end
noncomputable def tT (sp:Sp) (dvs:List V) (E:XK) (t:TA):TE:=fun σ H Q=>t σ H fun vs H1=>sp (vs++dvs) H1 Q E
def tS (C:Addr) (m:Str) (sp:Sp) (dvs:List V) (E:XK) (ta:TE) (t:TA):TE:=fun σ H Q=>ta σ H fun x H1=>∃ a dx fs,x=.ref a/\H1 a=some (.ins C dx fs)/\fs.lookup m=none /\
 t σ H1 fun vs H2=>sp (x::(vs++dvs)) H2 Q E
def zb (C:Addr) (sp:Sp) (dvs:List V) (E:XK) (t:TA):TE:=fun σ H Q=>t σ H fun vs H1=>∀ x dx,H1 x=none->H1 dx=none->dx ≠ x ->
 sp (.ref x::(vs++dvs)) (af (af H1 dx (.own x)) x (.ins C dx [])) (fun v H2=>v=.non/\Q (.ref x) H2) E
def Binds (K:Frag) (fd:FuncData) (ps:List Str) (ds:List Value):Prop :=
 ∀ (s:Shared) (us:List Value),K.In s.heap->(us++ds).length=ps.length->BindsTo s fd ⟨us,[]⟩ (ps.zip (us++ds))
theorem Binds.all {K:Frag}{fd:FuncData}{ps:List Str} (h:∀ us:List Value,us.length=ps.length->bindArgs fd ⟨us,[]⟩=pure (ps.zip us)):Binds K fd ps []:=fun s us _ hl=>by
 rw [List.append_nil] at hl ⊢;exact .of_eq (h us hl)
def gG (CX:kR) (X:Cx) (E:XK):Prop:=∀ (L5:List (Addr × Obj)) (σ:St) (H:Hp) (s:Shared) (e:Value) (s':Shared),Inv X L5 σ H s->CX X.stack H s E e s'->X.xe e s'
section
variable {X:Cx}{CX:kR}{k:Nat}{f C:Addr}{fd:FuncData}{ps:List Str}{sp:Sp}{dvs:List V}{ds:List Value}{E:XK}{x m:Str}{p pos apos:Pos}{e o:Expr}{es:List Expr}{ta:TE}{t:TA}
theorem mz {L5:List (Addr × Obj)}{σ:St}{H:Hp}{s:Shared}{Q:VK}{us:List Value}{vs:List V} (F:FnOk X.prog X.w X.K X.mg X.base CX k f fd ps sp) (hr:Room k X.A) (hb:Binds X.K fd ps ds) (hd:Vals dvs ds) (hx:gG CX X E)
  (I:Inv X L5 σ H s) (r:Vals vs us) (h:sp (vs++dvs) H Q E):wpAny (model X.prog X.w) X.A (call (.ref f) us) (EP X L5 σ Q) X.xe s:=by
 have r2:Vals (vs++dvs) (us++ds):=r.append hd;have hl:(us++ds).length=ps.length:=by rw [<- r2.length];exact F.len _ _ _ _ h
 refine wpAny_call (codeAny_mono (F.run X.A X.stack s H ⟨us,[]⟩ (us++ds) (vs++dvs) Q E hr I.env0 (hb s us I.kIn hl) r2 h) fun r s' hq=>?_);cases r with
 | error e=>exact hx L5 σ H s e s' I hq
 | ok fl =>
  cases fl with
  | ret u=>exact I.after hq
  | next=>exact False.elim hq
  | brk=>exact False.elim hq
  | cont=>exact False.elim hq
theorem Bu (F:FnOk X.prog X.w X.K X.mg X.base CX k f fd ps sp) (hr:Room k X.A) (hg:Gl X x) (hm:X.mg x=some (.ref f)) (hk:keepIn X.K (.ref f)=true) (hb:Binds X.K fd ps ds) (hd:Vals dvs ds) (hx:gG CX X E)
  (ha:PA X (e::es) t) (hdb:(x == ("__debug__":Str))=false:=by decide) (he:starEach (e::es) X.env=(false,eval e X.env)::starEach es X.env:=by rfl) (hpl:(backTo pos (starEach es X.env)).any (·.1)=false:=by rfl) :
  PE X (.Call (.Name x p) (e::es) [] pos) (tT sp dvs E t):=by
 intro L5 s σ H Q I h;refine wpAny_Call_Name_kw (k8 I hg hm ?_ hdb);refine callWith_K (h₀:=X.base) I.ok.mod.kin hk (aB (ha pos L5 s σ H _ I h) fun us s1 ⟨vs,H1,I1,r,q⟩=>⟨I1.kIn,?_⟩) he hpl;exact mz F hr hb hd hx I1 r q
theorem xw (F:FnOk X.prog X.w X.K X.mg X.base CX k f fd ps sp) (hr:Room k X.A) (hg:Gl X x) (hm:X.mg x=some (.ref f)) (hk:keepIn X.K (.ref f)=true) (hb:Binds X.K fd ps ds) (hd:Vals dvs ds) (hx:gG CX X E)
  (hdb:(x == ("__debug__":Str))=false:=by decide):PE X (.Call (.Name x p) [] [] pos) (tT sp dvs E tR):=by
 intro L5 s σ H Q I h;refine wpAny_Call_Name_kw (k8 I hg hm ?_ hdb);exact PySem.W.callWith_K0 I.kIn hk (mz (us:=[]) F hr hb hd hx I .nil h)
theorem Bq {pl:Sem Bool} (he:PE X o ta) (c:Cls X.K C) (hm:jD X.K C m f) (F:FnOk X.prog X.w X.K X.mg X.base CX k f fd ps sp) (hr:Room k X.A) (hb:Binds X.K fd ps ds) (hd:Vals dvs ds) (hx:gG CX X E) (ha:PA X (e::es) t)
  (hst:starEach (e::es) X.env=(false,eval e X.env)::starEach es X.env:=by rfl) (hpl:(backTo pos (starEach es X.env)).any (·.1)=false:=by rfl)
  (ht:eval (.Call (.Attribute o m apos) (e::es) [] pos) X.env=(do
   let ov <- eval o X.env
   standAt apos.atName
   let (f,first) <- holding [ov] (getMethod ov m pl)
   callWith pos f first (backTo pos (starEach (e::es) X.env)) (backToKw pos (keywordEach [] X.env))):=by rfl) :
  PE X (.Call (.Attribute o m apos) (e::es) [] pos) (tS C m sp dvs E ta t):=by
 intro L5 s σ H Q I h;refine methodCall_KW (pl:=pl) (aB (he L5 s σ H _ I h) fun u s1 hq0=>?_) ht;obtain ⟨x,H1,I1,rx,a,dx,fs,ex,ea,l,q⟩:=hq0;subst ex;obtain rfl:u=Value.ref a:=rx;refine jy I1 ea c hm l ?_;refine callWith_K (first:=[.ref a]) (h₀:=X.base) I.ok.mod.kin hm.kp (aB (ha pos L5 s1 σ H1 _ I1 q) fun us s2 ⟨vs,H2,I2,r,q2⟩=>⟨I2.kIn,?_⟩) hst hpl;exact mz (us:=.ref a::us) (vs:=.ref a::vs) F hr hb hd hx I2 (.cons rfl r) q2
theorem xo {pl:Sem Bool} (he:PE X o ta) (c:Cls X.K C) (hm:jD X.K C m f) (F:FnOk X.prog X.w X.K X.mg X.base CX k f fd ps sp) (hr:Room k X.A) (hb:Binds X.K fd ps ds) (hd:Vals dvs ds) (hx:gG CX X E)
  (ht:eval (.Call (.Attribute o m apos) [] [] pos) X.env=(do
   let ov <- eval o X.env
   standAt apos.atName
   let (f,first) <- holding [ov] (getMethod ov m pl)
   callWith pos f first (backTo pos (starEach [] X.env)) (backToKw pos (keywordEach [] X.env))):=by rfl) :
  PE X (.Call (.Attribute o m apos) [] [] pos) (tS C m sp dvs E ta tR):=by
 intro L5 s σ H Q I h;refine methodCall_KW (pl:=pl) (aB (he L5 s σ H _ I h) fun u s1 hq0=>?_) ht;obtain ⟨x,H1,I1,rx,a,dx,fs,ex,ea,l,q⟩:=hq0;subst ex;obtain rfl:u=Value.ref a:=rx;refine jy I1 ea c hm l ?_;exact PySem.W.callWith_K0 (first:=[.ref a]) I1.kIn hm.kp (mz (us:=[.ref a]) (vs:=[.ref a]) F hr hb hd hx I1 (.cons rfl .nil) q)
structure Mk (K:Frag) (C f:Addr):Prop where
 makes:makesIn K C=true
 init:findIn K (.ref C) "__init__"=some (some (.ref f))
 fn:isFn K (.ref f)=true
 kp:keepIn K (.ref C)=true
theorem wS {L5:List (Addr × Obj)}{σ:St}{H:Hp}{s:Shared}{Q:VK}{us:List Value}{vs:List V} (M:Mk X.K C f) (F:FnOk X.prog X.w X.K X.mg X.base CX k f fd ps sp) (hr:Room (k + 1) X.A) (hb:Binds X.K fd ps ds) (hd:Vals dvs ds)
  (hx:gG CX X E) (I:Inv X L5 σ H s) (r:Vals vs us)
  (h:∀ x dx,H x=none->H dx=none->dx ≠ x->sp (.ref x::(vs++dvs)) (af (af H dx (.own x)) x (.ins C dx [])) (fun v H2=>v=.non/\Q (.ref x) H2) E) :
  wpAny (model X.prog X.w) X.A (call (.ref C) us) (EP X L5 σ Q) X.xe s:=by
 have hq:=h (s.heap.objs.size + 1) s.heap.objs.size (I.Mb.fresh (Nat.le_succ _)) (I.Mb.fresh (zP _)) (zU (Nat.lt_succ_self _));have I2:=Inv.made (C:=C) I;have r2:Vals (V.ref (s.heap.objs.size + 1)::(vs++dvs)) (Value.ref (s.heap.objs.size + 1)::(us++ds)):=.cons rfl (r.append hd);have hl:(Value.ref (s.heap.objs.size + 1)::us++ds).length=ps.length:=by
  have e:=r2.length;rw [F.len _ _ _ _ hq] at e;exact e.symm
 refine wpAny_call (xO (f:=f) I.kIn M.makes M.init (beq_iff_eq.mp M.fn) (codeAny_mono (F.run _ X.stack _ _ ⟨Value.ref (s.heap.objs.size + 1)::us,[]⟩ (Value.ref (s.heap.objs.size + 1)::(us++ds)) _ _ E (hr.make C us [])
  (I2.env0.make C us []) (hb _ (Value.ref (s.heap.objs.size + 1)::us) I2.kIn hl) r2 hq) fun r s' hq'=>?_))
 cases r with
 | error e=>exact hx L5 σ _ _ e s' I2 hq'
 | ok fl =>
  cases fl with
  | ret u =>
   obtain ⟨v,H',I3,rv,ev,q3⟩:=I2.after hq';subst ev;exact ⟨rv,⟨V.ref (s.heap.objs.size + 1),H',I3,rfl,q3⟩⟩
  | next=>exact False.elim hq'
  | brk=>exact False.elim hq'
  | cont=>exact False.elim hq'
theorem Br (M:Mk X.K C f) (F:FnOk X.prog X.w X.K X.mg X.base CX k f fd ps sp) (hr:Room (k + 1) X.A) (hg:Gl X x) (hm:X.mg x=some (.ref C)) (hb:Binds X.K fd ps ds) (hd:Vals dvs ds) (hx:gG CX X E)
  (ha:PA X (e::es) t) (hdb:(x == ("__debug__":Str))=false:=by decide) (he:starEach (e::es) X.env=(false,eval e X.env)::starEach es X.env:=by rfl) (hpl:(backTo pos (starEach es X.env)).any (·.1)=false:=by rfl) :
  PE X (.Call (.Name x p) (e::es) [] pos) (zb C sp dvs E t):=by
 intro L5 s σ H Q I h;refine wpAny_Call_Name_kw (k8 I hg hm ?_ hdb);refine callWith_K (h₀:=X.base) I.ok.mod.kin M.kp (aB (ha pos L5 s σ H _ I h) fun us s1 ⟨vs,H1,I1,r,q⟩=>⟨I1.kIn,?_⟩) he hpl;exact wS M F hr hb hd hx I1 r q
end
structure lu (N P:List Str) (sc:Scope):Prop where
 kind:sc.kind=.function
 co:sc.isCoroutine=false
 gen:sc.isGenerator=false
 nd:N.Nodup
 pre:N.take P.length=P
 par:∀ x ∈ P,sc.names.lookup x=some .local\/sc.names.lookup x=some .cell
 nofree:∀ y ∈ sc.names,y.2 ≠ .free
theorem o6 {kindOf:Str->Option NameKind}{x:Str}:∀ {binds:List (Str × Value)}{m:Str->Option Value},(∀ v,(x,v) ∉ binds)->bindL kindOf binds m x=m x
 | [],_,_=>rfl
 | (n,v)::r,m,h=>by
  unfold bindL;rw [o6 fun w hw=>h w (zQ _ hw)];split
  ·have:x ≠ n:=by rintro rfl;exact h v z6
   simp [this]
  ·rfl
theorem o8 {kindOf:Str->Option NameKind}{x:Str}:∀ {binds:List (Str × Value)}{m:Str->Option Value},(∀ v,(x,v) ∉ binds)->bindC kindOf binds m x=m x
 | [],_,_=>rfl
 | (n,v)::r,m,h=>by
  unfold bindC;rw [o8 fun w hw=>h w (zQ _ hw)];split
  ·rfl
  ·have:x ≠ n:=by rintro rfl;exact h v z6
   simp [this]
theorem o7 {kindOf:Str->Option NameKind}{x:Str}{v:Value}:∀ {P:List Str}{vs:List Value}{i:Nat}{m:Str->Option Value},P.Nodup->P[i]?=some x->vs[i]?=some v->kindOf x=some .local ->
  bindL kindOf (P.zip vs) m x=some v
 | [],_,_,_,_,h,_,_=>by simp at h
 | _::_,[],_,_,_,_,h,_=>by simp at h
 | p::P,w::vs,0,m,nd,h1,h2,hk=>by
  simp at h1 h2;subst h1;subst h2;show bindL kindOf ((p,w)::P.zip vs) m p=_;unfold bindL;rw [o6 fun v hv=>(List.nodup_cons.mp nd).1 (List.of_mem_zip hv).1,yG hk];simp
 | p::P,w::vs,i + 1,m,nd,h1,h2,hk=>by
  show bindL kindOf ((p,w)::P.zip vs) m x=_;unfold bindL;exact o7 (i:=i) (List.nodup_cons.mp nd).2 (by simpa using h1) (by simpa using h2) hk
theorem o9 {kindOf:Str->Option NameKind}{x:Str}{v:Value}:∀ {P:List Str}{vs:List Value}{i:Nat}{m:Str->Option Value},P.Nodup->P[i]?=some x->vs[i]?=some v->kindOf x ≠ some .local ->
  bindC kindOf (P.zip vs) m x=some v
 | [],_,_,_,_,h,_,_=>by simp at h
 | _::_,[],_,_,_,_,h,_=>by simp at h
 | p::P,w::vs,0,m,nd,h1,h2,hk=>by
  simp at h1 h2;subst h1;subst h2;show bindC kindOf ((p,w)::P.zip vs) m p=_;unfold bindC;rw [o8 fun v hv=>(List.nodup_cons.mp nd).1 (List.of_mem_zip hv).1,yF hk];simp
 | p::P,w::vs,i + 1,m,nd,h1,h2,hk=>by
  show bindC kindOf ((p,w)::P.zip vs) m x=_;unfold bindC;exact o9 (i:=i) (List.nodup_cons.mp nd).2 (by simpa using h1) (by simpa using h2) hk
def start (N:List Str) (vs:List V):St:=vs.map some++List.replicate (N.length - vs.length) none
def oo (CX:kR) (P:Program) (w:World) (K:Frag) (mg:Str->Option Value) (base:Heap) (N:List Str) (qual:Str) (scope:Scope) (f:Addr) (cd:Value) (A:Around) (outer:List Env) (s:Shared) (H:Hp) (E:XK):Cx where
 prog:=P
 w:=w
 K:=K
 mg:=mg
 base:=base
 A:=A.deeper (envOfC qual scope s.heap.objs.size f cd)
 N:=N
 s₀:=s
 H₀:=H
 env:=envOfC qual scope s.heap.objs.size f cd
 outer:=outer
 stack:=envOfC qual scope s.heap.objs.size f cd::outer
 ex:=[]
 calm:=true
 fn:=fun _=>true
 pn:=[]
 xe:=fun e s'=>wpAny (model P w) (A.deeper (envOfC qual scope s.heap.objs.size f cd)) (leaving (envOfC qual scope s.heap.objs.size f cd) e) (fun _ s''=>CX outer H s E e s'') (fun e' s''=>CX outer H s E e' s'') s'
theorem qS {sc:Scope}{n:Nat}{x:Str} (h:sc.names.lookup x=some .cell):∃ c,(cellsFrom n sc.names []).lookup x=some c:=by
 have q:=cellsFrom_some sc.names n [] (.inl h);exact Option.isSome_iff_exists.mp q
theorem v2 {CX:kR}{P:Program}{w:World}{K:Frag}{mg:Str->Option Value}{base:Heap}{N ps:List Str}{qual:Str}{scope:Scope}{f:Addr}{cd:Value}{A:Around}{outer:List Env}{s s1:Shared}{H:Hp}{E:XK}{us:List Value}{vs:List V}
  (S:lu N ps scope) (hd:A.handled=none) (e0:Env0 P w K mg base A outer s H) (hl:vs.length=ps.length) (r:Vals vs us)
  (x:InCallC s s.heap.objs.size (bindL (envOfC qual scope s.heap.objs.size f cd).kindOf (ps.zip us) fun _=>none) (cellsFrom (s.heap.objs.size + 1) scope.names []) (bindC (envOfC qual scope s.heap.objs.size f cd).kindOf (ps.zip us) fun _=>none) s1) :
  Inv (oo CX P w K mg base N qual scope f cd A outer s H E) [] (start N vs) H s1:=by
 have hpl:ps.length <= N.length:=by have:=congrArg List.length S.pre;rw [List.length_take] at this;omega
 obtain ⟨h1,tk,rfl,hk⟩:=x.done;have noA:∀ b:Addr,b ∉ (oo CX P w K mg base N qual scope f cd A outer s H E).ex:=fun b z=>absurd (show b ∈ ([]:List Addr) from z) (by simp)
 refine ⟨⟨e0.mod,S.kind,rfl,rfl,zP _,fun y z c h1 h2=>?_,fun y hy=>?_,fun y c _ h=>?_,fun _=>hd,Around.frames_deeper e0.frames,.inr ⟨rfl,rfl⟩,fun b z=>absurd z (noA b),e0.bs,e0.bsz,fun b _ _=>noA b,fun b z=>absurd z (noA b),e0.funs,e0.frf⟩,
  rfl,e0.bare,Un.kept hk,⟨_,x.toInCall.ns,fun i y v h1 h2 h3=>?_⟩,fun y c h=>⟨_,x.cell y c h⟩,e0.Mb.fresh (zP _),fun y c h=>?_,fun p hp=>absurd (show p ∈ ([]:List (Addr × Obj)) from hp) (by simp),e0.Mb.kept hk,?_⟩
 ·exact name_of_addr x.apart (PySem.mem_of_lookup h1) (PySem.mem_of_lookup h2)
 ·have hy:scope.names.lookup y=some .cell\/scope.names.lookup y=some .free:=hy
  rcases hy with hy | hy
  ·exact qS hy
  ·exact absurd rfl (S.nofree _ (PySem.mem_of_lookup hy))
 ·exact yU (x.above y c (PySem.mem_of_lookup h))
 ·have hi:i < vs.length:=by
   unfold start at h2;by_cases hi:i < vs.length
   ·exact hi
   ·rw [z5 (by simpa using hi)] at h2
    rw [List.getElem?_replicate] at h2;split at h2 <;> cases h2
  have ha:vs[i]?=some v:=by
   unfold start at h2;rw [zN (by simpa using hi),zR] at h2;cases e:vs[i]? with
   | none=>rw [e] at h2;cases h2
   | some a=>rw [e] at h2;cases h2;rfl
  obtain ⟨u,hu,rv⟩:=r.get ha;have hp:ps[i]?=some y:=by
   rw [<- S.pre,List.getElem?_take_of_lt oM];exact h1
  have ndP:ps.Nodup:=by rw [<- S.pre];exact S.nd.sublist (List.take_sublist _ _)
  refine ⟨u,rv,?_⟩;rcases S.par y (zW hp) with k | k
  ·exact .inl ⟨k,o7 ndP hp hu k⟩
  ·obtain ⟨c,e⟩:=qS (n:=s.heap.objs.size + 1) k
   refine .inr ⟨.inl k,c,e,?_⟩;have q:=x.cell y c e;rw [o9 ndP hp hu (by show scope.names.lookup y ≠ _;rw [k];decide)] at q;exact q
 ·exact e0.Mb.fresh (yU (x.above y c (PySem.mem_of_lookup h)))
 ·unfold start
  show _=N.length;rw [zV,zH,List.length_replicate];omega
theorem Hg {CX:kR}{P:Program}{w:World}{K:Frag}{mg:Str->Option Value}{base:Heap}{k:Nat}{f:Addr}{name qual:Str}{params:Arguments}{body:List Stmt}{scope:Scope}{dV kV doc pm cdv ct oc:Value}{an od:Option Addr}
  {osl:Array (Option Value)}{N ps:List Str}{sp:Sp} (lk:K.lookup f=some ⟨oc,od,.func (fnOf name qual params body scope dV kV doc pm an cdv ct),osl⟩) (hcd:codeIn K cdv qual=true) (S:lu N ps scope)
  (len:∀ vs H Q E,sp vs H Q E->vs.length=ps.length)
  (hbody:∀ (A:Around) (outer:List Env) (s:Shared) (H:Hp) (vs:List V) (Q:VK) (E:XK),Room k (A.deeper (envOfC qual scope s.heap.objs.size f cdv))->sp vs H Q E ->
   ∃ t,PSs (oo CX P w K mg base N qual scope f cdv A outer s H E) body t/\t { nx:=fun _ H'=>Q .non H',rt:=Q } (start N vs) H) :
  FnOk P w K mg base CX (k + 1) f (fnOf name qual params body scope dV kV doc pm an cdv ct) ps sp:=by
 refine ⟨len,fun A outer s H args us vs Q E hr e0 hb r hsp=>?_⟩;have hl:=len _ _ _ _ hsp;have KX:K.In s.heap:=e0.mod.kin.keeps fun b o e=>(e0.bs b o e).1
 have lim:s.heap.NoLimit:=e0.mod.nolimit.keeps fun b o e=>(e0.bs b o e).1
 have hkind:∀ y ∈ ps.zip us,scope.names.lookup y.1=some .local\/(scope.names.lookup y.1=some .cell/\((cellsFrom (s.heap.objs.size + 1) scope.names []).lookup y.1).isSome=true):=fun hq0 hy=>by
  obtain ⟨n,v⟩:=hq0;rcases S.par n (List.of_mem_zip hy).1 with q | q
  ·exact .inl q
  ·exact .inr ⟨q,cellsFrom_some _ _ _ (.inl q)⟩
 refine codeAny_call_function hr.depth (KX _ _ lk) rfl S.co S.gen rfl (codeRec_of KX hcd) (hb _ _ _ _ ?_);refine wpAny_newFunctionEnv_cells S.kind hkind fun env he s1 x=>?_
 subst he;refine ⟨lim.keeps x.toInCall.keep,codeAny_func ?_⟩;obtain ⟨t,ht,hq⟩:=hbody A outer s H vs Q E (hr.deeper _) hsp;have I:Inv (oo CX P w K mg base N qual scope f cdv A outer s H E) [] (start N vs) H s1:=v2 S hr.hd e0 hl r x;refine yP (ht [] s1 (start N vs) H _ I hq) (fun fl s' hs=>?_) fun e s' hs=>hs
 have aF:∀ {σ':St}{H':Hp}{v:V}{u:Value},Inv (oo CX P w K mg base N qual scope f cdv A outer s H E) [] σ' H' s'->RelV v u->Q v H'->CE outer P w H s Q u s' :=
  fun {σ' H' v u} J rv q=>⟨v,H',J.os,J.bare,J.base,J.Mb,rv,q⟩
 cases fl with
 | ret u =>
  obtain ⟨v,σ',H',J,rv,q⟩:=hs;exact aF J rv q
 | next =>
  obtain ⟨σ',H',J,q⟩:=hs;exact aF (v:=V.non) (u:=Value.none) J rfl q
 | brk =>
  obtain ⟨_,_,_,q⟩:=hs;exact False.elim q
 | cont =>
  obtain ⟨_,_,_,q⟩:=hs;exact False.elim q
section
variable {X:Cx}{x:Str}{p pos:Pos}{e:Expr}{es:List Expr}{t:TA}{id T:String}{r:List V->Hp->VK->Prop}
def Cy (r:List V->Hp->VK->Prop) (t:TA):TE:=fun σ H Q=>t σ H fun vs H1=>r vs H1 Q
theorem xu (hc:cS X (.builtin id) r) (hg:Gl X x) (hm:X.mg x=none) (hv:bootBuiltins x=some (.builtin id)) (ha:PA X (e::es) t) (hn:x ≠ "__name__":=by decide) (hdb:(x == ("__debug__":Str))=false:=by decide)
  (he:starEach (e::es) X.env=(false,eval e X.env)::starEach es X.env:=by rfl) (hpl:(backTo pos (starEach es X.env)).any (·.1)=false:=by rfl):PE X (.Call (.Name x p) (e::es) [] pos) (Cy r t):=by
 intro L5 s σ H Q I h;refine wpAny_Call_Name_kw (cN I hg hm hv ?_ hn hdb);exact PyProof.Rows.callWith_builtin1 (aB (ha pos L5 s σ H _ I h) fun us s1 ⟨vs,H1,I1,r1,q1⟩=>hc L5 s1 σ H1 vs us Q I1 r1 q1) he hpl
theorem vH (hc:cS X (.type T) r) (hg:Gl X x) (hm:X.mg x=none) (hv:bootBuiltins x=some (.type T)) (ha:PA X (e::es) t) (hn:x ≠ "__name__":=by decide) (hdb:(x == ("__debug__":Str))=false:=by decide)
  (he:starEach (e::es) X.env=(false,eval e X.env)::starEach es X.env:=by rfl) (hpl:(backTo pos (starEach es X.env)).any (·.1)=false:=by rfl):PE X (.Call (.Name x p) (e::es) [] pos) (Cy r t):=by
 intro L5 s σ H Q I h;refine wpAny_Call_Name_kw (cN I hg hm hv ?_ hn hdb);exact PyProof.Rows.callWith_type1 (aB (ha pos L5 s σ H _ I h) fun us s1 ⟨vs,H1,I1,r1,q1⟩=>hc L5 s1 σ H1 vs us Q I1 r1 q1) he hpl
end
end L2
namespace HT
open PySem PyProof.Rows
theorem rcLt_int (A:Around) (s:Shared) (a:Int) (t:Tok) (c:Int) (u:Tok) (prog:Program) (w:World) (E:Value->Shared->Prop) (Q:Value->Shared->Prop) (h:Q (.bool (decide (a < c))) s) :
  wpAny (model prog w) A (richCompare .Lt (.int a t) (.int c u)) Q E s :=
 (PyProof.Rows.lt_int h:wpAny (model prog w) A (compareOp .Lt (.int a t) (.int c u)) Q E s)
section
variable {prog:Program}{w:World}{A:Around}{E:Value->Shared->Prop}{s:Shared}
noncomputable def MR (n d:Nat):Option Int->Nat
 | none=>d
 | some v=>if v < 0 then (v + (n:Int)).toNat else min v.toNat n
theorem sIx_none (n d:Nat):MR n d none=d:=rfl
theorem sIx_nat (n d k:Nat):MR n d (some (k:Int))=min k n:=by
 show (if (k:Int) < 0 then ((k:Int) + (n:Int)).toNat else min (k:Int).toNat n)=min k n;rw [yF oM,Int.toNat_natCast]
end
end HT
namespace L2
open PySem PySem.Spec PyProof.Rows
abbrev TO:=St->Hp->(Option Int->Hp->Prop)->Prop
def PO (X:Cx) (e:Option Expr) (t:TO):Prop :=
 ∀ (L5:List (Addr × Obj)) (s:Shared) (σ:St) (H:Hp) (Q:Option Int->Hp->Prop),Inv X L5 σ H s->t σ H Q ->
  wpAny (model X.prog X.w) X.A (evalPart e X.env) (fun u s'=>∃ o H',Inv X L5 σ H' s'/\IsPart u o/\Q o H') X.xe s
noncomputable def AJ:TO:=fun _ H Q=>Q none H
noncomputable def F0 (t:TE):TO:=fun σ H Q=>t σ H fun x H1=>∃ i,x=.int i/\Q (some i) H1
theorem jw {ns:List Int}:∀ {us:List Value},Vals (ns.map V.int) us->IntsAre us ns:=by
 induction ns with
 | nil=>intro us r;rw [List.map_nil] at r;cases r;exact .nil
 | cons n ns ih =>
  intro us r;rw [zO] at r;cases r with
  | cons r1 r2 =>
   obtain ⟨t,e⟩:=r1;subst e;exact .cons n t (ih r2)
section
variable {X:Cx}{e:Expr}{te:TE}{lo hi:Option Expr}{tl th:TO}{pos p2:Pos}
theorem Bh:PO X none AJ:=by
 intro L5 s σ H Q I h;rw [evalPart_none];exact yE ⟨none,H,I,.none,h⟩
theorem Bg (h:PE X e te):PO X (some e) (F0 te):=by
 intro L5 s σ H Q I hw;rw [evalPart_some];refine aB (h L5 s σ H _ I hw) fun u s1 hq0=>?_
 obtain ⟨x,H1,I1,r1,q1⟩:=hq0;obtain ⟨i,rfl,q⟩:=q1;obtain ⟨t,rfl⟩:=r1;exact ⟨some i,H1,I1,.int i t,q⟩
def Mg (X:Cx) (r:V->Option Int->Option Int->Hp->VK->Prop):Prop :=
 ∀ (L5:List (Addr × Obj)) (s:Shared) (σ:St) (H:Hp) (x:V) (v vl vu:Value) (lo hi:Option Int) (sl:Addr) (Q:VK),Inv X L5 σ H s->RelV x v->s.heap.IsSliceOf sl vl vu .none->IsPart vl lo->IsPart vu hi->r x lo hi H Q ->
  ∃ T id,typeLookup (.type T) "__getitem__"=pure (some (.builtin id))/\s.TypeIs v T/\wpAny (model X.prog X.w) X.A (getItem v (.ref sl)) (EP X L5 σ Q) X.xe s
def HU (r:V->Option Int->Option Int->Hp->VK->Prop) (te:TE) (tl th:TO):TE:=fun σ H Q=>te σ H fun x H1=>tl σ H1 fun l H2=>th σ H2 fun u H3=>r x l u H3 Q
theorem xn {r:V->Option Int->Option Int->Hp->VK->Prop} (hr:Mg X r) (he:PE X e te) (hl:PO X lo tl) (hu:PO X hi th):PE X (.Subscript e (.Slice lo hi none p2) pos) (HU r te tl th):=by
 intro L5 s σ H Q I h;refine Subscript_ (aB (he L5 s σ H _ I h) fun v s1 hq0=>?_);obtain ⟨x,H1,I1,r1,q1⟩:=hq0;refine wpAny_Slice (aB (hl L5 s1 σ H1 _ I1 q1) fun vl s2 ⟨l,H2,I2,pl,q2⟩=>aB (hu L5 s2 σ H2 _ I2 q2) fun vu s3 hq0=>?_);obtain ⟨u,H3,I3,pu,q3⟩:=hq0;rw [evalPart_none];refine yE ?_;have I4:Inv X L5 σ H3 { s3 with heap:=s3.heap.push { cls:=.type "slice",data:=.fields #[vl,vu,.none] } }:=I3.kept (t':=s3.toks) fun b ob q=>zG _ q
 obtain ⟨T,id,hT,ht,hg⟩:=hr L5 { s3 with heap:=s3.heap.push { cls:=.type "slice",data:=.fields #[vl,vu,.none] } } σ H3 x v vl vu l u s3.heap.objs.size Q I4 r1 (Heap.IsSliceOf.new ..) pl pu q3;show wpAny (model X.prog X.w) X.A (subscriptTail e (.Slice lo hi none p2) v (.ref s3.heap.objs.size)) (EP X L5 σ Q) X.xe { s3 with heap:=s3.heap.push { cls:=.type "slice",data:=.fields #[vl,vu,.none] } };exact tail_any (ops:=[.ref s3.heap.objs.size,v]) ht hT hg (by with_unfolding_all rfl)
def ou (xs:List V) (lo hi:Option Int):List V:=(xs.drop (HT.MR xs.length 0 lo)).take (HT.MR xs.length xs.length hi - HT.MR xs.length 0 lo)
theorem rK (xs:List V) (lo hi:Option Int):(ou xs lo hi).length <= xs.length:=by
 unfold ou;rw [List.length_take,List.length_drop];omega
end
noncomputable def j7 (n:Nat) (i:Int):Option Nat:=if 0 <= i then (if i < n then some i.toNat else none) else if -(n:Int) <= i then some (i + n).toNat else none
def fN {α:Type} (xs:List α) (i:Int):Option α:=(j7 xs.length i).bind fun j=>xs[j]?
theorem sO {n:Nat}{i:Int}{j:Nat} (h:j7 n i=some j):seqIndex? i n=some j/\j < n/\-(n:Int) <= i/\i < n:=by
 unfold j7 at h;by_cases h0:0 <= i
 ·rw [yG h0] at h
  by_cases h1:i < n
  ·rw [yG h1] at h
   have e:i.toNat=j:=yC h;exact ⟨by rw [seqIndex_of h0 h1,e],by omega,by omega,h1⟩
  ·rw [yF h1] at h;cases h
 ·rw [yF h0] at h
  by_cases h1:-(n:Int) <= i
  ·rw [yG h1] at h
   have e:(i + n).toNat=j:=yC h;exact ⟨by rw [seqIndex_neg oM h1,e],by omega,h1,by omega⟩
  ·rw [yF h1] at h;cases h
theorem lr {α:Type}{xs:List α}{i:Int}{v:α} (h:fN xs i=some v):∃ j,seqIndex? i xs.length=some j/\xs[j]?=some v/\j < xs.length/\-(xs.length:Int) <= i/\i < xs.length:=by
 unfold fN at h;cases e:j7 xs.length i with
 | none=>rw [e] at h;cases h
 | some j =>
  rw [e] at h;obtain ⟨h1,h2,h3,h4⟩:=sO e;exact ⟨j,h1,h,h2,h3,h4⟩
def oB (b:Expr):Prop:=∀ o i,subscripted b false o i=operate [o,i] (getItem o i)
def IxR (X:Cx) (r:R2):Prop :=
 ∀ (value slice:Expr) (L5:List (Addr × Obj)) (s:Shared) (σ:St) (H:Hp) (x y:V) (v u:Value) (Q:VK),Inv X L5 σ H s->RelV x v->RelV y u->r x y H Q ->
  subscripted slice false v u=operate [v,u] (getItem v u)->wpAny (model X.prog X.w) X.A (subscriptTail value slice v u) (EP X L5 σ Q) X.xe s
def kO (X:Cx) (id:String) (r:V->List V->Hp->VK->Prop):Prop :=
 ∀ (L5:List (Addr × Obj)) (s:Shared) (σ:St) (H:Hp) (x:V) (xs:List V) (v:Value) (us:List Value) (Q:VK),Inv X L5 σ H s->RelV x v->Vals xs us->r x xs H Q ->
  wpAny (model X.prog X.w) X.A (call (.builtin id) (v::us)) (EP X L5 σ Q) X.xe s
section
variable {X:Cx}{a b:Expr}{ta tb:TE}{pos:Pos}
theorem IxR.or {r r':R2} (h:IxR X r) (h':IxR X r'):IxR X (fun x y H Q=>r x y H Q\/r' x y H Q):=by
 intro value slice L5 s σ H x y v u Q I rx ry q hs;rcases q with q | q
 ·exact h value slice L5 s σ H x y v u Q I rx ry q hs
 ·exact h' value slice L5 s σ H x y v u Q I rx ry q hs
theorem GE {r:R2} (hr:IxR X r) (ha:PE X a ta) (hb:PE X b tb) (hs:oB b):PE X (.Subscript a b pos) (ve r ta tb):=by
 intro L5 s σ H Q I h;exact Subscript_ (yp ha hb I h fun v u s2 x y H2 I2 rx ry q=>hr a b L5 s2 σ H2 x y v u Q I2 rx ry q (hs _ _))
def CN (K:Frag):R2:=fun x y H Q=>∃ p xs i v,x=.ref p/\y=.int i/\bJ K H p xs/\fN xs i=some v/\Q v H
def CL (K:Frag):R2:=fun x y H Q=>∃ p xs i v,x=.ref p/\y=.int i/\gF K H p xs/\fN xs i=some v/\Q v H
def CM:R2:=fun x y H Q=>∃ z i c,x=.str z/\y=.int i/\z.length <= sizeLine/\fN z.cps.toList i=some c/\Q (.str ⟨#[c]⟩) H
theorem ix_list:IxR X (CN X.K):=by
 intro value slice L5 s σ H x y v u Q I rx ry h hs;obtain ⟨p,xs,i,z,rfl,rfl,hq,he,q⟩:=h;cases rx;obtain ⟨t,rfl⟩:=ry;obtain ⟨L9,r,pl,hz⟩:=I.list hq;obtain ⟨j,h1,h2,h3,h4,h5⟩:=lr he;obtain ⟨w,ew,rw'⟩:=r.get h2;have hl:=r.length;have hn:=gz;have aF:EP X L5 σ Q w s:=⟨z,H,I,rw',q⟩;by_cases h0:0 <= i
 ·have hj:i.toNat=j:=by
   rw [seqIndex_of h0 h5] at h1;exact yC h1
  exact item_listR pl.isList h0 oM (by rw [hj];simpa using ew) aF hs
 ·have hj:(i + (L9.toArray.size:Int)).toNat=j:=by
   rw [seqIndex_neg oM h4] at h1;rw [zI,<- hl];exact yC h1
  exact subscriptTail_builtinR (x:=w) pl.isList.typeIs slot_list_getitem.lookup
   (wpAny_getItem_list_neg (Q:=fun r s'=>r=w/\EP X L5 σ Q r s') pl.isList oM (by rw [zI] <;> omega) oM (by rw [hj];simpa using ew) ⟨rfl,aF⟩) hs
theorem ix_tup:IxR X (CL X.K):=by
 intro value slice L5 s σ H x y v u Q I rx ry h hs;obtain ⟨p,xs,i,z,rfl,rfl,hq,he,q⟩:=h;cases rx;obtain ⟨t,rfl⟩:=ry;obtain ⟨L9,r,pl,hz⟩:=I.tuple hq;obtain ⟨j,h1,h2,h3,h4,h5⟩:=lr he;obtain ⟨w,ew,rw'⟩:=r.get h2;have hl:=r.length;have hn:=gz;have aF:EP X L5 σ Q w s:=⟨z,H,I,rw',q⟩;exact subscriptTail_builtinR (x:=w) pl.typeIs slot_tuple_getitem.lookup
  (getItem_tuple (j:=j) (Q:=fun r s'=>r=w/\EP X L5 σ Q r s') pl oM oM (by rw [zI,<- hl];exact h1) (by simpa using ew) ⟨rfl,aF⟩) hs
theorem EO:IxR X CM:=by
 intro value slice L5 s σ H x y v u Q I rx ry h hs;obtain ⟨z,i,c,rfl,rfl,hz,he,q⟩:=h;obtain ⟨t,rfl⟩:=rx;obtain ⟨t',rfl⟩:=ry;obtain ⟨j,h1,h2,h3,h4,h5⟩:=lr he;have hl:z.cps.toList.length=z.length:=by simp [Str.length]
 rw [hl] at h1 h4 h5;have hn:=gz;exact tail_any (typeIs_str s z t) slot_str_getitem.lookup (getItem_str (c:=c) (by
  have e1:decide (i < -(2 ^ 63:Int))=false:=z8 oM;have e2:decide (i ≥ 2 ^ 63)=false:=z8 oM;rw [e1,e2,Bool.or_false]) (by rw [h1];simpa using h2) ⟨.str ⟨#[c]⟩,H,I.tok _,⟨_,rfl⟩,q⟩) hs
def Kr (K:Frag):R2:=fun x y H Q=>CN K x y H Q\/CL K x y H Q\/CM x y H Q
theorem qy:IxR X (Kr X.K):=ix_list.or (ix_tup.or EO)
theorem uo (L9:List Value) (n j:Nat) (u:Value):Obj.mapSeq (·.setIfInBounds j u) { cls:=.type "list",data:=.seq L9.toArray n }={ cls:=.type "list",data:=.seq (L9.set j u).toArray n }:=by
 simp [Obj.mapSeq]
theorem Inv.lst {L5:List (Addr × Obj)}{σ:St}{H:Hp}{s:Shared}{p:Addr}{xs:List V} (I:Inv X L5 σ H s) (h:H p=some (.lst xs)) :
  ∃ (L9:List Value) (n:Nat),Vals xs L9/\s.heap.get? p=some { cls:=.type "list",data:=.seq L9.toArray n }/\xs.length <= sizeLine:=by
 obtain ⟨z,L9,n,r,e⟩:=I.Mb p _ h;exact ⟨L9,n,r,e,z⟩
theorem Inv.lstUpd {L5:List (Addr × Obj)}{σ:St}{H:Hp}{s:Shared}{p:Addr}{xs ys:List V}{L9 its':List Value}{n n':Nat}{f:Obj->Obj} (I:Inv X L5 σ H s) (h:H p=some (.lst xs))
  (ho:s.heap.get? p=some { cls:=.type "list",data:=.seq L9.toArray n }) (hf:f { cls:=.type "list",data:=.seq L9.toArray n }={ cls:=.type "list",data:=.seq its'.toArray n' }) (r:Vals ys its') (hz:ys.length <= sizeLine) (t:Nat) :
  Inv X L5 σ (af H p (.lst ys)) { s with heap:=s.heap.update p f,toks:=t }:=by
 have e:(s.heap.update p f).get? p=some { cls:=.type "list",data:=.seq its'.toArray n' }:=by
  rw [Heap.get?_update_self f ho (by rw [hf] <;> rfl),hf]
 refine I.write (x:=p) (e:=p) (by rw [h];trivial) (.inl rfl) (fun b u hb q=>(Heap.get?_update_other _ _ (Ne.symm hb)).trans q) ⟨_,e⟩ ?_;exact ⟨hz,its',n',r,e⟩
def Gc:V->V->V->Hp->(Hp->Prop)->Prop:=fun o i v H Q=>∃ p xs k j,o=.ref p/\i=.int k/\H p=some (.lst xs)/\j7 xs.length k=some j/\Q (af H p (.lst (xs.set j v)))
theorem wR:uX X Gc:=by
 intro L5 s σ H o i v ov iv u Q I ro ri rv h;obtain ⟨p,xs,k,j,rfl,rfl,hp,hj,q⟩:=h;cases ro;obtain ⟨t,rfl⟩:=ri;obtain ⟨L9,n,r,ho,hz⟩:=I.lst hp;obtain ⟨h1,h2,h3,h4⟩:=sO hj;have hl:=r.length;have hn:=gz;have I':Inv X L5 σ (af H p (.lst (xs.set j v))) { s with heap:=s.heap.update p (Obj.mapSeq (·.setIfInBounds j u)) } :=
  I.lstUpd hp ho (uo L9 n j u) (r.set rv j) (by rw [List.length_set];exact hz) s.toks
 by_cases h0:0 <= k
 ·have hk:k.toNat=j:=by
   rw [seqIndex_of h0 h4] at h1;exact yC h1
  exact ki_setAt ho h0 oM (by rw [zI,<- hl];exact h4) (by rw [hk];exact ⟨_,I',q⟩)
 ·have hk:(k + (L9.toArray.size:Int)).toNat=j:=by
   rw [seqIndex_neg oM h3] at h1;rw [zI,<- hl];exact yC h1
  exact ki_setBack ho oM (by rw [zI,<- hl];exact h3) oM (by rw [hk];exact ⟨_,I',q⟩)
theorem pQ (lo hi:Option Int) (n:Nat):(sliceBounds lo hi none n).1=((HT.MR n 0 lo:Nat):Int)/\(sliceBounds lo hi none n).2.1=((HT.MR n n hi:Nat):Int)/\(sliceBounds lo hi none n).2.2=1:=by
 refine ⟨?_,?_,rfl⟩
 ·cases lo with
  | none=>simp [sliceBounds,HT.MR]
  | some i =>
   simp only [sliceBounds,HT.MR,Option.getD_none,show (1:Int) > 0 by decide,if_true];by_cases h:i < 0
   ·simp only [h,if_true] <;> omega
   ·simp only [h,if_false] <;> omega
 ·cases hi with
  | none=>simp [sliceBounds,HT.MR]
  | some i =>
   simp only [sliceBounds,HT.MR,Option.getD_none,show (1:Int) > 0 by decide,if_true];by_cases h:i < 0
   ·simp only [h,if_true] <;> omega
   ·simp only [h,if_false] <;> omega
theorem ph (L9:List Value) (lo hi:Option Int):slicePick L9.toArray lo hi none=((L9.drop (HT.MR L9.length 0 lo)).take (HT.MR L9.length L9.length hi - HT.MR L9.length 0 lo)).toArray:=by
 obtain ⟨h1,h2,h3⟩:=pQ lo hi L9.toArray.size;unfold slicePick;rw [h1,h2,h3];simp only [sliceRange_one,pick_run,zI] <;> rfl
def Js (K:Frag):V->Option Int->Option Int->Hp->VK->Prop:=fun x lo hi H Q=>∃ a xs,x=.ref a/\bJ K H a xs/\∀ p,H p=none->Q (.ref p) (af H p (.lst (ou xs lo hi)))
theorem AM:Mg X (Js X.K):=by
 intro L5 s σ H x v vl vu lo hi sl Q I rx hs pl pu h;obtain ⟨a,xs,rfl,hx,q⟩:=h;cases rx;obtain ⟨L9,r,ht,hz⟩:=I.list hx;have hlen:=r.length;refine ⟨"list",_,slot_list_getitem.lookup,ht.isList.typeIs,?_⟩;refine wpAny_getItem_list_slice ht.isList hs pl pu .none (by simp) ?_ (by rw [zI] <;> omega);rw [ph,<- hlen];refine ⟨.ref s.heap.objs.size,_,I.laid (t':=s.toks) (o:=.lst (ou xs lo hi)) (fun b ob q=>zG _ q) (zP _) ?_,rfl,q _ (I.Mb.fresh (zP _))⟩;exact ⟨z0 (rK xs lo hi) hz,_,0,(r.drop (HT.MR xs.length 0 lo)).take (HT.MR xs.length xs.length hi - HT.MR xs.length 0 lo),zY _ rfl⟩
theorem kA:cS X (.builtin "len") (fun xs H Q=>∃ p ys,xs=[.ref p]/\(bJ X.K H p ys\/gF X.K H p ys)/\Q (.int ys.length) H):=by
 intro L5 s σ H xs us Q I r h;obtain ⟨p,ys,rfl,hq,q⟩:=h;obtain ⟨u,rfl,rx⟩:=eP r;cases rx;have hn:=gz;rcases hq with hq | hq
 ·obtain ⟨L9,r',pl,hz⟩:=I.list hq
  have hlen:=r'.length;exact Calls.call_len_list pl.isList (by simp only [zI] <;> omega) ⟨.int ys.length,H,I.tok _,⟨s.toks + 1,by rw [zI,hlen]⟩,q⟩
 ·obtain ⟨L9,r',pl,hz⟩:=I.tuple hq
  have hlen:=r'.length;exact len_tuple pl (by simp only [zI] <;> omega) ⟨.int ys.length,H,I.tok _,⟨s.toks + 1,by rw [zI,hlen]⟩,q⟩
theorem qU:cS X (.builtin "len") (fun xs H Q=>∃ z,xs=[.str z]/\z.length <= sizeLine/\Q (.int z.length) H):=by
 intro L5 s σ H xs us Q I r h;obtain ⟨z,rfl,hz,q⟩:=h;obtain ⟨u,rfl,t,rfl⟩:=eP r;have hn:=gz;exact len_str oM ⟨.int z.length,H,I.tok _,⟨_,rfl⟩,q⟩
theorem qT:cS X (.type "list") (fun xs H Q=>∃ p ys,xs=[.ref p]/\(bJ X.K H p ys\/gF X.K H p ys)/\∀ l,H l=none->Q (.ref l) (af H l (.lst ys))):=by
 intro L5 s σ H xs us Q I r h;obtain ⟨p,ys,rfl,hq,q⟩:=h;obtain ⟨u,rfl,rx⟩:=eP r;cases rx;have aF:∀ (L9:List Value),Vals ys L9->ys.length <= sizeLine->∀ (h':Heap) (c':Nat),(∀ b o',s.heap.get? b=some o'->h'.get? b=some o') ->
   h'.get? s.heap.objs.size=some { cls:=.type "list",dict:=none,data:=.seq L9.toArray c',slots:=#[] }->EP X L5 σ Q (.ref s.heap.objs.size) { s with heap:=h' }:=fun L9 r' hz h' c' kp e =>
  ⟨.ref s.heap.objs.size,_,I.laid (t':=s.toks) kp (zP _) (show ObjOk X.prog X.w _ h' _ (.lst ys) from ⟨hz,L9,c',r',e⟩),rfl,q _ (I.Mb.fresh (zP _))⟩
 rcases hq with hq | hq
 ·obtain ⟨L9,r',pl,hz⟩:=I.list hq
  have hlen:=r'.length;obtain ⟨o,ho,hc,n,hd⟩:=pl.isList;exact call_list_seq p (.inl rfl) ho hc hd (fun h' c' kp e=>aF L9 r' hz h' c' kp e) (by simp only [zI] <;> omega)
 ·obtain ⟨L9,r',pl,hz⟩:=I.tuple hq
  have hlen:=r'.length;obtain ⟨o,ho,hc,n,hd⟩:=pl;exact call_list_seq p (.inr rfl) ho hc hd (fun h' c' kp e=>aF L9 r' hz h' c' kp e) (by simp only [zI] <;> omega)
def u7 (K:Frag) (T:String) (x:V) (H:Hp):Prop:=match x with
 | .str _=>T="str"
 | .int _=>T="int"
 | .ref p=>(T="list"/\∃ xs,bJ K H p xs)\/(T="tuple"/\∃ o,K.lookup p=some o/\o.cls=.type "tuple"/\o.dict=none) \/
   (T="dict"/\((∃ L6,H p=some (.dK L6))\/∃ L6,H p=some (.dT L6)))\/(T="set"/\∃ S n,H p=some (.set S n))
 | _=>False
theorem u6 {L5:List (Addr × Obj)}{σ:St}{H:Hp}{s:Shared}{T:String}{x:V}{v:Value} (I:Inv X L5 σ H s) (r:RelV x v) (ty:u7 X.K T x H) :
  s.TypeIs v T/\∀ a,v=.ref a->∃ ob,s.heap.get? a=some ob/\ob.dict=none:=by
 cases x with
 | str z =>
  obtain ⟨t,rfl⟩:=r;cases (show T="str" from ty);exact ⟨typeIs_str s z t,fun _ e=>nomatch e⟩
 | int i =>
  obtain ⟨t,rfl⟩:=r;cases (show T="int" from ty);exact ⟨typeIs_int s i t,fun _ e=>nomatch e⟩
 | ref p =>
  cases r;rcases ty with ⟨rfl,xs,hq⟩ | ⟨rfl,o,hk,hc,hd⟩ | ⟨rfl,hk⟩ | ⟨rfl,S,n,hk⟩
  ·obtain ⟨L9,_,pl,_⟩:=I.list hq
   refine ⟨pl.isList.typeIs,fun a e=>?_⟩;cases e;obtain ⟨o,n,e,c,hd,_⟩:=pl;exact ⟨o,e,hd⟩
  ·refine ⟨⟨o,I.kIn p o hk,hc⟩,fun a e=>?_⟩
   cases e;exact ⟨o,I.kIn _ o hk,hd⟩
  ·have z:∃ o,s.heap.get? p=some o/\o.ExactDict:=by
    rcases hk with ⟨L6,hk⟩ | ⟨L6,hk⟩
    ·obtain ⟨_,_,_,_,o,_,_,e,ex,_⟩:=I.Mb p _ hk
     exact ⟨o,e,ex⟩
    ·obtain ⟨_,_,_,_,o,_,_,e,ex,_⟩:=I.Mb p _ hk
     exact ⟨o,e,ex⟩
   obtain ⟨o,e,ex⟩:=z;refine ⟨⟨o,e,ex.1⟩,fun a e2=>?_⟩;cases e2;exact ⟨o,e,ex.2.1⟩
  ·obtain ⟨o,_,_,_,e,ex,_⟩:=I.Mb p _ hk
   refine ⟨⟨o,e,ex.1⟩,fun a e2=>?_⟩;cases e2;exact ⟨o,e,ex.2.1⟩
 | _=>exact False.elim ty
def Jj (K:Frag) (T:String) (r:V->List V->Hp->VK->Prop) (to:TE):TE:=fun σ H Q=>to σ H fun x H1=>u7 K T x H1/\r x [] H1 Q
def HW (K:Frag) (T:String) (r:V->List V->Hp->VK->Prop) (to:TE) (t:TA):TE:=fun σ H Q=>to σ H fun x H1=>u7 K T x H1/\t σ H1 fun xs H2=>r x xs H2 Q
variable {o e:Expr}{es:List Expr}{to:TE}{t:TA}{name:Str}{apos cpos:Pos}{T id:String}{r:V->List V->Hp->VK->Prop}
theorem DC (pa:PlainAttrs T) (slot:Slot T name id) (hty:typeOf (.builtin id)=pure (.type "method_descriptor")) (hm:kO X id r) (ho:PE X o to)
  (hbase:attributeBase o name X.env (eval o X.env)=eval o X.env:=by rfl) (hline:(apos.endLine == cpos.line)=true:=by rfl):PE X (.Call (.Attribute o name apos) [] [] cpos) (Jj X.K T r to):=by
 intro L5 s σ H Q I h;refine wpAny_Call_method0_late hbase hline (aB (ho L5 s σ H _ I h) fun v s1 hq0=>?_);obtain ⟨x,H1,I1,r1,ty,q1⟩:=hq0;obtain ⟨h1,h2⟩:=u6 I1 r1 ty;exact ⟨T,id,pa,slot,hty,h1,h2,Calls.callWith_builtin rfl (PySem.evalArgs_none (hm L5 s1 σ H1 x [] v [] Q I1 r1 .nil q1))⟩
theorem GG (pa:PlainAttrs T) (slot:Slot T name id) (hty:typeOf (.builtin id)=pure (.type "method_descriptor")) (hm:kO X id r) (ho:PE X o to) (ha:PA X (e::es) t)
  (hbase:attributeBase o name X.env (eval o X.env)=eval o X.env:=by rfl)
  (hfew:((backTo cpos (starEach (e::es) X.env)).all (fun x=>!x.1) && (backToKw cpos (keywordEach [] X.env)).all (fun x=>x.1.isSome)
   && decide ((e::es).length + ([]:List Keyword).length + (if ([]:List Keyword).isEmpty then 0 else 1) < 30))=true:=by rfl)
  (hline:(apos.endLine == cpos.line)=true:=by rfl) (hs:starEach (e::es) X.env=(false,eval e X.env)::starEach es X.env:=by rfl) (hplain:(backTo cpos (starEach es X.env)).any (·.1)=false:=by rfl) :
  PE X (.Call (.Attribute o name apos) (e::es) [] cpos) (HW X.K T r to t):=by
 intro L5 s σ H Q I h;refine wpAny_Call_method_late hbase hfew hline rfl (aB (ho L5 s σ H _ I h) fun v s1 hq0=>?_);obtain ⟨x,H1,I1,r1,ty,q1⟩:=hq0;obtain ⟨h1,h2⟩:=u6 I1 r1 ty;refine ⟨T,id,pa,slot,hty,h1,h2,?_⟩;have hA:=ha cpos L5 s1 σ H1 _ I1 q1;rw [hs] at hA ⊢;refine Calls.callWith_builtin (by show (false || (backTo cpos (starEach es X.env)).any (·.1))=false;rw [hplain] <;> rfl) (Calls.evalArgs_plain ?_);exact aB hA fun us s2 ⟨vs,H2,I2,r2,q2⟩=>hm L5 s2 σ H2 x vs v us Q I2 r1 r2 q2
end
def IS (X:Cx) (id:String) (r:V->List V->Hp->VK->Prop):Prop :=
 ∀ (L5:List (Addr × Obj)) (s:Shared) (σ:St) (H:Hp) (x:V) (xs:List V) (v:Value) (us:List Value) (Q:VK),Inv X L5 σ H s->RelV x v->Vals xs us->r x xs H Q ->
  wpAny (model X.prog X.w) X.A (call (.builtin id) (v::us)) (EP X L5 σ Q) X.xe s
theorem Vals.one {x:V}{us:List Value} (h:Vals [x] us):∃ u,us=[u]/\RelV x u:=by
 cases h with
 | cons r h=>cases h;exact ⟨_,rfl,r⟩
theorem Vals.rep {xs:List V}{us:List Value} (h:Vals xs us):∀ k:Nat,Vals (List.replicate k xs).flatten (List.replicate k us).flatten
 | 0=>.nil
 | k + 1=>by
  rw [List.replicate_succ,List.replicate_succ,List.flatten_cons,List.flatten_cons];exact Vals.append h (Vals.rep h k)
theorem oS (L9:List Value):∀ (k:Nat) (acc:List Value),
  List.foldl (fun x1 x2=>x1++x2) acc.toArray (List.replicate k L9.toArray)=(acc++(List.replicate k L9).flatten).toArray
 | 0,acc=>by simp
 | k + 1,acc=>by
  have e:acc.toArray++L9.toArray=(acc++L9).toArray:=by simp
  have e2:(acc++L9)++(List.replicate k L9).flatten=acc++(List.replicate (k + 1) L9).flatten:=by
   rw [List.replicate_succ,List.flatten_cons,yL]
  rw [<- e2,<- oS L9 k (acc++L9),<- e,List.replicate_succ,List.foldl_cons]
section
variable {X:Cx}{L5:List (Addr × Obj)}{σ:St}{H:Hp}{s:Shared}{l b:Addr}{xs ys zs:List V}
theorem Inv.lset {L9 its':List Value}{n:Nat}{f:Array Value->Array Value}{t':Nat} (I:Inv X L5 σ H s) (hH:H l=some (.lst xs))
  (e:s.heap.get? l=some { cls:=.type "list",data:=.seq L9.toArray n }) (hf:f L9.toArray=its'.toArray) (hv:Vals ys its') (hz:ys.length <= sizeLine) :
  Inv X L5 σ (af H l (.lst ys)) { s with heap:=s.heap.update l (Obj.mapSeq f),toks:=t' }:=by
 have q:=PySem.IsL.update e f;rw [hf] at q;refine I.write (x:=l) (e:=l) (by rw [hH];exact trivial) (.inl rfl) (fun b' u hb hu=>(Heap.get?_update_other s.heap (Obj.mapSeq f) (Ne.symm hb)).trans hu) ⟨_,q⟩ ?_;exact ⟨hz,its',_,hv,q⟩
theorem Inv.lnew {L9:List Value}{t':Nat} (I:Inv X L5 σ H s) (hv:Vals ys L9) (hz:ys.length <= sizeLine) :
  Inv X L5 σ (af H s.heap.objs.size (.lst ys)) { s with heap:=s.heap.push { cls:=.type "list",data:=.seq L9.toArray },toks:=t' } :=
 I.laid (fun _ _ q=>zG _ q) (zP _) ⟨hz,L9,0,hv,zY _ rfl⟩
theorem Inv.fresh (I:Inv X L5 σ H s):H s.heap.objs.size=none:=I.Mb.fresh (zP _)
theorem Inv.lstM (I:Inv X L5 σ H s) (hH:H l=some (.lst xs)):xs.length <= sizeLine/\∃ (L9:List Value) (n:Nat),Vals xs L9/\xs.length=L9.length/\s.heap.get? l=some { cls:=.type "list",data:=.seq L9.toArray n }:=by
 obtain ⟨z,L9,n,r,e⟩:=I.Mb l _ hH;exact ⟨z,L9,n,r,r.length,e⟩
theorem notLongL {n:Nat} (h:n <= sizeLine):Builtin.List.listTooLong n=false:=by
 unfold Builtin.List.listTooLong;exact z8 oM
end
section
variable {X:Cx}
def AQ:V->List V->Hp->VK->Prop:=fun x vs H Q=>∃ l xs y,x=.ref l/\vs=[y]/\H l=some (.lst xs)/\xs.length < sizeLine/\Q .non (af H l (.lst (xs++[y])))
theorem oH:IS X "list.append" AQ:=by
 intro L5 s σ H x vs v us Q I rx rv h;obtain ⟨l,xs,y,rfl,rfl,hH,hz,q⟩:=h;cases rx;obtain ⟨u,rfl,ru⟩:=rv.one;obtain ⟨z,L9,n,r,hl,e⟩:=I.lstM hH;refine call_meets F.slot_list_append ⟨_,e,rfl⟩ F.entry_list_append (F.args_list_append_2 _ _) (PySem.list_append l L9.toArray n u (by rw [zI];omega)) ⟨e,?_⟩;refine ⟨.non,_,I.lset (its':=L9++[u]) hH e (by simp) (r.append (.cons ru .nil)) ?_,rfl,q⟩;rw [zV,List.length_singleton];omega
def Jt:R2:=fun x y H Q=>∃ l k xs,x=.ref l/\y=.int k/\H l=some (.lst xs)/\-(2 ^ 63) <= k/\k < 2 ^ 63/\xs.length * k.toNat <= sizeLine /\
 ∀ p,H p=none->Q (.ref p) (af H p (.lst (List.replicate k.toNat xs).flatten))
theorem BM {α:Type} (xs:List α) (k:Nat):(List.replicate k xs).flatten.length=k * xs.length:=by
 induction k with
 | zero=>simp
 | succ k ih=>rw [List.replicate_succ,List.flatten_cons,zV,ih,Nat.succ_mul,Nat.add_comm]
theorem DJ:kM X (binaryOp .Mult) Jt:=by
 intro L5 s σ H x y v u Q I rx ry h;obtain ⟨l,k,xs,rfl,rfl,hH,h1,h2,hz,q⟩:=h;cases rx;obtain ⟨t,rfl⟩:=ry;obtain ⟨z,L9,n,r,hl,e⟩:=I.lstM hH;have hlen:L9.toArray.size * k.toNat <= sizeLine:=by rw [zI,<- hl];exact hz
 have hcap:¬ L9.toArray.size * k.toNat > (2 ^ 63 - 1) / 8:=by
  have:(sizeLine:Nat) <= (2 ^ 63 - 1) / 8:=by decide
  omega
 have hfit:¬ (!Builtin.List.listFitsIndex k)=true:=by
  rw [fitsIndex_both h1 h2];exact Bool.false_ne_true
 have hlong:¬ Builtin.List.listTooLong (L9.toArray.size * k.toNat)=true:=by
  rw [notLongL hlen];exact Bool.false_ne_true
 have hnew:List.foldl (fun x1 x2=>x1++x2) #[] (List.replicate (if L9.toArray.isEmpty=true then 0 else k.toNat) L9.toArray)=(List.replicate k.toNat L9).flatten.toArray:=by
  have f0:∀ m:Nat,List.foldl (fun x1 x2=>x1++x2) #[] (List.replicate m L9.toArray)=(List.replicate m L9).flatten.toArray:=fun m=>by
   have:=oS L9 m []
   rw [List.nil_append] at this;exact this
  rw [f0];cases L9 with
  | nil=>simp
  | cons a r'=>rw [yF (by simp)]
 refine wpAny_binaryOp_repeat_ref (T:="list") (U:="int") dC ⟨_,e,rfl⟩ (fun s'=>typeIs_int s' k t) noFill_list_mul F.fills_int_mul F.slot_int_rmul repeat_list F.slot_int_index.lookup
  (call_meets F.slot_int_rmul (typeIs_int s k t) F.entry_int_rmul (F.args_int_rmul_2 _ _) (int___rmul___int_list k t l L9.toArray n)
   ⟨e,rfl,⟨_,e,rfl⟩,call_meets F.slot_list_mul ⟨_,e,rfl⟩ F.entry_list_mul (F.args_list_mul_2 _ _) (AutoListH.list___mul___list_int_3 l L9.toArray n k t hfit hcap hlong) ⟨e,?_⟩⟩)
 rw [hnew];exact ⟨.ref _,_,I.lnew (t':=s.toks) (r.rep k.toNat) (by rw [BM,Nat.mul_comm];exact hz),rfl,q _ I.fresh⟩
end
end L2
namespace Att
open PySem PySem.W PySem.Calls PyProof.Rows
theorem mU {P:Params}{h:Heap}:∀ (ns:List Int) (vs:List Value),WellAll P h vs (ns.map WData.int)->IntsAre vs ns:=by
 intro ns
 induction ns with
 | nil =>
  intro vs w;rw [List.map_nil] at w;cases w;exact .nil
 | cons n ns ih =>
  intro vs w;rw [zO] at w;cases w with
  | cons a b =>
   cases a;exact .cons _ _ (ih _ b)
theorem vj {l:OpenLaw}{n:Nat} (hn:l.most=some n) {P:Params}{h:Heap}{args:List WData}{vals:List Value}
  (hpre:l.row.toRowW.claim.pre args=true) (hwl:WellAll P h vals args) :
  ∃ a vs ns,vals=[Value.ref a]/\args=[WData.list (ns.map WData.int)]/\h.get? a=some { cls:=.type "list",data:=.seq vs.toArray }/\IntsAre vs ns/\ns.length <= n:=by
 have hsh:WShape.hasAll [] args [.list .int]=true:=(pre_splitW hpre).1;have hc:l.pre.holds [] { args:=args }=true:=(pre_splitW hpre).2;obtain ⟨d,r,rfl,h1,h2⟩:=hasAllW_cons hsh;obtain rfl:=hasAllW_nil h2;obtain ⟨xs,rfl,h3⟩:=hasW_list h1;obtain ⟨ns,rfl⟩:=items_int h3;have hlen:ns.length <= n:=by
  unfold OpenLaw.pre at hc;have h4:(WTm.not (.lt (.lit (.int (n:Int))) (.len (.arg 0)))).holds [] { args:=[.list (ns.map .int)] }=true:=by
   have h4:=(holds_andW hc).1;rw [hn] at h4;exact h4
  have h5:=condW_of h4 (w_not (w_lt w_lit (w_len_list (w_arg rfl))));rw [zH] at h5;refine Nat.le_of_not_lt fun q=>?_
  have q':(n:Int) < ((ns.length:Nat):Int):=by omega
  first
   | (rw [yR q'] at h5;exact absurd h5 dC)
   | (simp at h5;omega)
 cases hwl with
 | cons w1 w2 =>
  cases w2;cases w1 with
  | list ho hall=>exact ⟨_,_,ns,rfl,rfl,ho,mU ns _ hall,hlen⟩
theorem vz (l:OpenLaw) (args:List WData):l.row.toRowW.claim.post args (.bool true) args=true :=
 postW_of (r:=l.row.toRowW) (X:=(true == true))
  (show WShape.has [] (.bool true) .bool=true by first | rfl | decide | simp [WShape.has,WShape.arms,WShape.armsAll])
  (show (WTm.eq .res (.lit (.bool true))).value [] { args:=args,res:=some (.bool true),after:=args }=some (.bool (true == true)) from w_eq_bool (w_res rfl) w_lit) rfl
theorem attach_call {l:OpenLaw}{n:Nat}{q:Program}{bU:List Str}{XP:(Str->Option Value)->Heap->Prop}{YP:World->Heap->Prop}{d:DefRec}
  (hn:l.most=some n) (hdf:d.params.defaults=[])
  (call:∀ (w:World) (s₀ s₁:Shared) (mg mb:Str->Option Value) (fa:Addr) (o:Obj) (pm cd doc:Value) (a:Addr) (vs:List Value) (ns:List Int),
   Ground q bU [] XP w s₀ mg mb s₁.heap->YP w s₁.heap ->
   s₁.heap.get? fa=some o->o.data=.func (docDef d.name d.params d.body d.scope pm cd doc)->s₁.heap.CodeRec cd d.name->mg d.name=some (.ref fa) ->
   s₁.heap.get? a=some { cls:=.type "list",data:=.seq vs.toArray }->IntsAre vs ns->ns.length <= n->s₁.gens=#[] ->
   codeAny (model l.prog w) callerA (.call (.ref fa) ⟨[.ref a],[]⟩) (fun r s'=>r=.ok (.ret (.bool true))/\OldK s₁.heap s'.heap/\s'.os=s₁.os/\AllBare s'.gens) s₁) :
  WalkO q bU XP YP l.row.toRowW d [] (fun f vs=>PySem.call f vs):=by
 intro w s₀ s₁ mg mb G Y fa o pm cd doc dV kV ho hd hcd hD hmg hg args vals as hpre hlay hrd hwl hlo;obtain rfl:dV=.none:=Dflts.none hD hdf;obtain rfl:kV=.none:=Dflts.noKw hD;obtain ⟨a,vs,ns,rfl,rfl,hobj,hints,hlen⟩:=vj hn hpre hwl;refine enter_call (codeAny_mono (call w s₀ s₁ mg mb fa o pm cd doc a vs ns G Y ho (fd_plain hd) hcd hmg hobj hints hlen hg) fun r s' hq=>?_);obtain ⟨rfl,h2,h3,h4⟩:=hq;exact ⟨.inl ⟨.bool true,.bool true,[],rfl,fun _=>rfl,.bool true,vz l _,fun _=>⟨List.Pairwise.nil,fun _ hm=>(nomatch hm)⟩⟩,h2,h3,h4⟩
end Att
namespace L2
open PySem PySem.Spec PyProof.Rows
theorem u0:∀ {vs:List Value}{ns:List Int},IntsAre vs ns->Vals (ns.map V.int) vs:=by
 intro vs ns h
 induction h with
 | nil=>exact .nil
 | cons n t h ih=>exact .cons ⟨t,rfl⟩ ih
noncomputable def dw (s:Stmt):Arguments:=match s with
 | .FunctionDef _ a _ _ _ _ _ _ _ _=>a
 | _=>{ posonlyargs:=[],args:=[],vararg:=none,kwonlyargs:=[],kw_defaults:=[],kwarg:=none,defaults:=[] }
noncomputable def dW (s:Stmt):List Stmt:=match s with
 | .FunctionDef _ _ b _ _ _ _ _ _ _=>b
 | _=>[]
noncomputable def cx (s:Stmt):Scope:=match s with
 | .FunctionDef _ _ _ _ _ _ sc _ _ _=>sc
 | _=>{ kind:=.function,names:=[],isGenerator:=false,isCoroutine:=false }
abbrev er:kR:=fun _ _ _ _ _ _=>False
abbrev E0:XK:=fun _ _ _=>False
theorem mF {X:Cx}:gG er X E0:=fun _ _ _ _ _ _ _ h=>h.elim
structure Fun (K:Frag) (x qual:Str) (st:Stmt) (f:Addr) (fd:FuncData):Prop where
 ex:∃ (oc:Value) (od:Option Addr) (kV doc pm:Value) (an:Option Addr) (cdv ct:Value) (osl:Array (Option Value)),
  fd=fnOf x qual (dw st) (dW st) (cx st) .none kV doc pm an cdv ct/\K.lookup f=some ⟨oc,od,.func fd,osl⟩/\codeIn K cdv qual=true
 kp:keepIn K (.ref f)=true
section
variable {P:Program}{w:World}{K:Frag}{mg:Str->Option Value}{base:Heap}
theorem Fun.binds {x qual:Str}{st:Stmt}{f:Addr}{fd:FuncData}{ps:List Str} (F:Fun K x qual st f fd)
  (h:∀ (kV doc pm:Value) (an:Option Addr) (cdv ct:Value) (us:List Value),us.length=ps.length->bindArgs (fnOf x qual (dw st) (dW st) (cx st) .none kV doc pm an cdv ct) ⟨us,[]⟩=pure (ps.zip us)):Binds K fd ps []:=by
 obtain ⟨oc,od,kV,doc,pm,an,cdv,ct,osl,rfl,lk,hcd⟩:=F.ex;exact .all (h kV doc pm an cdv ct)
theorem mZ {x qual:Str}{st:Stmt}{f:Addr}{oc:Value}{od an:Option Addr}{osl:Array (Option Value)}{kV doc pm cdv ct:Value} (l:K.lookup f=some ⟨oc,od,.func (fnOf x qual (dw st) (dW st) (cx st) .none kV doc pm an cdv ct),osl⟩)
  (c:codeIn K cdv qual=true) (k:keepIn K (.ref f)=true):Fun K x qual st f (fnOf x qual (dw st) (dW st) (cx st) .none kV doc pm an cdv ct):=⟨⟨oc,od,kV,doc,pm,an,cdv,ct,osl,rfl,l,c⟩,k⟩
end
theorem jU {n:Nat} (h:n <= 1000):n < sizeLine:=yK h dC
end L2
set_option maxHeartbeats 4000000
namespace DD
open PySem PySem.Spec PyProof.Rows L2
abbrev St:=L2.St
section
variable {X:Cx}{e:Expr}{es:List Expr}{st:Stmt}{sts:List Stmt}
theorem PE_imp {t t':TE} (h:PE X e t) (i:∀ σ H Q,t' σ H Q->t σ H Q):PE X e t':=fun L5 s σ H Q I h'=>h L5 s σ H Q I (i σ H Q h')
theorem PT_imp {t t':TT} (h:PT X e t) (i:∀ σ H Q,t' σ H Q->t σ H Q):PT X e t':=fun L5 s σ H Q I h'=>h L5 s σ H Q I (i σ H Q h')
theorem PW_imp {t t':TT} (h:PW X e t) (i:∀ σ H Q,t' σ H Q->t σ H Q):PW X e t':=fun wh L5 s σ H Q I h'=>h wh L5 s σ H Q I (i σ H Q h')
theorem PA_imp {t t':TA} (h:PA X es t) (i:∀ σ H Q,t' σ H Q->t σ H Q):PA X es t':=fun p L5 s σ H Q I h'=>h p L5 s σ H Q I (i σ H Q h')
theorem PS_imp {t t':TS} (h:PS X st t) (i:∀ D σ H,t' D σ H->t D σ H):PS X st t':=fun L5 s σ H D I h'=>h L5 s σ H D I (i D σ H h')
theorem PSs_imp {t t':TS} (h:PSs X sts t) (i:∀ D σ H,t' D σ H->t D σ H):PSs X sts t':=fun L5 s σ H D I h'=>h L5 s σ H D I (i D σ H h')
theorem OpR_imp {f:Value->Value->Sem Value}{r r':R2} (h:kM X f r) (i:∀ x y H Q,r' x y H Q->r x y H Q):kM X f r':=fun L5 s σ H x y v u Q I a b h'=>h L5 s σ H x y v u Q I a b (i x y H Q h')
end
theorem PG_imp {X:Cx}{tg:Expr}{t t':TG} (h:PG X tg t) (i:∀ v σ H Q,t' v σ H Q->t v σ H Q):PG X tg t':=fun L5 s σ H v u Q I rv h'=>h L5 s σ H v u Q I rv (i v σ H Q h')
end DD
namespace L2
open PySem PySem.Spec PyProof.Rows
theorem nD:∀ (names:List (Str × NameKind)) (n:Nat) (acc:List (Str × Addr)),∃ own,cellsFrom n names acc=own++acc/\(∀ p ∈ own,n <= p.2/\(p.1,NameKind.cell) ∈ names) /\
  (∀ x,(x,NameKind.cell) ∈ names->∃ c,(x,c) ∈ own)/\own.Pairwise fun x y=>x.2 ≠ y.2
 | [],n,acc=>⟨[],rfl,(fun _ h=>by cases h),(fun _ h=>by cases h),List.Pairwise.nil⟩
 | (name,kind)::r,n,acc=>by
  unfold cellsFrom;by_cases hk:kind=.cell
  ·subst hk
   obtain ⟨own,e,h1,h2,h3⟩:=nD r (n + 1) ((name,n)::acc);refine ⟨own++[(name,n)],?_,?_,?_,?_⟩
   ·rw [yG dC,e,yL];rfl
   ·intro p hp
    rcases zZ.mp hp with hp | hp
    ·exact ⟨Nat.le_of_succ_le (h1 p hp).1,zQ _ (h1 p hp).2⟩
    ·rw [zM.mp hp];exact ⟨zP _,z6⟩
   ·intro x hx
    rcases zT.mp hx with hx | hx
    ·cases hx;exact ⟨n,zK _ z6⟩
    ·obtain ⟨c,hc⟩:=h2 x hx;exact ⟨c,zL _ hc⟩
   ·refine List.pairwise_append.mpr ⟨h3,List.pairwise_singleton _ _,fun a ha b hb e=>?_⟩
    rw [zM.mp hb] at e;have h5:=(h1 a ha).1;rw [show a.2=n from e] at h5;exact absurd h5 (Nat.not_succ_le_self n)
  ·obtain ⟨own,e,h1,h2,h3⟩:=nD r n acc
   have hk':(kind == NameKind.cell)=false:=by cases kind <;> first | rfl | exact absurd rfl hk
   refine ⟨own,by rw [hk'];exact e,fun p hp=>⟨(h1 p hp).1,zQ _ (h1 p hp).2⟩,fun x hx=>?_,h3⟩;rcases zT.mp hx with hx | hx
   ·cases hx;exact absurd rfl hk
   ·exact h2 x hx
theorem jA {scope:Scope}{env:Env} (h:∀ x,(x,NameKind.free) ∈ scope.names->∃ c,env.cells.lookup x=some c) :
  ∃ cl,closureFor scope env=pure cl/\(∀ p ∈ cl,env.cells.lookup p.1=some p.2)/\∀ x,(x,NameKind.free) ∈ scope.names->∃ c,(x,c) ∈ cl:=by
 have all:∀ (names:List (Str × NameKind)) (acc:List (Str × Addr)),(∀ x,(x,NameKind.free) ∈ names->∃ c,env.cells.lookup x=some c)->(∀ p ∈ acc,env.cells.lookup p.1=some p.2) ->
   ∃ cl,(forIn (m:=Sem) names acc fun (p:Str × NameKind) (cs:List (Str × Addr))=>if (p.2 == NameKind.free)=true then do let __do_lift <- cellOf env p.1;pure (ForInStep.yield ((p.1,__do_lift)::cs)) else pure (ForInStep.yield cs))=pure cl /\
    (∀ p ∈ cl,env.cells.lookup p.1=some p.2)/\(∀ p ∈ acc,p ∈ cl)/\∀ x,(x,NameKind.free) ∈ names->∃ c,(x,c) ∈ cl:=by
  intro names
  induction names with
  | nil=>intro acc _ ha;exact ⟨acc,by rw [List.forIn_nil],ha,fun _ h=>h,(fun _ h=>by cases h)⟩
  | cons p r ih =>
   obtain ⟨name,kind⟩:=p;intro acc hn ha;by_cases hk:kind=.free
   ·subst hk
    obtain ⟨c,hc⟩:=hn name z6;obtain ⟨cl,e,h1,h2,h3⟩:=ih ((name,c)::acc) (fun x hx=>hn x (zQ _ hx)) (fun p hp=>by
     rcases zT.mp hp with rfl | hp
     ·exact hc
     ·exact ha p hp)
    refine ⟨cl,?_,h1,fun p hp=>h2 p (zQ _ hp),fun x hx=>?_⟩
    ·rw [List.forIn_cons]
     have ec:cellOf env name=pure c:=by unfold cellOf;rw [hc]
     simp only [ec];exact e
    ·rcases zT.mp hx with hx | hx
     ·cases hx;exact ⟨c,h2 _ z6⟩
     ·exact h3 x hx
   ·obtain ⟨cl,e,h1,h2,h3⟩:=ih acc (fun x hx=>hn x (zQ _ hx)) ha
    have hk':(kind == NameKind.free)=false:=by cases kind <;> first | rfl | exact absurd rfl hk
    refine ⟨cl,?_,h1,h2,fun x hx=>?_⟩
    ·rw [List.forIn_cons];simp only [hk',z9,if_false];exact e
    ·rcases zT.mp hx with hx | hx
     ·cases hx;exact absurd rfl hk
     ·exact h3 x hx
 obtain ⟨cl,e,h1,_,h3⟩:=all scope.names [] h (fun _ h=>by cases h);refine ⟨cl,?_,h1,h3⟩;simp only [closureFor];rw [e];rfl
theorem xF {M:Model}{A:Around}{E:Value->Shared->Prop}{s:Shared}{scope:Scope}{env:Env}{cl:List (Str × Addr)}{Q:Env->Shared->Prop}
  (hQ:Q (newEnv scope s.heap.objs.size env.globals (cellsFrom (s.heap.objs.size + 1) scope.names cl) env.qual none .none (some env) builtinsNs) { s with heap:=pushCells (s.heap.push { cls:=.type "dict",data:=.dict #[] }) scope.names }) :
  wpAny M A (newFunctionEnv scope env.globals cl [] env.qual none .none (some env)) Q E s:=by
 simp only [newFunctionEnv,Option.isSome_some,if_true];refine yD (wpAny_alloc ?_);refine yD (wpAny_layCells _ (fun name kind cells=>by cases hkc:kind == NameKind.cell <;> simp [hkc]) _ _ _ _ ?_);rw [show ({ s with heap:=s.heap.push { cls:=.type "dict",data:=.dict #[] } }:Shared).heap.objs.size=s.heap.objs.size + 1 from Heap.size_push ..];refine yD ?_;rw [List.forIn_nil];exact yE (yE hQ)
def cz (X:Cx) (N':List Str) (scope:Scope) (cl:List (Str × Addr)) (s:Shared) (H:Hp) (fp:List Addr) (L5:List (Addr × Obj)):Cx :=
 { X with N:=N',s₀:=s,H₀:=H,env:=compEnvC scope (cellsFrom (s.heap.objs.size + 1) scope.names cl) s.heap.objs.size X.env,outer:=X.stack,stack:=X.stack,ex:=fp,
          fn:=fun x=>scope.names.lookup x == some .cell,pn:=X.pn++L5,xe:=fun _ _=>False }
structure jJ (X:Cx) (N':List Str) (scope:Scope):Prop where
 kind:scope.kind=.function
 nd:(scope.names.map (·.1)).Nodup
 len:X.N.length <= N'.length
 free:∀ x,(x,NameKind.free) ∈ scope.names->X.env.kindOf x=some .cell\/X.env.kindOf x=some .free
 same:∀ i x,i < X.N.length->N'[i]?=some x->(x,NameKind.free) ∈ scope.names->X.N[i]?=some x
 hid:∀ i x,i < X.N.length->N'[i]?=some x->(∃ k,(x,k) ∈ scope.names)->(x,NameKind.free) ∈ scope.names
theorem cQ {α:Type}:∀ {l:List (Str × α)}{x:Str}{k:α},(l.map (·.1)).Nodup->(x,k) ∈ l->l.lookup x=some k
 | (y,j)::r,x,k,nd,h=>by
  rw [zO,List.nodup_cons] at nd;rcases zT.mp h with h | h
  ·cases h;rw [yM];simp
  ·have ne:x ≠ y:=fun e=>nd.1 (e ▸ List.mem_map_of_mem (f:=(·.1)) h)
   rw [yM];have:(x == y)=false:=by simpa using ne
   rw [this];exact cQ nd.2 h
theorem fj {α:Type}:∀ {l:List (Str × α)}{x:Str}{k:α},(x,k) ∈ l->∃ k',l.lookup x=some k'
 | (y,j)::r,x,k,h=>by
  rw [yM];cases hb:x == y with
  | true=>exact ⟨j,rfl⟩
  | false =>
   rcases zT.mp h with h | h
   ·cases h;simp at hb
   ·exact fj h
theorem gj {scope:Scope}{env:Env}{x:Str}{k:NameKind} (h:(relabel scope env).names.lookup x=some k):(x,k) ∈ scope.names\/((x,NameKind.free) ∈ scope.names/\k=.cell):=by
 have h1:=mem_of_lookup h;unfold relabel at h1;obtain ⟨⟨n,j⟩,hm,e⟩:=yB.mp h1;dsimp only at e;split at e
 ·rename_i hc
  cases e;refine .inr ⟨?_,rfl⟩;have:j=.free:=by
   cases j <;> simp at hc <;> rfl
  subst this;exact hm
 ·cases e;exact .inl hm
theorem pj {α:Type}{a b:List (Str × α)}{x:Str} (h:∀ p ∈ a,p.1 ≠ x):(a++b).lookup x=b.lookup x:=by
 induction a with
 | nil=>rfl
 | cons p r ih =>
  obtain ⟨y,j⟩:=p;rw [List.cons_append,yM];have:(x == y)=false:=by
   have:=h (y,j) z6
   simpa using fun e:x=y=>this e.symm
  rw [this];exact ih fun p hp=>h p (zQ _ hp)
section
variable {X:Cx}{N':List Str}{scope:Scope}{cl:List (Str × Addr)}{s:Shared}{H:Hp}{fp:List Addr}{L5:List (Addr × Obj)}{σ:St}
theorem yn (T:jJ X N' scope) (I:Inv X L5 σ H s) (hcl:∀ p ∈ cl,X.env.cells.lookup p.1=some p.2) (hfr:∀ x,(x,NameKind.free) ∈ scope.names->∃ c,(x,c) ∈ cl)
  (hf:∀ b ∈ fp,dB X L5 H b) (ho:∀ b ∈ fp,∃ o,s.heap.get? b=some o) :
  Inv (cz X N' scope cl s H fp L5) [] (σ++List.replicate (N'.length - X.N.length) none) H { s with heap:=pushCells (s.heap.push { cls:=.type "dict",data:=.dict #[] }) scope.names }:=by
 obtain ⟨own,eo,o1,o2,o3⟩:=nD scope.names (s.heap.objs.size + 1) cl;have keep:∀ b o,s.heap.get? b=some o->(pushCells (s.heap.push { cls:=.type "dict",data:=.dict #[] }) scope.names).get? b=some o:=fun b o e=>pushCells_keeps _ _ b o (zG _ e)
 have clt:∀ x c,(x,c) ∈ cl->c < s.heap.objs.size:=fun x c h=>by
  obtain ⟨v,z⟩:=I.cell x c (hcl _ h);exact z.lt
 -- what a cell of the block is
 have cases_:∀ x c,(own++cl).lookup x=some c->(s.heap.objs.size + 1 <= c/\(x,c) ∈ own)\/X.env.cells.lookup x=some c:=fun x c h=>by
  rcases zZ.mp (mem_of_lookup h) with h | h
  ·exact .inl ⟨(o1 _ h).1,h⟩
  ·exact .inr (hcl _ h)
 have hst:∀ b ∈ fp,b ∉ jf X.stack:=fun b hb z=>by
  rcases zT.mp (I.stkSub b z) with e | e
  ·exact (hf b hb).2.1 e
  ·exact (hf b hb).2.2.1 e
 have okc:CellsOk (pushCells (s.heap.push { cls:=.type "dict",data:=.dict #[] }) scope.names) (s.heap.objs.size + 1) (cellsFrom (s.heap.objs.size + 1) scope.names []):=by
  have q:=cellsFrom_ok scope.names (s.heap.push { cls:=.type "dict",data:=.dict #[] }) (s.heap.objs.size + 1) [] ⟨(fun _ _ hm=>by cases hm),List.Pairwise.nil⟩ (by rw [Heap.size_push];exact zP _);rw [Heap.size_push] at q;exact q
 have eown:cellsFrom (s.heap.objs.size + 1) scope.names []=own:=by
  obtain ⟨own',e',_⟩:=nD scope.names (s.heap.objs.size + 1) [];have gen:∀ (names:List (Str × NameKind)) (n:Nat) (acc:List (Str × Addr)),cellsFrom n names acc=cellsFrom n names []++acc:=by
   intro names
   induction names with
   | nil=>intro n acc;rfl
   | cons p r ih =>
    obtain ⟨name,kind⟩:=p;intro n acc;unfold cellsFrom;split
    ·rw [ih (n + 1) ((name,n)::acc),ih (n + 1) [(name,n)],yL];rfl
    ·exact ih n acc
  have:=gen scope.names (s.heap.objs.size + 1) cl
  rw [eo] at this;exact (List.append_cancel_right this).symm
 have ok:(cz X N' scope cl s H fp L5).Ok:=by
  refine ⟨I.ok.mod,T.kind,I.ok.glob,I.ok.blt,zP _,fun x y c h1 h2=>?_,fun x h=>?_,fun x c h1 h2=>?_,I.ok.hd,I.ok.frames,.inl rfl,fun b hb=>⟨?_,fun x c h=>?_⟩,I.bs,z0 I.ok.bsz I.sz,fun b o e hb=>?_,hst,I.stack,I.stkFree⟩
  ·have h1:(own++cl).lookup x=some c:=eo ▸ h1
   have h2:(own++cl).lookup y=some c:=eo ▸ h2;rcases cases_ x c h1 with ⟨l1,m1⟩ | e1
   ·rcases cases_ y c h2 with ⟨l2,m2⟩ | e2
    ·exact name_of_addr o3 m1 m2
    ·obtain ⟨v,z⟩:=I.cell y c e2
     exact absurd (zJ z.lt (Nat.le_of_succ_le (by first | exact l2 | exact l1))) (yV _)
   ·rcases cases_ y c h2 with ⟨l2,m2⟩ | e2
    ·obtain ⟨v,z⟩:=I.cell x c e1
     exact absurd (zJ z.lt (Nat.le_of_succ_le (by first | exact l2 | exact l1))) (yV _)
    ·exact I.ok.inj x y c e1 e2
  ·show ∃ c,(cellsFrom (s.heap.objs.size + 1) scope.names cl).lookup x=some c
   rw [eo];have fromFree:(x,NameKind.free) ∈ scope.names->∃ c,(own++cl).lookup x=some c:=fun hm=>by
    obtain ⟨c,hc⟩:=hfr x hm;exact fj (zK own hc)
   have fromCell:(x,NameKind.cell) ∈ scope.names->∃ c,(own++cl).lookup x=some c:=fun hm=>by
    obtain ⟨c,hc⟩:=o2 x hm;exact fj (zL cl hc)
   rcases h with h | h
   ·rcases gj h with h | ⟨h,_⟩
    ·exact fromCell h
    ·exact fromFree h
   ·rcases gj h with h | ⟨h,e⟩
    ·exact fromFree h
    ·cases e
  ·have h2:(own++cl).lookup x=some c:=eo ▸ h2
   have hc:scope.names.lookup x=some .cell:=by
    have:(scope.names.lookup x == some NameKind.cell)=true:=h1;simpa using this
   rcases cases_ x c h2 with ⟨l1,m1⟩ | e1
   ·exact Nat.le_of_succ_le l1
   ·-- x is one of the block's own: L9 cell stands ahead
    obtain ⟨c',hc'⟩:=o2 x (mem_of_lookup hc);obtain ⟨c2,hc2⟩:=fj hc';have:(own++cl).lookup x=some c2:=by
     have gen:∀ l:List (Str × Addr),l.lookup x=some c2->(l++cl).lookup x=some c2:=by
      intro l
      induction l with
      | nil=>intro h;cases h
      | cons p r ih =>
       obtain ⟨y,j⟩:=p;intro h;rw [List.cons_append,yM];rw [yM] at h;cases hb:x == y with
       | true=>rw [hb] at h;exact h
       | false=>rw [hb] at h;exact ih h
     exact gen own hc2
    rw [this] at h2;cases h2;exact Nat.le_of_succ_le (o1 _ (mem_of_lookup hc2)).1
  ·obtain ⟨o,e⟩:=ho b hb
   exact zU (yH e)
  ·have h:(own++cl).lookup x=some c:=eo ▸ h
   obtain ⟨o,e⟩:=ho b hb;have hlt:=yH e;rcases cases_ x c h with ⟨l1,m1⟩ | e1
   ·intro z
    rw [z] at l1;exact absurd (zJ hlt (Nat.le_of_succ_le l1)) (yV _)
   ·exact (hf b hb).2.2.2.2.1 x c e1
  ·rcases (hf b hb).2.2.2.1 with z | z
   ·exact I.ok.noex b o e z
   ·exact absurd (zJ (yH e) (z0 I.ok.bsz z)) (yV _)
 refine ⟨ok,rfl,I.bare,Un.kept keep,⟨fun _=>none,(Heap.Ns.new s.heap (.type "dict")).keeps (pushCells_keeps _ _),fun i x v e1 e2 e3=>?_⟩,fun x c h=>?_,I.Mb.fresh (zP _),fun x c h=>?_,fun p hp=>?_,I.Mb.kept keep,?_⟩
 ·-- a name of the code around
  have hlen:=I.len;have hi:i < σ.length:=by
   rcases yQ i σ.length with h | h
   ·exact h
   ·rw [z5 h] at e2
    rw [List.getElem?_replicate] at e2;split at e2 <;> cases e2
  rw [zN hi] at e2;have hmem:∃ k,(x,k) ∈ scope.names:=by
   have:∃ k,(relabel scope X.env).names.lookup x=some k:=by
    rcases e3 with h | h | h <;> exact ⟨_,h⟩
   obtain ⟨k,h⟩:=this;rcases gj h with h | ⟨h,_⟩ <;> exact ⟨_,h⟩
  have hfree:=T.hid i x oM e1 hmem;have eX:=T.same i x oM e1 hfree;have kX:=T.free x hfree;obtain ⟨m,hn,hl⟩:=I.loc;obtain ⟨u,ru,lk⟩:=hl i x v eX e2 (by rcases kX with h | h;exact .inr (.inl h);exact .inr (.inr h));refine ⟨u,ru,.inr ⟨?_,?_⟩⟩
  ·-- L9 kind in the block
   have:∃ k,(relabel scope X.env).names.lookup x=some k:=by
    rcases e3 with h | h | h <;> exact ⟨_,h⟩
   obtain ⟨k,h⟩:=this;rcases gj h with h' | ⟨h',e⟩
   ·have e5:=cQ T.nd h'
    have e6:=cQ T.nd hfree;rw [e5] at e6;cases e6;exact .inr h
   ·subst e;exact .inl h
  ·rcases lk with ⟨k1,_⟩ | ⟨_,c,hc,z⟩
   ·rcases kX with h | h <;> rw [h] at k1 <;> cases k1
   ·refine ⟨c,?_,z.keeps keep⟩
    show (cellsFrom (s.heap.objs.size + 1) scope.names cl).lookup x=some c;rw [eo,pj fun p hp e=>?_]
    ·obtain ⟨c',hc'⟩:=hfr x hfree
     obtain ⟨c2,hc2⟩:=fj hc'
     have:=hcl _ (mem_of_lookup hc2)
     rw [hc] at this;cases this;exact hc2
    ·have e5:=cQ T.nd (o1 p hp).2
     rw [e] at e5;have e6:=cQ T.nd hfree;rw [e5] at e6;cases e6
 ·have h:(own++cl).lookup x=some c:=eo ▸ h
  rcases cases_ x c h with ⟨l1,m1⟩ | e1
  ·exact ⟨none,(okc.empty x c (eown ▸ m1)).1⟩
  ·obtain ⟨v,z⟩:=I.cell x c e1
   exact ⟨v,z.keeps keep⟩
 ·have h:(own++cl).lookup x=some c:=eo ▸ h
  rcases cases_ x c h with ⟨l1,m1⟩ | e1
  ·exact I.Mb.fresh (Nat.le_of_succ_le l1)
  ·exact I.freeC x c e1
 ·rw [List.append_nil] at hp
  obtain ⟨e,n,ne,nf,d⟩:=I.pin p hp;refine ⟨keep _ _ e,n,zU (yH e),fun z=>?_,d⟩;rcases zT.mp (I.stkSub p.1 z) with z | z
  ·exact ne z
  ·exact nf z
 ·show (σ++List.replicate (N'.length - X.N.length) none).length=N'.length
  rw [zV,List.length_replicate,I.len]
  have:=T.len
  omega
theorem Fp {σ1:St}{H1:Hp}{s1:Shared}{h':Heap}{pins1:List (Addr × Obj)} (I:Inv X L5 σ H s) (hf:∀ b ∈ fp,dB X L5 H b) (I1:Inv (cz X N' scope cl s H fp L5) pins1 σ1 H1 s1) (hs:Heap.SameBut s.heap.objs.size s1.heap h') :
  Inv X L5 σ H1 { s1 with heap:=h' }:=by
 have hC:∀ b o,s.heap.get? b=some o->b ≠ s.heap.objs.size:=fun b o e=>zU (yH e)
 have u:=I1.base;have u2:Un (jf X.stack) fp H H1 s.heap h':=by
  refine ⟨fun b o e n hb hx=>?_,fun b o e n hb hx=>?_,u.free,fun b o e hx=>?_,u.tups,u.frzs,u.tbls⟩
  ·rw [hs.2 b (hC b o e)];exact u.keep b o e n hb hx
  ·obtain ⟨sl,q⟩:=u.slot b o e n hb hx
   exact ⟨sl,by rw [hs.2 b (hC b o e)];exact q⟩
  ·obtain ⟨o',q⟩:=u.there b o e hx
   exact ⟨o',by rw [hs.2 b (hC b o e)];exact q⟩
 have hCf:H1 s.heap.objs.size=none:=I1.free;refine I.call' (s':={ s1 with heap:=h' }) I1.os u2 (fun b o e=>?_) I1.bare fun b hb=>⟨(hf b hb).2.2.2.1,(hf b hb).2.1,(hf b hb).2.2.2.2.1,(hf b hb).2.2.2.2.2⟩
 refine (I1.Mb b o e).stay (fun c v hc q=>(hs.2 c ?_).trans q) (fun _ q=>q) fun _ _ q=>q
 rintro rfl;rcases hc with z | z
 ·rw [<- z,hCf] at e;cases e
 ·rw [hCf] at z;cases z
def tJ (X:Cx) (ifs:List Expr) (t:TT):Prop :=
 ∀ (L5:List (Addr × Obj)) (s:Shared) (σ:St) (H:Hp) (Q:Bool->Hp->Prop),Inv X L5 σ H s->t σ H Q ->
  wpAny (model X.prog X.w) X.A (forIn ifs true fun c r=>if r=true then do let ok <- isTrue c X.env (eval c X.env);pure (ForInStep.yield ok) else pure (ForInStep.yield r)) (TP X L5 σ Q) X.xe s
theorem Bk:tJ X [] (fun _ H Q=>Q true H):=fun L5 s σ H Q I h=>wpAny_tests_nil ⟨H,I,h⟩
theorem Bj {c:Expr}{t:TT} (h:PT X c t):tJ X [c] t:=fun L5 s σ H Q I h'=>wpAny_tests_one (h L5 s σ H Q I h')
def Cw (k:Nat) (wi:TI) (g:TG) (tt:TT) (te:TE):TE:=fun σ H Q=>wi σ H fun J H1=>∀ p,H1 p=none ->
 ∃ W:Nat->Nat->St->Hp->Prop,(∃ m,W 0 m (σ++List.replicate k none) (af H1 p (.lst [])))/\∀ i m σ' H',W i m σ' H' ->
  (J.stop i H'/\Q (.ref p) H')\/(J.go i H'/\∀ x H2,J.yld i H' x H2->g x σ' H2 fun σ2 H3=>tt σ2 H3 fun ok H4=>if ok=true then
   te σ2 H4 fun y H5=>∃ ys,H5 p=some (.lst ys)/\ys.length < sizeLine/\∃ m',m' < m/\W (i + 1) m' σ2 (af H5 p (.lst (ys++[y])))
   else ∃ m',m' < m/\W (i + 1) m' σ2 H4)
theorem qR {prog:Program}{w:World}{A:Around}{R:Result->Shared->Prop}{s:Shared}{elt target iter:Expr}{ifs:List Expr}{scope:Scope}{pos:Pos}{it acc:Value}{env:Env} (I:Nat->Shared->Prop)
  (turn:∀ n s,I n s->wpAny (model prog w) A (pyNext it) (fun r s₁=>match r with
   | none=>R (.ok .next) s₁
   | some v=>wpAny (model prog w) A (letOwnedTupleGo target it v) (fun _ s₁'=>wpAny (model prog w) A (assign target env v) (fun _ s₂ =>
     wpAny (model prog w) A (forIn ifs true fun c r=>if r=true then do let ok <- isTrue c env (eval c env);pure (ForInStep.yield ok) else pure (ForInStep.yield r)) (fun ok s₃ =>
      if ok=true then wpAny (model prog w) A (eval elt env) (fun x s₄ =>
       wpAny (model prog w) A (call (.builtin "list.append") [acc,x]) (fun _ s₅=>∃ m,m < n/\I m s₅) (fun _ _=>False) s₄) (fun _ _=>False) s₃
      else ∃ m,m < n/\I m s₃) (fun _ _=>False) s₂) (fun _ _=>False) s₁') (fun _ _=>False) s₁) (fun _ _=>False) s)
  (n:Nat) (h:I n s):codeAny (model prog w) A (.compLoop (.ListComp elt [⟨target,iter,ifs,0⟩] scope pos) 0 it acc env) R s:=by
 refine codeAny_loop rfl I (fun n s hI=>?_) n h;show wpAny _ A ((compTurn (.ListComp elt [⟨target,iter,ifs,0⟩] scope pos) 0 it acc env).onRaise (fun x=>do noteFrame x env;theTreesLotGoes x)) _ _ s;refine wpAny_noted ?_;rw [compTurn_list];refine yD (wpAny_standAt (yD (yP (turn n s hI) (fun r s₁ h₁=>?_) fun _ _ h'=>h'.elim)));cases r with
 | none=>exact yE h₁
 | some v =>
  refine yD (yP h₁ (fun _ s₁' h₁'=>?_) fun _ _ h'=>h'.elim);refine yD (yP h₁' (fun _ s₂ h₂=>yD (yP h₂ (fun ok s₃ h₃=>?_) fun _ _ h'=>h'.elim)) fun _ _ h'=>h'.elim);cases ok with
  | false=>exact yE ⟨rfl,h₃⟩
  | true =>
   exact yD (yD (yP h₃ (fun x s₄ h₄=>yD (yP h₄ (fun _ s₅ h₅=>yE (yE ⟨rfl,h₅⟩)) fun _ _ h'=>h'.elim)) fun _ _ h'=>h'.elim))
theorem qw {elt iter tg:Expr}{ifs:List Expr}{pos:Pos}{g:TG}{tt:TT}{te:TE}{J:It}{it:Addr}{tn:Nat->Heap->Prop}{Q:VK}{E:Value->Shared->Prop}{RR:Value->Addr->Result->Shared->Prop}
  (hc:X.calm=true) (T:jJ X N' scope) (hcl:∀ p ∈ cl,X.env.cells.lookup p.1=some p.2) (hfr:∀ x,(x,NameKind.free) ∈ scope.names->∃ c,(x,c) ∈ cl)
  (hg:∀ cl s H fp L5,PG (cz X N' scope cl s H fp L5) tg g) (ht:∀ cl s H fp L5,tJ (cz X N' scope cl s H fp L5) ifs tt) (he:∀ cl s H fp L5,PE (cz X N' scope cl s H fp L5) elt te)
  (I:Inv X L5 σ H s) (Tn:iX X.prog X.w X.K tg J fp it tn) (st0:tn 0 s.heap) (hf:∀ b ∈ fp,dB X L5 H b)
  (h:∀ p,H p=none->∃ W:Nat->Nat->St->Hp->Prop,(∃ m,W 0 m (σ++List.replicate (N'.length - X.N.length) none) (af H p (.lst [])))/\∀ i m σ' H',W i m σ' H' ->
   (J.stop i H'/\Q (.ref p) H')\/(J.go i H'/\∀ x H2,J.yld i H' x H2->g x σ' H2 fun σ2 H3=>tt σ2 H3 fun ok H4=>if ok=true then
    te σ2 H4 fun y H5=>∃ ys,H5 p=some (.lst ys)/\ys.length < sizeLine/\∃ m',m' < m/\W (i + 1) m' σ2 (af H5 p (.lst (ys++[y])))
    else ∃ m',m' < m/\W (i + 1) m' σ2 H4))
  (hRR:∀ p C s1 H1,Inv X L5 σ H1 s1->Q (.ref p) H1->(∃ m,s1.heap.Ns C m)->H1 C=none->s.heap.objs.size <= C->RR (.ref p) C (.ok .next) s1) :
  wpAny (model X.prog X.w) X.A (newList []) (fun acc s₃=>wpAny (model X.prog X.w) X.A (newFunctionEnv scope X.env.globals cl [] X.env.qual none .none (some X.env)) (fun cenv s₄ =>
   codeAny (model X.prog X.w) X.A (.compStart (.ListComp elt [⟨tg,iter,ifs,0⟩] scope pos) 0 (.ref it) acc { cenv with scope:=relabel scope X.env }) (RR acc cenv.locals) s₄) E s₃) E s:=by
 refine wpAny_newObj_type (xF ?_);have hp:H s.heap.objs.size=none:=I.fresh;obtain ⟨W,⟨m0,w0⟩,turn⟩:=h _ hp;have I2:Inv X L5 σ (af H s.heap.objs.size (.lst [])) { s with heap:=s.heap.push { cls:=.type "list",data:=.seq ([]:List Value).toArray } }:=Inv.lnew (t':=s.toks) (L9:=[]) (ys:=[]) I .nil (Nat.zero_le _);have hf2:∀ b ∈ fp,dB X L5 (af H s.heap.objs.size (.lst [])) b:=fun b hb=>by
  obtain ⟨o,e,_⟩:=Tn.obj _ _ st0 b hb;exact ⟨by rw [ad (zU (yH e))];exact (hf b hb).1,(hf b hb).2⟩
 have ho2:∀ b ∈ fp,∃ o,(s.heap.push { cls:=.type "list",data:=.seq ([]:List Value).toArray }:Heap).get? b=some o:=fun b hb=>by
  obtain ⟨o,e,_⟩:=Tn.obj _ _ st0 b hb;exact ⟨o,zG _ e⟩
 have I3:=yn T I2 hcl hfr hf2 ho2;have st3:tn 0 (pushCells ((s.heap.push { cls:=.type "list",data:=.seq ([]:List Value).toArray }).push { cls:=.type "dict",data:=.dict #[] }) scope.names) :=
  Tn.keep _ _ _ st0 fun b hb o e=>pushCells_keeps _ _ b o (zG _ (zG _ e))
 generalize hs2:({ s with heap:=s.heap.push { cls:=.type "list",data:=.seq ([]:List Value).toArray } }:Shared)=s2 at I2 I3;have hC:s.heap.objs.size <= s2.heap.objs.size:=by rw [<- hs2];exact yU (by show _ < (s.heap.push _).objs.size;rw [Heap.size_push];exact Nat.lt_succ_self _)
 have stat:∀ {H':Hp},(∀ b ∈ fp,H' b=none)->∀ b ∈ fp,dB (cz X N' scope cl s2 (af H s.heap.objs.size (.lst [])) fp L5) [] H' b:=fun {H'} hn b hb=>by
  refine ⟨hn b hb,(I3.ok.exf b hb).1,I3.ok.exfs b hb,.inl hb,(I3.ok.exf b hb).2,fun p hp=>?_⟩;rw [List.append_nil] at hp;exact (hf b hb).2.2.2.2.2 p hp
 have loop:∀ s4,s4=({ s2 with heap:=pushCells (s2.heap.push { cls:=.type "dict",data:=.dict #[] }) scope.names }:Shared) ->
   codeAny (model X.prog X.w) X.A (.compLoop (.ListComp elt [⟨tg,iter,ifs,0⟩] scope pos) 0 (.ref it) (.ref s.heap.objs.size) (cz X N' scope cl s2 (af H s.heap.objs.size (.lst [])) fp L5).env) (RR (.ref s.heap.objs.size) s2.heap.objs.size) s4:=by
  rintro s4 rfl;refine qR (fun n s'=>∃ i σ' H',Inv (cz X N' scope cl s2 (af H s.heap.objs.size (.lst [])) fp L5) [] σ' H' s'/\tn i s'.heap/\(∀ b ∈ fp,H' b=none)/\W i n σ' H') ?_ m0
   ⟨0,_,_,I3,by subst hs2;exact st3,fun b hb=>(hf2 b hb).1,w0⟩
  rintro n s3 ⟨i,σ3,H3,I4,st4,fr4,w4⟩;rcases turn i n σ3 H3 w4 with ⟨stop,qn⟩ | ⟨go,step⟩
  ·refine aB (Tn.done (cz X N' scope cl s2 (af H s.heap.objs.size (.lst [])) fp L5) rfl rfl rfl hc i [] s3 σ3 H3 (fun _ _=>False) I4 (stat fr4) st4 stop) fun r s5 hq0=>?_
   obtain ⟨hr,I5⟩:=hq0;subst hr;obtain ⟨m,hn,_⟩:=I5.loc;exact hRR _ _ s5 H3 (Fp I2 hf2 I5 (Heap.SameBut.refl _ _)) qn ⟨m,hn⟩ I5.free hC
  ·refine aB (Tn.item (cz X N' scope cl s2 (af H s.heap.objs.size (.lst [])) fp L5) rfl rfl rfl hc i [] s3 σ3 H3 (fun _ _=>False) I4 (stat fr4) st4 go) fun r s5 hq0=>?_
   obtain ⟨u,hr,h5⟩:=hq0;subst hr;refine aB h5 fun _ s6 hq0=>?_
   obtain ⟨x,H6,I6,r6,y6,st6,fr6⟩:=hq0;have I6':=I6.pinned (stat fr6) (Tn.obj _ _ st6);have again:∀ {σ7:St}{H7:Hp}{s7:Shared}{m':Nat},Inv (cz X N' scope cl s2 (af H s.heap.objs.size (.lst [])) fp L5) ([]++fB fp s6.heap) σ7 H7 s7->m' < n->W (i + 1) m' σ7 H7 ->
     ∃ m,m < n/\∃ i σ' H',Inv (cz X N' scope cl s2 (af H s.heap.objs.size (.lst [])) fp L5) [] σ' H' s7/\tn i s7.heap/\(∀ b ∈ fp,H' b=none)/\W i m σ' H':=fun {σ7 H7 s7 m'} I7 hm w7=>by
    refine ⟨m',hm,i + 1,σ7,H7,I7.unpinned,Tn.keep _ _ _ st6 fun b hb o e=>(I7.pin (b,o) (zK _ (zK _ (c9 hb e)))).1,fun b hb=>?_,w7⟩;obtain ⟨o,e,d⟩:=Tn.obj _ _ st6 b hb;exact (I7.pin (b,o) (zK _ (zK _ (c9 hb e)))).2.1
   refine aB (hg _ _ _ _ _ _ s6 σ3 H6 x u _ I6' r6 (step x H6 y6)) fun _ s7 hq0=>?_
   obtain ⟨σ7,H7,I7,q7⟩:=hq0;refine aB (ht _ _ _ _ _ _ s7 σ7 H7 _ I7 q7) fun ok s8 hq0=>?_
   obtain ⟨H8,I8,q8⟩:=hq0;cases ok with
   | false =>
    simp only [z9,if_false] at q8 ⊢;obtain ⟨m',hm,w8⟩:=q8;exact again I8 hm w8
   | true =>
    simp only [if_true] at q8 ⊢;refine aB (he _ _ _ _ _ _ s8 σ7 H8 _ I8 q8) fun y s9 hq0=>?_
    obtain ⟨yv,H9,I9,r9,ys,e9,l9,m',hm,w9⟩:=hq0;refine aB (oH _ s9 σ7 H9 (.ref s.heap.objs.size) [yv] (.ref s.heap.objs.size) [y] (fun _ H'=>H'=af H9 s.heap.objs.size (.lst (ys++[yv]))) I9 rfl (.cons r9 .nil) ⟨_,ys,yv,rfl,rfl,e9,l9,rfl⟩) fun _ s10 hq0=>?_
    obtain ⟨_,H10,I10,_,e10⟩:=hq0;subst e10;exact again I10 hm w9
 have st5:tn 0 (pushCells (s2.heap.push { cls:=.type "dict",data:=.dict #[] }) scope.names):=by subst hs2;exact st3
 have aF:=codeAny_compStart_list (loop _ rfl) (Tn.self X.A 0 _ _ (notedBy (model X.prog X.w) X.A (cz X N' scope cl s2 (af H s.heap.objs.size (.lst [])) fp L5).env fun x s'=>RR (.ref s.heap.objs.size) s2.heap.objs.size (.error x) s') st5 (loop _ rfl));subst hs2;exact aF
end
section
variable {X:Cx}{N':List Str}{scope:Scope}{L5:List (Addr × Obj)}{σ:St}{elt iter tg:Expr}{ifs:List Expr}{pos:Pos}{wi:TI}{g:TG}{tt:TT}{te:TE}
theorem qu (T:jJ X N' scope):∀ x ∈ scope.names,x.2=.local->scope.names.lookup x.1=some .local:=fun x hx e=>by
 obtain ⟨n,k⟩:=x;cases e;exact cQ T.nd hx
theorem GD (hc:X.calm=true) (T:jJ X N' scope) (hi:PI X tg iter wi) (hg:∀ cl s H fp L5,PG (cz X N' scope cl s H fp L5) tg g) (ht:∀ cl s H fp L5,tJ (cz X N' scope cl s H fp L5) ifs tt)
  (he:∀ cl s H fp L5,PE (cz X N' scope cl s H fp L5) elt te) (hs:∀ x,foldedSetIterable iter X.env x=pure x:=by intro _;rfl) :
  PE X (.ListComp elt [⟨tg,iter,ifs,0⟩] scope pos) (Cw (N'.length - X.N.length) wi g tt te):=by
 intro L5 s σ H Q I h;obtain ⟨cl,hclos,hcl,hfr⟩:=jA (scope:=scope) (env:=X.env) fun x hx=>I.ok.has x (T.free x hx)
 rw [eval_ListComp];refine wpAny_comprehension_free (use:=none) rfl hs hclos T.kind (qu T) (yP (hi L5 s σ H _ I h) (fun xv s1 h1=>yP h1 (fun itv s2 h2=>?_) fun _ _ e=>e) fun _ _ e=>e);obtain ⟨it,fp,tn,J,H2,rfl,I2,Tn,st2,f2,R⟩:=h2;refine qw (Q:=Q) (RR:=fun acc C=>compPost (model X.prog X.w) X.A X.xe none (EP X L5 σ Q) acc C) hc T hcl hfr hg ht he I2 Tn st2 f2 R ?_;rintro p C s3 H3 I3 q ⟨m,hn⟩ hC hle;refine ⟨m,hn,fun h' hs'=>⟨.ref p,H3,?_,rfl,q⟩⟩;refine I3.turned (t':=s3.toks) (it:=C) (fun b o hb e=>(hs'.2 b hb).trans e) hC ?_ (.inr (z0 I2.sz hle)) (fun x c e=>?_) fun p hp=>?_
 ·exact Ne.symm (zU (zJ I2.lt hle))
 ·obtain ⟨v,z⟩:=I2.cell x c e
  exact zU (zJ z.lt hle)
 ·exact zU (zJ (yH (I2.pin p hp).1) hle)
theorem vx {i:Nat}{y:Str}{py spos:Pos} (hN:X.N.Nodup) (hiN:X.N[i]?=some y) (hx:Loc X.env.scope y) (hsw:swapsWith (.ListComp elt [⟨tg,iter,ifs,0⟩] scope pos) (some (.Name y py)) spos.line X.env=pure true)
  (hc:X.calm=true) (T:jJ X N' scope) (hi:PI X tg iter wi) (hg:∀ cl s H fp L5,PG (cz X N' scope cl s H fp L5) tg g) (ht:∀ cl s H fp L5,tJ (cz X N' scope cl s H fp L5) ifs tt)
  (he:∀ cl s H fp L5,PE (cz X N' scope cl s H fp L5) elt te) (hs:∀ x,foldedSetIterable iter X.env x=pure x:=by intro _;rfl) (hf:X.fn y=true\/X.env.scope.names.lookup y=some .local:=by first | exact .inl rfl | exact .inr rfl | assumption) :
  PS X (.Assign [.Name y py] (.ListComp elt [⟨tg,iter,ifs,0⟩] scope pos) spos) (tU (Cw (N'.length - X.N.length) wi g tt te) (mW i)):=by
 intro L5 s σ H D I h;obtain ⟨cl,hclos,hcl,hfr⟩:=jA (scope:=scope) (env:=X.env) fun x hx=>I.ok.has x (T.free x hx)
 rw [exec_Assign_Name_used _ _ _ _ hsw];refine yD (wpAny_standAt (yD ?_));show wpAny _ X.A (do let _ <- comprehension (.ListComp elt [⟨tg,iter,ifs,0⟩] scope pos) scope X.env _ (newList []) false (eval iter X.env) (some (assign (.Name y py) X.env))) _ _ s;refine yD (yP (wpAny_comprehension_free (use:=some (assign (.Name y py) X.env)) (Q:=fun _ s'=>SP X L5 D .next s') rfl hs hclos T.kind (qu T)
  (yP (hi L5 s σ H _ I h) (fun xv s1 h1=>yP h1 (fun itv s2 h2=>?_) fun _ _ e=>e) fun _ _ e=>e)) (fun _ s' hq=>yE (yE hq)) fun _ _ e=>e)
 obtain ⟨it,fp,tn,J,H2,rfl,I2,Tn,st2,f2,R⟩:=h2;refine qw (Q:=fun x H1=>mW i x σ H1 D.nx) (RR:=fun acc C=>compPost (model X.prog X.w) X.A X.xe (some (assign (.Name y py) X.env)) (fun _ s'=>SP X L5 D .next s') acc C) hc T hcl hfr hg ht he I2 Tn st2 f2 R ?_;rintro p C s3 H3 I3 q ⟨m,hn⟩ hC hle;have hCL:C ≠ X.env.locals:=Ne.symm (zU (zJ I2.lt hle));have hCc:∀ x c,X.env.cells.lookup x=some c->c ≠ C:=fun x c e=>by
  obtain ⟨v,z⟩:=I2.cell x c e;exact zU (zJ z.lt hle)
 show wpAny _ X.A (assign (.Name y py) X.env (.ref p)) _ _ _;refine wpAny_assign_Name (oE (v:=.ref p) I3 hN hiN hx rfl (fun s4 I4 hq0=>?_) hf);obtain ⟨a,sb,ha⟩:=hq0;have hne:C ≠ a:=by
  rcases ha with e | e
  ·rw [e];exact hCL
  ·exact (hCc _ _ e).symm
 refine ⟨m,hn.sameBut sb hne,fun h' hs'=>⟨_,H3,?_,q⟩⟩;refine I4.turned (t':=s4.toks) (it:=C) (fun b o hb e=>(hs'.2 b hb).trans e) hC hCL (.inr (z0 I2.sz hle)) hCc fun p hp=>?_
 exact zU (zJ (yH (I2.pin p hp).1) hle)
end
end L2
namespace DD
open PySem PySem.Spec PyProof.Rows L2
section
variable {X:Cx}{L5:List (Addr × Obj)}{σ:St}{H:Hp}{s:Shared}{F:Addr->Prop}
theorem obj_list (I:L2.Inv X L5 σ H s) {a:Addr}{vs:List V} (h:bJ X.K H a vs):∃ L9 o n,Vals vs L9/\s.heap.get? a=some o/\o.cls=.type "list"/\o.data=.seq L9.toArray n:=by
 obtain ⟨L9,r,⟨o,n,e,c,_,d⟩,_⟩:=I.list h;exact ⟨L9,o,n,r,e,c,d⟩
theorem obj_tup (I:L2.Inv X L5 σ H s) {a:Addr}{vs:List V} (h:gF X.K H a vs):∃ L9 o n,Vals vs L9/\s.heap.get? a=some o/\o.cls=.type "tuple"/\o.data=.seq L9.toArray n:=by
 obtain ⟨L9,r,⟨o,e,c,n,d⟩,_⟩:=I.tuple h;exact ⟨L9,o,n,r,e,c,d⟩
end
noncomputable def pyOk (p q:PyData):Bool:=p.canLay0 && q.canLay0 && decide (min p.depth q.depth <= 50)
end DD
namespace L2
open PySem PySem.Spec PyProof.Rows
def IT (K:Frag) (a b:Addr):It :=
 ⟨fun i H=>∃ xs ys x y,bJ K H a xs/\bJ K H b ys/\xs[i]?=some x/\ys[i]?=some y,
  fun i H x H'=>∃ p u w,(∀ xs,bJ K H a xs->xs[i]?=some u)/\(∀ ys,bJ K H b ys->ys[i]?=some w)/\H p=none/\H'=af H p (.tup [u,w])/\x=.ref p,
  fun i H=>∃ xs ys,bJ K H a xs/\bJ K H b ys/\(xs.length <= i\/ys.length <= i)⟩
theorem Inv.turnT {X:Cx}{L5:List (Addr × Obj)}{σ:St}{H:Hp}{s:Shared}{h':Heap}{ch:List Addr}{u w:V}{x y:Value} (I:Inv X L5 σ H s) (hf:∀ b ∈ ch,dB X L5 H b) (ru:RelV u x) (rw':RelV w y)
  (hk:∀ c o,c ∉ ch->s.heap.get? c=some o->h'.get? c=some o) (hT:IsPair h' s.heap.objs.size x y) (hth:∀ b ∈ ch,∃ o,h'.get? b=some o):Inv X L5 σ (af H s.heap.objs.size (.tup [u,w])) { s with heap:=h' }:=by
 have hfr:H s.heap.objs.size=none:=I.fresh;have nch:∀ b o,H b=some o->b ∉ ch:=fun b o e hb=>by rw [(hf b hb).1] at e;cases e
 have ne:∀ b o,s.heap.get? b=some o->b ≠ s.heap.objs.size:=fun b o e=>zU (yH e)
 refine I.step (g':=s.gens) (d':=s.drawn) (t':=s.toks) (ch:=ch) (fun b hb=>⟨(hf b hb).2.2.2.1,(hf b hb).2.1,(hf b hb).2.2.2.2.1,(hf b hb).2.2.2.2.2⟩) (fun b o _ _ hc e _=>hk b o hc e)
  (fun b o _ _ hc e _=>⟨o.slots,hk b o hc e⟩) (fun b o _ e n=>by rw [ad (ne b o e)];exact n) (fun b o hc e=>⟨o,hk b o hc e⟩) (fun b xs e=>by rw [ad (be e hfr)];exact e)
  (fun b o v e=>by rw [ad (be e hfr)];exact e) (fun b ps e=>⟨#[],by rw [ad (be e hfr),e];simp⟩) (fun m hm=>?_) (fun b o e=>?_) I.bare
 ·obtain ⟨o,es,ep,ho,r⟩:=hm
  exact ⟨o,es,ep,hk _ o (fun z=>(hf _ z).2.1 rfl) ho,r⟩
 ·by_cases hb:b=s.heap.objs.size
  ·subst hb
   rw [ar] at e;cases e;refine ⟨by show 2 <= sizeLine;decide,[x,y],.cons ru (.cons rw' .nil),⟨_,hT,rfl,_,rfl⟩⟩
  ·rw [ad hb] at e
   refine (I.Mb b o e).stay (fun c v hc q=>hk c v ?_ q) (fun c q=>by rw [ad (be q hfr)];exact q) fun c xs q=>by rw [ad (be q hfr)];exact q
   rcases hc with rfl | hc
   ·exact nch _ _ e
   ·exact nch _ _ hc
theorem Inv.turnN {X:Cx}{L5:List (Addr × Obj)}{σ:St}{H:Hp}{s:Shared}{h':Heap}{ch:List Addr} (I:Inv X L5 σ H s) (hf:∀ b ∈ ch,dB X L5 H b)
  (hk:∀ c o,c ∉ ch->s.heap.get? c=some o->h'.get? c=some o):Inv X L5 σ H { s with heap:=h' }:=by
 have nch:∀ b o,H b=some o->b ∉ ch:=fun b o e hb=>by rw [(hf b hb).1] at e;cases e
 refine I.step (g':=s.gens) (d':=s.drawn) (t':=s.toks) (ch:=ch) (fun b hb=>⟨(hf b hb).2.2.2.1,(hf b hb).2.1,(hf b hb).2.2.2.2.1,(hf b hb).2.2.2.2.2⟩) (fun b o _ _ hc e _=>hk b o hc e)
  (fun b o _ _ hc e _=>⟨o.slots,hk b o hc e⟩) (fun b o _ e n=>n) (fun b o hc e=>⟨o,hk b o hc e⟩) (fun b xs e=>e)
  (fun b o v e=>e) (fun b ps e=>⟨#[],by rw [e];simp⟩) (fun m hm=>?_) (fun b o e=>?_) I.bare
 ·obtain ⟨o,es,ep,ho,r⟩:=hm
  exact ⟨o,es,ep,hk _ o (fun z=>(hf _ z).2.1 rfl) ho,r⟩
 ·refine (I.Mb b o e).stay (fun c v hc q=>hk c v ?_ q) (fun c q=>q) fun c xs q=>q
  rcases hc with rfl | hc
  ·exact nch _ _ e
  ·exact nch _ _ hc
theorem cX {X:Cx}{L5:List (Addr × Obj)}{σ:St}{H:Hp}{s:Shared}{a b:Addr}{xs:List V} (I:Inv X L5 σ H s) (h:bJ X.K H a xs) (hb:dB X L5 H b) (hob:∃ o,s.heap.get? b=some o/\o.cls ≠ .type "list"):a ≠ b:=by
 rintro rfl;obtain ⟨L9,r,⟨o,n,e,c,_⟩,_⟩:=I.list h;obtain ⟨o',e',c'⟩:=hob;rw [e] at e';cases e';exact c' c
theorem wI {P:Program}{w:World}{K:Frag}{elts:List Expr}{x1:Nat}{tpos:Pos} (a b z TI TO i1 i2:Addr) (D1:TI ≠ z) (D2:TO ≠ z) (D3:i1 ≠ z) (D4:i2 ≠ z) (D5:TI ≠ TO) (D6:TI ≠ i1) (D7:TI ≠ i2) (D8:TO ≠ i1) (D9:TO ≠ i2) (D10:i1 ≠ i2) :
  iX P w K (.Tuple elts x1 tpos) (IT K a b) [z,TI,TO,i1,i2] z (fun i h=>IsZip h z TI TO .none/\IsPair h TI (.ref i1) (.ref i2)/\(∃ u v,IsPair h TO u v)/\h.IsListIter i1 a i/\h.IsListIter i2 b i) where
 mem:=by simp
 obj:=fun i h hq0 c hc=>by
  obtain ⟨hz,hTI,⟨u,v,hTO⟩,⟨o1,e1,c1,d1⟩,⟨o2,e2,c2,d2⟩⟩:=hq0;simp only [zT,zX,or_false] at hc;rcases hc with rfl | rfl | rfl | rfl | rfl
  ·exact ⟨_,hz,fun v z=>nomatch z⟩
  ·exact ⟨_,hTI,fun v z=>nomatch z⟩
  ·exact ⟨_,hTO,fun v z=>nomatch z⟩
  ·exact ⟨_,e1,fun v z=>by rw [d1] at z;cases z⟩
  ·exact ⟨_,e2,fun v z=>by rw [d2] at z;cases z⟩
 keep:=fun i h h' ⟨hz,hTI,⟨u,v,hTO⟩,h1,h2⟩ k=>⟨k z (by simp) _ hz,k TI (by simp) _ hTI,⟨u,v,k TO (by simp) _ hTO⟩,h1.at fun o e=>k i1 (by simp) o e,h2.at fun o e=>k i2 (by simp) o e⟩
 item:=by
  rintro X hP hw hK hc i L5 s σ H E I hf ⟨hz,hTI,⟨ua,ub,hTO⟩,h1,h2⟩ ⟨xs,ys,x,y,hq1,hq2,hx,hy⟩;subst hP hw hK;obtain ⟨its1,rv1,p1,_⟩:=I.list hq1;obtain ⟨its2,rv2,p2,_⟩:=I.list hq2;obtain ⟨u1,hu1,ru1⟩:=rv1.get hx;obtain ⟨u2,hu2,ru2⟩:=rv2.get hy;have ob:∀ c ∈ [z,TO,i1,i2],∃ o,s.heap.get? c=some o/\o.cls ≠ .type "list":=fun c hc=>by
   obtain ⟨o1,e1,c1,d1⟩:=id h1;obtain ⟨o2,e2,c2,d2⟩:=id h2;simp only [zT,zX,or_false] at hc;rcases hc with rfl | rfl | rfl | rfl
   ·exact ⟨_,hz,by simp⟩
   ·exact ⟨_,hTO,by simp⟩
   ·exact ⟨_,e1,by rw [c1];simp⟩
   ·exact ⟨_,e2,by rw [c2];simp⟩
  have na:∀ c ∈ [z,TO,i1,i2],a ≠ c:=fun c hc=>cX I hq1 (hf c (by simp at hc ⊢;rcases hc with h | h | h | h <;> simp [h])) (ob c hc)
  have nb:∀ c ∈ [z,TO,i1,i2],b ≠ c:=fun c hc=>cX I hq2 (hf c (by simp at hc ⊢;rcases hc with h | h | h | h <;> simp [h])) (ob c hc)
  have D:ZipApart z TI TO i1 i2 a b:=⟨D1,D2,D3,D4,D5,D6,D7,D8,D9,D10,na z (by simp),na TO (by simp),na i1 (by simp),na i2 (by simp),nb z (by simp),nb TO (by simp),nb i1 (by simp),nb i2 (by simp)⟩;refine wpAny_pyNext_zip_item D hz hTI hTO h1 h2 p1.isList p2.isList (x:=u1) (y:=u2) (by simpa using hu1) (by simpa using hu2) fun h' a1 a2 a3 a4 a5 a6 hk=>?_
  have hf4:∀ c ∈ [z,TO,i1,i2],dB X L5 H c:=fun c hc=>hf c (by simp at hc ⊢;rcases hc with h | h | h | h <;> simp [h])
  have hk':∀ c o,c ∉ [z,TO,i1,i2]->s.heap.get? c=some o->h'.get? c=some o:=fun c o hc e=>hk c o (fun q=>hc (by simp [q])) (fun q=>hc (by simp [q])) (fun q=>hc (by simp [q])) (fun q=>hc (by simp [q])) e
  have I1:Inv X L5 σ (af H s.heap.objs.size (.tup [x,y])) { s with heap:=h' }:=I.turnT hf4 ru1 ru2 hk' a5 (fun c hc=>by
   obtain ⟨o1,e1,_⟩:=id a3;obtain ⟨o2,e2,_⟩:=id a4;simp only [zT,zX,or_false] at hc;rcases hc with rfl | rfl | rfl | rfl
   ·exact ⟨_,a1⟩
   ·exact ⟨_,a2⟩
   ·exact ⟨_,e1⟩
   ·exact ⟨_,e2⟩)
  have hfr:H s.heap.objs.size=none:=I.fresh;refine ⟨_,rfl,wpAny_letOwnedTupleGo_zip (s:={ s with heap:=h' }) a1 fun h'' z1 sb=>?_⟩;have hf5:∀ c ∈ [z,TI,TO,i1,i2],(af H s.heap.objs.size (.tup [x,y])) c=none:=fun c hc=>by
   have lt:c < s.heap.objs.size:=by
    obtain ⟨o1,e1,_⟩:=id h1;obtain ⟨o2,e2,_⟩:=id h2;simp only [zT,zX,or_false] at hc;rcases hc with rfl | rfl | rfl | rfl | rfl
    ·exact yH hz
    ·exact yH hTI
    ·exact yH hTO
    ·exact yH e1
    ·exact yH e2
   rw [ad (zU lt)];exact (hf c hc).1
  have I2:Inv X L5 σ (af H s.heap.objs.size (.tup [x,y])) { s with heap:=h'' }:=Inv.turnN (s:={ s with heap:=h' }) (ch:=[z]) I1 (fun c hc=>by
   have:c=z:=by simpa using hc
   subst this;exact ⟨hf5 c (by simp),(hf c (by simp)).2⟩) (fun c o hc e=>(sb.2 c (fun q=>hc (by simp [q]))).trans e)
  refine ⟨.ref s.heap.objs.size,_,I2,rfl,⟨_,x,y,fun zs hzs=>by rw [I.list_inj hzs hq1];exact hx,fun zs hzs=>by rw [I.list_inj hzs hq2];exact hy,hfr,rfl,rfl⟩,⟨z1,?_,⟨u1,u2,?_⟩,?_,?_⟩,hf5⟩
  ·exact (sb.2 TI D1).trans (hk' TI _ (by simp [D1,D5,D6,D7]) hTI)
  ·exact (sb.2 TO D2).trans a2
  ·exact a3.at fun o e=>(sb.2 i1 D3).trans e
  ·exact a4.at fun o e=>(sb.2 i2 D4).trans e
 done:=by
  rintro X hP hw hK hc i L5 s σ H E I hf ⟨hz,hTI,⟨ua,ub,hTO⟩,h1,h2⟩ ⟨xs,ys,hq1,hq2,hend⟩;subst hP hw hK;obtain ⟨its1,rv1,p1,_⟩:=I.list hq1;obtain ⟨its2,rv2,p2,_⟩:=I.list hq2;have ob:∀ c ∈ [z,TO,i1,i2],∃ o,s.heap.get? c=some o/\o.cls ≠ .type "list":=fun c hc=>by
   obtain ⟨o1,e1,c1,d1⟩:=id h1;obtain ⟨o2,e2,c2,d2⟩:=id h2;simp only [zT,zX,or_false] at hc;rcases hc with rfl | rfl | rfl | rfl
   ·exact ⟨_,hz,by simp⟩
   ·exact ⟨_,hTO,by simp⟩
   ·exact ⟨_,e1,by rw [c1];simp⟩
   ·exact ⟨_,e2,by rw [c2];simp⟩
  have hf4:∀ c ∈ [z,TO,i1,i2],dB X L5 H c:=fun c hc=>hf c (by simp at hc ⊢;rcases hc with h | h | h | h <;> simp [h])
  have na:∀ c ∈ [z,TO,i1,i2],a ≠ c:=fun c hc=>cX I hq1 (hf4 c hc) (ob c hc)
  have nb:∀ c ∈ [z,TO,i1,i2],b ≠ c:=fun c hc=>cX I hq2 (hf4 c hc) (ob c hc)
  have D:ZipApart z TI TO i1 i2 a b:=⟨D1,D2,D3,D4,D5,D6,D7,D8,D9,D10,na z (by simp),na TO (by simp),na i1 (by simp),na i2 (by simp),nb z (by simp),nb TO (by simp),nb i1 (by simp),nb i2 (by simp)⟩;have hl1:=rv1.length;have hl2:=rv2.length;refine wpAny_pyNext_zip_end (I.ok.hd hc) D hz hTI hTO h1 h2 p1.isList p2.isList (by rcases hend with h | h;(left;simp;omega);(right;simp;omega)) fun h' hk=>⟨rfl,?_⟩
  exact I.turnN hf4 fun c o hc e=>hk c o (fun q=>hc (by simp [q])) (fun q=>hc (by simp [q])) (fun q=>hc (by simp [q])) (fun q=>hc (by simp [q])) e
 self:=fun _ _ _ _ _ ⟨hz,_⟩ h=>wpAny_pyIter_zip hz h
def JM (K:Frag) (ta:TA):TI:=fun σ H R=>ta σ H fun vs H1=>∃ a b,vs=[.ref a,.ref b]/\(∃ xs,bJ K H1 a xs)/\(∃ ys,bJ K H1 b ys)/\R (IT K a b) H1
theorem Dr {X:Cx}{elts:List Expr}{x1:Nat}{tpos:Pos}{a b:Expr}{ta:TA}{p pos:Pos} (hg:Gl X "zip") (hm:X.mg "zip"=none) (ha:PA X [a,b] ta) (hs:starEach [a,b] X.env=[(false,eval a X.env),(false,eval b X.env)]:=by rfl) (hs2:starEach [b] X.env=[(false,eval b X.env)]:=by rfl) :
  PI X (.Tuple elts x1 tpos) (.Call (.Name "zip" p) [a,b] [] pos) (JM X.K ta):=by
 intro L5 s σ H R I h;refine Call_ (cN I hg hm boot_zip (PyProof.Rows.callWith_type1 (aB (ha pos L5 s σ H _ I h) fun us s1 ⟨vs,H1,I1,r1,q1⟩=>?_) (by rw [hs,hs2]) (by rw [hs2];rfl)));obtain ⟨l1,l2,e,⟨xs,hq1⟩,⟨ys,hq2⟩,q⟩:=q1;subst e;cases r1 with
 | cons r rr =>
  cases rr with
  | cons r' rr =>
   cases rr;cases r;cases r';obtain ⟨its1,rv1,p1,_⟩:=I1.list hq1;obtain ⟨its2,rv2,p2,_⟩:=I1.list hq2;refine call_zip_2 p1.isList p2.isList fun h' hz hTI hTO h1 h2 hsz hk=>?_
   have I2:Inv X L5 σ H1 { s1 with heap:=h' }:=I1.kept (t':=s1.toks) hk;refine wpAny_pyIter_zip (s:={ s1 with heap:=h' }) hz ?_;have lt:∀ k:Nat,s1.heap.objs.size <= s1.heap.objs.size + k:=fun k=>Nat.le_add_right _ _
   refine ⟨_,[s1.heap.objs.size + 4,s1.heap.objs.size + 2,s1.heap.objs.size + 3,s1.heap.objs.size,s1.heap.objs.size + 1],_,_,H1,rfl,I2,
    wI l1 l2 (s1.heap.objs.size + 4) (s1.heap.objs.size + 2) (s1.heap.objs.size + 3) s1.heap.objs.size (s1.heap.objs.size + 1) ?_ ?_ ?_ ?_ ?_ ?_ ?_ ?_ ?_ ?_,⟨hz,hTI,⟨_,_,hTO⟩,h1,h2⟩,fun c hc=>?_,q⟩
   all_goals first
    | (show _ + _ ≠ _ + _;intro z;exact absurd (Nat.add_left_cancel z) dC)
    | (show _ ≠ _ + _;intro z;exact absurd z (by have:=Nat.lt_add_of_pos_right (n:=s1.heap.objs.size) (k:=4) dC;have:=Nat.lt_add_of_pos_right (n:=s1.heap.objs.size) (k:=1) dC;exact zU (by assumption)))
    | (show _ + _ ≠ _;exact Nat.ne_of_gt (Nat.lt_add_of_pos_right dC))
    | skip
   have hle:s1.heap.objs.size <= c:=by
    simp only [zT,zX,or_false] at hc;rcases hc with rfl | rfl | rfl | rfl | rfl
    ·exact lt 4
    ·exact lt 2
    ·exact lt 3
    ·exact zP _
    ·exact lt 1
   obtain ⟨f0,f1,f2,f3,f4,f5⟩:=I1.fpOk hle (I1.Mb.fresh hle);exact ⟨f0,f1,f2,f3,f4,f5⟩
theorem ye {X:Cx}:yu X (fun o i H Q=>∃ p xs k v,o=.ref p/\i=.int k/\bJ X.K H p xs/\fN xs k=some v/\Q v H):=by
 rintro L5 s σ H o i ov iv Q I ro ri ⟨p,xs,k,v,e1,e2,hq,he,q⟩;subst e1 e2;cases ro;obtain ⟨t,rfl⟩:=ri;obtain ⟨L9,r,pl,hz⟩:=I.list hq;obtain ⟨j,h1,h2,h3,h4,h5⟩:=lr he;obtain ⟨w,ew,rw'⟩:=r.get h2;have hl:=r.length;have hn:=gz;have aF:EP X L5 σ Q w s:=⟨v,H,I,rw',q⟩;by_cases h0:0 <= k
 ·have hj:k.toNat=j:=by
   rw [seqIndex_of h0 h5] at h1;exact yC h1
  exact wpAny_getItem_list pl.isList h0 oM (by rw [hj];simpa using ew) aF
 ·have hj:(k + (L9.toArray.size:Int)).toNat=j:=by
   rw [seqIndex_neg oM h4] at h1;rw [zI,<- hl];exact yC h1
  exact wpAny_getItem_list_neg pl.isList oM (by rw [zI] <;> omega) oM (by rw [hj];simpa using ew) aF
end L2
namespace DD
open PySem PySem.Spec PyProof.Rows L2
section
variable {X:Cx}{e o a b:Expr}{es:List Expr}{p q:DP}{c c':DE}{pos apos cpos:Pos}{i:Nat}{js:List DP}
theorem cnt_vals {h:Heap}{q:PyData}{e:Value->Bool} (he:∀ v p as,Reads h v p as->e v=PyData.eqv p q):∀ {vs:List Value}{ps:List PyData}{as:List Addr},ReadsAll h vs ps as->vs.countP e=ps.countP fun r=>PyData.eqv r q:=by
 intro vs
 induction vs with
 | nil=>intro ps as h;cases h;rfl
 | cons v vs ih =>
  intro ps as h;cases h with
  | cons r rs=>rw [List.countP_cons,List.countP_cons,ih rs,he _ _ _ r]
theorem reads_each {h:Heap}:∀ {vs:List Value}{ps:List PyData}{as:List Addr},ReadsAll h vs ps as->∀ v ∈ vs,∃ p as',p ∈ ps/\Reads h v p as':=by
 intro vs
 induction vs with
 | nil=>intro ps as h v hv;cases hv
 | cons v vs ih =>
  intro ps as h v hv;cases h with
  | cons r rs =>
   rcases zT.mp hv with rfl | hv
   ·exact ⟨_,_,z6,r⟩
   ·obtain ⟨p,as',hp,h⟩:=ih rs v hv
    exact ⟨p,as',zQ _ hp,h⟩
noncomputable def minL:List Int->Option Int
 | []=>none
 | x::xs=>some (xs.foldl (fun a b=>if b < a then b else a) x)
theorem El:∀ (xs:List Int) (x:Int),(xs.foldl (fun a b=>if b < a then b else a) x ∈ x::xs)/\∀ a ∈ x::xs,xs.foldl (fun a b=>if b < a then b else a) x <= a
 | [],x=>⟨by simp,by simp⟩
 | y::xs,x=>by
  obtain ⟨h1,h2⟩:=El xs (if y < x then y else x);rw [List.foldl_cons];constructor
  ·rcases zT.mp h1 with h | h
   ·rw [h];split <;> simp
   ·simp [h]
  ·intro a ha
   have hm:=h2 (if y < x then y else x) (by simp);have hx:(if y < x then y else x) <= x:=by split <;> omega
   have hy:(if y < x then y else x) <= y:=by split <;> omega
   rcases zT.mp ha with rfl | ha
   ·exact Int.le_trans hm hx
   ·rcases zT.mp ha with rfl | ha
    ·exact Int.le_trans hm hy
    ·exact h2 a (by simp [ha])
theorem minL_eq {ns:List Int}{m M:Int} (h:minL ns=some m) (h1:M ∈ ns) (h2:∀ a ∈ ns,M <= a):M=m:=by
 cases ns with
 | nil=>cases h1
 | cons x xs =>
  cases h;obtain ⟨g1,g2⟩:=El xs x;have a1:=g2 M h1;have a2:=h2 _ g1;omega
end
section
variable {X:Cx}{e o a b:Expr}{es:List Expr}{p q:DP}{c c':DE}{pos apos cpos:Pos}{i:Nat}{js:List DP}
theorem any_vals {h:Heap}{q:PyData}{e:Value->Bool} (he:∀ v p as,Reads h v p as->e v=PyData.eqv p q):∀ {vs:List Value}{ps:List PyData}{as:List Addr},ReadsAll h vs ps as->vs.any e=ps.any fun r=>PyData.eqv r q
 | _,_,_,.nil=>rfl
 | _,_,_,.cons r rs=>by rw [List.any_cons,List.any_cons,any_vals he rs,he _ _ _ r]
end
end DD
namespace L2
open PySem PySem.Spec PyProof.Rows
def wD (K:Frag) (a:Addr) (n0:Nat):It :=
 ⟨fun i H=>∃ xs x,bJ K H a xs/\xs[i]?=some x,
  fun i H x H'=>∃ p u,(∀ xs,bJ K H a xs->xs[i]?=some u)/\H p=none/\H'=af H p (.tup [.int ((n0 + i:Nat):Int),u])/\x=.ref p,
  fun i H=>∃ xs,bJ K H a xs/\xs.length=i⟩
theorem oY {prog:Program}{w:World}{A:Around} (hh:A.handled=none) (it l:Addr) (hne:l ≠ it) (items:Array Value) (n0:Nat) :
  Draws prog w A it [it,l] (n0 + items.size) (fun i v=>n0 <= i/\items[i - n0]?=some v) (fun i h=>n0 <= i/\h.IsListIter it l (i - n0)/\h.IsList l items) where
 live:=fun _ _ q=>by obtain ⟨o,ho,_⟩:=q.2.1;exact ⟨o,ho⟩
 frame:=fun _ _ _ q hk=>⟨q.1,q.2.1.at fun o e=>hk it (by simp) o e,q.2.2.at fun o e=>hk l (by simp) o e⟩
 item:=fun i s Q E hi q hQ=>by
  have hl:i - n0 < items.size:=by have:=q.1;omega
  refine wpAny_nextOf_list_item q.2.1 q.2.2 (x:=items[i - n0]) (by simp [hl]) fun h' hit' hs'=>?_
  refine hQ _ h' s.toks ⟨q.1,by simp [hl]⟩ ⟨Nat.le_succ_of_le q.1,?_,q.2.2.extBut hs'.extBut hne⟩ hs';rw [show i + 1 - n0=i - n0 + 1 by have:=q.1;omega];exact hit'
 done:=fun s Q E q hE=>wpAny_nextOf_list_end hh q.2.1 q.2.2 (by simp) hE
theorem u9 {P:Program}{w:World}{K:Frag}{elts:List Expr}{x1:Nat}{tpos:Pos} (a z it:Addr) (n0:Nat) (D:z ≠ it) :
  iX P w K (.Tuple elts x1 tpos) (wD K a n0) [z,it] z (fun i h=>(∃ old,IsEnum h z it ((n0 + i:Nat):Int) old)/\h.IsListIter it a i) where
 mem:=by simp
 obj:=fun i h hq0 c hc=>by
  obtain ⟨⟨old,hz⟩,⟨o1,e1,c1,d1⟩⟩:=hq0;simp only [zT,zX,or_false] at hc;rcases hc with rfl | rfl
  ·exact ⟨_,hz,fun v z=>nomatch z⟩
  ·exact ⟨_,e1,fun v z=>by rw [d1] at z;cases z⟩
 keep:=fun i h h' ⟨⟨old,hz⟩,h1⟩ k=>⟨⟨old,k z (by simp) _ hz⟩,h1.at fun o e=>k it (by simp) o e⟩
 item:=by
  rintro X hP hw hK hc i L5 s σ H E I hf ⟨⟨old,hz⟩,h1⟩ ⟨xs,x,hq,hx⟩;subst hP hw hK;obtain ⟨L9,rv,p1,_⟩:=I.list hq;obtain ⟨u,hu,ru⟩:=rv.get hx;have na:a ≠ z:=cX I hq (hf z (by simp)) ⟨_,hz,by simp⟩;have nb:a ≠ it:=cX I hq (hf it (by simp)) (by obtain ⟨o1,e1,c1,d1⟩:=id h1;exact ⟨_,e1,by rw [c1];simp⟩);have hil:i < L9.length:=(zB.mp hu).1;refine wpAny_pyNext_enum_itemD (oY (A:=X.A.in1) (I.ok.hd hc) it a nb L9.toArray n0) hz ⟨Nat.le_add_right _ _,by rw [Nat.add_sub_cancel_left];exact h1,p1.isList⟩ (by simp [hil]) D (by simp [D,na.symm]) fun v h' tk hv ho hst hT hsz hk=>?_
  have ev:v=u:=by
   have h2:=hv.2;rw [Nat.add_sub_cancel_left] at h2;simp only [List.getElem?_toArray] at h2;rw [hu] at h2;exact (yC h2).symm
  subst ev;have hf2:∀ c ∈ [z,it],dB X L5 H c:=fun c hc=>hf c hc
  have hk':∀ c o,c ∉ [z,it]->s.heap.get? c=some o->h'.get? c=some o:=fun c o hc e=>hk c o (fun q=>hc (by simp [q])) (fun q=>hc (by simp [q])) e
  have I0:Inv X L5 σ (af H s.heap.objs.size (.tup [.int ((n0 + i:Nat):Int),x])) { s with heap:=h' }:=I.turnT hf2 (u:=.int ((n0 + i:Nat):Int)) ⟨tk,rfl⟩ ru hk' hT (fun c hc=>by
   obtain ⟨o1,e1,_⟩:=id hst.2.1;simp only [zT,zX,or_false] at hc;rcases hc with rfl | rfl
   ·exact ⟨_,ho⟩
   ·exact ⟨_,e1⟩)
  have I1:Inv X L5 σ (af H s.heap.objs.size (.tup [.int ((n0 + i:Nat):Int),x])) { s with heap:=h',toks:=tk + 1 }:=I0.kept (t':=tk + 1) (fun _ _ e=>e);have hfr:H s.heap.objs.size=none:=I.fresh;refine ⟨_,rfl,wpAny_letOwnedTupleGo_enum (s:={ s with heap:=h',toks:=tk + 1 }) ho fun h'' z1 sb=>?_⟩;have hf5:∀ c ∈ [z,it],(af H s.heap.objs.size (.tup [.int ((n0 + i:Nat):Int),x])) c=none:=fun c hc=>by
   have lt:c < s.heap.objs.size:=by
    obtain ⟨o1,e1,_⟩:=id h1;simp only [zT,zX,or_false] at hc;rcases hc with rfl | rfl
    ·exact yH hz
    ·exact yH e1
   rw [ad (zU lt)];exact (hf c hc).1
  have I2:Inv X L5 σ (af H s.heap.objs.size (.tup [.int ((n0 + i:Nat):Int),x])) { s with heap:=h'',toks:=tk + 1 }:=Inv.turnN (s:={ s with heap:=h',toks:=tk + 1 }) (ch:=[z]) I1 (fun c hc=>by
   have:c=z:=by simpa using hc
   subst this;exact ⟨hf5 c (by simp),(hf c (by simp)).2⟩) (fun c o hc e=>(sb.2 c (fun q=>hc (by simp [q]))).trans e)
  refine ⟨.ref s.heap.objs.size,_,I2,rfl,⟨_,x,fun zs hzs=>by rw [I.list_inj hzs hq];exact hx,hfr,rfl,rfl⟩,⟨⟨_,by rw [show ((n0 + (i + 1):Nat):Int)=((n0 + i:Nat):Int) + 1 by omega];exact z1⟩,?_⟩,hf5⟩;have h3:=hst.2.1;rw [show n0 + i + 1 - n0=i + 1 by omega] at h3;exact h3.at fun o e=>(sb.2 it D.symm).trans e
 done:=by
  rintro X hP hw hK hc i L5 s σ H E I hf ⟨⟨old,hz⟩,h1⟩ ⟨xs,hq,hend⟩;subst hP hw hK;obtain ⟨L9,rv,p1,_⟩:=I.list hq;have nb:a ≠ it:=cX I hq (hf it (by simp)) (by obtain ⟨o1,e1,c1,d1⟩:=id h1;exact ⟨_,e1,by rw [c1];simp⟩);have hl:=rv.length;refine wpAny_pyNext_enum_endD (oY (A:=X.A.in1) (I.ok.hd hc) it a nb L9.toArray n0) hz ⟨Nat.le_add_right _ _,?_,p1.isList⟩ fun h' hk=>⟨rfl,?_⟩
  ·rw [Nat.add_sub_cancel_left,zI,<- hl,hend];exact h1
  ·exact I.turnN (ch:=[z,it]) (fun c hc=>hf c hc) fun c o hc e=>hk c o (fun q=>hc (by simp [q])) e
 self:=fun _ _ _ _ _ ⟨⟨_,hz⟩,_⟩ h=>wpAny_pyIter_enum hz h
theorem o4:bootBuiltins "enumerate"=some (.type "enumerate"):=by decide +kernel
def G7 (K:Frag) (n0:Nat) (ta:TA):TI:=fun σ H R=>ta σ H fun vs H1=>∃ a,vs=[.ref a]/\(∃ xs,bJ K H1 a xs)/\R (wD K a n0) H1
theorem qL {X:Cx}{L5:List (Addr × Obj)}{σ:St}{H1:Hp}{s1:Shared}{h':Heap}{t':Nat}{l:Addr}{n0:Nat}{elts:List Expr}{x1:Nat}{tpos:Pos}{R:It->Hp->Prop} (I1:Inv X L5 σ H1 s1) (he:IsEnum h' (s1.heap.objs.size + 1) s1.heap.objs.size (n0:Int) .none) (hi:h'.IsListIter s1.heap.objs.size l 0)
  (hk:∀ b o,s1.heap.get? b=some o->h'.get? b=some o) (q:R (wD X.K l n0) H1):FI X L5 σ (.Tuple elts x1 tpos) R (.ref (s1.heap.objs.size + 1)) { s1 with heap:=h',toks:=t' }:=by
 have I2:Inv X L5 σ H1 { s1 with heap:=h',toks:=t' }:=I1.kept (t':=t') hk;refine ⟨_,[s1.heap.objs.size + 1,s1.heap.objs.size],_,_,H1,rfl,I2,u9 l (s1.heap.objs.size + 1) s1.heap.objs.size n0 (Nat.ne_of_gt (Nat.lt_succ_self _)),⟨⟨_,by simpa using he⟩,hi⟩,fun c hc=>?_,q⟩;have hle:s1.heap.objs.size <= c:=by
  simp only [zT,zX,or_false] at hc;rcases hc with rfl | rfl
  ·exact Nat.le_succ _
  ·exact zP _
 obtain ⟨f0,f1,f2,f3,f4,f5⟩:=I1.fpOk hle (I1.Mb.fresh hle);exact ⟨f0,f1,f2,f3,f4,f5⟩
theorem Bl {X:Cx}{elts:List Expr}{x1:Nat}{tpos:Pos}{a:Expr}{ta:TA}{p pos:Pos} (hg:Gl X "enumerate") (hm:X.mg "enumerate"=none) (ha:PA X [a] ta) (hs:starEach [a] X.env=[(false,eval a X.env)]:=by rfl) :
  PI X (.Tuple elts x1 tpos) (.Call (.Name "enumerate" p) [a] [] pos) (G7 X.K 0 ta):=by
 intro L5 s σ H R I h;refine Call_ (cN I hg hm o4 (PyProof.Rows.callWith_type1 (aB (ha pos L5 s σ H _ I h) fun us s1 ⟨vs,H1,I1,r1,q1⟩=>?_) (by rw [hs];rfl) (by rfl)));obtain ⟨l,e,⟨xs,hq⟩,q⟩:=q1;subst e;cases r1 with
 | cons r rr =>
  cases rr;cases r;obtain ⟨L9,rv,p1,_⟩:=I1.list hq;refine call_enumerate_list p1.isList fun h' he hi hsz hk=>?_
  refine wpAny_pyIter_enum (s:={ s1 with heap:=h' }) he ?_;exact qL (t':=s1.toks) (n0:=0) I1 he hi hk q
section
variable {prog:Program}{w:World}{A:Around}{E:Value->Shared->Prop}{s:Shared}
theorem wL {α:Type}{x:Sem α}{Q Q1:α->Shared->Prop}{M:Model} (h:wpAny M A x Q E s) (hQ:∀ a s,Q a s->Q1 a s):wpAny M A x Q1 E s:=yP h hQ fun _ _ x=>x
theorem pM (a v:Value):checkTypeCall "enumerate" ⟨[a],[("start",v)]⟩=pure ():=by kernel_rfl
theorem pi (a v:Value):checkBuiltinCall "enumerate.__new__" ⟨[.type "enumerate",a],[("start",v)]⟩=pure ():=by kernel_rfl
theorem oi (o a v:Value):argsOk "object.__init__" ⟨[o,a],[("start",v)]⟩:=by
 unfold argsOk;rw [signature?_of (id:="object.__init__") (n:=['_','_','t','i','n','i','_','_']) (o:=['t','c','e','j','b','o']) (by kernel_rfl) F.owner_object]
 kernel_rfl
theorem uC {T newId:String}{self a v:Value} (hl:typeLookup (.type T) "__init__"=pure (some (.builtin "object.__init__"))) (hm:Bind.madeBy (.type T)=pure (some newId)) (hne:(some newId != some "object.__new__")=true) :
  Meets (Builtin.«object.__init__» ⟨[self,a],[("start",v)]⟩) (fun _ R s=>s.TypeIs self T/\R (.ok (.ret .none)) s):=Meets.of_wp fun prog w A R s hs=>by
 obtain ⟨hT,hq⟩:=hs
 repeat (any_goals (first | assumption | wp_step))
 exact ⟨_,rfl,hq⟩
theorem qV {M:Model}{pos:Pos}{T:String}{args:List (Bool × Sem Value)}{kws:List (Option Str × Sem Value)}{Q:Value->Shared->Prop} (hp:args.any (·.1)=false) (hk:kws.any (·.1.isNone)=false)
  (h:wpAny M A (evalArgs (.type T) true args kws) (fun a s₁=>wpAny M A (call (.type T) a.pos a.kw) Q E s₁) E s):wpAny M A (callWith pos (.type T) [] args kws) Q E s:=by
 unfold callWith;refine yD (yO (wL h fun a s₁ h₁=>yD (wpAny_standAt ?_)));simp only [hp,hk,Bool.or_false];refine yD (yE (yD (wL h₁ fun r s₂ hr=>yD (yO (wpAny_point (yE hr))))))
end
section
variable {prog:Program}{w:World}{A:Around}{E:Value->Shared->Prop}{s:Shared}
theorem Ak {it t:Addr}{items:Array Value} (hne:t ≠ it):∀ (n i:Nat) (s:Shared) (Q:List Value->Shared->Prop),s.heap.IsListIter it t i->s.heap.IsList t items->i + n <= items.size ->
  (∀ h',h'.IsListIter it t (i + n)->Heap.SameBut it s.heap h'->Q ((items.toList.drop i).take n) { s with heap:=h' })->wpAny (model prog w) A (draw (.ref it) n) Q E s
 | 0,i,s,Q,hit,_,_,hQ=>yE (by simpa using hQ s.heap hit (Heap.SameBut.refl ..))
 | n + 1,i,s,Q,hit,ht,hle,hQ=>by
  have hlt:i < items.size:=by omega
  refine yD (m:=pyNext (.ref it)) (wpAny_pyNext_list_item hit ht (x:=items[i]) (by simp [hlt]) fun h₁ hit₁ hs₁=>?_);refine yD (yO (Ak hne n (i + 1) _ _ hit₁ (ht.extBut hs₁.extBut hne) oM fun h₂ hit₂ hs₂=>yE ?_));have q:=hQ h₂ (by rw [show i + (n + 1)=i + 1 + n by omega];exact hit₂) (hs₁.trans hs₂);rw [show items.toList.drop i=items[i]::items.toList.drop (i + 1) by simp [List.drop_eq_getElem_cons,hlt],List.take_succ_cons] at q;exact q
theorem AA {t:Addr}{items:Array Value}{targets:List (Bool × (Value->Sem Unit))}{Q:Unit->Shared->Prop} (hh:A.handled=none) (ht:s.heap.IsList t items) (hn:targets.length=items.size) (hstar:targets.findIdx? (·.1)=none)
  (h:∀ h',Heap.ExtBut s.heap.objs.size s.heap h'->wpAny (model prog w) A (assignInOrder (targets.map (·.2)) items.toList) Q E { s with heap:=h' }):wpAny (model prog w) A (unpack (.ref t) targets) Q E s:=by
 have hlt:t ≠ s.heap.objs.size:=by obtain ⟨o,ho,_⟩:=ht;exact zU (yH ho)
 unfold unpack;rw [hn,hstar];refine yD (yO ?_);unfold unpackItems;refine yD ?_;unfold notIterableAtAll;refine yD (wpAny_specialOf ht.typeIs slot_list_iter.lookup (yE ?_));simp only [z9,if_false];refine yD (yO (wpAny_pyIter_list ht (yD (yO (Ak hlt items.size 0 _ _ ⟨_,zY _ rfl,rfl,rfl⟩ (ht.push _) oM fun h₁ hit₁ hs₁=>?_)))));rw [show List.take items.size (List.drop 0 items.toList)=items.toList by rw [List.drop_zero];exact List.take_of_length_le (by simp),yF (by simp)];refine yD (yO (wpAny_pyNext_list_end hh hit₁ ((ht.push _).extBut hs₁.extBut hlt) (by simp) fun h₂ he₂=>?_));simp only [Option.isSome_none,z9,if_false];exact yE (h h₂ fun b o hb e=>he₂ b o hb (hs₁.extBut b o hb (zG _ e)))
end
section
variable {X:Cx}{pos:Pos}
noncomputable def Hb (K:Frag) (n:Nat) (t:lR):TG:=fun v σ H Q=>∃ a xs,v=.ref a/\bJ K H a xs/\xs.length=n/\t xs σ H Q
theorem Bo {es:List Expr}{k:Nat}{t:lR}{n:Nat} (hc:X.calm=true) (h:pf X es t) (hn:(assignEach es X.env).length=n:=by rfl) (hst:(assignEach es X.env).findIdx? (·.1)=none:=by rfl):PG X (.Tuple es k pos) (Hb X.K n t):=by
 intro L5 s σ H v u Q I r hw;obtain ⟨a,xs,e1,hq,hl,hw⟩:=hw;subst e1;cases r;obtain ⟨L9,rv,pl,hz⟩:=I.list hq;rw [arm_assign_Tuple];refine yD (wpAny_standAt (AA (I.ok.hd hc) pl.isList (by simp [hn,<- hl,rv.length]) hst fun h' hx=>?_));have I1:Inv X L5 σ H { s with heap:=h' }:=I.kept (t':=s.toks) fun b o e=>hx b o (zU (yH e)) e
 exact h L5 _ σ H xs _ Q I1 (by simpa using rv) hw
theorem jq:∀ (l:List Value) (k:Nat),(∀ (j:Nat) (v:Value),l[j]?=some v->∃ t,v=.int ((k + j:Nat):Int) t)->Vals ((List.range' k l.length).map fun (q:Nat)=>V.int (q:Int)) l
 | [],_,_=>.nil
 | u::l,k,h=>by
  rw [yT,List.range'_succ,zO];refine .cons ?_ (jq l (k + 1) fun j v e=>?_)
  ·obtain ⟨t,e⟩:=h 0 u rfl
   exact ⟨t,e⟩
  ·obtain ⟨t,e2⟩:=h (j + 1) v (by simpa using e)
   exact ⟨t,by rw [e2,show k + (j + 1)=k + 1 + j by omega]⟩
theorem gY:bootBuiltins "list"=some (.type "list"):=by decide +kernel
def Cu (ta:TE):TE:=fun σ H Q=>zc ta tR σ H fun vs H1=>∃ j:Nat,vs=[.int (j:Int)]/\j <= 1000/\∀ p,H1 p=none->Q (.ref p) (af H1 p (.lst ((List.range' 0 j).map fun (q:Nat)=>V.int (q:Int))))
theorem xp {a:Expr}{ta:TE}{p1 p2 pos2:Pos} (hc:X.calm=true) (hgl:Gl X "list") (hml:X.mg "list"=none) (hgr:Gl X "range") (hmr:X.mg "range"=none) (ha:PE X a ta)
  (hs:starEach [a] X.env=[(false,eval a X.env)]:=by rfl) (hs1:starEach [.Call (.Name "range" p2) [a] [] pos2] X.env=[(false,eval (.Call (.Name "range" p2) [a] [] pos2) X.env)]:=by rfl) :
  PE X (.Call (.Name "list" p1) [.Call (.Name "range" p2) [a] [] pos2] [] pos) (Cu ta):=by
 intro L5 s σ H Q I h;refine Call_ (cN I hgl hml gY (PyProof.Rows.callWith_type1 ?_ (by rw [hs1];rfl) (by rfl)));rw [hs1];refine Calls.spliced_cons (Call_ (cN I hgr hmr boot_range (PyProof.Rows.callWith_type1 (aB ((sf ha vI hs) pos2 L5 s σ H _ I h) fun us s1 ⟨vs,H1,I1,r1,q1⟩=>?_) (by rw [hs];rfl) (by rfl))));cases r1 with
 | nil=>obtain ⟨j,e,_⟩:=q1;cases e
 | cons r rr =>
  obtain ⟨j,e,hj,q⟩:=q1;cases e;cases rr;obtain ⟨t,rfl⟩:=r;refine call_range_1 (Calls.spliced_nil ?_);have I2:Inv X L5 σ H1 { s1 with heap:=s1.heap.push { cls:=.type "range",data:=.fields #[.int 0 s1.toks,.int (j:Int) t,.int 1 (s1.toks + 1)] },toks:=s1.toks + 1 + 1 }:=I1.kept fun b o e=>zG _ e
  refine call_list_range (n:=j) (I.ok.hd hc) (IsRange.new ..) (small_one oM oM oM oM) (by rw [rangeSize_one];split <;> omega) oM fun h' tk acc' c' hk hS hacc=>?_
  have hv:=jq acc'.toList 0 (fun i v e=>by
   obtain ⟨t,e2⟩:=hacc.2 i v (by simpa using e);exact ⟨t,by rw [e2];congr 1;omega⟩)
  rw [show acc'.toList.length=j by simpa using hacc.1] at hv;exact ⟨.ref _,_,I2.laid (o:=.lst ((List.range' 0 j).map fun (q:Nat)=>V.int (q:Int))) hk (zP _) ⟨yU (jU (by simp;omega)),acc'.toList,c',hv,hS⟩,rfl,q _ I2.fresh⟩
end
end L2
namespace PySem.AutoSeq1
theorem uI (l:Addr) (items:Array Value) (n:Nat) (b:Addr) (items2:Array Value) (n2:Nat) (sl:Array (Option Value)) (hc0:¬(!items.isEmpty && Builtin.List.listTooLong (items.size + items2.size))=true) (hc1:items.size <= sizeLine) (hs2:items.size + items2.size <= sizeLine + 1) :
  Meets (Builtin.«list.extend» ⟨[.ref l,.ref b],[]⟩) (fun _ R s=>s.heap.get? l=some { cls:=.type "list",dict:=none,data:=.seq items n,slots:=#[] }/\s.heap.get? b=some { cls:=.type "list",dict:=none,data:=.seq items2 n2,slots:=sl }/\R (.ok (.ret Value.none)) { s with heap:=s.heap.update l (Obj.mapSeq fun x=>x++items2),toks:=s.toks }) :=
 .of_wp fun prog w A R s h=>by
  obtain ⟨hp,g,d,tk,os⟩:=s;obtain ⟨hl,hb,h⟩:=h;have f1:=idx_int;have f2:=sub_tuple_tuple;have f3:=sub_list_list;have f4:=sub_tuple_list;have f5:=sub_list_tuple;have hz':(items++items2).size <= sizeLine + 1:=by rw [Array.size_append];exact hs2
  wp_walk using (wpAny_updateSeq hl rfl (hz:=hc1) (_hz':=hz')),wpAny_loadPart' hl,wpAny_loadPart' hb;exact ⟨_,rfl,h⟩
end PySem.AutoSeq1
namespace L2
open PySem PySem.Spec PyProof.Rows
section
variable {X:Cx}
def Gf (K:Frag):V->List V->Hp->VK->Prop:=fun x vs H Q=>∃ l b xs zs,x=.ref l/\vs=[.ref b]/\H l=some (.lst xs)/\bJ K H b zs/\xs.length + zs.length <= sizeLine/\Q .non (af H l (.lst (xs++zs)))
theorem BH:IS X "list.extend" (Gf X.K):=by
 intro L5 s σ H x vs v us Q I rx rv h;obtain ⟨l,b,xs,zs,rfl,rfl,hH,hB,hz,q⟩:=h;cases rx;obtain ⟨u,rfl,ru⟩:=rv.one;cases ru;obtain ⟨z,L9,n,r,hl,e⟩:=I.lstM hH;obtain ⟨its2,r2,pl,hz2⟩:=I.list hB;obtain ⟨o,n2,e2,c2,d2,s2⟩:=pl;obtain ⟨oc,od,odt,osl⟩:=o;dsimp only at c2 d2 s2;subst c2;subst d2;subst s2;have hl2:=r2.length;have hsz:L9.toArray.size + its2.toArray.size <= sizeLine:=by rw [zI,zI];omega
 have hlong:¬ (!L9.toArray.isEmpty && Builtin.List.listTooLong (L9.toArray.size + its2.toArray.size))=true:=by
  rw [notLongL hsz,Bool.and_false];exact Bool.false_ne_true
 refine call_meets F.slot_list_extend ⟨_,e,rfl⟩ F.entry_list_extend (F.args_list_extend_2 _ _)
  (PySem.AutoSeq1.uI l L9.toArray n b its2.toArray n2 osl hlong (by rw [zI];omega) oM) ⟨e,e2,?_⟩
 refine ⟨.non,_,I.lset (its':=L9++its2) hH e (by simp) (r.append r2) ?_,rfl,q⟩;rw [zV];omega
end
section
variable {X:Cx}
def Gh:V->List V->Hp->VK->Prop:=fun x vs H Q=>∃ i,x=.int i/\vs=[]/\Q (.int ((Builtin.Int.intBits i:Nat):Int)) H
theorem BI:kO X "int.bit_length" Gh:=by
 intro L5 s σ H x vs v us Q I rx rv h;obtain ⟨i,ex,ev,q⟩:=h;subst ex;subst ev;obtain ⟨t,rfl⟩:=rx;cases rv;exact call_int_bit_length ⟨.int _,H,I.tok _,⟨_,rfl⟩,q⟩
end
end L2
namespace PySem.AutoSeq1
theorem Cg (l:Addr) (items:Array Value) (n:Nat) (sl1:Array (Option Value)) (b:Addr) (items2:Array Value) (n2:Nat) (sl:Array (Option Value)) (hs2:items.size + items2.size <= sizeLine) :
  Meets (Builtin.«list.__add__» ⟨[.ref l,.ref b],[]⟩) (fun _ R s=>s.heap.get? l=some { cls:=.type "list",dict:=none,data:=.seq items n,slots:=sl1 }/\s.heap.get? b=some { cls:=.type "list",dict:=none,data:=.seq items2 n2,slots:=sl }/\R (.ok (.ret (Value.ref s.heap.objs.size))) { s with heap:=s.heap.push { cls:=.type "list",data:=.seq (items++items2) },toks:=s.toks }) :=
 .of_wp fun prog w A R s h=>by
  obtain ⟨hp,g,d,tk,os⟩:=s;obtain ⟨hl,hb,h⟩:=h;have f1:=idx_int;have f2:=sub_tuple_tuple;have f3:=sub_list_list;have f4:=sub_tuple_list;have f5:=sub_list_tuple;have hz':(items++items2).size <= sizeLine + 1:=by rw [Array.size_append];omega
  have hlong:Builtin.List.listTooLong (items.size + items2.size)=false:=L2.notLongL hs2
  wp_walk using wpAny_loadPart' hl,wpAny_loadPart' hb
  all_goals first | exact ⟨_,rfl,h⟩ | skip
end PySem.AutoSeq1
namespace L2
open PySem PySem.Spec PyProof.Rows
section
variable {X:Cx}
def Gg (K:Frag):R2:=fun x y H Q=>∃ l b xs zs,x=.ref l/\y=.ref b/\bJ K H l xs/\bJ K H b zs/\xs.length + zs.length <= sizeLine/\∀ p,H p=none->Q (.ref p) (af H p (.lst (xs++zs)))
theorem Bv:kM X (binaryOp .Add) (Gg X.K):=by
 intro L5 s σ H x y v u Q I rx ry h;obtain ⟨l,b,xs,zs,rfl,rfl,hH,hB,hz,q⟩:=h;cases rx;cases ry;obtain ⟨L9,r,⟨o1,n1,e1,c1,d1,s1⟩,_⟩:=I.list hH;obtain ⟨its2,r2,⟨o2,n2,e2,c2,d2,s2⟩,_⟩:=I.list hB;obtain ⟨oc,od,odt,osl⟩:=o1;obtain ⟨pc,pd,pdt,psl⟩:=o2;dsimp only at c1 d1 s1 c2 d2 s2;subst c1;subst d1;subst s1;subst c2;subst d2;subst s2;have hl1:=r.length;have hl2:=r2.length;have hsz:L9.toArray.size + its2.toArray.size <= sizeLine:=by rw [zI,zI];omega
 refine wpAny_binaryOp_concat (T:="list") (id:="list.__add__") ⟨_,e1,rfl⟩ ⟨_,e2,rfl⟩ noFill_list_add (by rfl) ?_;refine call_meets F.slot_list_add ⟨_,e1,rfl⟩ F.entry_list_add (F.args_list_add_2 _ _) (PySem.AutoSeq1.Cg l L9.toArray n1 osl b its2.toArray n2 psl hsz) ⟨e1,e2,?_⟩;have ea:L9.toArray++its2.toArray=(L9++its2).toArray:=by simp
 rw [ea];exact ⟨.ref _,_,I.lnew (t':=s.toks) (r.append r2) (by rw [zV];omega),rfl,q _ I.fresh⟩
end
section
variable {κ:Type} [DecidableEq κ]
noncomputable def eu (L6:List (κ × V)) (k:κ):Option V:=(L6.find? fun kv=>decide (kv.1=k)).map (·.2)
noncomputable def eD (L6:List (κ × V)) (k:κ) (v:V):List (κ × V) :=
 if (L6.any fun kv=>decide (kv.1=k))=true then L6.map (fun kv=>if kv.1=k then (kv.1,v) else kv) else L6++[(k,v)]
theorem lS {p:κ × V}{r:List (κ × V)}{k:κ} (e:p.1=k):eu (p::r) k=some p.2:=by simp [eu,List.find?_cons,e]
theorem lT {p:κ × V}{r:List (κ × V)}{k:κ} (e:¬ p.1=k):eu (p::r) k=eu r k:=by simp [eu,List.find?_cons,e]
theorem pL (k:κ):∀ L6:List (κ × V),(L6.any fun kv=>decide (kv.1=k))=(eu L6 k).isSome
 | []=>rfl
 | p::r=>by
  rw [List.any_cons];by_cases e:p.1=k
  ·simp only [lS e,yR e,Bool.true_or,Option.isSome_some]
  ·rw [lT e,z8 e,Bool.false_or];exact pL k r
theorem lA (L6:List (κ × V)) (k:κ) (v:V):(eD L6 k v).length <= L6.length + 1:=by
 unfold eD;split
 ·rw [zH];omega
 ·rw [zV,yT,List.length_nil];omega
theorem RelO.isSome_eq {o:Option V}{u:Option Value} (r:RelO o u):o.isSome=u.isSome:=by
 cases o with
 | none=>cases u with
  | none=>rfl
  | some _=>exact (show False from r).elim
 | some _=>cases u with
  | none=>exact (show False from r).elim
  | some _=>rfl
theorem KV.val {L6:List (κ × V)}{vs:List (κ × Value)} (r:KV L6 vs) (k:κ):RelO (eu L6 k) (valueAt vs k):=by
 unfold KV at r
 induction r with
 | nil=>exact True.intro
 | @cons p q ps qs h t ih =>
  obtain ⟨h1,h2⟩:=h;by_cases e:p.1=k
  ·have e':q.1=k:=h1.symm.trans e
   have b:valueAt (q::qs) k=some q.2:=by simp [valueAt,List.find?_cons,e']
   rw [lS e,b];exact h2
  ·have e':¬ q.1=k:=fun z=>e (h1.trans z)
   have b:valueAt (q::qs) k=valueAt qs k:=by simp [valueAt,List.find?_cons,e']
   rw [lT e,b];exact ih
theorem KV.any {L6:List (κ × V)}{vs:List (κ × Value)} (r:KV L6 vs) (k:κ):(L6.any fun kv=>decide (kv.1=k))=vs.any fun kv=>decide (kv.1=k):=by
 unfold KV at r
 induction r with
 | nil=>rfl
 | cons h t ih=>rw [List.any_cons,List.any_cons,ih,h.1]
theorem KV.repl {L6:List (κ × V)}{vs:List (κ × Value)} (r:KV L6 vs) (k:κ) {y:V}{u:Value} (ry:RelV y u) :
  KV (L6.map fun kv=>if kv.1=k then (kv.1,y) else kv) (vs.map fun kv=>if kv.1=k then (kv.1,u) else kv):=by
 unfold KV at r ⊢
 induction r with
 | nil=>exact .nil
 | @cons p q ps qs h t ih =>
  rw [zO,zO];refine .cons ?_ ih;obtain ⟨h1,h2⟩:=h;by_cases e:p.1=k
  ·rw [yG e,yG (h1.symm.trans e)];exact ⟨h1,ry⟩
  ·rw [yF e,yF (fun z=>e (h1.trans z))];exact ⟨h1,h2⟩
theorem KV.put {L6:List (κ × V)}{vs:List (κ × Value)} (r:KV L6 vs) (k:κ) {y:V}{u:Value} (ry:RelV y u):KV (eD L6 k y) (stored vs k u):=by
 unfold eD stored;rw [r.any k];by_cases e:(vs.any fun kv=>decide (kv.1=k))=true
 ·rw [yG e,yG e];exact r.repl k ry
 ·rw [yF e,yF e];exact Paired.snoc r ⟨rfl,ry⟩
theorem KV.length {L6:List (κ × V)}{vs:List (κ × Value)} (r:KV L6 vs):L6.length=vs.length:=Paired.length r
end
theorem mR {P:Program}{w:World}{k:a0}{u:Value} (r:RelV (kV k) u):(bX P w).is k u=true:=by
 cases k with
 | inl i=>obtain ⟨t,e⟩:=(show ∃ t,u=Value.int i t from r);subst e;exact rF P w i t
 | inr x=>obtain ⟨t,e⟩:=(show ∃ t,u=Value.str x t from r);subst e;exact rD P w x t
theorem oP {P:Program}{w:World}:∀ {ks:List a0}{us:List Value},Vals (ks.map kV) us->ItemsAre (bX P w) ks us
 | [],_,r=>by rw [List.map_nil] at r;cases r;exact .nil
 | k::ks,_,r=>by
  rw [zO] at r;cases r with
  | cons h t=>exact .cons (mR h) (oP t)
abbrev KT (H:Hp):List (List a0 × V)->List (List a0 × Addr × Value)->Prop:=Paired fun p q=>p.1=q.1/\H q.2.1=some (.tup (p.1.map kV))/\RelV p.2 q.2.2
theorem KT.val {H:Hp}{L6:List (List a0 × V)}{xs:List (List a0 × Addr × Value)} (r:KT H L6 xs) (k:List a0):RelO (eu L6 k) ((atKey xs k).map (·.2)):=by
 induction r with
 | nil=>exact True.intro
 | @cons p q ps qs h t ih =>
  obtain ⟨h1,_,h2⟩:=h;by_cases e:p.1=k
  ·have e':q.1=k:=h1.symm.trans e
   have b:atKey (q::qs) k=some q.2:=by simp [atKey,List.find?_cons,e']
   rw [lS e,b];exact h2
  ·have e':¬ q.1=k:=fun z=>e (h1.trans z)
   have b:atKey (q::qs) k=atKey qs k:=by simp [atKey,List.find?_cons,e']
   rw [lT e,b];exact ih
theorem KT.repl {H:Hp}{L6:List (List a0 × V)}{xs:List (List a0 × Addr × Value)} (r:KT H L6 xs) (k:List a0) {y:V}{u:Value} (ry:RelV y u) :
  KT H (L6.map fun kv=>if kv.1=k then (kv.1,y) else kv) (xs.map (putAt k u)):=by
 induction r with
 | nil=>exact .nil
 | @cons p q ps qs h t ih =>
  rw [zO,zO];refine .cons ?_ ih;obtain ⟨h1,h2,h3⟩:=h;unfold putAt;by_cases e:p.1=k
  ·rw [yG e,yG (h1.symm.trans e)];exact ⟨h1,h2,ry⟩
  ·rw [yF e,yF (fun z=>e (h1.trans z))];exact ⟨h1,h2,h3⟩
theorem KT.put {H:Hp}{L6:List (List a0 × V)}{xs:List (List a0 × Addr × Value)} (r:KT H L6 xs) (k:List a0) {b:Addr}{y:V}{u:Value} (hb:H b=some (.tup (k.map kV))) (ry:RelV y u) :
  KT H (eD L6 k y) (storedH xs k b u):=by
 have e:(L6.any fun kv=>decide (kv.1=k))=(atKey xs k).isSome:=by
  rw [pL,(r.val k).isSome_eq,Option.isSome_map]
 unfold eD storedH;rw [e];by_cases q:(atKey xs k).isSome=true
 ·rw [yG q,yG q];exact r.repl k ry
 ·rw [yF q,yF q];exact Paired.snoc r ⟨rfl,hb,ry⟩
theorem KT.keeps {H H':Hp}{L6:List (List a0 × V)}{xs:List (List a0 × Addr × Value)} (r:KT H L6 xs) (ht:∀ b ys,H b=some (.tup ys)->H' b=some (.tup ys)):KT H' L6 xs :=
 Paired.mapP r fun _ _ z=>⟨z.1,ht _ _ z.2.1,z.2.2⟩
section
variable {P:Program}{w:World}{H:Hp}{h:Heap}{a:Addr}
theorem zl {u:HO} (ok:HOk P w H h) (e:Rd H a u):ObjOk P w H h a u:=e.ok ok
theorem nB {L6:List (a0 × V)} (ok:HOk P w H h) (e:Rd H a (.dK L6)):L6.length <= sizeLine/\(a == sysModules)=false/\∃ vs,KV L6 vs/\h.DictOf (bX P w) a vs :=
 show ObjOk P w H h a (.dK L6) from zl ok e
theorem Al {L6:List (a0 × V)} (ok:HOk P w H h) (e:H a=some (.dK L6)):L6.length <= sizeLine/\(a == sysModules)=false/\∃ vs,KV L6 vs/\h.DictOf (bX P w) a vs:=nB ok (.inl e)
theorem j6 {ks:List a0} (ok:HOk P w H h) (e:H a=some (.tup (ks.map kV))):(tupleKind (bX P w)).is h ks a:=by
 obtain ⟨_,L9,r,o,h1,h2,n,h3⟩:=(show ObjOk P w H h a (.tup (ks.map kV)) from ok a _ e);exact ⟨o,L9.toArray,n,h1,h2,h3,by simpa using oP r⟩
theorem nA {L6:List (List a0 × V)} (ok:HOk P w H h) (e:Rd H a (.dT L6)):L6.length <= sizeLine/\(a == sysModules)=false /\
  ∃ xs,KT H L6 xs/\h.DictOfH (tupleKind (bX P w)) a xs:=by
 obtain ⟨z,y,xs,r,o,es,ep,h1,h2,h3,h4,h5⟩:=(show ObjOk P w H h a (.dT L6) from zl ok e);refine ⟨z,y,xs,r,o,es,ep,h1,h2,h3,h4,fun x hx=>?_,h5⟩;have all:∀ {l:List (List a0 × V)}{m:List (List a0 × Addr × Value)},KT H l m->∀ x ∈ m,(tupleKind (bX P w)).is h x.1 x.2.1:=by
  intro l m q
  induction q with
  | nil=>intro x hx;exact nomatch hx
  | @cons p q ps qs hq t ih =>
   intro x hx;rcases zT.mp hx with e | hx
   ·subst e
    exact j6 ok (by rw [<- hq.1];exact hq.2.1)
   ·exact ih x hx
 exact all r x hx
theorem Aj {L6:List (List a0 × V)} (ok:HOk P w H h) (e:H a=some (.dT L6)):L6.length <= sizeLine/\(a == sysModules)=false /\
  ∃ xs,KT H L6 xs/\h.DictOfH (tupleKind (bX P w)) a xs:=nA ok (.inl e)
end
def DGet (H:Hp) (a:Addr) (y:V) (r:Option V):Prop :=
 (∃ L6 k,Rd H a (.dK L6)/\y=kV k/\r=eu L6 k)\/∃ L6 k b,Rd H a (.dT L6)/\y=.ref b/\H b=some (.tup (k.map kV))/\r=eu L6 k
def DPut (H:Hp) (a:Addr) (y v:V) (H':Hp):Prop :=
 (∃ L6 k,H a=some (.dK L6)/\y=kV k/\L6.length < sizeLine/\H'=af H a (.dK (eD L6 k v))) \/
 ∃ L6 k b,H a=some (.dT L6)/\y=.ref b/\H b=some (.tup (k.map kV))/\L6.length < sizeLine/\H'=af H a (.dT (eD L6 k v))
theorem DGet.k {H:Hp}{a:Addr}{L6:List (a0 × V)}{k:a0} (e:H a=some (.dK L6)):DGet H a (kV k) (eu L6 k):=.inl ⟨L6,k,.inl e,rfl,rfl⟩
theorem DGet.t {H:Hp}{a b:Addr}{L6:List (List a0 × V)}{k:List a0} (e:H a=some (.dT L6)) (eb:H b=some (.tup (k.map kV))):DGet H a (.ref b) (eu L6 k):=.inr ⟨L6,k,b,.inl e,rfl,eb,rfl⟩
theorem DPut.k {H:Hp}{a:Addr}{L6:List (a0 × V)}{k:a0}{v:V} (e:H a=some (.dK L6)) (hl:L6.length < sizeLine):DPut H a (kV k) v (af H a (.dK (eD L6 k v))):=.inl ⟨L6,k,e,rfl,hl,rfl⟩
theorem DPut.t {H:Hp}{a b:Addr}{L6:List (List a0 × V)}{k:List a0}{v:V} (e:H a=some (.dT L6)) (eb:H b=some (.tup (k.map kV))) (hl:L6.length < sizeLine) :
  DPut H a (.ref b) v (af H a (.dT (eD L6 k v))):=.inr ⟨L6,k,b,e,rfl,eb,hl,rfl⟩
section
variable {X:Cx}{L5:List (Addr × Obj)}{σ:St}{H:Hp}{s:Shared}{a:Addr}{y v:V}{u r:Value}{o:Option V}{A:Around}{E:Value->Shared->Prop}
theorem Inv.big (I:Inv X L5 σ H s):sysModules < s.heap.objs.size:=by
 have h:mainGlobals < s.heap.objs.size:=(I.mod.glob.keeps I.bk).lt;exact Nat.lt_trans dC h
theorem wg {Q:Value->Shared->Prop} (hu:A.units + 1 < cLine) (I:Inv X L5 σ H s) (g:DGet H a y (some v)) (ry:RelV y u) (h:∀ w' s',Inv X L5 σ H s'->RelV v w'->Q w' s') :
  wpAny (model X.prog X.w) A (getItem (.ref a) u) Q E s:=by
 rcases g with ⟨L6,k,e,ey,l⟩ | ⟨L6,k,b,e,ey,eb,l⟩
 ·subst ey
  obtain ⟨z,hd,vs,rel,dd⟩:=nB I.Mb e;obtain ⟨w',hw,rw'⟩:=RelO.some_of (v:=v) (o:=valueAt vs k) (by rw [l];exact rel.val k);exact wpAny_getItem_of (mR ry) dd.mapOf hw (h w' _ (I.tok _) rw')
 ·subst ey
  cases (show u=Value.ref b from ry);obtain ⟨z,hd,xs,rel,dd⟩:=nA I.Mb e;obtain ⟨w',hw,rw'⟩:=RelO.some_of (v:=v) (o:=(atKey xs k).map (·.2)) (by rw [l];exact rel.val k);obtain ⟨p,hp,hp2⟩:=zE.mp hw;refine wpAny_getItem_heap (tupleKind_room_in1 hu) (j6 I.Mb eb) dd hp ?_;rw [hp2];exact h w' _ (I.tok _) rw'
theorem JS {Q:Value->Shared->Prop} (hu:A.units + 1 < cLine) (I:Inv X L5 σ H s) (g:DGet H a y o) (ry:RelV y u) (h:∀ s',Inv X L5 σ H s'->Q (.bool o.isSome) s') :
  wpAny (model X.prog X.w) A (compareOp .In u (.ref a)) Q E s:=by
 rcases g with ⟨L6,k,e,ey,l⟩ | ⟨L6,k,b,e,ey,eb,l⟩
 ·subst ey
  obtain ⟨z,hd,vs,rel,dd⟩:=nB I.Mb e;refine wpAny_in_of (mR ry) hd dd.mapOf ?_;rw [<- (rel.val k).isSome_eq,<- l];exact h _ (I.tok _)
 ·subst ey
  cases (show u=Value.ref b from ry);obtain ⟨z,hd,xs,rel,dd⟩:=nA I.Mb e;refine wpAny_in_heap (tupleKind_room_in1 hu) (j6 I.Mb eb) hd dd ?_;have q:=(rel.val k).isSome_eq;rw [Option.isSome_map] at q;rw [<- q,<- l];exact h _ (I.tok _)
theorem B5 {Q:Value->Shared->Prop} (hu:A.units + 1 < cLine) (I:Inv X L5 σ H s) (g:DGet H a y o) (ry:RelV y u) (h:∀ s',Inv X L5 σ H s'->Q (.bool (!o.isSome)) s') :
  wpAny (model X.prog X.w) A (compareOp .NotIn u (.ref a)) Q E s:=by
 rcases g with ⟨L6,k,e,ey,l⟩ | ⟨L6,k,b,e,ey,eb,l⟩
 ·subst ey
  obtain ⟨z,hd,vs,rel,dd⟩:=nB I.Mb e;refine wpAny_notIn_of (mR ry) hd dd.mapOf ?_;rw [<- (rel.val k).isSome_eq,<- l];exact h _ (I.tok _)
 ·subst ey
  cases (show u=Value.ref b from ry);obtain ⟨z,hd,xs,rel,dd⟩:=nA I.Mb e;refine wpAny_notIn_heap (tupleKind_room_in1 hu) (j6 I.Mb eb) hd dd ?_;have q:=(rel.val k).isSome_eq;rw [Option.isSome_map] at q;rw [<- q,<- l];exact h _ (I.tok _)
theorem tw {h':Heap}{t':Nat}{ob:HO} (I:Inv X L5 σ H s) (mu:wB (H a)) (hs:Heap.SameBut a s.heap h') (he:∃ q,h'.get? a=some q) (new:ObjOk X.prog X.w (af H a ob) h' a ob) :
  Inv X L5 σ (af H a ob) { s with heap:=h',toks:=t' } :=
 I.write (x:=a) (e:=a) mu (.inl rfl) (fun b q hb z=>(hs.2 b hb).trans z) he new
theorem Fo {P:Program}{w:World}{H':Hp}{h':Heap}{L6:List (a0 × V)}{vs:List (a0 × Value)} (z:L6.length <= sizeLine) (hd:(a == sysModules)=false) (rel:KV L6 vs) (dd:h'.DictOf (bX P w) a vs) :
  ObjOk P w H' h' a (.dK L6):=⟨z,hd,vs,rel,dd⟩
theorem oZ {H':Hp}{Q:Unit->Shared->Prop} (hu:A.units + 1 < cLine) (I:Inv X L5 σ H s) (g:DPut H a y v H') (ry:RelV y u) (rv:RelV v r) (h:∀ s',Inv X L5 σ H' s'->Q () s') :
  wpAny (model X.prog X.w) A (setItem (.ref a) u r) Q E s:=by
 rcases g with ⟨L6,k,e,ey,l,eH⟩ | ⟨L6,k,b,e,ey,eb,l,eH⟩
 ·subst ey eH
  obtain ⟨z,hd,vs,rel,dd⟩:=Al I.Mb e;have hz:vs.length <= sizeLine:=by rw [<- rel.length];exact z
  have hl:(eD L6 k v).length <= sizeLine:=by have:=lA L6 k v;omega
  refine wpAny_setItem_pairs (hsz:=hz) (mR ry) dd fun h' dd' hs=>h _ ?_
  have he:∃ q,h'.get? a=some q:=let ⟨q,_,_,hq,_⟩:=dd';⟨q,hq⟩;exact tw I (by rw [e];exact True.intro) hs he (Fo hl hd (rel.put k rv) dd')
 ·subst ey eH
  cases (show u=Value.ref b from ry);obtain ⟨z,hd,xs,rel,dd⟩:=Aj I.Mb e;have hz:xs.length <= sizeLine:=by rw [<- Paired.length rel];exact z
  have hl:(eD L6 k v).length <= sizeLine:=by have:=lA L6 k v;omega
  refine wpAny_setItem_heap (hsz:=hz) (tupleKind_room_in1 hu) (j6 I.Mb eb) dd fun h' dd' hs=>h _ ?_
  obtain ⟨q,es,ep,hq,h2,h3,h4,_,h5⟩:=dd';refine tw I (by rw [e];exact True.intro) hs ⟨q,hq⟩ ⟨hl,hd,_,(rel.put k eb rv).keeps fun c ys ec=>?_,q,es,ep,hq,h2,h3,h4,h5⟩;rw [ad (ue ec e (fun z=>nomatch z))];exact ec
end
theorem rJ {X:Cx}{L5:List (Addr × Obj)}{σ:St}{H:Hp}{s:Shared}{a:Addr}{y:V}{o:Option V} (I:Inv X L5 σ H s) (g:DGet H a y o):s.TypeIs (.ref a) "dict":=by
 rcases g with ⟨L6,k,e,_,_⟩ | ⟨L6,k,b,e,_,_,_⟩
 ·obtain ⟨_,_,vs,_,dd⟩:=nB I.Mb e
  exact dd.typeIs
 ·obtain ⟨_,_,xs,_,dd⟩:=nA I.Mb e
  exact dd.typeIs
theorem yk {P:Program}{w:World}{H:Hp} (h:Heap) (hb:sysModules < h.objs.size):ObjOk P w H (h.push { cls:=.type "dict",data:=.dict #[] }) h.objs.size (.dK []) :=
 ⟨Nat.zero_le _,beq_eq_false_iff_ne.mpr (Ne.symm (zU hb)),[],.nil,Heap.DictOf.new h⟩
def vg:TE:=fun _ H Q=>∀ p,H p=none->Q (.ref p) (af H p (.dK []))
section
variable {X:Cx}{pos:Pos}
theorem xt:PE X (.Dict [] [] pos) vg:=fun L5 s σ H Q I h =>
 wpAny_Dict_empty ⟨.ref s.heap.objs.size,_,I.laid (a:=s.heap.objs.size) (o:=.dK []) (t':=s.toks) (fun _ _ q=>zG _ q) (zP _) (yk s.heap I.big),rfl,h _ (I.Mb.fresh (zP _))⟩
end
end L2
namespace L2
open PySem PySem.Spec PySem.Calls PyProof.Rows
section
variable {prog:Program}{w:World}{A:Around}{E:Value->Shared->Prop}{s:Shared}
theorem ul (d:Addr) (hd:(d == sysModules)=false) :
  MeetsIn prog w (Builtin.«dict.__len__» ⟨[.ref d],[]⟩) (fun _ R s=>∃ xs:List (List a0 × Addr × Value),s.heap.DictOfH (tupleKind (bX prog w)) d xs/\R (.ok (.ret (.int xs.length s.toks))) { s with toks:=s.toks + 1 }) :=
 .of_wp fun A R s hq0=>by
  obtain ⟨L6,hm,h⟩:=hq0;obtain ⟨o,es,ep,ho,hc,hdat,hk,hp,hn⟩:=hm;show wpAny _ _ (dictSize d >>= _) _ _ s;unfold dictSize;refine yD (yD (wpAny_dictEntries ho hdat (yE ?_)));show wpAny _ _ (Builtin.Dict.pendingCount d >>= _) _ _ s;refine yD (wpAny_pendingCount_other hd ?_);refine wpAny_ret_mkInt ?_;have:es.size=L6.length:=size_of_entries hk;simpa [this] using h
theorem uK {d:Addr}{xs:List (List a0 × Addr × Value)}{Q:Value->Shared->Prop} (hd:(d == sysModules)=false) (hm:s.heap.DictOfH (tupleKind (bX prog w)) d xs) (hfit:(xs.length:Int) < 2 ^ 63)
  (h:Q (.int xs.length (s.toks + 1)) { s with toks:=s.toks + 1 + 1 }):wpAny (model prog w) A (call (.builtin "len") [.ref d]) Q E s:=by
 refine Calls.call_function_entry kind_len plain_len entry_len (args_len1 _) ?_;unfold Builtin.«len»;refine yD (m:=oneArg "len" _) (yE ?_);refine yD (m:=callSpecial? (.ref d) (Str.ofString "__len__")) (wpAny_callSpecial?_slot (name:=Str.ofString "__len__") hm.typeIs PySem.F.slot_dict_len
  (call_meetsIn PySem.F.slot_dict_len hm.typeIs PySem.F.entry_dict_len (PySem.F.args_dict_len_1 _) (ul d hd) ⟨xs,hm,?_⟩))
 show wpAny _ _ _ _ _ { s with toks:=s.toks + 1 };refine yD (yO (yE ?_));refine yD (wpAny_letGo ?_);show wpAny _ _ (if ((xs.length:Nat):Int) < 0 then _ else _) _ _ _;rw [yF oM];show wpAny _ _ (if ((xs.length:Nat):Int) ≥ 2 ^ 63 then _ else _) _ _ _;rw [yF oM];exact yD (wpAny_mkInt (yE ⟨_,rfl,h⟩))
end
section
variable {X:Cx}
theorem wn:cS X (.builtin "len") (fun xs H Q=>∃ a L6,xs=[V.ref a]/\H a=some (.dT L6)/\Q (.int L6.length) H):=by
 intro L5 s σ H xs us Q I r h;obtain ⟨a,L6,rfl,ha,q⟩:=h;obtain ⟨u,rfl,ru⟩:=eP r;cases ru;obtain ⟨z,hd,xs,rel,dd⟩:=Aj I.Mb ha;have hl:=Paired.length rel;refine uK hd dd (by rw [<- hl];rw [sizeLine_eq] at z;omega) ?_;rw [<- hl];exact ⟨.int L6.length,H,I.tok _,⟨_,rfl⟩,q⟩
end
end L2
namespace DD
open PySem PySem.Spec PyProof.Rows L2
section
variable {K:Frag}{F F':Addr->Prop}{H H':Hp}{A:List Addr}
open Classical in
variable {σD:DSt}{σ:L2.St}{R:Ro}{d:D}{v:V}
end
end DD
namespace L2
open PySem PySem.Spec PyProof.Rows
noncomputable def Av (x:Str):It:=⟨fun i _=>∃ c,x.cps[i]?=some c,fun i H v H'=>H'=H/\∃ c,x.cps[i]?=some c/\v=.str ⟨#[c]⟩,fun i _=>x.cps[i]?=none⟩
theorem wJ {P:Program}{w:World}{K:Frag}{tg:Expr} (x:Str) (t:Tok) (it:Addr):iX P w K tg (Av x) [it] it (fun i h=>h.IsStrIter it "str_ascii_iterator" x t i) where
 mem:=by simp
 obj:=fun i h st b hb=>by
  have e:b=it:=by simpa using hb
  subst e;obtain ⟨o,e,c,d⟩:=st;exact ⟨o,e,fun v z=>by rw [d] at z;cases z⟩
 keep:=fun i h h' st k=>by
  obtain ⟨o,e,r⟩:=st;exact ⟨o,k it (by simp) o e,r⟩
 item:=by
  intro X hP hw hK hc i L5 s σ H E I hf st hg;subst hP hw hK;obtain ⟨c,hx⟩:=hg;obtain ⟨f0,f1,f2,f3,f4,f5⟩:=hf it (by simp);refine wpAny_pyNext_ascii_item st hx fun h' st' sb=>?_
  have I1:Inv X L5 σ H { s with heap:=h',toks:=s.toks + 1 }:=I.turned (fun b o hb e=>(sb.2 b hb).trans e) f0 f1 f3 f4 f5;obtain ⟨o,e,cl,d⟩:=id st';exact ⟨_,rfl,ld (s:={ s with heap:=h',toks:=s.toks + 1 }) e cl d dC ⟨.str ⟨#[c]⟩,H,I1,⟨_,rfl⟩,⟨rfl,c,hx,rfl⟩,st',fun b hb=>(hf b hb).1⟩⟩
 done:=by
  intro X hP hw hK hc i L5 s σ H E I hf st hg;subst hP hw hK;obtain ⟨f0,f1,f2,f3,f4,f5⟩:=hf it (by simp);exact wpAny_pyNext_ascii_end (I.ok.hd hc) st hg fun h' eb=>⟨rfl,I.turned (t':=s.toks) (fun b o hb e=>eb b o hb e) f0 f1 f3 f4 f5⟩
 self:=fun _ _ _ _ _ st h=>wpAny_pyIter_striter_ascii st h
section
variable {X:Cx}{pos:Pos}
def AK (ta:TA):TE:=fun σ H Q=>ta σ H fun vs H1=>∃ i j:Nat,vs=[.int (i:Int),.int (j:Int)]/\i <= j/\j <= 1000/\∀ p,H1 p=none->Q (.ref p) (af H1 p (.lst ((List.range' i (j - i)).map fun (q:Nat)=>V.int (q:Int))))
theorem vG {a b:Expr}{ta:TA}{p1 p2 pos2:Pos} (hc:X.calm=true) (hgl:Gl X "list") (hml:X.mg "list"=none) (hgr:Gl X "range") (hmr:X.mg "range"=none) (ha:PA X [a,b] ta)
  (hs:starEach [a,b] X.env=[(false,eval a X.env),(false,eval b X.env)]:=by rfl) (hs2:starEach [b] X.env=[(false,eval b X.env)]:=by rfl) (hs1:starEach [.Call (.Name "range" p2) [a,b] [] pos2] X.env=[(false,eval (.Call (.Name "range" p2) [a,b] [] pos2) X.env)]:=by rfl) :
  PE X (.Call (.Name "list" p1) [.Call (.Name "range" p2) [a,b] [] pos2] [] pos) (AK ta):=by
 intro L5 s σ H Q I h;refine Call_ (cN I hgl hml gY (PyProof.Rows.callWith_type1 ?_ (by rw [hs1];rfl) (by rfl)));rw [hs1];refine Calls.spliced_cons (Call_ (cN I hgr hmr boot_range (PyProof.Rows.callWith_type1 (aB (ha pos2 L5 s σ H _ I h) fun us s1 hq0=>?_) (by rw [hs,hs2]) (by rw [hs2];rfl))));obtain ⟨vs,H1,I1,r1,i,j,e,hij,hj,q⟩:=hq0;subst e;obtain ⟨u1,us1,rfl,ru1,r2⟩:∃ u us',us=u::us'/\RelV (.int (i:Int)) u/\Vals [.int (j:Int)] us':=by cases r1 with | cons r rr=>exact ⟨_,_,rfl,r,rr⟩
 obtain ⟨u2,us2,rfl,ru2,r3⟩:∃ u us',us1=u::us'/\RelV (.int (j:Int)) u/\Vals [] us':=by cases r2 with | cons r rr=>exact ⟨_,_,rfl,r,rr⟩
 cases r3;obtain ⟨t1,rfl⟩:=ru1;obtain ⟨t2,rfl⟩:=ru2;refine call_range_2 (Calls.spliced_nil ?_);have I2:Inv X L5 σ H1 { s1 with heap:=s1.heap.push { cls:=.type "range",data:=.fields #[.int (i:Int) t1,.int (j:Int) t2,.int 1 s1.toks] },toks:=s1.toks + 1 }:=I1.kept fun b o e=>zG _ e
 refine call_list_range (n:=j - i) (I.ok.hd hc) (IsRange.new ..) (small_one oM oM oM oM) (by rw [rangeSize_one];split <;> omega) oM fun h' tk acc' c' hk hS hacc=>?_
 have hv:=jq acc'.toList i (fun k v e=>by
  obtain ⟨t,e2⟩:=hacc.2 k v (by simpa using e);exact ⟨t,by rw [e2];congr 1;omega⟩)
 rw [show acc'.toList.length=j - i by simpa using hacc.1] at hv;exact ⟨.ref _,_,I2.laid (o:=.lst ((List.range' i (j - i)).map fun (q:Nat)=>V.int (q:Int))) hk (zP _) ⟨yU (jU (by simp;omega)),acc'.toList,c',hv,hS⟩,rfl,q _ I2.fresh⟩
end
def Ax (X:Cx) (L5:List (Addr × Obj)) (b:Addr):Prop:=b ≠ X.env.locals/\b ∉ X.fs/\(b ∈ X.ex\/X.s₀.heap.objs.size <= b)/\(∀ x c,X.env.cells.lookup x=some c->c ≠ b)/\∀ p ∈ X.pn++L5,p.1 ≠ b
section
variable {X:Cx}{L5:List (Addr × Obj)}{σ:St}{key:Value}{kw:List (Str × Value)}{l I S:Addr}{ns:List Int}{R:Result->Shared->Prop}
theorem xK (hh:X.A.handled=none) (kf:Nat->Int) (J:Nat->Hp->Prop) (hl:∀ i H,J i H->bJ X.K H l (ns.map V.int))
  (turn:∀ (i:Nat) (n:Int) (u:Value) (pl:List (Addr × Obj)) (s:Shared) (H:Hp),ns[i]?=some n->RelV (V.int n) u->J i H->Inv X (L5++pl) σ H s->(key=.none/\kf i=n/\J (i + 1) H) \/
   ∃ q,key=.ref q/\wpAny (model X.prog X.w) X.A.in1 (call (.ref q) [u]) (EP X (L5++pl) σ (fun y H'=>y=.int (kf i)/\J (i + 1) H')) (fun _ _=>False) s)
  (hR:∀ (i:Nat) (n:Int) (u:Value) (H:Hp) (s:Shared),ns[i]?=some n->(∀ j,j < ns.length->kf i <= kf j/\(j < i->kf i < kf j))->J ns.length H->Inv X L5 σ H s->RelV (V.int n) u->R (.ok (.ret u)) s)
  (fI:Ax X L5 I) (fS:Ax X L5 S) (hIS:I ≠ S) :
  ∀ (r j i:Nat) (H:Hp) (s:Shared) (vb:Value) (tb:Tok) (c:Nat),ns.length - (j + 1)=r->j + 1 <= ns.length->Inv X L5 σ H s->H I=none->H S=none ->
   s.heap.get? S=some (seqObj "list" #[vb,.int (kf i) tb] c)->s.heap.IsListIter I l (j + 1)->(∃ n,ns[i]?=some n/\RelV (V.int n) vb)->i <= j->J (j + 1) H->(∀ j',j' <= j->kf i <= kf j'/\(j' < i->kf i < kf j')) ->
   codeAny (model X.prog X.w) X.A (.builtin "min.loop" ⟨[.ref I,key,.ref S],kw⟩) R s:=by
 have hname:(toString "min"++toString ".loop":String)="min.loop":=by decide
 intro r
 induction r with
 | zero =>
  intro j i H s vb tb c hr hj Iv nI nS gS it hvb hij hJ hb;have hin:j + 1=ns.length:=by omega
  obtain ⟨L9,rv,pl,_⟩:=Iv.list (hl _ _ hJ);have hlen:L9.length=ns.length:=by rw [<- rv.length,zH]
  have hL:s.heap.IsList l L9.toArray:=pl.isList;have hlI:l ≠ I:=fun e=>by
   obtain ⟨o,e1,e2,_⟩:=hL;obtain ⟨o',e3,e4,_⟩:=it;rw [e,e3] at e1;cases e1;rw [e4] at e2;simp at e2
  have W:=Walks.list (prog:=X.prog) (w:=X.w) (A:=X.A.in1) hh I l hlI L9.toArray;have hsz:L9.toArray.size=L9.length:=zI ..;refine codeAny_builtin PySem.F.entry_min_loop ?_;rw [Around.under_plainId PySem.F.plain_min_loop _];show wpAny _ X.A.in1 (seqItems? (.ref S) >>= _) _ _ _;refine yD (wpAny_seqItems gS rfl ?_);show wpAny _ X.A.in1 (tryCatch (pyNext (.ref I)) _ >>= _) _ _ _;refine yD (wpAny_tryCatch (W.done _ _ _ ⟨by rw [hsz,hlen,<- hin];exact it,hL⟩ fun h' tk' hk'=>?_));have V1:Inv X L5 σ H { s with heap:=h',toks:=tk' }:=Iv.turned (fun b o hb' e=>hk' b o (by simpa using hb') e) nI fI.1 fI.2.2.1 fI.2.2.2.1 fI.2.2.2.2;have gS':=hk' S _ (by simpa using hIS.symm) gS;show wpAny _ X.A.in1 (updateSeq S (fun _=>#[]) >>= _) _ _ _;refine yD ?_;refine wpAny_updateSeq gS' rfl (yD (wpAny_letGo (yE ?_)));obtain ⟨n,e1,e2⟩:=hvb;have s1:=Heap.SameBut.update h' S (Obj.mapSeq fun _=>(#[]:Array Value));exact hR i n vb H _ e1 (fun j' hj'=>hb j' oM) (hin ▸ hJ) (V1.turned (t':=tk') (fun b o hb' e=>(s1.2 b hb').trans e) nS fS.1 fS.2.2.1 fS.2.2.2.1 fS.2.2.2.2) e2
 | succ r ih =>
  intro j i H s vb tb c hr hj Iv nI nS gS it hvb hij hJ hb;have hlt:j + 1 < ns.length:=by omega
  obtain ⟨L9,rv,pl,_⟩:=Iv.list (hl _ _ hJ);have hlen:L9.length=ns.length:=by rw [<- rv.length,zH]
  have hL:s.heap.IsList l L9.toArray:=pl.isList;have hlI:l ≠ I:=fun e=>by
   obtain ⟨o,e1,e2,_⟩:=hL;obtain ⟨o',e3,e4,_⟩:=it;rw [e,e3] at e1;cases e1;rw [e4] at e2;simp at e2
  have W:=Walks.list (prog:=X.prog) (w:=X.w) (A:=X.A.in1) hh I l hlI L9.toArray;have hsz:L9.toArray.size=L9.length:=zI ..;refine codeAny_builtin PySem.F.entry_min_loop ?_;rw [Around.under_plainId PySem.F.plain_min_loop _];show wpAny _ X.A.in1 (seqItems? (.ref S) >>= _) _ _ _;refine yD (wpAny_seqItems gS rfl ?_);show wpAny _ X.A.in1 (tryCatch (pyNext (.ref I)) _ >>= _) _ _ _;refine yD (wpAny_tryCatch (W.item (j + 1) _ _ _ (by rw [hsz];omega) ⟨it,hL⟩ fun u h' tk' hP hst' hk'=>?_));have hu:L9[j + 1]?=some u:=by simpa using hP
  obtain ⟨n,hn⟩:∃ n,ns[j + 1]?=some n:=⟨_,zF hlt⟩;have ru:RelV (V.int n) u:=by
   obtain ⟨u',e1,e2⟩:=rv.get (i:=j + 1) (x:=V.int n) (by rw [zR,hn];rfl);rw [hu] at e1;cases e1;exact e2
  have V1:Inv X L5 σ H { s with heap:=h',toks:=tk' }:=Iv.turned (fun b o hb' e=>hk' b o (by simpa using hb') e) nI fI.1 fI.2.2.1 fI.2.2.2.1 fI.2.2.2.2;have gS':=hk' S _ (by simpa using hIS.symm) gS;have hf:∀ b ∈ [I,S],dB X L5 H b:=fun b hb'=>by
   rcases zT.mp hb' with rfl | hb'
   ·exact ⟨nI,fI⟩
   ·rw [zM.mp hb'];exact ⟨nS,fS⟩
  obtain ⟨oI,goI,coI,doI⟩:=hst'.1;have ho:∀ b ∈ [I,S],∃ o,h'.get? b=some o/\∀ v:Option Value,o.data ≠ .cell v:=fun b hb'=>by
   rcases zT.mp hb' with rfl | hb'
   ·exact ⟨_,goI,fun v z=>by rw [doI] at z;cases z⟩
   ·rw [zM.mp hb'];exact ⟨_,gS',fun v z=>nomatch z⟩
  have V2:Inv X (L5++fB [I,S] h') σ H { s with heap:=h',toks:=tk' }:=V1.pinned hf ho
  -- what follows the key's value
  have rest:∀ (t2:Tok) (H2:Hp) (s2:Shared),Inv X (L5++fB [I,S] h') σ H2 s2->J (j + 1 + 1) H2->∀ (Rf:PySem.Fin->Shared->Prop) (Ef:Value->Shared->Prop),
    (∀ s3 H3 vb3 i3 t3 c3,Inv X L5 σ H3 s3->H3 I=none->H3 S=none->s3.heap.get? S=some (seqObj "list" #[vb3,.int (kf i3) t3] c3)->s3.heap.IsListIter I l (j + 1 + 1)->(∃ n,ns[i3]?=some n/\RelV (V.int n) vb3)->i3 <= j + 1->J (j + 1 + 1) H3->(∀ j',j' <= j + 1->kf i3 <= kf j'/\(j' < i3->kf i3 < kf j')) ->
     Rf (.again (.builtin "min.loop" ⟨[.ref I,key,.ref S],kw⟩)) s3) ->
    wpAny (model X.prog X.w) X.A.in1 ((do
     let better <- tryCatch (holding [u,.int (kf (j + 1)) t2] do
      let answer <- richCompare .Lt (.int (kf (j + 1)) t2) (.int (kf i) tb)
      let yes <- holding [answer] (truthy answer)
      letGo [answer]
      pure yes) fun e=>do
       updateSeq S fun _=>#[]
       letGo ([.int (kf (j + 1)) t2,u]++[vb,.int (kf i) tb].reverse) [e]
       throw e
     if better=true then do
      updateSeq S fun _=>#[u,.int (kf (j + 1)) t2]
      letGo [.int (kf i) tb,vb]
      again (.builtin "min.loop" ⟨[.ref I,key,.ref S],kw⟩)
     else do
      letGo [u,.int (kf (j + 1)) t2]
      again (.builtin "min.loop" ⟨[.ref I,key,.ref S],kw⟩)):Sem PySem.Fin) Rf Ef s2:=by
   intro t2 H2 s2 V3 J3 Rf Ef aF;have pI:=V3.pin (I,oI) (zK _ (zK _ (c9 (by simp) goI)));have pS:=V3.pin (S,seqObj "list" #[vb,.int (kf i) tb] c) (zK _ (zK _ (c9 (by simp) gS')));have V4:Inv X L5 σ H2 s2:=V3.unpinned;refine yD (wpAny_tryCatch (yO (yD (CmpOf.ints_lt (prog:=X.prog) (w:=X.w) (A:=X.A.in1) (P:=fun i v=>∃ t,v=.int (kf i) t) kf (fun i v h=>h) (j + 1) i _ _ _ _ _ ⟨t2,rfl⟩ ⟨tb,rfl⟩ ?_))));refine yD (yO (wpAny_truthy_bool ?_));refine yD (wpAny_letGo (yE ?_));have it2:s2.heap.IsListIter I l (j + 1 + 1):=⟨oI,pI.1,coI,doI⟩;by_cases hb':kf (j + 1) < kf i
   ·simp only [hb',decide_true,if_true]
    have s1:=Heap.SameBut.update s2.heap S (Obj.mapSeq fun _=>#[u,.int (kf (j + 1)) t2]);obtain ⟨c2,hc2⟩:∃ c2,(s2.heap.update S (Obj.mapSeq fun _=>#[u,.int (kf (j + 1)) t2])).get? S=some (seqObj "list" #[u,.int (kf (j + 1)) t2] c2):=⟨_,get?_update_seq pS.1 fun _=>#[u,.int (kf (j + 1)) t2]⟩;refine yD ?_;refine wpAny_updateSeq pS.1 rfl (yD (wpAny_letGo (yE ?_)));obtain ⟨sh,sg,sd,stk,sos⟩:=s2;refine aF _ H2 u (j + 1) t2 c2 (V4.turned (t':=stk) (fun b o hb'' e=>(s1.2 b hb'').trans e) pS.2.1 fS.1 fS.2.2.1 fS.2.2.2.1 fS.2.2.2.2) pI.2.1 pS.2.1 hc2 ⟨oI,(s1.2 I hIS).trans pI.1,coI,doI⟩ ⟨n,hn,ru⟩ (zP _) J3 fun j' hj'=>?_
    by_cases e:j'=j + 1
    ·subst e
     exact ⟨by omega,fun _=>by omega⟩
    ·have hb1:=hb j' oM
     have hb2:=hb1.1;exact ⟨by omega,fun _=>by omega⟩
   ·simp only [hb',decide_false,z9,if_false]
    refine yD (wpAny_letGo (yE ?_));refine aF _ H2 vb i tb c V4 pI.2.1 pS.2.1 pS.1 it2 hvb oM J3 fun j' hj'=>?_
    by_cases e:j'=j + 1
    ·subst e
     exact ⟨by omega,fun _=>by omega⟩
    ·exact hb j' oM
  have aF:∀ s3 H3 vb3 i3 t3 c3,Inv X L5 σ H3 s3->H3 I=none->H3 S=none->s3.heap.get? S=some (seqObj "list" #[vb3,.int (kf i3) t3] c3)->s3.heap.IsListIter I l (j + 1 + 1)->(∃ n,ns[i3]?=some n/\RelV (V.int n) vb3)->i3 <= j + 1->J (j + 1 + 1) H3->(∀ j',j' <= j + 1->kf i3 <= kf j'/\(j' < i3->kf i3 < kf j')) ->
    ((Code.builtin "min.loop" ⟨[.ref I,key,.ref S],kw⟩).quiet=true/\codeAny (model X.prog X.w) X.A (.builtin "min.loop" ⟨[.ref I,key,.ref S],kw⟩) R s3):=fun s3 H3 vb3 i3 t3 c3 a1 a2 a3 a4 a5 a6 a7 a8 a9 =>
   ⟨plainId_quiet PySem.F.plain_min_loop _,ih (j + 1) i3 H3 s3 vb3 t3 c3 oM hlt a1 a2 a3 a4 a5 a6 a7 a8 a9⟩
  rcases turn (j + 1) n u _ _ H hn ru hJ V2 with ⟨hk0,hkf,J2⟩ | ⟨q,hkq,call0⟩
  ·subst hk0
   obtain ⟨t2,rfl⟩:=ru;refine yD (yE ?_)
   have:=rest t2 H _ V2 J2
   rw [hkf] at this;exact this _ _ aF
  ·subst hkq
   refine yD (wpAny_tryCatch (yO (yP call0 (fun x s'' he=>?_) fun _ _ hF=>hF.elim)));obtain ⟨y,H3,V3,ry,rfl,J3⟩:=he;obtain ⟨t2,rfl⟩:=ry;exact rest t2 H3 s'' V3 J3 _ _ aF
end
section
variable {X:Cx}{L5:List (Addr × Obj)}{σ:St}{ko:Option Value}{kws:List (Str × Value)}{l:Addr}{ns:List Int}{H:Hp}{s:Shared}{Q:VK}{E:Value->Shared->Prop}
theorem qk (hh:X.A.handled=none) (kf:Nat->Int) (J:Nat->Hp->Prop) (hl:∀ i H,J i H->bJ X.K H l (ns.map V.int))
  (hb:Builtin.Builtins.bindParams "min" ["key","default"] 0 ⟨[],kws⟩=pure [ko,some .none]) (ha:argsOk "min" ⟨[.ref l],kws⟩)
  (turn:∀ (i:Nat) (n:Int) (u:Value) (pl:List (Addr × Obj)) (s:Shared) (H:Hp),ns[i]?=some n->RelV (V.int n) u->J i H->Inv X (L5++pl) σ H s->(ko.getD .none=.none/\kf i=n/\J (i + 1) H) \/
   ∃ q,ko.getD .none=.ref q/\wpAny (model X.prog X.w) X.A.in1 (call (.ref q) [u]) (EP X (L5++pl) σ (fun y H'=>y=.int (kf i)/\J (i + 1) H')) (fun _ _=>False) s)
  (hQ:∀ (i:Nat) (n:Int) (H:Hp),ns[i]?=some n->(∀ j,j < ns.length->kf i <= kf j/\(j < i->kf i < kf j))->J ns.length H->Q (.int n) H) (hE:ns=[]->Q .non H)
  (Iv:Inv X L5 σ H s) (J0:J 0 H):wpAny (model X.prog X.w) X.A (call (.builtin "min") [.ref l] kws) (EP X L5 σ Q) E s:=by
 have hname:(toString "min"++toString ".loop":String)="min.loop":=by decide
 obtain ⟨L9,rv,pl,_⟩:=Iv.list (hl _ _ J0);have hlen:L9.length=ns.length:=by rw [<- rv.length,zH]
 have hL:s.heap.IsList l L9.toArray:=pl.isList;obtain ⟨ol,hol,_⟩:=id hL;have hll:l < s.heap.objs.size:=yH hol;refine kmk_tree PySem.F.kind_min PySem.F.plain_min PySem.F.entry_min ha ?_;show wpAny _ X.A.in1 (Builtin.Builtins.bindParams "min" ["key","default"] 0 ⟨[],kws⟩ >>= _) _ _ s;refine yD (wpAny_of_eq hb ?_);refine yD (yE ?_);refine yD (wpAny_pyIter_list hL ?_);refine yD (wpAny_newList ?_ (Nat.zero_le _));rw [hname];have hS:(s.heap.push { cls:=.type "list_iterator",data:=.fields #[.ref l,.int 0 0] }).objs.size=s.heap.objs.size + 1:=size_push' ..;have hlI:l ≠ s.heap.objs.size:=zU hll;refine yE ⟨plainId_quiet PySem.F.plain_min_loop _,?_⟩;generalize hI:s.heap.objs.size=I at *;generalize hSS:(s.heap.push { cls:=.type "list_iterator",data:=.fields #[.ref l,.int 0 0] }).objs.size=S at *;have nI:H I=none:=by rw [<- hI];exact Iv.fresh
 have nS:H S=none:=Iv.Mb.fresh (by rw [hS,hI];omega);have hIS:I ≠ S:=by rw [hS];omega
 have gI:((s.heap.push { cls:=.type "list_iterator",data:=.fields #[.ref l,.int 0 0] }).push (seqObj "list" #[] 0)).get? I=some { cls:=.type "list_iterator",data:=.fields #[.ref l,.int 0 0] }:=by
  rw [<- hI];exact zG _ (zY _ rfl)
 have gS:((s.heap.push { cls:=.type "list_iterator",data:=.fields #[.ref l,.int 0 0] }).push (seqObj "list" #[] 0)).get? S=some (seqObj "list" #[] 0):=by
  rw [<- hSS];exact zY _ rfl
 have kp:∀ b o,s.heap.get? b=some o->((s.heap.push { cls:=.type "list_iterator",data:=.fields #[.ref l,.int 0 0] }).push (seqObj "list" #[] 0)).get? b=some o:=fun b o e=>zG _ (zG _ e)
 have fI:Ax X L5 I:=(Iv.fpOk (b:=I) (Nat.le_of_eq hI) nI).2;have fS:Ax X L5 S:=(Iv.fpOk (b:=S) (by rw [hS,hI];omega) nS).2;generalize hH1:((s.heap.push { cls:=.type "list_iterator",data:=.fields #[.ref l,.int 0 0] }).push (seqObj "list" #[] 0))=h1 at gI gS kp;have V1:Inv X L5 σ H { s with heap:=h1,toks:=s.toks }:=Iv.kept kp;have hL1:h1.IsList l L9.toArray:=⟨ol,kp _ _ hol,by obtain ⟨o2,e2,r2⟩:=hL;rw [hol] at e2;cases e2;exact r2⟩;have it0:h1.IsListIter I l 0:=⟨_,gI,rfl,rfl⟩;have W:=Walks.list (prog:=X.prog) (w:=X.w) (A:=X.A.in1) hh I l hlI L9.toArray;have hsz:L9.toArray.size=L9.length:=zI ..;have aF:∀ (i:Nat) (n:Int) (u:Value) (H:Hp) (s:Shared),ns[i]?=some n->(∀ j,j < ns.length->kf i <= kf j/\(j < i->kf i < kf j))->J ns.length H->Inv X L5 σ H s->RelV (V.int n) u->EP X L5 σ Q u s :=
  fun i n u H s e1 e2 e3 e4 e5=>⟨_,H,e4,e5,hQ i n H e1 e2 e3⟩
 show codeAny _ X.A (.builtin "min.loop" ⟨[.ref I,ko.getD .none,.ref S],[("default",.none)]⟩) _ { s with heap:=h1,toks:=s.toks };refine codeAny_builtin PySem.F.entry_min_loop ?_;rw [Around.under_plainId PySem.F.plain_min_loop _];show wpAny _ X.A.in1 (seqItems? (.ref S) >>= _) _ _ _;refine yD (wpAny_seqItems gS rfl ?_);show wpAny _ X.A.in1 (tryCatch (pyNext (.ref I)) _ >>= _) _ _ _;by_cases hn:ns=[]
 ·subst hn
  refine yD (wpAny_tryCatch (W.done _ _ _ ⟨by rw [hsz,hlen];exact it0,hL1⟩ fun h' tk' hk'=>?_));refine yD (wpAny_rule (yE ?_));exact ⟨.non,H,V1.turned (fun b o hb' e=>hk' b o (by simpa using hb') e) nI fI.1 fI.2.2.1 fI.2.2.2.1 fI.2.2.2.2,rfl,hE rfl⟩
 ·have hlt:0 < ns.length:=List.length_pos_iff.mpr hn
  refine yD (wpAny_tryCatch (W.item 0 _ _ _ (by rw [hsz];omega) ⟨it0,hL1⟩ fun u h' tk' hP hst' hk'=>?_));have hu:L9[0]?=some u:=by simpa using hP
  obtain ⟨n,hn⟩:∃ n,ns[0]?=some n:=⟨_,zF hlt⟩;have ru:RelV (V.int n) u:=by
   obtain ⟨u',e1,e2⟩:=rv.get (i:=0) (x:=V.int n) (by rw [zR,hn];rfl);rw [hu] at e1;cases e1;exact e2
  have V2:Inv X L5 σ H { s with heap:=h',toks:=tk' }:=V1.turned (fun b o hb' e=>hk' b o (by simpa using hb') e) nI fI.1 fI.2.2.1 fI.2.2.2.1 fI.2.2.2.2;have gS':=hk' S _ (by simpa using hIS.symm) gS;have hf:∀ b ∈ [I,S],dB X L5 H b:=fun b hb'=>by
   rcases zT.mp hb' with rfl | hb'
   ·exact ⟨nI,fI⟩
   ·rw [zM.mp hb'];exact ⟨nS,fS⟩
  obtain ⟨oI,goI,coI,doI⟩:=hst'.1;have ho:∀ b ∈ [I,S],∃ o,h'.get? b=some o/\∀ v:Option Value,o.data ≠ .cell v:=fun b hb'=>by
   rcases zT.mp hb' with rfl | hb'
   ·exact ⟨_,goI,fun v z=>by rw [doI] at z;cases z⟩
   ·rw [zM.mp hb'];exact ⟨_,gS',fun v z=>nomatch z⟩
  have V3:Inv X (L5++fB [I,S] h') σ H { s with heap:=h',toks:=tk' }:=V2.pinned hf ho;have rest:∀ (t2:Tok) (H2:Hp) (s2:Shared),Inv X (L5++fB [I,S] h') σ H2 s2->J 1 H2 ->
    wpAny (model X.prog X.w) X.A.in1 ((do
     updateSeq S fun _=>#[u,.int (kf 0) t2]
     again (.builtin "min.loop" ⟨[.ref I,ko.getD .none,.ref S],[("default",.none)]⟩)):Sem PySem.Fin) (fun aF s'=>match aF with
      | .done f=>(match (Except.ok f:Result) with | .ok (.ret v)=>EP X L5 σ Q v s' | .ok _=>False | .error e=>E e s')
      | .again c'=>c'.quiet=true/\codeAny (model X.prog X.w) X.A c' (fun r s'=>match r with | .ok (.ret v)=>EP X L5 σ Q v s' | .ok _=>False | .error e=>E e s') s') (fun e s'=>E e s') s2:=by
   intro t2 H2 s2 V4 J2;have pI:=V4.pin (I,oI) (zK _ (zK _ (c9 (by simp) goI)));have pS:=V4.pin (S,seqObj "list" #[] 0) (zK _ (zK _ (c9 (by simp) gS')));have V5:Inv X L5 σ H2 s2:=V4.unpinned;have s1:=Heap.SameBut.update s2.heap S (Obj.mapSeq fun _=>#[u,.int (kf 0) t2]);obtain ⟨c2,hc2⟩:∃ c2,(s2.heap.update S (Obj.mapSeq fun _=>#[u,.int (kf 0) t2])).get? S=some (seqObj "list" #[u,.int (kf 0) t2] c2):=⟨_,get?_update_seq pS.1 fun _=>#[u,.int (kf 0) t2]⟩;refine yD ?_;refine wpAny_updateSeq pS.1 rfl (yE ⟨plainId_quiet PySem.F.plain_min_loop _,?_⟩);obtain ⟨sh,sg,sd,stk,sos⟩:=s2;refine xK hh kf J hl turn aF fI fS hIS _ 0 0 H2 _ u t2 c2 rfl hlt (V5.turned (t':=stk) (fun b o hb'' e=>(s1.2 b hb'').trans e) pS.2.1 fS.1 fS.2.2.1 fS.2.2.2.1 fS.2.2.2.2) pI.2.1 pS.2.1 hc2 ⟨oI,(s1.2 I hIS).trans pI.1,coI,doI⟩ ⟨n,hn,ru⟩ (zP _) J2 fun j' hj'=>?_
   have e:j'=0:=by omega
   subst e;exact ⟨by omega,fun h=>absurd h (yV _)⟩
  rcases turn 0 n u _ _ H hn ru J0 V3 with ⟨hk0,hkf,J2⟩ | ⟨q,hkq,call0⟩
  ·rw [hk0] at rest ⊢
   obtain ⟨t2,rfl⟩:=ru;refine yD (yE ?_)
   have:=rest t2 H _ V3 J2
   rw [hkf] at this;exact this
  ·rw [hkq] at rest ⊢
   refine yD (wpAny_tryCatch (yO (yP call0 (fun x s'' he=>?_) fun _ _ hF=>hF.elim)));obtain ⟨y,H3,V4,ry,rfl,J3⟩:=he;obtain ⟨t2,rfl⟩:=ry;exact rest t2 H3 s'' V4 J3
end
end L2
namespace R
open PySem PySem.Spec PyProof.Rows L2
theorem wG:∀ {ps:List Str}{us:List Value},ps.Nodup->us.length=ps.length->ps.filterMap (fun n=>((ps.zip us).lookup n).map fun v=>(n,v))=ps.zip us/\ps.filter (fun n=>((ps.zip us).lookup n).isNone)=[]:=by
 have key:∀ {ps:List Str}{us:List Value},us.length=ps.length->∀ n ∈ ps,((ps.zip us).lookup n).isSome=true:=by
  intro ps
  induction ps with
  | nil=>intro us _ n hn;cases hn
  | cons p ps ih =>
   intro us hl n hn;cases us with
   | nil=>cases hl
   | cons u us =>
    rw [List.zip_cons_cons,yM];cases hb:n == p with
    | true=>rfl
    | false =>
     rcases zT.mp hn with rfl | hn
     ·simp at hb
     ·exact ih (by simpa using hl) n hn
 intro ps us nd hl;refine ⟨?_,List.filter_eq_nil_iff.mpr fun n hn=>by
  have:=key hl n hn
  cases h:(ps.zip us).lookup n with
  | none=>rw [h] at this;cases this
  | some v=>simp⟩
 -- the names ahead don't matter
 have gen:∀ (qs:List Str) (vs:List Value),qs.Nodup->vs.length=qs.length->∀ l:List (Str × Value),(∀ q ∈ qs,l.lookup q=(qs.zip vs).lookup q)->qs.filterMap (fun n=>(l.lookup n).map fun v=>(n,v))=qs.zip vs:=by
  intro qs
  induction qs with
  | nil=>intro vs _ _ l _;rfl
  | cons q qs ih =>
   intro vs nd hl l h;cases vs with
   | nil=>cases hl
   | cons v vs =>
    have h0:=h q z6;rw [List.zip_cons_cons,yM] at h0;simp only [beq_self_eq_true] at h0;rw [List.filterMap_cons,h0];rw [List.nodup_cons] at nd
    have:=ih vs nd.2 (by simpa using hl) l fun p hp=>by
     have:=h p (zQ _ hp)
     rw [List.zip_cons_cons,yM] at this;have ne:(p == q)=false:=by
      have:p ≠ q:=fun e=>nd.1 (e ▸ hp)
      simpa using this
     rw [ne] at this;exact this
    simp only [map_some];rw [this];rfl
 exact gen ps us nd hl _ fun _ _=>rfl
noncomputable def plainA (a:Arguments):Bool:=a.posonlyargs.isEmpty && a.vararg.isNone && a.kwonlyargs.isEmpty && a.kwarg.isNone
theorem bind_plain (hp:plainA fd.params=true) (hd:fd.defaults=.none) (nd:(fd.params.args.map (·.arg)).Nodup) (hl:us.length=(fd.params.args.map (·.arg)).length):bindArgs fd ⟨us,[]⟩=pure ((fd.params.args.map (·.arg)).zip us):=by
 unfold plainA at hp;simp only [zC,List.isEmpty_iff,Option.isNone_iff_eq_none] at hp;obtain ⟨⟨⟨h1,h2⟩,h3⟩,h4⟩:=hp;obtain ⟨z1,z2⟩:=wG nd hl;have hs:seqItems? fd.defaults=(do notAStandIn Value.none;pure none):=by rw [hd];rfl
 have hn:notAStandIn Value.none=pure ():=rfl;unfold bindArgs;simp only [h1,h2,h3,h4,hs,hn];simp only [List.map_nil,List.nil_append,List.forIn_nil,pure_bind,List.append_nil];rw [yF (by simp [hl])];simp only [Option.getD_none,List.length_nil,Nat.sub_zero,List.drop_nil,List.take_length,z2,List.isEmpty_nil,Bool.not_true,z9,if_false,List.drop_length,List.zip_nil_left,List.forIn_nil,pure_bind,z1]
end R
namespace L2
open PySem PySem.Spec PyProof.Rows
def iq (mg:Str->Option Value) (base:Heap):Prop:=∃ bm o,mg "__builtins__"=some (.ref bm)/\bm ≠ builtinsNs/\bm ≠ mainGlobals/\base.get? bm=some o/\o.cls=.type "module"/\o.dict=some builtinsNs/\o.data=.plain
noncomputable def fF (c:Addr) (q:Str):HO:=.ext fun h=>h.CodeRec (.ref c) q
section
variable {X:Cx}{L5:List (Addr × Obj)}{σ:St}{H:Hp}{s:Shared}
theorem Inv.grown {t':Nat} (I:Inv X L5 σ H s) (hP:H P=some (.tbl ps)) (hx:Heap.ExtBut P s.heap h') (hc:s.heap.objs.size <= c') (hr:h'.CodeRec (.ref c') q)
  (gP:h'.get? P=some (tabObj (ps++more))):Inv X L5 σ (af (af H P (.tbl (ps++more))) c' (fF c' q)) { s with heap:=h',toks:=t' }:=by
 have gP0:s.heap.get? P=some (tabObj ps):=I.Mb P _ hP;have hcn:H c'=none:=I.Mb.fresh hc;have hPc:P ≠ c':=zU (zJ (yH gP0) hc);have nb:∀ b u,H b=some u->b ≠ c':=fun b u e z=>by rw [z,hcn] at e;cases e
 have hH:∀ b,b ≠ P->b ≠ c'->af (af H P (.tbl (ps++more))) c' (fF c' q) b=H b:=fun b h1 h2=>by rw [ad h2,ad h1]
 refine I.un ⟨fun b o e n _ _=>hx b o (fun z=>by rw [z,hP] at n;cases n) e,fun b o e n _ _=>⟨o.slots,hx b o (fun z=>by rw [z,hP] at n;cases n) e⟩,fun b o e n _=>?_,fun b o e _=>?_,fun b xs e=>?_,fun b o u e=>?_,fun b qs e=>?_⟩ fun b u e=>?_
 ·rw [hH b (fun z=>by rw [z,hP] at n;cases n) (zU (zJ (yH e) hc))];exact n
 ·by_cases hb:b=P
  ·exact ⟨_,hb ▸ gP⟩
  ·exact ⟨o,hx b o hb e⟩
 ·rw [hH b (fun z=>by rw [z,hP] at e;cases e) (nb _ _ e)];exact e
 ·rw [hH b (fun z=>by rw [z,hP] at e;cases e) (nb _ _ e)];exact e
 ·by_cases hb:b=P
  ·subst hb
   rw [hP] at e;cases e;exact ⟨more,by rw [ad hPc,ar]⟩
  ·exact ⟨#[],by rw [hH b hb (nb _ _ e),e];simp⟩
 ·by_cases h1:b=c'
  ·subst h1
   rw [ar] at e;cases e;obtain ⟨c,oc,vs,t,e1,e2,e3⟩:=id hr;cases e1;refine ⟨hr,⟨oc,e2⟩,fun h1 h2 hq0 k=>?_⟩;obtain ⟨c,oc,vs,t,e1,e2,e3⟩:=hq0;cases e1;exact ⟨_,oc,vs,t,rfl,k _ e2,e3⟩
  ·rw [ad h1] at e
   by_cases h2:b=P
   ·subst h2
    rw [ar] at e;cases e;exact gP
   ·rw [ad h2] at e
    refine (I.Mb b u e).stay (fun d v hd q=>hx d v (fun z=>?_) q) (fun d q=>?_) fun d xs q=>?_
    ·rcases hd with z2 | z2
     ·exact h2 (z2.symm.trans z)
     ·rw [z,hP] at z2;cases z2
    ·rw [hH d (fun z=>by rw [z,hP] at q;cases q) (nb _ _ q)];exact q
    ·rw [hH d (fun z=>by rw [z,hP] at q;cases q) (nb _ _ q)];exact q
abbrev uw (mg:Str->Option Value) (qual:Str) (params:Arguments) (body:Expr) (scope:Scope) (cl:List (Str × Addr)) (cv ctv:Value):Obj :=
 { cls:=.type "function",data:=.func (kla_fn "<lambda>" qual params body scope cl ((mg "__name__").getD .none) cv ctv) }
def fA (H:Hp) (P:Addr) (pos:Pos) (q:Str):Prop:=∃ ps,H P=some (.tbl ps)/\TriplesOk ps.toList/\(codeAmong pos ps.toList=none\/∃ c,codeAmong pos ps.toList=some (.ref c)/\H c=some (fF c q))
theorem xW (I:Inv X L5 σ H s) (hdef:defaultsOf params X.env=([],[])) (hcode:X.env.code=.ref c)
  (C:CodeHd X.base c P) (B:iq X.mg X.base) (hcl:closureFor scope X.env=pure cl) (T:fA H P pos (X.env.qual++"<lambda>"))
  (h:∀ f c' ctv H' s',(H'=H\/∃ ps more,H P=some (.tbl ps)/\H c'=none/\P ≠ c'/\H'=af (af H P (.tbl (ps++more))) c' (fF c' (X.env.qual++"<lambda>")))->fA H' P pos (X.env.qual++"<lambda>")->H' c'=some (fF c' (X.env.qual++"<lambda>")) ->
   Inv X (L5++[(f,uw X.mg (X.env.qual++"<lambda>") params body scope cl (.ref c') ctv)]) σ H' s'->Q (.ref f) s') :
  wpAny (model X.prog X.w) X.A (eval (.Lambda params body scope pos) X.env) Q E s:=by
 refine kla_eval hdef ?_;obtain ⟨ps,hP,ht,hc⟩:=T;have gP:s.heap.get? P=some (tabObj ps):=I.Mb P _ hP;have hg:s.heap.Ns mainGlobals X.mg:=I.mod.glob.keeps I.bk;have hgP:mainGlobals ≠ P:=fun q=>by
  obtain ⟨o,es,ep,e,hd,_⟩:=hg;rw [q,gP] at e;cases e;cases hd
 obtain ⟨bm,ob,b1,b2,b3,b4,b5,b6,b7⟩:=B;have hbP:bm ≠ P:=fun q=>by
  have:=(I.bs bm ob b4).2
  rw [q,hP] at this;cases this
 have hb:s.heap.BuiltinsAt X.mg P:=⟨bm,ob,b1,b2,b3,hbP,I.bk _ _ b4,b5,b6,b7⟩;have C':CodeHd s.heap c P:=C.keeps I.bk
 -- the function's object,laid over h1
 have last:∀ (H1:Hp) (h1:Heap) (tk1:Nat) (o:Obj),Inv X L5 σ H1 { s with heap:=h1,toks:=tk1 }->(∀ v,o.data ≠ .cell v)->o.isFreed=false->Inv X (L5++[(h1.objs.size,o)]) σ H1 { s with heap:=h1.push o,toks:=tk1 }:=by
  intro H1 h1 tk1 o J hd hfr;have J2:Inv X L5 σ H1 { s with heap:=h1.push o,toks:=tk1 }:=J.kept fun b u e=>zG _ e
  have fp:=J.fpOk (b:=h1.objs.size) (zP _) J.fresh;refine J2.pins_of fun p hp=>?_
  rcases zZ.mp hp with hp | hp
  ·exact J2.pin p (zK _ hp)
  ·rw [zM.mp hp]
   exact ⟨zY _ hfr,fp.1,fp.2.1,fp.2.2.1,hd⟩
 rcases hc with hn | ⟨c',hc,hx⟩
 ·refine kla_makeFunction (mg:=X.mg) hcl I.ok.glob hg hcode C' gP ht hn hgP hb fun c' ctv h' tk hx hge hlt hrec htb=>?_
  have hPc:P ≠ c':=zU (zJ (yH gP) hge);have J:=I.grown (t':=tk) hP hx hge hrec htb;have e1:af (af H P (.tbl (ps++#[rawInt pos.line,rawInt pos.col,.ref c']))) c' (fF c' (X.env.qual++"<lambda>")) P=some (.tbl (ps++#[rawInt pos.line,rawInt pos.col,.ref c'])):=by rw [ad hPc,ar]
  refine h _ c' ctv _ _ (.inr ⟨ps,_,hP,I.Mb.fresh hge,hPc,rfl⟩) ⟨_,e1,?_,.inr ⟨c',?_,ar⟩⟩ ar (last _ h' tk _ J (fun v z=>nomatch z) rfl)
  ·rw [Array.toList_append];exact TriplesOk_snoc _ _ _ _ ht
  ·rw [Array.toList_append];exact codeAmong_snoc _ ht hn
 ·refine kla_makeFunctionHit (mg:=X.mg) hcl I.ok.glob hg hcode C' gP ht hc hb fun ctv h' tk hk hge=>?_
  exact h _ c' ctv H _ (.inl rfl) ⟨ps,hP,ht,.inr ⟨c',hc,hx⟩⟩ hx (last H h' tk _ (I.kept hk) (fun v z=>nomatch z) rfl)
def qP (X:Cx) (N':List Str) (scope:Scope) (cl:List (Str × Addr)) (f:Addr) (qual:Str) (cd:Value) (A:Around) (s:Shared) (H:Hp):Cx :=
 { X with N:=N',s₀:=s,H₀:=H,env:=newEnv scope s.heap.objs.size mainGlobals cl (qual++".<locals>.") (some f) cd none builtinsNs,outer:=X.stack,stack:=newEnv scope s.heap.objs.size mainGlobals cl (qual++".<locals>.") (some f) cd none builtinsNs::X.stack,
          A:=A.deeper (newEnv scope s.heap.objs.size mainGlobals cl (qual++".<locals>.") (some f) cd none builtinsNs),ex:=[],fn:=fun _=>false,calm:=true,pn:=[],xe:=fun _ _=>False }
structure uY (X:Cx) (N':List Str) (scope:Scope) (x:Str):Prop where
 cy:jJ X N' scope
 co:scope.isCoroutine=false
 gen:scope.isGenerator=false
 len:N'.length=X.N.length + 1
 own:N'[X.N.length]?=some x
 loc:scope.names.lookup x=some .local
 nc:∀ y ∈ scope.names,y.2 ≠ .cell
theorem ym {t':Nat} (T:uY X N' scope x) (I:Inv X L5 σ H s) (hfm:A.frames=some X.stack) (hh:A.handled=none)
  (hcl:∀ p ∈ cl,X.env.cells.lookup p.1=some p.2) (hfr:∀ x,(x,NameKind.free) ∈ scope.names->∃ c,(x,c) ∈ cl) (r:RelV v u)
  (hn:h'.Ns s.heap.objs.size (fun y=>[(x,u)].reverse.lookup y)) (hs:Heap.SameBut s.heap.objs.size (s.heap.push { cls:=.type "frame",data:=.dict #[] }) h') :
  Inv (qP X N' scope cl f qual cd A s H) [] (σ++[some v]) H { s with heap:=h',toks:=t' }:=by
 have keep:∀ b o,s.heap.get? b=some o->h'.get? b=some o:=fun b o e=>(hs.2 b (zU (yH e))).trans (zG _ e)
 have look:∀ x,(x,NameKind.free) ∈ scope.names->∃ c,cl.lookup x=some c/\X.env.cells.lookup x=some c:=fun x hx=>by
  obtain ⟨c,hc⟩:=hfr x hx;obtain ⟨c2,hc2⟩:=fj hc;exact ⟨c2,hc2,hcl _ (mem_of_lookup hc2)⟩
 have noA:∀ b:Addr,b ∉ (qP X N' scope cl f qual cd A s H).ex:=fun b z=>absurd (show b ∈ ([]:List Addr) from z) (by simp)
 refine ⟨⟨I.ok.mod,T.cy.kind,rfl,rfl,zP _,fun y z c h1 h2=>?_,fun y hy=>?_,fun y c h=>(by cases h),fun _=>hh,Around.frames_deeper hfm,.inr ⟨rfl,rfl⟩,fun b z=>absurd z (noA b),I.bs,z0 I.ok.bsz I.sz,fun b _ _=>noA b,fun b z=>absurd z (noA b),I.stack,I.stkFree⟩,
  rfl,I.bare,Un.kept keep,⟨_,hn,fun i y w e1 e2 e3=>?_⟩,fun y c h=>?_,I.Mb.fresh (zP _),fun y c h=>?_,fun p hp=>absurd (show p ∈ ([]:List (Addr × Obj)) from hp) (by simp),I.Mb.kept keep,?_⟩
 ·exact I.ok.inj y z c (hcl _ (mem_of_lookup h1)) (hcl _ (mem_of_lookup h2))
 ·have hy:scope.names.lookup y=some .cell\/scope.names.lookup y=some .free:=hy
  rcases hy with hy | hy
  ·exact absurd rfl (T.nc _ (mem_of_lookup hy))
  ·obtain ⟨c,hc,_⟩:=look y (mem_of_lookup hy)
   exact ⟨c,hc⟩
 ·have hlen:=I.len
  rcases yQ i σ.length with hi | hi
  ·rw [zN hi] at e2
   have hmem:∃ k,(y,k) ∈ scope.names:=by
    rcases e3 with h | h | h <;> exact ⟨_,mem_of_lookup h⟩
   have hfree:=T.cy.hid i y oM e1 hmem;have eX:=T.cy.same i y oM e1 hfree;have kX:=T.cy.free y hfree;obtain ⟨m,hn2,hl⟩:=I.loc;obtain ⟨u2,ru,lk⟩:=hl i y w eX e2 (by rcases kX with h | h;exact .inr (.inl h);exact .inr (.inr h));refine ⟨u2,ru,.inr ⟨.inr (cQ T.cy.nd hfree),?_⟩⟩;rcases lk with ⟨k1,_⟩ | ⟨_,c,hc,z⟩
   ·rcases kX with h | h <;> rw [h] at k1 <;> cases k1
   ·obtain ⟨c2,q1,q2⟩:=look y hfree
    rw [hc] at q2;cases q2;exact ⟨c,q1,z.keeps keep⟩
  ·rw [z5 hi] at e2
   have hi0:i - σ.length=0:=by
    rcases Nat.eq_zero_or_pos (i - σ.length) with z | z
    ·exact z
    ·rw [List.getElem?_eq_none (show [some v].length <= _ from z)] at e2;cases e2
   rw [hi0] at e2;cases e2;have hi1:i=X.N.length:=by omega
   subst hi1;have e1:N'[X.N.length]?=some y:=e1;rw [T.own] at e1;cases e1;exact ⟨u,r,.inl ⟨T.loc,by simp⟩⟩
 ·obtain ⟨w,z⟩:=I.cell y c (hcl _ (mem_of_lookup h))
  exact ⟨w,z.keeps keep⟩
 ·exact I.freeC y c (hcl _ (mem_of_lookup h))
 ·show (σ++[some v]).length=N'.length
  rw [zV,I.len,T.len];rfl
theorem xX (T:uY X N' scope x) (I:Inv X L5 σ H s) (hfm:A.frames=some X.stack) (hh:A.handled=none)
  (hd:A.depth < recursionLimit) (hcl:∀ p ∈ cl,X.env.cells.lookup p.1=some p.2) (hfr:∀ x,(x,NameKind.free) ∈ scope.names->∃ c,(x,c) ∈ cl) (hp:R.plainA params=true) (hps:params.args.map (·.arg)=[x])
  (hf:s.heap.get? f=some (uw X.mg qual params body scope cl (.ref c') ctv)) (hr:s.heap.CodeRec (.ref c') qual)
  (he:∀ s H,PE (qP X N' scope cl f qual (.ref c') A s H) body te) (r:RelV v u) (h:te (σ++[some v]) H Q) :
  wpAny (model X.prog X.w) A (call (.ref f) [u]) (EP X L5 σ Q) E s:=by
 refine wpAny_call (kla_callFunE hd hf rfl T.co T.gen rfl hr ?_);have hb:bindArgs (kla_fn "<lambda>" qual params body scope cl ((X.mg "__name__").getD .none) (.ref c') ctv) ⟨[u],[]⟩=pure [(x,u)]:=by
  have:=R.bind_plain (fd:=kla_fn "<lambda>" qual params body scope cl ((X.mg "__name__").getD .none) (.ref c') ctv) (us:=[u]) hp rfl (by show (params.args.map (·.arg)).Nodup;rw [hps];simp) (by show _=(params.args.map (·.arg)).length;rw [hps];rfl)
  rw [this];show pure ((params.args.map (·.arg)).zip [u])=_;rw [hps];rfl
 rw [hb];refine yE ?_;refine wpAny_newFunctionEnv (around:=none) (fun y hy=>T.nc y hy) (fun y hy=>by rw [zM.mp hy];exact T.loc) (fun h' hn hs=>?_) T.cy.kind;have hs:Heap.SameBut s.heap.objs.size (s.heap.push { cls:=.type "frame",data:=.dict #[] }) h':=hs;have keep:∀ b o,s.heap.get? b=some o->h'.get? b=some o:=fun b o e=>(hs.2 b (zU (yH e))).trans (zG _ e)
 refine ⟨I.nolimit.keeps keep,kla_codeExpr ?_⟩;have J:=ym (cd:=.ref c') (f:=f) (qual:=qual) (t':=s.toks + [(x,u)].length) T I hfm hh hcl hfr r hn hs;refine yP (he s H [] _ (σ++[some v]) H Q J h) (fun w s' hq0=>?_) fun e s' z=>z.elim
 obtain ⟨y,H',J',ry,q⟩:=hq0;exact I.after ⟨y,H',J'.os,J'.bare,J'.base,J'.Mb,ry,q⟩
end
theorem vZ (h:gX k v=true):RelV (kV k) v:=by
 cases k with
 | inl i =>
  cases v <;> first | (cases h;done) | skip
  rename_i j t;have e:j=i:=by simpa [gX,Value.isInt] using h
  subst e;exact ⟨t,rfl⟩
 | inr x =>
  cases v <;> first | (cases h;done) | skip
  rename_i y t;have e:y=x:=by simpa [gX,Value.isStrOf] using h
  subst e;exact ⟨t,rfl⟩
theorem BP {κ:Type}{L6:List (κ × V)}{vs:List (κ × Value)} (r:KV L6 vs):L6.map (·.1)=vs.map (·.1):=by
 induction r with
 | nil=>rfl
 | cons h t ih=>simp only [zO];rw [h.1,ih]
def IU (d:Addr) (o:Obj) (L6:List (a0 × V)):It :=
 ⟨fun i H=>H d=some (.frz o (.dK L6))/\i < L6.length,fun i H x H'=>H'=H/\(L6.map fun p=>kV p.1)[i]?=some x,fun i H=>H d=some (.frz o (.dK L6))/\L6.length <= i⟩
theorem qG {ep:Nat} (I:Inv X L5 σ H s) (h:H d=some (.frz o (.dK L6))) (ho:o.data=.dict es ep) :
  ∃ vs,KV L6 vs/\s.heap.DictAt (bX X.prog X.w) d vs ep:=by
 obtain ⟨e1,_,_,vs,r,ob,es',ep',e2,c1,c2,c3⟩:=I.Mb d _ h;rw [e1] at e2;cases e2;rw [ho] at c2;cases c2;exact ⟨vs,r,o,es,e1,c1,ho,c3⟩
theorem vc {P:Program}{w:World}{K:Frag}{tg:Expr}{d:Addr}{o:Obj}{L6:List (a0 × V)}{es:Array DictEntry}{ep:Nat} (it:Addr) (hd:o.data=.dict es ep):iX P w K tg (IU d o L6) [it] it (fun i h=>h.IsKeyIter it d i L6.length ep) where
 mem:=by simp
 obj:=fun i h st b hb=>by
  obtain rfl:b=it:=by simpa using hb
  obtain ⟨o,e,c,d⟩:=st;exact ⟨o,e,fun v z=>by rw [d] at z;cases z⟩
 keep:=fun i h h' st k=>let ⟨o,e,r⟩:=st;⟨o,k it (by simp) _ e,r⟩
 item:=by
  intro X hP hw hK hc i L5 s σ H E I hf st hg;subst hP hw hK;obtain ⟨hg,hi⟩:=hg;obtain ⟨vs,r,da⟩:=qG I hg hd;have hl:L6.length=vs.length:=Paired.length r;obtain ⟨f0,f1,f2,f3,f4,f5⟩:=hf it (by simp);obtain ⟨q,hq⟩:∃ q,vs[i]?=some q:=⟨_,zF oM⟩;have hk:L6[i]?.map (·.1)=vs[i]?.map (·.1):=by
   rw [<- zR,<- zR,BP r]
  rw [hl] at st;refine wpAny_pyNext_dict_item st da (k:=q.1) (v:=q.2) hq fun key h' hkey st' sb=>?_
  have I1:Inv X L5 σ H { s with heap:=h' }:=I.turned (t':=s.toks) (fun b o hb e=>(sb.2 b hb).trans e) f0 f1 f3 f4 f5;obtain ⟨o',e,c,dd⟩:=id st';refine ⟨key,rfl,ld (s:={ s with heap:=h' }) e c dd dC ⟨kV q.1,H,I1,vZ hkey,⟨rfl,?_⟩,by rw [hl];exact st',fun b hb=>(hf b hb).1⟩⟩;rw [zR];rw [hq] at hk;cases hkv:L6[i]? with
  | none=>rw [hkv] at hk;cases hk
  | some p=>rw [hkv] at hk;simp at hk;simp [hk]
 done:=by
  intro X hP hw hK hc i L5 s σ H E I hf st hg;subst hP hw hK;obtain ⟨hg,hi⟩:=hg;obtain ⟨vs,r,da⟩:=qG I hg hd;have hl:L6.length=vs.length:=Paired.length r;obtain ⟨f0,f1,f2,f3,f4,f5⟩:=hf it (by simp);rw [hl] at st;exact wpAny_pyNext_dict_end (I.ok.hd hc) st da (List.getElem?_eq_none oM) fun h' eb=>⟨rfl,I.turned (t':=s.toks) (fun b o hb e=>eb b o hb e) f0 f1 f3 f4 f5⟩
 self:=fun A i s Q E st h=>wpAny_pyIter_keyiter st h
section
variable {X:Cx}{L5:List (Addr × Obj)}{σ:St}{H:Hp}{s:Shared}{d:Addr}{L6:List (a0 × V)}{o:Obj}
theorem Inv.frzD (I:Inv X L5 σ H s) (h:H d=some (.dK L6)) (e:s.heap.get? d=some o):Inv X L5 σ (af H d (.frz o (.dK L6))) { s with toks:=s.toks }:=by
 have ne:∀ b u,H b=some u->(∀ L6,u ≠ .dK L6)->b ≠ d:=fun b u q n z=>by rw [z,h] at q;cases q;exact n _ rfl
 refine I.un (h':=s.heap) ⟨fun b o e _ _ _=>e,fun b o e _ _ _=>⟨o.slots,e⟩,fun b o e n _=>by rw [ad (fun z=>by rw [z,h] at n;cases n)];exact n,fun b o e _=>⟨o,e⟩,fun b xs q=>by rw [ad (ne b _ q fun _ z=>nomatch z)];exact q,fun b o u q=>by rw [ad (ne b _ q fun _ z=>nomatch z)];exact q,
  fun b ps q=>⟨#[],by rw [ad (ne b _ q fun _ z=>nomatch z),q];simp⟩⟩ fun b u q=>?_
 have st:∀ b u,H b=some u->ObjOk X.prog X.w (af H d (.frz o (.dK L6))) s.heap b u:=fun b u q=>(I.Mb b u q).stay (fun _ _ _ z=>z) (fun c z=>by rw [ad (ne c _ z fun _ y=>nomatch y)];exact z) fun c xs z=>by rw [ad (ne c _ z fun _ y=>nomatch y)];exact z
 by_cases hb:b=d
 ·subst hb;rw [ar] at q;cases q;exact ⟨e,st _ _ h⟩
 ·rw [ad hb] at q;exact st b u q
theorem Inv.thawD (I:Inv X L5 σ H s) (h:H d=some (.frz o (.dK L6))) (hn:∀ o u,X.H₀ d ≠ some (.frz o u)):Inv X L5 σ (af H d (.dK L6)) s:=by
 have ne:∀ b u,H b=some u->(∀ o u',u ≠ .frz o u')->b ≠ d:=fun b u q n z=>by rw [z,h] at q;cases q;exact n _ _ rfl
 have nn:∀ b,H b=none->b ≠ d:=fun b q z=>by rw [z,h] at q;cases q
 have Mb:HOk X.prog X.w (af H d (.dK L6)) s.heap:=fun b u q=>by
  have st:∀ b u,H b=some u->ObjOk X.prog X.w (af H d (.dK L6)) s.heap b u:=fun b u q=>(I.Mb b u q).stay (fun _ _ _ z=>z) (fun c z=>by rw [ad (ne c _ z fun _ _ y=>nomatch y)];exact z) fun c xs z=>by rw [ad (ne c _ z fun _ _ y=>nomatch y)];exact z
  by_cases hb:b=d
  ·subst hb;rw [ar] at q;cases q;exact (st _ _ h).2
  ·rw [ad hb] at q;exact st b u q
 refine ⟨I.ok,I.os,I.bare,⟨I.base.keep,I.base.slot,fun b o e n hx=>by rw [ad (nn b (I.base.free b o e n hx))];exact I.base.free b o e n hx,I.base.there,fun b xs e=>by rw [ad (ne b _ (I.base.tups b xs e) fun _ _ y=>nomatch y)];exact I.base.tups b xs e,
  fun b o u e=>by rw [ad (fun z=>hn o u (by rw [<- z];exact e))];exact I.base.frzs b o u e,fun b ps e=>?_⟩,I.loc,I.cell,by rw [ad (nn _ I.free)];exact I.free,fun x c e=>by rw [ad (nn _ (I.freeC x c e))];exact I.freeC x c e,
  fun p hp=>by obtain ⟨a1,a2,a3⟩:=I.pin p hp;exact ⟨a1,by rw [ad (nn _ a2)];exact a2,a3⟩,Mb,I.len⟩
 obtain ⟨more,q⟩:=I.base.tbls b ps e;exact ⟨more,by rw [ad (ne b _ q fun _ _ y=>nomatch y)];exact q⟩
end
section
variable {X:Cx}{tg iter:Expr}{te:TE}
def G8 (n0:Hp) (te:TE):TI:=fun σ H R=>te σ H fun x H1=>∃ d L6,x=.ref d/\H1 d=some (.dK L6)/\∀ o,(∀ o u,n0 d ≠ some (.frz o u))->R (IU d o L6) (af H1 d (.frz o (.dK L6)))
theorem Bm (hl:PE X iter te):PI X tg iter (G8 X.H₀ te):=by
 intro L5 s σ H R I h;refine aB (hl L5 s σ H _ I h) fun v s1 hq0=>?_
 obtain ⟨x,H1,I1,r1,d,L6,e,hd,q⟩:=hq0;subst e;cases r1;obtain ⟨hz,hsys,vs,rv,ob,es,ep,e1,c1,c2,c3⟩:=I1.Mb d _ hd;have hl:L6.length=vs.length:=Paired.length rv;have hn:∀ o u,X.H₀ d ≠ some (.frz o u):=fun o u z=>by
  have:=I1.base.frzs d o u z
  rw [hd] at this;cases this
 have I2:=I1.frzD hd e1;refine wpAny_pyIter_dict hsys (knd:=bX X.prog X.w) ⟨ob,es,e1,c1,c2,c3⟩ ?_;have I3:Inv X L5 σ (af H1 d (.frz ob (.dK L6))) { s1 with heap:=s1.heap.push { cls:=.type "dict_keyiterator",data:=.fields #[.ref d,.int 0 0,.int vs.length 0,.int ep 0] },toks:=s1.toks }:=I2.kept fun b o e=>zG _ e
 refine ⟨s1.heap.objs.size,[s1.heap.objs.size],_,_,_,rfl,I3,vc (L6:=L6) _ c2,⟨_,zY _ rfl,rfl,by rw [hl];rfl⟩,fun b hb=>?_,q ob hn⟩;obtain rfl:b=s1.heap.objs.size:=by simpa using hb
 exact I2.fpOk (zP _) I2.fresh
def pq (n0:Hp) (D:i5):i5:={ nx:=fun σ H=>∃ d o L6,H d=some (.frz o (.dK L6))/\(∀ o u,n0 d ≠ some (.frz o u))/\D.nx σ (af H d (.dK L6)),rt:=fun v H=>∃ d o L6,H d=some (.frz o (.dK L6))/\(∀ o u,n0 d ≠ some (.frz o u))/\D.rt v (af H d (.dK L6)) }
theorem Bc {st:Stmt}{t:TS} (h:PS X st t):PS X st (fun D σ H=>t (pq X.H₀ D) σ H):=by
 intro L5 s σ H D I q;refine aB (h L5 s σ H (pq X.H₀ D) I q) fun f s' hs=>?_
 cases f with
 | next=>obtain ⟨σ',H',J,d,o,L6,e,n,q⟩:=hs;exact ⟨σ',_,J.thawD e n,q⟩
 | ret u=>obtain ⟨v,σ',H',J,r,d,o,L6,e,n,q⟩:=hs;exact ⟨v,σ',_,J.thawD e n,r,q⟩
 | brk=>obtain ⟨_,_,_,q⟩:=hs;exact q.elim
 | cont=>obtain ⟨_,_,_,q⟩:=hs;exact q.elim
end
end L2
namespace R
open PySem L2
inductive AV where
 | non | bl (b:Bool) | int (i:Int) | str (x:Str) | ref (k:Nat) | tup (xs:List AV) | fz (xs:List AV)
inductive L8 where
 | lst (xs:List AV) | al (t:AV) | dK (L6:List (a0 × AV)) | dT (L6:List (List a0 × AV)) | ins (c:Str) (fs:List (Str × AV)) | wk (L6:List (a0 × AV))
abbrev aa:=List L8
abbrev Sl:=List (Option AV)
abbrev Pr:=Addr->Prop
class L7 where
 tb:List (Addr × Pos × Str)
structure Gm where
 K:Frag
 mg:Str->Option Value
def FLk (mg:Gm) (P:Pr) (H:Hp) (a:Addr) (vs:List V):Prop:=(P a/\Rd H a (.lst vs))\/∀ H',bJ mg.K H' a vs
mutual
def RA (mg:Gm) (P:Pr) (H:Hp) (φ:List Addr):AV->V->Prop
 | .non,v=>v=.non
 | .bl b,v=>v=.bl b
 | .int i,v=>v=.int i
 | .str x,v=>v=.str x
 | .ref k,v=>∃ a,φ[k]?=some a/\v=.ref a
 | .tup xs,v=>∃ a vs,v=.ref a/\P a/\H a=some (.tup vs)/\Ma mg P H φ xs vs
 | .fz xs,v=>∃ a vs,v=.ref a/\FLk mg P H a vs/\Ma mg P H [] xs vs
def Ma (mg:Gm) (P:Pr) (H:Hp) (φ:List Addr):List AV->List V->Prop
 | [],vs=>vs=[]
 | x::xs,vs=>∃ v ws,vs=v::ws/\RA mg P H φ x v/\Ma mg P H φ xs ws
end
theorem br:Ma mg P H φ [] []:=by simp only [Ma]
theorem aW (h:RA mg P H φ x v) (t:Ma mg P H φ xs vs):Ma mg P H φ (x::xs) (v::vs):=by simp only [Ma];exact ⟨v,vs,rfl,h,t⟩
structure Frm (P:Pr) (φ:List Addr) (H:Hp) (P':Pr) (φ':List Addr) (H':Hp):Prop where
 ext:∀ a,P a->P' a/\H' a=H a
 new:∃ more,φ'=φ++more/\∀ a ∈ more,H a=none
 keep:∀ a,H a ≠ none->a ∉ φ->(∀ ps,H a ≠ some (.tbl ps))->H' a=H a
 pn:∀ a,P' a->P a\/H a=none\/a ∈ φ
 sm:∀ a,H a ≠ none->H' a ≠ none
 fz:∀ a o u,H a=some (.frz o u)->H' a=some (.frz o u)
theorem Frm.refl:Frm P φ H P φ H:=⟨fun _ h=>⟨h,rfl⟩,⟨[],by simp,by simp⟩,fun _ _ _ _=>rfl,fun _ h=>.inl h,fun _ h=>h,fun _ _ _ h=>h⟩
theorem Frm.trans {P P1 P2:Pr}{φ φ1 φ2:List Addr}{H H1 H2:Hp} (a:Frm P φ H P1 φ1 H1) (b:Frm P1 φ1 H1 P2 φ2 H2):Frm P φ H P2 φ2 H2:=by
 obtain ⟨m1,e1,n1⟩:=a.new;obtain ⟨m2,e2,n2⟩:=b.new;have nn:∀ x,H1 x=none->H x=none:=fun x h=>by
  cases e:H x with
  | none=>rfl
  | some o=>exact absurd h (a.sm x (by rw [e];exact fun z=>nomatch z))
 refine ⟨fun x h=>?_,⟨m1++m2,by rw [e2,e1,yL],fun x h=>?_⟩,fun x h1 h2 h3=>?_,fun x h=>?_,fun x h=>b.sm x (a.sm x h),fun x o u h=>b.fz x o u (a.fz x o u h)⟩
 ·obtain ⟨h1,e⟩:=a.ext x h
  obtain ⟨h2,e'⟩:=b.ext x h1;exact ⟨h2,e'.trans e⟩
 ·rcases zZ.mp h with h | h
  ·exact n1 x h
  ·exact nn x (n2 x h)
 ·have e:=a.keep x h1 h2 h3
  refine (b.keep x (by rw [e];exact h1) (fun z=>?_) (by rw [e];exact h3)).trans e;rw [e1] at z;rcases zZ.mp z with z | z
  ·exact h2 z
  ·exact h1 (n1 x z)
 ·rcases b.pn x h with h | h | h
  ·exact a.pn x h
  ·exact .inr (.inl (nn x h))
  ·rw [e1] at h
   rcases zZ.mp h with h | h
   ·exact .inr (.inr h)
   ·exact .inr (.inl (n1 x h))
theorem Rd.at (h:Rd H a u) (e:H' a=H a):Rd H' a u:=by
 rcases h with h | ⟨o,h⟩
 ·exact .inl (e.trans h)
 ·exact .inr ⟨o,e.trans h⟩
theorem FLk.mono {mg:Gm}{P P':Pr}{H H':Hp}{a:Addr}{vs:List V} (h:FLk mg P H a vs) (x:∀ a,P a->P' a/\H' a=H a):FLk mg P' H' a vs:=by
 rcases h with ⟨p,r⟩ | h
 ·exact .inl ⟨(x a p).1,Rd.at r (x a p).2⟩
 ·exact .inr h
theorem FLk.sq (h:FLk mg P H a vs):bJ mg.K H a vs:=by
 rcases h with ⟨_,r⟩ | h
 ·exact .inl r
 ·exact h H
section
variable {mg:Gm}{P P':Pr}{H H':Hp}{φ φ':List Addr}
mutual
theorem RA.mono' (x:∀ a,P a->P' a/\H' a=H a):∀ {t:AV}{v:V}{φ φ':List Addr},(∀ (k:Nat) a,φ[k]?=some a->φ'[k]?=some a)->RA mg P H φ t v->RA mg P' H' φ' t v
 | .non,_,_,_,_,h=>by simp only [RA] at h ⊢;exact h
 | .bl _,_,_,_,_,h=>by simp only [RA] at h ⊢;exact h
 | .int _,_,_,_,_,h=>by simp only [RA] at h ⊢;exact h
 | .str _,_,_,_,_,h=>by simp only [RA] at h ⊢;exact h
 | .ref k,_,_,_,hφ,h=>by simp only [RA] at h ⊢;obtain ⟨a,e,r⟩:=h;exact ⟨a,hφ k a e,r⟩
 | .tup xs,_,_,_,hφ,h=>by
  simp only [RA] at h ⊢;obtain ⟨a,vs,r,p,e,q⟩:=h;exact ⟨a,vs,r,(x a p).1,(x a p).2.trans e,Ma.mono' x hφ q⟩
 | .fz xs,_,_,_,hφ,h=>by
  simp only [RA] at h ⊢;obtain ⟨a,vs,r,e,q⟩:=h;exact ⟨a,vs,r,e.mono x,Ma.mono' x (fun _ _ z=>z) q⟩
theorem Ma.mono' (x:∀ a,P a->P' a/\H' a=H a):∀ {ts:List AV}{vs:List V}{φ φ':List Addr},(∀ (k:Nat) a,φ[k]?=some a->φ'[k]?=some a)->Ma mg P H φ ts vs->Ma mg P' H' φ' ts vs
 | [],_,_,_,_,h=>by simp only [Ma] at h ⊢;exact h
 | t::ts,_,_,_,hφ,h=>by
  simp only [Ma] at h ⊢;obtain ⟨v,ws,e,r,q⟩:=h;exact ⟨v,ws,e,RA.mono' x hφ r,Ma.mono' x hφ q⟩
end
theorem RA.mono {t:AV}{v:V} (h:RA mg P H φ t v) (x:∀ a,P a->P' a/\H' a=H a) (hφ:∀ (k:Nat) a,φ[k]?=some a->φ'[k]?=some a):RA mg P' H' φ' t v:=RA.mono' x hφ h
theorem Ma.mono {ts:List AV}{vs:List V} (h:Ma mg P H φ ts vs) (x:∀ a,P a->P' a/\H' a=H a) (hφ:∀ (k:Nat) a,φ[k]?=some a->φ'[k]?=some a):Ma mg P' H' φ' ts vs:=Ma.mono' x hφ h
theorem Frm.ix (f:Frm P φ H P' φ' H'):∀ (k:Nat) a,φ[k]?=some a->φ'[k]?=some a:=fun k a e=>by
 obtain ⟨m,rfl,_⟩:=f.new;rw [zN (zB.mp e).1];exact e
theorem RA.frm (h:RA mg P H φ t v) (f:Frm P φ H P' φ' H'):RA mg P' H' φ' t v:=h.mono f.ext f.ix
theorem Ma.frm (h:Ma mg P H φ ts vs) (f:Frm P φ H P' φ' H'):Ma mg P' H' φ' ts vs:=h.mono f.ext f.ix
theorem RA.lift (h:RA mg P H [] t v):RA mg P H φ t v:=h.mono (fun _ h=>⟨h,rfl⟩) fun k a e=>by simp at e
theorem Ma.lift (h:Ma mg P H [] ts vs):Ma mg P H φ ts vs:=h.mono (fun _ h=>⟨h,rfl⟩) fun k a e=>by simp at e
theorem Ma.length:∀ {ts:List AV}{vs:List V},Ma mg P H φ ts vs->ts.length=vs.length
 | [],_,h=>by simp only [Ma] at h;subst h;rfl
 | t::ts,_,h=>by
  simp only [Ma] at h;obtain ⟨v,ws,rfl,_,q⟩:=h;rw [yT,yT,Ma.length q]
theorem Ma.get:∀ {ts:List AV}{vs:List V}{i:Nat}{t:AV},Ma mg P H φ ts vs->ts[i]?=some t->∃ v,vs[i]?=some v/\RA mg P H φ t v
 | [],_,_,_,_,e=>by simp at e
 | x::ts,_,i,t,h,e=>by
  simp only [Ma] at h;obtain ⟨v,ws,rfl,r,q⟩:=h;cases i with
  | zero=>simp at e;subst e;exact ⟨v,rfl,r⟩
  | succ i=>simpa using Ma.get (i:=i) q (by simpa using e)
theorem Ma.app:∀ {xs ys:List AV}{vs ws:List V},Ma mg P H φ xs vs->Ma mg P H φ ys ws->Ma mg P H φ (xs++ys) (vs++ws)
 | [],_,_,_,h,g=>by simp only [Ma] at h;subst h;exact g
 | x::xs,_,_,_,h,g=>by
  simp only [Ma] at h;obtain ⟨v,ws,rfl,r,q⟩:=h;exact aW r (Ma.app q g)
theorem Ma.take:∀ {xs:List AV}{vs:List V} (n:Nat),Ma mg P H φ xs vs->Ma mg P H φ (xs.take n) (vs.take n)
 | xs,vs,0,_=>by rw [List.take_zero,List.take_zero];exact br
 | [],vs,n + 1,h=>by simp only [Ma] at h;subst h;exact br
 | x::xs,vs,n + 1,h=>by
  simp only [Ma] at h;obtain ⟨v,ws,rfl,r,q⟩:=h;exact aW r (Ma.take n q)
theorem Ma.drop:∀ {xs:List AV}{vs:List V} (n:Nat),Ma mg P H φ xs vs->Ma mg P H φ (xs.drop n) (vs.drop n)
 | xs,vs,0,h=>h
 | [],vs,n + 1,h=>by simp only [Ma] at h;subst h;exact br
 | x::xs,vs,n + 1,h=>by
  simp only [Ma] at h;obtain ⟨v,ws,rfl,r,q⟩:=h;exact Ma.drop n q
theorem Ma.set (r:RA mg P H φ x v):∀ {xs:List AV}{vs:List V} (n:Nat),Ma mg P H φ xs vs->Ma mg P H φ (xs.set n x) (vs.set n v)
 | [],vs,_,h=>by simp only [Ma] at h;subst h;exact br
 | y::xs,vs,n,h=>by
  simp only [Ma] at h;obtain ⟨w,ws,rfl,q,t⟩:=h;cases n with
  | zero=>exact aW r t
  | succ n=>exact aW q (Ma.set r n t)
theorem Ma.ints:∀ {ns:List Int}{vs:List V},Ma mg P H φ (ns.map .int) vs->vs=ns.map .int
 | [],_,h=>by simpa only [List.map_nil,Ma] using h
 | n::ns,_,h=>by
  simp only [zO,Ma,RA] at h;obtain ⟨v,ws,rfl,rfl,q⟩:=h;rw [Ma.ints q];rfl
theorem Ma.of_ints:∀ {ns:List Int},Ma mg P H φ (ns.map .int) (ns.map V.int)
 | []=>br
 | n::ns=>aW (by simp only [RA]) Ma.of_ints
end
def KVR (mg:Gm) (P:Pr) (H:Hp) (φ:List Addr) {κ:Type} (L6:List (κ × AV)) (ws:List (κ × V)):Prop:=L6.map (·.1)=ws.map (·.1)/\Ma mg P H φ (L6.map (·.2)) (ws.map (·.2))
def CellR (mg:Gm) (P:Pr) (H:Hp) (φ:List Addr) (a:Addr):L8->Prop
 | .lst xs=>¬ P a/\∃ vs,H a=some (.lst vs)/\Ma mg P H φ xs vs
 | .al t=>P a/\RA mg P H [] t (.ref a)
 | .dK L6=>¬ P a/\∃ ws,H a=some (.dK ws)/\KVR mg P H φ L6 ws
 | .dT L6=>¬ P a/\∃ ws,H a=some (.dT ws)/\KVR mg P H φ L6 ws
 | .ins c fs=>¬ P a/\∃ C dx ws,mg.mg c=some (.ref C)/\H a=some (.ins C dx ws)/\KVR mg P H φ fs ws
 | .wk L6=>¬ P a/\∃ o ws,H a=some (.frz o (.dK ws))/\KVR mg P H φ L6 ws
def FK (o:Option HO):Prop:=(∀ ps,o ≠ some (.tbl ps))/\∀ f,o ≠ some (.ext f)
theorem _root_.L2.fA.new (h:fA H P pos q) (hp:H p=none):fA (af H p o) P pos q:=by
 obtain ⟨ps,e,t,c⟩:=h;refine ⟨ps,by rw [ad (be e hp)];exact e,t,?_⟩;rcases c with c | ⟨c',c1,c2⟩
 ·exact .inl c
 ·exact .inr ⟨c',c1,by rw [ad (be c2 hp)];exact c2⟩
theorem _root_.L2.fA.ne (h:fA H P pos q) (hp:H p=none):P ≠ p:=by
 obtain ⟨ps,e,_⟩:=h;exact be e hp
theorem _root_.L2.fA.wr (h:fA H P pos q) (hp:FK (H p)):fA (af H p o) P pos q:=by
 obtain ⟨ps,e,t,c⟩:=h;refine ⟨ps,by rw [ad fun z=>hp.1 ps (by rw [<- z];exact e)];exact e,t,?_⟩;rcases c with c | ⟨c',c1,c2⟩
 ·exact .inl c
 ·exact .inr ⟨c',c1,by rw [ad fun z=>hp.2 _ (by rw [<- z];exact c2)];exact c2⟩
structure Sim [L7] (mg:Gm) (P:Pr) (φ:List Addr) (st:aa) (H:Hp):Prop where
 len:φ.length=st.length
 nd:φ.Nodup
 dom:∀ a,P a->H a ≠ none
 cd:∀ a ∈ φ,H a ≠ none
 cell:∀ (k:Nat) c a,st[k]?=some c->φ[k]?=some a->CellR mg P H φ a c
 tb:∀ t ∈ L7.tb,fA H t.1 t.2.1 t.2.2/\¬ P t.1
section
variable {mg:Gm}{P P':Pr}{H H':Hp}{φ φ':List Addr}{st st':aa}{a:Addr}
theorem KVR.mono {κ:Type}{L6:List (κ × AV)}{ws:List (κ × V)} (h:KVR mg P H φ L6 ws) (x:∀ a,P a->P' a/\H' a=H a) (hφ:∀ (k:Nat) a,φ[k]?=some a->φ'[k]?=some a):KVR mg P' H' φ' L6 ws:=⟨h.1,h.2.mono x hφ⟩
theorem CellR.mono {c:L8} (h:CellR mg P H φ a c) (x:∀ a,P a->P' a/\H' a=H a) (hφ:∀ (k:Nat) a,φ[k]?=some a->φ'[k]?=some a) (e:H' a=H a) (np:¬ P a->¬ P' a):CellR mg P' H' φ' a c:=by
 cases c with
 | lst xs=>obtain ⟨n,vs,r,q⟩:=h;exact ⟨np n,vs,e.trans r,q.mono x hφ⟩
 | al t=>exact ⟨(x a h.1).1,h.2.mono x fun _ _ z=>z⟩
 | dK L6=>obtain ⟨n,vs,r,q⟩:=h;exact ⟨np n,vs,e.trans r,q.mono x hφ⟩
 | dT L6=>obtain ⟨n,vs,r,q⟩:=h;exact ⟨np n,vs,e.trans r,q.mono x hφ⟩
 | ins c fs=>obtain ⟨n,C,dx,ws,m,r,q⟩:=h;exact ⟨np n,C,dx,ws,m,e.trans r,q.mono x hφ⟩
 | wk L6=>obtain ⟨n,o,ws,r,q⟩:=h;exact ⟨np n,o,ws,e.trans r,q.mono x hφ⟩
theorem Sim.at [L7] (s:Sim mg P φ st H) {k:Nat} (e:st[k]?=some c):∃ a,φ[k]?=some a/\CellR mg P H φ a c:=by
 have hk:k < φ.length:=by rw [s.len];exact (zB.mp e).1
 exact ⟨φ[k],zF hk,s.cell k c _ e (zF hk)⟩
theorem Sim.notb [L7] (s:Sim mg P φ st H) {k:Nat} (ea:φ[k]?=some a) (na:¬ P a):FK (H a):=by
 obtain ⟨c,hc⟩:∃ c,st[k]?=some c:=⟨_,zF (by rw [<- s.len];exact (zB.mp ea).1)⟩;have h:=s.cell k c a hc ea;cases c with
 | lst xs=>obtain ⟨n,vs,r,q⟩:=h;rw [r];exact ⟨fun _ z=>(nomatch z),fun _ z=>(nomatch z)⟩
 | al t=>exact absurd h.1 na
 | dK L6=>obtain ⟨n,vs,r,q⟩:=h;rw [r];exact ⟨fun _ z=>(nomatch z),fun _ z=>(nomatch z)⟩
 | dT L6=>obtain ⟨n,vs,r,q⟩:=h;rw [r];exact ⟨fun _ z=>(nomatch z),fun _ z=>(nomatch z)⟩
 | ins c fs=>obtain ⟨n,C,dx,ws,m,r,q⟩:=h;rw [r];exact ⟨fun _ z=>(nomatch z),fun _ z=>(nomatch z)⟩
 | wk L6=>obtain ⟨n,o,ws,r,q⟩:=h;rw [r];exact ⟨fun _ z=>(nomatch z),fun _ z=>(nomatch z)⟩
theorem Sim.tnc [L7] (s:Sim mg P φ st H) (ht:t ∈ L7.tb):t.1 ∉ φ:=fun h=>by
 obtain ⟨j,hj⟩:=z7 h;obtain ⟨ps,e,_⟩:=(s.tb t ht).1;exact (s.notb hj (s.tb t ht).2).1 ps e
theorem Sim.okeep [L7] (s:Sim mg P φ st H) (f:Frm P φ H P' φ' H') (h:H c=some (fF c q)):H' c=some (fF c q):=by
 by_cases hP:P c
 ·exact (f.ext c hP).2.trans h
 ·refine (f.keep c (by rw [h];exact fun z=>nomatch z) (fun z=>?_) fun ps z=>by rw [h] at z;cases z).trans h
  obtain ⟨j,hj⟩:=z7 z;exact (s.notb hj hP).2 _ h
theorem Sim.ckeep [L7] (s:Sim mg P φ st H) (x:∀ a,P a->H' a=H a) (k:∀ a,H a ≠ none->(∀ ps,H a ≠ some (.tbl ps))->H' a=H a):∀ a ∈ φ,H' a=H a:=fun a h=>by
 by_cases hP:P a
 ·exact x a hP
 ·obtain ⟨j,hj⟩:=z7 h
  exact k a (s.cd a h) (s.notb hj hP).1
theorem Sim.stay [L7] (s:Sim mg P φ st H) (x:∀ a,P a->P' a/\H' a=H a) (hc:∀ a ∈ φ,H' a=H a) (np:∀ a ∈ φ,¬ P a->¬ P' a) (dm:∀ a,P' a->H' a ≠ none) (tb:∀ t ∈ L7.tb,fA H' t.1 t.2.1 t.2.2/\¬ P' t.1):Sim mg P' φ st H' :=
 ⟨s.len,s.nd,dm,fun a h=>by rw [hc a h];exact s.cd a h,fun k c a e1 e2=>(s.cell k c a e1 e2).mono x (fun _ _ z=>z) (hc a (zW e2)) (np a (zW e2)),tb⟩
theorem Sim.nil [L7] (dm:∀ a,P a->H a ≠ none) (tb:∀ t ∈ L7.tb,fA H t.1 t.2.1 t.2.2/\¬ P t.1):Sim mg P [] [] H:=⟨rfl,List.nodup_nil,dm,fun _ h=>by simp at h,fun k c a e _=>by simp at e,tb⟩
theorem mJ [L7] (s:Sim mg P φ st H) (hp:H p=none):Frm P φ H (fun a=>P a\/a=p) φ (af H p o)/\Sim mg (fun a=>P a\/a=p) φ st (af H p o):=by
 have ne:∀ a,H a ≠ none->a ≠ p:=fun a h e=>h (by rw [e];exact hp)
 have f:Frm P φ H (fun a=>P a\/a=p) φ (af H p o):=by
  refine ⟨fun a h=>⟨.inl h,ad (ne a (s.dom a h))⟩,⟨[],by simp,by simp⟩,fun a h _ _=>ad (ne a h),fun a h=>?_,fun a h=>by rw [ad (ne a h)];exact h,fun a o u h=>by rw [ad (be h hp)];exact h⟩;rcases h with h | h
  ·exact .inl h
  ·exact .inr (.inl (by rw [h];exact hp))
 refine ⟨f,s.stay f.ext (fun a h=>ad (ne a (s.cd a h))) (fun a h n z=>?_) (fun a h=>?_) fun t ht=>⟨(s.tb t ht).1.new hp,fun z=>z.elim (s.tb t ht).2 (fun e=>(s.tb t ht).1.ne hp e)⟩⟩
 ·rcases z with z | z
  ·exact n z
  ·exact ne a (s.cd a h) z
 ·rcases h with h | h
  ·rw [ad (ne a (s.dom a h))];exact s.dom a h
  ·rw [h,ar];exact fun z=>nomatch z
theorem lZ [L7] (s:Sim mg P φ st H) (hp:H p=none) (hc:CellR mg P (af H p o) (φ++[p]) p c):Frm P φ H P (φ++[p]) (af H p o)/\Sim mg P (φ++[p]) (st++[c]) (af H p o):=by
 have ne:∀ a,H a ≠ none->a ≠ p:=fun a h e=>h (by rw [e];exact hp)
 have ex:∀ a,P a->P a/\af H p o a=H a:=fun a h=>⟨h,ad (ne a (s.dom a h))⟩
 have ix:∀ (k:Nat) a,φ[k]?=some a->(φ++[p])[k]?=some a:=fun k a e=>by rw [zN (zB.mp e).1];exact e
 have sm:∀ a,H a ≠ none->af H p o a ≠ none:=fun a h=>by rw [ad (ne a h)];exact h
 refine ⟨⟨ex,⟨[p],rfl,fun a h=>by rw [zM.mp h];exact hp⟩,fun a h _ _=>ad (ne a h),fun a h=>.inl h,sm,fun a o u h=>by rw [ad (be h hp)];exact h⟩,?_,?_,fun a h=>sm a (s.dom a h),fun a h=>?_,fun k d a e1 e2=>?_,fun t ht=>⟨(s.tb t ht).1.new hp,(s.tb t ht).2⟩⟩
 ·rw [zV,zV,s.len];rfl
 ·exact List.nodup_append.mpr ⟨s.nd,(by simp),fun a h b hb e=>ne a (s.cd a h) (by rw [e];exact zM.mp hb)⟩
 ·rcases zZ.mp h with h | h
  ·exact sm a (s.cd a h)
  ·rw [zM.mp h,ar];exact fun z=>nomatch z
 ·by_cases hk:k < st.length
  ·rw [zN hk] at e1
   rw [zN (by rw [s.len];exact hk)] at e2;exact (s.cell k d a e1 e2).mono ex ix (ad (ne a (s.cd a (zW e2)))) fun z=>z
  ·have hk':k=st.length:=by
    have:=(zB.mp e1).1
    rw [zV] at this;simp at this;omega
   subst hk';simp at e1;rw [<- s.len] at e2;simp at e2;subst e1;subst e2;exact hc
theorem g6 [L7] {k:Nat} (s:Sim mg P φ st H) (ea:φ[k]?=some a) (na:¬ P a) (hc:CellR mg P (af H a o) φ a c) (nz:∀ o u,H a ≠ some (.frz o u)):Frm P φ H P φ (af H a o)/\Sim mg P φ (st.set k c) (af H a o):=by
 have hm:a ∈ φ:=zW ea;have ne:∀ b,P b->b ≠ a:=fun b h e=>na (by rw [<- e];exact h)
 have sm:∀ b,H b ≠ none->af H a o b ≠ none:=fun b h=>by
  by_cases e:b=a
  ·rw [e,ar];exact fun z=>nomatch z
  ·rw [ad e];exact h
 have ex:∀ b,P b->P b/\af H a o b=H b:=fun b h=>⟨h,ad (ne b h)⟩
 refine ⟨⟨ex,⟨[],by simp,by simp⟩,fun b _ h _=>ad fun e=>h (by rw [e];exact hm),fun b h=>.inl h,sm,fun b o u h=>by rw [ad (fun e=>nz o u (by rw [<- e];exact h))];exact h⟩,by rw [List.length_set];exact s.len,s.nd,fun b h=>sm b (s.dom b h),fun b h=>sm b (s.cd b h),fun j d b e1 e2=>?_,fun t ht=>⟨(s.tb t ht).1.wr (s.notb ea na),(s.tb t ht).2⟩⟩;by_cases hj:j=k
 ·subst hj
  rw [ea] at e2;cases e2;rw [List.getElem?_set_self (by rw [<- s.len];exact (zB.mp ea).1)] at e1;cases e1;exact hc
 ·rw [List.getElem?_set_ne (Ne.symm hj)] at e1
  have hb:b ≠ a:=fun e=>hj (by
   subst e;exact nodup_ix' s.nd e2 ea)
  exact (s.cell j d b e1 e2).mono ex (fun _ _ z=>z) (ad hb) fun z=>z
where
 nodup_ix' {l:List Addr} (hN:l.Nodup) {i j:Nat}{x:Addr} (a:l[i]?=some x) (b:l[j]?=some x):i=j:=by
  obtain ⟨h1,e1⟩:=zB.mp a;obtain ⟨h2,e2⟩:=zB.mp b;exact (List.getElem_inj hN).mp (e1.trans e2.symm)
end
end R
namespace R
open PySem PySem.Spec PyProof.Rows L2
open DD (PE_imp PT_imp PA_imp PS_imp PSs_imp OpR_imp PW_imp PG_imp)
abbrev St:=L2.St
abbrev _root_.L2.Cx.gm (X:Cx):Gm:=⟨X.K,X.mg⟩
def KG [L7] {α β:Type} (mg:Gm) (Rl:Gm->Pr->Hp->List Addr->α->β->Prop) (P:Pr) (φ:List Addr) (H:Hp) (r:Option (α × aa)) (Q:β->Hp->Prop):Prop :=
 ∃ a st',r=some (a,st')/\∀ P' φ' H' b,Frm P φ H P' φ' H'->Sim mg P' φ' st' H'->Rl mg P' H' φ' a b->Q b H'
def RB {α:Type} (_:Gm) (_:Pr) (_:Hp) (_:List Addr) (a b:α):Prop:=a=b
section
variable {α β γ δ:Type}{mg:Gm}{Ra:Gm->Pr->Hp->List Addr->α->β->Prop}{Rc:Gm->Pr->Hp->List Addr->γ->δ->Prop}{P:Pr}{φ:List Addr}{H:Hp}
theorem KG.bind [L7] {m:Option (α × aa)}{k:α × aa->Option (γ × aa)}{Q:δ->Hp->Prop} (h:KG mg Rc P φ H (m.bind k) Q) :
  KG mg Ra P φ H m fun b H1=>∃ P1 φ1 st1 a,Frm P φ H P1 φ1 H1/\Sim mg P1 φ1 st1 H1/\Ra mg P1 H1 φ1 a b/\KG mg Rc P1 φ1 H1 (k (a,st1)) Q:=by
 obtain ⟨c,st',e,q⟩:=h;cases m with
 | none=>cases e
 | some p =>
  obtain ⟨a,st1⟩:=p;refine ⟨a,st1,rfl,fun P1 φ1 H1 b f s r=>⟨P1,φ1,st1,a,f,s,r,c,st',e,fun P' φ' H' d f' s' r'=>q P' φ' H' d (f.trans f') s' r'⟩⟩
theorem KG.pure [L7] {a:α}{st:aa}{Q:β->Hp->Prop}{b:β} (h:KG mg Ra P φ H (some (a,st)) Q) (s:Sim mg P φ st H) (r:Ra mg P H φ a b):Q b H:=by
 obtain ⟨_,_,e,q⟩:=h;cases e;exact q P φ H b Frm.refl s r
theorem KG.map [L7] {m:Option α}{st:aa}{Q:β->Hp->Prop} (h:KG mg Ra P φ H (m.map fun a=>(a,st)) Q):∃ a,m=some a/\KG mg Ra P φ H (some (a,st)) Q:=by
 obtain ⟨b,st',e,q⟩:=h;cases m with
 | none=>cases e
 | some a=>exact ⟨a,rfl,b,st',e,q⟩
end
def Mg (mg:Gm) (P:Pr) (H:Hp) (φ:List Addr) (sl:Sl) (σ:St):Prop:=sl.length=σ.length/\∀ (i:Nat) v,sl[i]?=some (some v)->∃ w,σ[i]?=some (some w)/\RA mg P H φ v w
section
variable {mg:Gm}{P P':Pr}{H H':Hp}{φ φ':List Addr}{sl:Sl}{σ:St}
theorem Mg.frm (h:Mg mg P H φ sl σ) (f:Frm P φ H P' φ' H'):Mg mg P' H' φ' sl σ:=⟨h.1,fun i v e=>let ⟨w,e',r⟩:=h.2 i v e;⟨w,e',r.frm f⟩⟩
theorem Mg.set (h:Mg mg P H φ sl σ) (r:RA mg P H φ v w) (i:Nat):Mg mg P H φ (sl.set i (some v)) (σ.set i (some w)):=by
 refine ⟨by rw [List.length_set,List.length_set];exact h.1,fun j u e=>?_⟩;by_cases hj:i=j
 ·subst hj
  by_cases hi:i < sl.length
  ·rw [List.getElem?_set_self hi] at e
   cases e;exact ⟨w,List.getElem?_set_self (by rw [<- h.1];exact hi),r⟩
  ·rw [List.getElem?_eq_none (by rw [List.length_set];omega)] at e;cases e
 ·rw [List.getElem?_set_ne hj] at e
  rw [List.getElem?_set_ne hj];exact h.2 j u e
end
abbrev EF:=Sl->aa->Option (AV × aa)
abbrev TF:=Sl->aa->Option (Bool × aa)
abbrev AF:=Sl->aa->Option (List AV × aa)
def rE [L7] (mg:Gm) (f:EF):TE:=fun σ H Q=>∃ P φ sl st,Mg mg P H φ sl σ/\Sim mg P φ st H/\KG mg RA P φ H (f sl st) Q
def rT [L7] (mg:Gm) (f:TF):TT:=fun σ H Q=>∃ P φ sl st,Mg mg P H φ sl σ/\Sim mg P φ st H/\KG mg RB P φ H (f sl st) Q
def rA [L7] (mg:Gm) (f:AF):TA:=fun σ H Q=>∃ P φ sl st,Mg mg P H φ sl σ/\Sim mg P φ st H/\KG mg Ma P φ H (f sl st) Q
def QE [L7] (X:Cx) (e:Expr) (f:EF):Prop:=PE X e (rE X.gm f)
def QT [L7] (X:Cx) (e:Expr) (f:TF):Prop:=PT X e (rT X.gm f)
def QW [L7] (X:Cx) (e:Expr) (f:TF):Prop:=PW X e (rT X.gm f)
def QA [L7] (X:Cx) (es:List Expr) (f:AF):Prop:=PA X es (rA X.gm f)
def aV (i:Nat):EF:=fun sl st=>match sl[i]? with
 | some (some v)=>some (v,st)
 | _=>none
def aC (v:AV):EF:=fun _ st=>some (v,st)
def dN:AF:=fun _ st=>some ([],st)
def dl (f:EF) (g:AF):AF:=fun sl st=>(f sl st).bind fun p=>(g sl p.2).bind fun q=>some (p.1::q.1,q.2)
noncomputable def mw:AV->Option V
 | .non=>some .non
 | .bl b=>some (.bl b)
 | .int i=>some (.int i)
 | .str x=>some (.str x)
 | _=>none
theorem RA.sc (h:mw v=some w):RA mg P H φ v w:=by
 cases v <;> simp only [mw] at h <;> cases h <;> simp only [RA]
section
variable {X:Cx}{e:Expr}{es:List Expr}{pos:Pos}
theorem C9 [L7] {i:Nat} (hN:X.N[i]?=some x) (hv:tG X.env.scope x) (hd:(x == ("__debug__":Str))=false) (hcd:(x == ("__classdict__":Str))=false):QE X (.Name x pos) (aV i) :=
 PE_imp (Dv hN hv hd hcd) fun σ H Q hq0=>by
  obtain ⟨P,φ,sl,st,r,s,k⟩:=hq0;unfold aV at k;cases h:sl[i]? with
  | none=>rw [h] at k;obtain ⟨_,_,e,_⟩:=k;cases e
  | some o =>
   cases o with
   | none=>rw [h] at k;obtain ⟨_,_,e,_⟩:=k;cases e
   | some v =>
    rw [h] at k;obtain ⟨w,e,ra⟩:=r.2 i v h;exact ⟨w,e,k.pure s ra⟩
theorem pY [L7] (hw:mw v=some w) (h:PE X e t) (ht:∀ σ H Q,Q w H->t σ H Q):QE X e (aC v) :=
 PE_imp h fun σ H Q ⟨P,φ,sl,st,r,s,k⟩=>ht σ H Q (k.pure s (RA.sc hw))
theorem dR [L7]:QA X [] dN:=PA_imp vI fun σ H Q ⟨P,φ,sl,st,r,s,k⟩=>k.pure s br
theorem bR [L7] (ha:QE X e f) (hr:QA X es g) (hs:starEach (e::es) X.env=(false,eval e X.env)::starEach es X.env):QA X (e::es) (dl f g) :=
 PA_imp (sf ha hr hs) fun σ H Q ⟨P,φ,sl,st,r,s,k⟩=>⟨P,φ,sl,st,r,s,by
  obtain ⟨a,st',e1,q⟩:=k.bind (Ra:=RA);refine ⟨a,st',e1,fun P1 φ1 H1 b f1 s1 r1=>?_⟩;obtain ⟨P2,φ2,st2,a2,f2,s2,r2,k2⟩:=q P1 φ1 H1 b f1 s1 r1;refine ⟨P2,φ2,sl,st2,r.frm f2,s2,?_⟩;obtain ⟨xs,st3,e3,q3⟩:=k2.bind (Ra:=Ma);refine ⟨xs,st3,e3,fun P4 φ4 H4 bs f4 s4 r4=>?_⟩;obtain ⟨P5,φ5,st5,a5,f5,s5,r5,k5⟩:=q3 P4 φ4 H4 bs f4 s4 r4;exact k5.pure s5 (aW (r2.frm f5) r5)⟩
end
def a2 (f g:EF) (k:AV->AV->aa->Option (AV × aa)):EF:=fun sl st=>(f sl st).bind fun p=>(g sl p.2).bind fun q=>k p.1 q.1 q.2
def a1 (f:EF) (k:AV->aa->Option (AV × aa)):EF:=fun sl st=>(f sl st).bind fun p=>k p.1 p.2
def r2 [L7] (mg:Gm) (k:AV->AV->aa->Option (AV × aa)):R2:=fun v w H Q=>∃ P φ st x y,Sim mg P φ st H/\RA mg P H φ x v/\RA mg P H φ y w/\KG mg RA P φ H (k x y st) Q
def r1 [L7] (mg:Gm) (k:AV->aa->Option (AV × aa)):V->Hp->VK->Prop:=fun v H Q=>∃ P φ st x,Sim mg P φ st H/\RA mg P H φ x v/\KG mg RA P φ H (k x st) Q
section
variable {mg:Gm}{k:AV->AV->aa->Option (AV × aa)}{k1:AV->aa->Option (AV × aa)}{f g:EF}
theorem uW [L7] (q:rE mg (a2 f g k) σ H Q):ve (r2 mg k) (rE mg f) (rE mg g) σ H Q:=by
 obtain ⟨P,φ,sl,st,rs,s,kk⟩:=q;refine ⟨P,φ,sl,st,rs,s,?_⟩;obtain ⟨a,st',e1,q⟩:=kk.bind (Ra:=RA);refine ⟨a,st',e1,fun P1 φ1 H1 b f1 s1 r1=>?_⟩;obtain ⟨P2,φ2,st2,x,f2,s2,r2,k2⟩:=q P1 φ1 H1 b f1 s1 r1;refine ⟨P2,φ2,sl,st2,rs.frm f2,s2,?_⟩;obtain ⟨a',st3,e3,q3⟩:=k2.bind (Ra:=RA);refine ⟨a',st3,e3,fun P4 φ4 H4 b' f4 s4 r4=>?_⟩;obtain ⟨P5,φ5,st5,y,f5,s5,r5,k5⟩:=q3 P4 φ4 H4 b' f4 s4 r4;exact ⟨P5,φ5,st5,x,y,s5,r2.frm f5,r5,k5⟩
theorem J8 [L7] (q:rE mg (a1 f k1) σ H Q):HQ (r1 mg k1) (rE mg f) σ H Q:=by
 obtain ⟨P,φ,sl,st,rs,s,kk⟩:=q;refine ⟨P,φ,sl,st,rs,s,?_⟩;obtain ⟨a,st',e1,q⟩:=kk.bind (Ra:=RA);refine ⟨a,st',e1,fun P1 φ1 H1 b f1 s1 r1=>?_⟩;obtain ⟨P2,φ2,st2,x,f2,s2,r2,k2⟩:=q P1 φ1 H1 b f1 s1 r1;exact ⟨P2,φ2,st2,x,s2,r2,k2⟩
end
def jV (h:aa->AV->AV->Option AV):AV->AV->aa->Option (AV × aa):=fun x y st=>(h st x y).map fun z=>(z,st)
def CF (h:aa->AV->Option AV):AV->aa->Option (AV × aa):=fun x st=>(h st x).map fun z=>(z,st)
noncomputable def cP (a b:Int):Bool:=(Nat.ble a.natAbs.log2 62 || Nat.ble b.natAbs.log2 62) || (Nat.ble a.natAbs.log2 1000000 && Nat.ble b.natAbs.log2 1000000)
noncomputable def iT (b:Int):Bool:=!(b == 0) && Nat.ble b.natAbs.log2 8999
noncomputable def t8 (a b:Int):Bool:=decide (0 <= b) && Nat.ble b.natAbs 100000 && Nat.ble a.natAbs.log2 62
noncomputable def sZ (a b:Int):Int:=if 0 < b then a / b else a.fdiv b
noncomputable def m6 (a b:Int):Int:=if 0 < b then a % b else a.fmod b
def qY:Operator->Int->Int->Option Int
 | .Add,a,b=>some (a + b)
 | .Sub,a,b=>some (a - b)
 | .Mult,a,b=>if cP a b=true then some (a * b) else none
 | .FloorDiv,a,b=>if iT b=true then some (sZ a b) else none
 | .Mod,a,b=>if b=0 then none else some (m6 a b)
 | .Pow,a,b=>if t8 a b=true then some (a ^ b.toNat) else none
 | .LShift,a,b=>if t8 a b=true then some (a * 2 ^ b.toNat) else none
 | .RShift,a,b=>if 0 <= b then some (a / 2 ^ b.toNat) else none
 | .BitAnd,a,b=>some (Builtin.bitAnd a b)
 | .BitOr,a,b=>some (Builtin.bitOr a b)
 | .BitXor,a,b=>some (Builtin.bitXor a b)
 | _,_,_=>none
def dL (o:Operator) (_:aa):AV->AV->Option AV
 | .int a,.int b=>(qY o a b).map .int
 | .str a,.str b=>if (decide (o=.Add) && Nat.ble (a.length + b.length) 1000000)=true then some (.str (a++b)) else none
 | _,_=>none
theorem log2_lt {n k:Nat} (h:Nat.ble n.log2 k=true):n < 2 ^ (k + 1):=by
 by_cases h0:n=0
 ·subst h0;exact Nat.two_pow_pos _
 ·exact (Nat.log2_lt h0).mp (Nat.lt_succ_of_le (zS h))
theorem lm {a:Int}{k:Nat} (h:a.natAbs < 2 ^ k):Builtin.Int.intBits a <= k:=by
 unfold Builtin.Int.intBits;split
 ·omega
 ·rename_i h0
  have:a.natAbs.log2 < k:=(Nat.log2_lt (by simpa using h0)).mpr h;omega
theorem BG {a b:Int} (h:cP a b=true):IntMulOk a b:=by
 unfold cP at h;rcases Bool.or_eq_true_iff.mp h with h | h
 ·rcases Bool.or_eq_true_iff.mp h with h | h
  ·exact .of_left (z0 (lm (log2_lt h)) dC)
  ·exact .of_right (z0 (lm (log2_lt h)) dC)
 ·obtain ⟨h1,h2⟩:=Bool.and_eq_true_iff.mp h
  exact .of_bits (z0 (lm (log2_lt h1)) dC) (z0 (lm (log2_lt h2)) dC)
theorem B4 {b:Int} (h:iT b=true):b ≠ 0/\b.natAbs.log2 < 9000:=by
 unfold iT at h;obtain ⟨h1,h2⟩:=Bool.and_eq_true_iff.mp h;exact ⟨by simpa using h1,Nat.lt_succ_of_le (zS h2)⟩
theorem Fj (a b:Int):a.fdiv b=sZ a b:=by
 unfold sZ;split
 ·exact Int.fdiv_eq_ediv_of_nonneg _ oM
 ·rfl
theorem Fd (a b:Int):a.fmod b=m6 a b:=by
 unfold m6;split
 ·exact Int.fmod_eq_emod_of_nonneg _ oM
 ·rfl
theorem se {a b:Int} (h:t8 a b=true):Kb a b:=by
 unfold t8 at h;simp only [zC,yA] at h;obtain ⟨⟨h1,h2⟩,h3⟩:=h;have h2:=zS h2;exact ⟨h1,by omega,zJ (log2_lt h3) dC⟩
def Ju (o:Operator):R2:=fun x y H Q=>(∃ i j k,x=.int i/\y=.int j/\qY o i j=some k/\Q (.int k) H)\/(o=.Add/\∃ i j,x=.str i/\y=.str j/\i.length + j.length <= sizeLine/\Q (.str (i++j)) H)
section
variable {X:Cx}
theorem DK (o:Operator):kM X (binaryOp o) (Ju o):=by
 have hI:∀ (h:∀ i j k t u s (Q:Value->Shared->Prop) (E:Value->Shared->Prop),qY o i j=some k->Q (.int k s.toks) { s with toks:=s.toks + 1 }->wpAny (model X.prog X.w) X.A (binaryOp o (.int i t) (.int j u)) Q E s)
   (L5:List (Addr × Obj)) (s:Shared) (σ:St) (H:Hp) (x y:V) (v u:Value) (Q:VK),Inv X L5 σ H s->RelV x v->RelV y u->(∃ i j k,x=.int i/\y=.int j/\qY o i j=some k/\Q (.int k) H) ->
   wpAny (model X.prog X.w) X.A (binaryOp o v u) (EP X L5 σ Q) X.xe s:=by
  rintro h L5 s σ H x y v u Q I rx ry ⟨i,j,k,e1,e2,e3,q⟩;subst e1;subst e2;obtain ⟨t,rfl⟩:=rx;obtain ⟨t',rfl⟩:=ry;exact h i j k t t' s _ _ e3 ⟨.int k,H,I.tok _,⟨_,rfl⟩,q⟩
 intro L5 s σ H x y v u Q I rx ry h;rcases h with h | ⟨rfl,h⟩
 ·refine hI ?_ L5 s σ H x y v u Q I rx ry h
  intro i j k t u s Q E e q;cases o <;> simp only [qY] at e
  case Add=>cases e;exact add_int q
  case Sub=>cases e;exact sub_int q
  case Mult =>
   split at e
   ·rename_i hm;cases e;exact mul_int q (BG hm)
   ·cases e
  case FloorDiv =>
   split at e
   ·rename_i hm;cases e
    obtain ⟨h1,h2⟩:=B4 hm;exact floordiv_int h1 (by rw [Fj];exact q) (.inl (PyProof.noPylong_of_log2 h2))
   ·cases e
  case Mod =>
   split at e
   ·cases e
   ·rename_i hm;cases e
    exact mod_int' hm (by rw [Fd];exact q)
  case Pow =>
   split at e
   ·rename_i hm;cases e
    have c:=se hm;exact pow_int_small c.1 c.2.1 c.2.2 q
   ·cases e
  case LShift =>
   split at e
   ·rename_i hm;cases e
    have c:=se hm;exact lshift_int_small c.1 c.2.1 c.2.2 q
   ·cases e
  case RShift =>
   split at e
   ·rename_i hm;cases e
    exact rshift_int hm (by rw [Int.fdiv_eq_ediv_of_nonneg _ (tN _)];exact q)
   ·cases e
  case BitAnd=>cases e;exact and_int q
  case BitOr=>cases e;exact or_int q
  case BitXor=>cases e;exact xor_int q
  all_goals cases e
 ·exact ud L5 s σ H x y v u Q I rx ry h
theorem DW [L7] (o:Operator):kM X (binaryOp o) (r2 X.gm (jV (dL o))):=OpR_imp (DK o) fun v w H Q hq0=>by
 obtain ⟨P,φ,st,x,y,s,r1,r2,k⟩:=hq0;obtain ⟨z,e,k⟩:=k.map;cases x <;> cases y <;> simp only [dL] at e <;> first | (cases e;done) | skip
 ·rename_i a b
  simp only [RA] at r1 r2;obtain ⟨c,e1,e2⟩:=zE.mp e;subst e2;exact .inl ⟨a,b,c,r1,r2,e1,k.pure s (by simp only [RA])⟩
 ·rename_i a b
  simp only [RA] at r1 r2;split at e
  ·rename_i hc
   cases e;simp only [zC,yA] at hc;exact .inr ⟨hc.1,a,b,r1,r2,z0 (zS hc.2) dC,k.pure s (by simp only [RA])⟩
  ·cases e
theorem Df [L7] (ha:QE X a f) (hb:QE X b g):QE X (.BinOp a o b pos) (a2 f g (jV (dL o))) :=
 PE_imp (uc (DW o) ha hb) fun _ _ _ q=>uW q
end
end R
namespace R
open PySem PySem.Spec PyProof.Rows L2
open DD (PE_imp PT_imp PA_imp PS_imp PSs_imp OpR_imp PW_imp PG_imp pyOk reads_each any_vals obj_list obj_tup)
def dr (st:aa):AV->AV
 | .ref k=>match st[k]? with
  | some (.al t)=>t
  | _=>.ref k
 | v=>v
def bw (st:aa) (v:AV):Option (List AV):=match dr st v with
 | .fz xs=>some xs
 | .ref k=>match st[k]? with
  | some (.lst xs)=>some xs
  | _=>none
 | _=>none
def g7 (st:aa) (v:AV):Option (List AV):=match dr st v with
 | .tup xs=>some xs
 | _=>none
section
variable {mg:Gm}{P:Pr}{φ:List Addr}{st:aa}{H:Hp}{v:AV}{w:V}{xs:List AV}
theorem RA.dr [L7] (s:Sim mg P φ st H) (r:RA mg P H φ v w):RA mg P H φ (dr st v) w:=by
 cases v with
 | ref k =>
  unfold R.dr;dsimp only;split
  ·rename_i t h
   obtain ⟨a,e,c⟩:=s.at h;simp only [RA] at r;obtain ⟨a',e',rfl⟩:=r;rw [e] at e';cases e';exact c.2.lift
  ·exact r
 | _=>exact r
theorem RA.ls [L7] (s:Sim mg P φ st H) (r:RA mg P H φ v w) (h:bw st v=some xs):∃ a vs,w=.ref a/\bJ mg.K H a vs/\Ma mg P H φ xs vs:=by
 have r:=r.dr s;unfold bw at h;split at h
 ·rename_i ys e
  cases h;rw [e] at r;simp only [RA] at r;obtain ⟨a,vs,e1,e2,q⟩:=r;exact ⟨a,vs,e1,e2.sq,q.lift⟩
 ·rename_i k e
  rw [e] at r;simp only [RA] at r;obtain ⟨a,e1,e2⟩:=r;split at h
  ·rename_i ys e3
   cases h;obtain ⟨a',e4,c⟩:=s.at e3;rw [e1] at e4;cases e4;obtain ⟨_,vs,q1,q2⟩:=c;exact ⟨a,vs,e2,.inl (.inl q1),q2⟩
  ·cases h
 ·cases h
theorem RA.tp [L7] (s:Sim mg P φ st H) (r:RA mg P H φ v w) (h:g7 st v=some xs):∃ a vs,w=.ref a/\H a=some (.tup vs)/\Ma mg P H φ xs vs:=by
 have r:=r.dr s;unfold g7 at h;split at h
 ·rename_i ys e
  cases h;rw [e] at r;simp only [RA] at r;obtain ⟨a,vs,e1,_,e2,q⟩:=r;exact ⟨a,vs,e1,e2,q⟩
 ·cases h
end
noncomputable def bE {α β:Type} (f:α->Option β):List α->Option (List β)
 | []=>some []
 | x::xs=>(f x).bind fun y=>(bE f xs).map fun ys=>y::ys
theorem eW {α β γ:Type}{f:α->Option β}{i:γ->α}{g:γ->β} (h:∀ x,f (i x)=some (g x)) (xs:List γ):bE f (xs.map i)=some (xs.map g):=by
 induction xs with
 | nil=>rfl
 | cons x xs ih=>simp only [zO,bE,h,ih,bind_some,map_some]
def c6:Nat->aa->AV->Option PyData
 | _,_,.non=>some .none
 | _,_,.bl b=>some (.bool b)
 | _,_,.int i=>some (.int i)
 | _,_,.str x=>some (.str x)
 | n + 1,st,.fz xs=>(bE (c6 n st) xs).map .list
 | n + 1,st,.tup xs=>(bE (c6 n st) xs).map .tuple
 | n + 1,st,.ref k=>match st[k]? with
  | some (.lst xs)=>(bE (c6 n st) xs).map .list
  | some (.al t)=>c6 n st t
  | _=>none
 | 0,_,_=>none
section
variable {X:Cx}{L5:List (Addr × Obj)}{σ:St}{H:Hp}{s:Shared}{P:Pr}{φ:List Addr}{st:aa}
theorem pV [L7] {n:Nat} (ih:∀ t v p u,RA mg P H φ t v->c6 n st t=some p->RelV v u->∃ as,Reads s.heap u p as) :
  ∀ {xs:List AV}{vs:List V}{ps:List PyData}{us:List Value},Ma mg P H φ xs vs->bE (c6 n st) xs=some ps->Vals vs us->∃ as,ReadsAll s.heap us ps as:=by
 intro xs
 induction xs with
 | nil =>
  intro vs ps us r e q;simp only [Ma] at r;subst r;cases e;cases q;exact ⟨_,.nil⟩
 | cons x xs ihx =>
  intro vs ps us r e q;simp only [Ma] at r;obtain ⟨v,ws,rfl,r1,r2⟩:=r;simp only [bE] at e;obtain ⟨p,e1,e2⟩:=zA e;obtain ⟨qs,e3,e4⟩:=zE.mp e2;subst e4;cases q with
  | cons q1 q2 =>
   obtain ⟨as,ra⟩:=ih x v p _ r1 e1 q1;obtain ⟨bs,rb⟩:=ihx r2 e3 q2;exact ⟨_,.cons ra rb⟩
theorem gw [L7] (I:L2.Inv X L5 σ H s) (sm:Sim X.gm P φ st H):∀ (n:Nat) (t:AV) (v:V) (p:PyData) (u:Value),RA X.gm P H φ t v->c6 n st t=some p->RelV v u->∃ as,Reads s.heap u p as:=by
 have lst:∀ {a:Addr}{vs:List V}{u:Value}{ps:List PyData},bJ X.K H a vs->RelV (.ref a) u->(∀ {us:List Value},Vals vs us->∃ as,ReadsAll s.heap us ps as)->∃ as,Reads s.heap u (.list ps) as:=by
  intro a vs u ps h ru k;cases ru;obtain ⟨L9,ob,m,rv,e1,e2,e3⟩:=obj_list I h;obtain ⟨as,ra⟩:=k rv;exact ⟨_,.list e1 e2 e3 ra⟩
 have dg:∀ (n:Nat) (t:AV) (v:V) (p:PyData) (u:Value) (w:V),mw t=some w->RA X.gm P H φ t v->c6 n st t=some p->RelV v u->∃ as,Reads s.heap u p as:=by
  intro n t v p u w hs r e ru;cases t with
  | non=>cases n <;> (simp only [c6] at e;cases e;simp only [RA] at r;subst r;cases ru;exact ⟨_,.none⟩)
  | bl b=>cases n <;> (simp only [c6] at e;cases e;simp only [RA] at r;subst r;cases ru;exact ⟨_,.bool b⟩)
  | int i=>cases n <;> (simp only [c6] at e;cases e;simp only [RA] at r;subst r;obtain ⟨t,rfl⟩:=ru;exact ⟨_,.int i t⟩)
  | str x=>cases n <;> (simp only [c6] at e;cases e;simp only [RA] at r;subst r;obtain ⟨t,rfl⟩:=ru;exact ⟨_,.str x t⟩)
  | _=>cases hs
 intro n
 induction n with
 | zero =>
  intro t v p u r e ru;cases t with
  | non=>exact dg 0 _ v p u _ rfl r e ru
  | bl b=>exact dg 0 _ v p u _ rfl r e ru
  | int i=>exact dg 0 _ v p u _ rfl r e ru
  | str x=>exact dg 0 _ v p u _ rfl r e ru
  | _=>simp only [c6] at e;cases e
 | succ n ih =>
  intro t v p u r e ru;cases t with
  | non=>exact dg _ _ v p u _ rfl r e ru
  | bl b=>exact dg _ _ v p u _ rfl r e ru
  | int i=>exact dg _ _ v p u _ rfl r e ru
  | str x=>exact dg _ _ v p u _ rfl r e ru
  | fz xs =>
   simp only [c6] at e;obtain ⟨ps,e1,e2⟩:=zE.mp e;subst e2;simp only [RA] at r;obtain ⟨a,vs,rfl,h,q⟩:=r;exact lst h.sq ru fun rv=>pV ih q.lift e1 rv
  | tup xs =>
   simp only [c6] at e;obtain ⟨ps,e1,e2⟩:=zE.mp e;subst e2;simp only [RA] at r;obtain ⟨a,vs,rfl,_,h,q⟩:=r;cases ru;obtain ⟨L9,ob,m,rv,h1,h2,h3⟩:=obj_tup I (show gF X.K H a vs from .inl (.inl h));obtain ⟨as,ra⟩:=pV ih q e1 rv;exact ⟨_,.tuple h1 h2 h3 ra⟩
  | ref k =>
   simp only [c6] at e;simp only [RA] at r;obtain ⟨a,ea,rfl⟩:=r;split at e
   ·rename_i xs hk
    obtain ⟨ps,e1,e2⟩:=zE.mp e;subst e2;obtain ⟨a',ea',c⟩:=sm.at hk;rw [ea] at ea';cases ea';obtain ⟨_,vs,h,q⟩:=c;exact lst (.inl (.inl h)) ru fun rv=>pV ih q e1 rv
   ·rename_i t hk
    obtain ⟨a',ea',c⟩:=sm.at hk;rw [ea] at ea';cases ea';exact ih t _ p u c.2.lift e ru
   ·cases e
end
def m9 (st:aa) (x y:AV):Option Bool:=(c6 9 st x).bind fun p=>(c6 9 st y).bind fun q=>if pyOk p q=true then some (PyData.eqv p q) else none
def jv:AV->Option a0
 | .int i=>some (.inl i)
 | .str x=>some (.inr x)
 | _=>none
noncomputable def lU {κ:Type} [DecidableEq κ] (L6:List (κ × AV)) (k:κ):Option AV:=(L6.find? fun kv=>decide (kv.1=k)).map (·.2)
def iF (st:aa):AV->Option (List (a0 × AV))
 | .ref k=>match st[k]? with
  | some (.dK L6)=>some L6
  | _=>none
 | _=>none
def lL (st:aa):AV->Option (List (List a0 × AV))
 | .ref k=>match st[k]? with
  | some (.dT L6)=>some L6
  | _=>none
 | _=>none
def mj (st:aa) (y x:AV):Option (Option AV):=match iF st y with
 | some L6=>(jv x).map fun k=>lU L6 k
 | none=>match lL st y with
  | some L6=>match x with
   | .tup xs=>(bE jv xs).map fun k=>lU L6 k
   | _=>none
  | none=>none
def oQ (st:aa) (x y:AV):Option Bool:=match mj st y x with
 | some o=>some o.isSome
 | none=>match x,y with
  | .str a,.str b=>some (!(Builtin.Str.occurrences b a 0 b.length 1).isEmpty)
  | _,_=>(c6 9 st x).bind fun q=>(c6 9 st y).bind fun p=>match p with
   | .list ps=>if (ps.all fun r=>pyOk r q)=true then some (ps.any fun r=>PyData.eqv r q) else none
   | .tuple ps=>if (ps.all fun r=>pyOk r q)=true then some (ps.any fun r=>PyData.eqv r q) else none
   | _=>none
noncomputable def xx:CmpOp->Int->Int->Option Bool
 | .Lt,a,b=>some (decide (a < b))
 | .LtE,a,b=>some (decide (a <= b))
 | .Gt,a,b=>some (decide (b < a))
 | .GtE,a,b=>some (decide (b <= a))
 | _,_,_=>none
noncomputable def DZ:AV->Bool
 | .non=>true
 | _=>false
def ES (x y:AV):Option Bool:=match y with
 | .non=>some (DZ x)
 | .bl b=>(match x with
  | .bl a=>some (a == b)
  | _=>none)
 | _=>none
noncomputable def Ew:CmpOp->List AV->List AV->Option Bool
 | .Lt,[.int a,.int b],[.int c,.int d]=>some (if a=c then decide (b < d) else decide (a < c))
 | _,_,_=>none
def cC (o:CmpOp) (st:aa) (x y:AV):Option Bool:=match o with
 | .Eq=>m9 st x y
 | .NotEq=>(m9 st x y).map (!·)
 | .Is=>ES x y
 | .IsNot=>(ES x y).map (!·)
 | .In=>oQ st x y
 | .NotIn=>(oQ st x y).map (!·)
 | o=>match x,y with
  | .int a,.int b=>xx o a b
  | .tup xs,.tup ys=>Ew o xs ys
  | _,_=>none
def mn (o:CmpOp) (st:aa) (x y:AV):Option AV:=(cC o st x y).map .bl
theorem nY (h:pyOk p q=true):p.canLay0=true/\q.canLay0=true/\min p.depth q.depth <= 50:=by
 simp only [pyOk,zC,yA] at h;exact ⟨h.1.1,h.1.2,h.2⟩
theorem jr {P:Pr}{H:Hp}{φ:List Addr}{κ:Type} [DecidableEq κ] {L6:List (κ × AV)}{ws:List (κ × V)} (h:KVR mg P H φ L6 ws) (k:κ) :
  (lU L6 k).isSome=(eu ws k).isSome/\∀ v,lU L6 k=some v->∃ w,eu ws k=some w/\RA mg P H φ v w:=by
 induction L6 generalizing ws with
 | nil =>
  have:ws=[]:=by simpa using h.1.symm
  subst this;exact ⟨rfl,fun v e=>by cases e⟩
 | cons p L6 ih =>
  cases ws with
  | nil=>exact absurd h.1 (by simp)
  | cons q ws =>
   obtain ⟨h1,h2⟩:=h;rw [zO,zO] at h1 h2;injection h1 with h3 h4;simp only [Ma] at h2;obtain ⟨v,vs,h5,h6,h7⟩:=h2;injection h5 with h8 h9;subst h8;subst h9;by_cases e:q.1=k
   ·have e':p.1=k:=h3.trans e
    simp only [lU,eu,List.find?_cons,e,e',decide_true,map_some];refine ⟨rfl,fun v hv=>?_⟩;cases hv;exact ⟨_,rfl,h6⟩
   ·have e':¬ p.1=k:=fun z=>e (h3.symm.trans z)
    have:=ih (ws:=ws) ⟨h4,h7⟩
    simp only [lU,eu,List.find?_cons,e,e',decide_false] at this ⊢;exact this
section
variable {X:Cx}{L5:List (Addr × Obj)}{σ:St}{H:Hp}{s:Shared}{P:Pr}{φ:List Addr}{st:aa}
theorem mh (h:jv x=some k) (r:RA mg P H φ x v):v=kV k:=by
 cases x <;> simp only [jv] at h <;> first | (cases h;done) | skip
 ·cases h;simp only [RA] at r;exact r
 ·cases h;simp only [RA] at r;exact r
theorem oO [L7]:∀ {xs:List AV}{vs:List V}{k:List a0},bE jv xs=some k->Ma mg P H φ xs vs->vs=k.map kV:=by
 intro xs
 induction xs with
 | nil=>intro vs k e r;cases e;simp only [Ma] at r;exact r
 | cons x xs ih =>
  intro vs k e r;simp only [bE] at e;obtain ⟨p,e1,e2⟩:=zA e;obtain ⟨qs,e3,e4⟩:=zE.mp e2;subst e4;simp only [Ma] at r;obtain ⟨v,ws,rfl,r1,r2⟩:=r;rw [mh e1 r1,ih e3 r2];rfl
theorem qE [L7] (sm:Sim X.gm P φ st H) {x y:AV}{v w:V}{o:Option AV} (h:mj st y x=some o) (rx:RA X.gm P H φ x v) (ry:RA X.gm P H φ y w) :
  ∃ a o',w=.ref a/\DGet H a v o'/\o.isSome=o'.isSome/\∀ t,o=some t->∃ u,o'=some u/\RA X.gm P H φ t u:=by
 unfold mj at h;split at h
 ·rename_i L6 e
  obtain ⟨k,e1,e2⟩:=zE.mp h;subst e2;cases y <;> simp only [iF] at e <;> first | (cases e;done) | skip
  split at e
  ·rename_i j kvs' e3
   cases e;simp only [RA] at ry;obtain ⟨a,ea,rfl⟩:=ry;obtain ⟨a',ea',c⟩:=sm.at e3;rw [ea] at ea';cases ea';obtain ⟨_,ws,q1,q2⟩:=c
   have:=mh e1 rx
   subst this;exact ⟨a,_,rfl,DGet.k q1,(jr q2 k).1,(jr q2 k).2⟩
  ·cases e
 ·split at h
  ·rename_i L6 e
   split at h
   ·rename_i xs
    obtain ⟨k,e1,e2⟩:=zE.mp h;subst e2;cases y <;> simp only [lL] at e <;> first | (cases e;done) | skip
    split at e
    ·rename_i j kvs' e3
     cases e;simp only [RA] at ry;obtain ⟨a,ea,rfl⟩:=ry;obtain ⟨a',ea',c⟩:=sm.at e3;rw [ea] at ea';cases ea';obtain ⟨_,ws,q1,q2⟩:=c;simp only [RA] at rx;obtain ⟨b,vs,rfl,_,hb,rr⟩:=rx;rw [oO e1 rr] at hb;exact ⟨a,_,rfl,DGet.t q1 hb,(jr q2 k).1,(jr q2 k).2⟩
    ·cases e
   ·cases h
  ·cases h
theorem qB (hu:X.A.units + 64 < cLine) {v:Value}{q:PyData}{as bs:List Addr}{ps:List PyData}{items:Array Value} (ra:Reads s.heap v q as) (rb:ReadsAll s.heap items.toList ps bs) (hk:(ps.all fun r=>pyOk r q)=true) :
  ∃ e:Value->Bool,(∀ z ∈ items,SeqAt.EqAt X.A.in1 s z v (e z))/\items.any e=ps.any fun r=>PyData.eqv r q:=by
 classical
 have uq:∀ z p' az,Reads s.heap z p' az->decide (∃ p as,Reads s.heap z p as/\PyData.eqv p q=true)=PyData.eqv p' q:=by
  intro z p' az rz;rcases he:PyData.eqv p' q with _ | _
  ·refine z8 ?_
   rintro ⟨p2,as',r',e'⟩
   have:=(PySem.Reads.unique rz p2 as' r').1
   rw [<- this,he] at e';cases e'
  ·exact yR ⟨p',az,rz,he⟩
 refine ⟨fun z=>decide (∃ p as,Reads s.heap z p as/\PyData.eqv p q=true),fun z hz=>?_,?_⟩
 ·obtain ⟨pz,az,hpz,rz⟩:=reads_each rb z (by simpa using hz)
  obtain ⟨k1,k2,k3⟩:=nY (yN.mp hk pz hpz);dsimp only;rw [uq z pz az rz];exact PySem.SeqAt.eqAt_reads pz q _ s z v az as rz ra k1 k2 (by simp only [Around.in1_units];omega)
 ·have hc:=any_vals (q:=q) (e:=fun z=>decide (∃ p as,Reads s.heap z p as/\PyData.eqv p q=true)) (h:=s.heap) (fun v p as rv=>uq v p as rv) rb
  rw [<- hc];simp
theorem sS [L7] (hu:X.A.units + 64 < cLine) (I:L2.Inv X L5 σ H s) (sm:Sim X.gm P φ st H) {x y:AV}{v w:V}{u r:Value}{b:Bool} (h:oQ st x y=some b) (rx:RA X.gm P H φ x v) (ry:RA X.gm P H φ y w) (ru:RelV v u) (rr:RelV w r) {E:Value->Shared->Prop}
  {Q:Value->Shared->Prop}{Q':Value->Shared->Prop} (hQ:∀ s',L2.Inv X L5 σ H s'->Q (.bool b) s') (hQ':∀ s',L2.Inv X L5 σ H s'->Q' (.bool (!b)) s') :
  wpAny (model X.prog X.w) X.A (compareOp .In u r) Q E s/\wpAny (model X.prog X.w) X.A (compareOp .NotIn u r) Q' E s:=by
 unfold oQ at h;split at h
 ·rename_i o e
  cases h;obtain ⟨a,o',rfl,g,eo,_⟩:=qE sm e rx ry;cases rr;exact ⟨JS oM I g ru fun s' I'=>by rw [<- eo];exact hQ s' I',B5 oM I g ru fun s' I'=>by rw [<- eo];exact hQ' s' I'⟩
 ·split at h
  ·rename_i a c
   cases h;simp only [RA] at rx ry;subst rx;subst ry;obtain ⟨t,rfl⟩:=ru;obtain ⟨t',rfl⟩:=rr;exact ⟨in_str (hQ s I),notIn_str (hQ' s I)⟩
  ·obtain ⟨q,e1,e2⟩:=zA h
   obtain ⟨p,e3,e4⟩:=zA e2;obtain ⟨as,ra⟩:=gw I sm 9 _ _ _ _ rx e1 ru;obtain ⟨bs,rb⟩:=gw I sm 9 _ _ _ _ ry e3 rr;split at e4
   ·rename_i ps
    split at e4
    ·rename_i hk
     cases e4;cases rb with
     | @list a o items n xs as' hg hc hdt rall =>
      obtain ⟨e,he,ee⟩:=qB hu ra rall hk;have hl:s.heap.IsList a items:=⟨o,hg,hc,n,hdt⟩;exact ⟨SeqAt.in_listAt e hl he (by rw [ee];exact hQ s I),SeqAt.notIn_listAt e hl he (by rw [ee];exact hQ' s I)⟩
    ·cases e4
   ·rename_i ps
    split at e4
    ·rename_i hk
     cases e4;cases rb with
     | @tuple a o items n xs as' hg hc hdt rall =>
      obtain ⟨e,he,ee⟩:=qB hu ra rall hk;have hl:IsTup s.heap a items:=⟨o,hg,hc,n,hdt⟩;exact ⟨SeqAt.in_tupleAt e hl he (by rw [ee];exact hQ s I),SeqAt.notIn_tupleAt e hl he (by rw [ee];exact hQ' s I)⟩
    ·cases e4
   ·cases e4
end
end R
namespace PySem.W
open PySem.Calls PyProof.Rows PySem.Spec
theorem AD (x y:Addr) (a b c d:Int) (t1 t2 t3 t4:Tok) (hp0:Heap) (h1:IsTup hp0 x #[.int a t1,.int b t2]) (h2:IsTup hp0 y #[.int c t3,.int d t4]) :
  Meets (Builtin.«tuple.__lt__» ⟨[.ref x,.ref y],[]⟩)
   (fun _ R s=>s.heap=hp0/\R (.ok (.ret (.bool (if a=c then decide (b < d) else decide (a < c))))) s):=by
 intro prog w A R s h;obtain ⟨hp,g,dd,tk,os⟩:=s;obtain ⟨rfl,h⟩:=h;have f3:=PySem.AutoSeq1.sub_tuple_tuple;obtain ⟨o2,g2,c2,n2,d2⟩:=id h2;show wpAny _ _ _ _ _ _
 wp_walk using PySem.AutoSeq1.wpAny_loadPart' g2
 rw [c2,f3];refine yE ?_;show wpAny (model prog w) A.in1 (Builtin.Tuple.tupleItemsOf (.ref x) >>= _) _ _ _;refine yD (tupleItemsOf_ h1 ?_);refine yD (tupleItemsOf_ h2 ?_);dsimp only [List.zip_cons_cons,List.zip_nil_right];refine yD ?_;rw [List.forIn_cons];refine yD ?_;show wpAny (model prog w) A.in1 (eqBool (.int a t1) (.int c t3) >>= _) _ _ _;refine yD (wpAny_eqBool_int ?_);by_cases e:a=c
 ·rw [yG e] at h
  rw [show (a == c)=true by simp [e]];refine yE ?_;dsimp only;rw [List.forIn_cons];refine yD ?_;show wpAny (model prog w) A.in1 (eqBool (.int b t2) (.int d t4) >>= _) _ _ _;refine yD (wpAny_eqBool_int ?_);by_cases e2:b=d
  ·rw [show (b == d)=true by simp [e2]]
   refine yE ?_;dsimp only;rw [List.zip_nil_right,List.forIn_nil];refine yE ?_;rw [z8 oM] at h
   wp_walk
   exact h
  ·rw [show (b == d)=false by simpa using e2]
   wp_walk using HT.rcLt_int A.in1 ⟨hp,g,dd,tk,os⟩ b t2 d t4 prog w
   exact h
 ·rw [yF e] at h
  rw [show (a == c)=false by simpa using e]
  wp_walk using HT.rcLt_int A.in1 ⟨hp,g,dd,tk,os⟩ a t1 c t3 prog w
  exact h
end PySem.W
namespace R
open PySem PySem.Spec PyProof.Rows L2 PySem.W
theorem BK {prog:Program}{w:World}{A:Around}{Q:Value->Shared->Prop}{E:Value->Shared->Prop}{s:Shared}{x y:Addr}{a b c d:Int}{t1 t2 t3 t4:Tok} (hu:A.units < cLine) (h1:IsTup s.heap x #[.int a t1,.int b t2]) (h2:IsTup s.heap y #[.int c t3,.int d t4])
  (h:Q (.bool (if a=c then decide (b < d) else decide (a < c))) s):wpAny (model prog w) A (compareOp .Lt (.ref x) (.ref y)) Q E s:=by
 obtain ⟨o1,g1,c1,_⟩:=id h1;obtain ⟨o2,g2,c2,_⟩:=id h2;exact cmp_ofLt (richCompare_meets_room (op:=.Lt) (T:="tuple") ⟨o1,g1,c1⟩ ⟨o2,g2,c2⟩ PySem.F.slot_tuple_lt PySem.F.entry_tuple_lt (PySem.F.args_tuple_lt_2 _ _) (AD x y a b c d t1 t2 t3 t4 s.heap h1 h2) ⟨rfl,(fun e=>nomatch e),h⟩ hu)
end R
namespace R
open PySem PySem.Spec PyProof.Rows L2
open DD (PE_imp PT_imp PA_imp PS_imp PSs_imp OpR_imp PW_imp PG_imp pyOk)
section
variable {X:Cx}
theorem vO [L7] (hu:X.A.units + 64 < cLine) (o:CmpOp):kM X (compareOp o) (r2 X.gm (jV (mn o))):=by
 rintro L5 s σ H v w u r Q I ru rr ⟨P,φ,st,x,y,sm,rx,ry,k⟩;obtain ⟨z,e,k⟩:=k.map;obtain ⟨b,e1,e2⟩:=zE.mp e;subst e2;have aF:∀ s',L2.Inv X L5 σ H s'->EP X L5 σ Q (.bool b) s':=fun s' I'=>⟨.bl b,H,I',rfl,k.pure sm (by simp only [RA])⟩
 have neg:∀ {o:Option Bool},o.map (!·)=some b->∃ c,o=some c/\b=!c:=fun h=>by
  obtain ⟨c,h1,h2⟩:=zE.mp h;exact ⟨c,h1,h2.symm⟩
 have eq:∀ {c:Bool},m9 st x y=some c->∀ {Q:Value->Shared->Prop}{E:Value->Shared->Prop},(Q (.bool c) s->wpAny (model X.prog X.w) X.A (compareOp .Eq u r) Q E s)/\(Q (.bool (!c)) s->wpAny (model X.prog X.w) X.A (compareOp .NotEq u r) Q E s):=by
  intro c h Q E;unfold m9 at h;obtain ⟨p,h1,h2⟩:=zA h;obtain ⟨q,h3,h4⟩:=zA h2;split at h4
  ·rename_i hk
   cases h4;obtain ⟨c1,c2,hd⟩:=nY hk;obtain ⟨as,ra⟩:=gw I sm 9 _ _ _ _ rx h1 ru;obtain ⟨bs,rb⟩:=gw I sm 9 _ _ _ _ ry h3 rr;exact ⟨fun q=>SeqAt.eqOverData _ _ _ _ _ _ _ _ _ _ _ _ ra rb c1 c2 oM q,fun q=>SeqAt.neOverData _ _ _ _ _ _ _ _ _ _ _ _ ra rb c1 c2 oM q⟩
  ·cases h4
 have is:∀ {c:Bool},ES x y=some c->∀ {Q:Value->Shared->Prop}{E:Value->Shared->Prop},(Q (.bool c) s->wpAny (model X.prog X.w) X.A (compareOp .Is u r) Q E s)/\(Q (.bool (!c)) s->wpAny (model X.prog X.w) X.A (compareOp .IsNot u r) Q E s):=by
  intro c h Q E;have nn:y=.non->c=(u == Value.none)->(Q (.bool c) s->wpAny (model X.prog X.w) X.A (compareOp .Is u r) Q E s)/\(Q (.bool (!c)) s->wpAny (model X.prog X.w) X.A (compareOp .IsNot u r) Q E s):=fun hy hc=>by
   subst hy;simp only [RA] at ry;subst ry;cases rr;exact ⟨fun q=>is_none_gen (by rw [<- hc];exact q),fun q=>isnot_none_gen (by rw [<- hc];exact q)⟩
  cases y with
  | non =>
   have h:some (DZ x)=some c:=h;cases h;refine nn rfl ?_;cases x with
   | non=>simp only [RA] at rx;subst rx;cases ru;rfl
   | _=>rw [RelV.none_iff ru];refine (z8 fun hv=>?_).symm;subst hv;simp only [RA] at rx;first | (cases rx;done) | (obtain ⟨_,_,z,_⟩:=rx;cases z;done) | (obtain ⟨_,_,z⟩:=rx;cases z;done)
  | bl d=>cases x with
   | bl a =>
    cases h;simp only [RA] at rx ry;subst rx;subst ry;cases ru;cases rr;cases a <;> cases d <;> exact ⟨fun q=>yE q,fun q=>yE q⟩
   | _=>exact nomatch h
  | _=>exact nomatch h
 have ord:∀ {a c:Int},x=.int a->y=.int c->xx o a c=some b->wpAny (model X.prog X.w) X.A (compareOp o u r) (EP X L5 σ Q) X.xe s:=by
  intro a c hx hy ho;subst hx;subst hy;simp only [RA] at rx ry;subst rx;subst ry;obtain ⟨t,rfl⟩:=ru;obtain ⟨t',rfl⟩:=rr;cases o <;> simp only [xx] at ho <;> first | (cases ho;done) | skip
  ·cases ho;exact lt_int (aF s I)
  ·cases ho;exact le_int (aF s I)
  ·cases ho;exact gt_int (aF s I)
  ·cases ho;exact ge_int (aF s I)
 have tl:∀ {as cs:List AV},x=.tup as->y=.tup cs->Ew o as cs=some b->wpAny (model X.prog X.w) X.A (compareOp o u r) (EP X L5 σ Q) X.xe s:=by
  intro as cs hx hy ho;unfold Ew at ho;split at ho
  ·cases ho
   subst hx;subst hy;obtain ⟨_,ra⟩:=gw I sm 9 _ _ _ _ rx rfl ru;obtain ⟨_,rb⟩:=gw I sm 9 _ _ _ _ ry rfl rr;cases ra with
   | @tuple a1 o1 i1 n1 x1 as1 g1 c1 d1 q1 =>
   cases rb with
   | @tuple a2 o2 i2 n2 x2 as2 g2 c2 d2 q2 =>
   obtain ⟨l1⟩:=i1;obtain ⟨l2⟩:=i2;rcases q1 with _ | ⟨p1,_ | ⟨p2,_ | _⟩⟩;rcases q2 with _ | ⟨p3,_ | ⟨p4,_ | _⟩⟩;cases p1;cases p2;cases p3;cases p4;exact BK oM ⟨o1,g1,c1,n1,d1⟩ ⟨o2,g2,c2,n2,d2⟩ (aF s I)
  ·cases ho
 cases o <;> simp only [cC] at e1
 case Eq=>exact (eq e1).1 (aF s I)
 case NotEq=>obtain ⟨c,h1,rfl⟩:=neg e1;exact (eq h1).2 (aF s I)
 case Is=>exact (is e1).1 (aF s I)
 case IsNot=>obtain ⟨c,h1,rfl⟩:=neg e1;exact (is h1).2 (aF s I)
 case In=>exact (sS hu I sm e1 rx ry ru rr (Q':=fun _ _=>True) aF fun _ _=>trivial).1
 case NotIn=>obtain ⟨c,h1,rfl⟩:=neg e1;exact (sS hu I sm h1 rx ry ru rr (Q:=fun _ _=>True) (fun _ _=>trivial) aF).2
 all_goals
  split at e1
  ·exact ord rfl rfl e1
  ·exact tl rfl rfl e1
  ·cases e1
noncomputable def k7 (op:CmpOp) (b:Expr):Bool:=!(behindInMarks op b)
theorem qo (h:k7 op b=true):behindInMarks op b=false:=by simpa [k7] using h
theorem De [L7] (hu:X.A.units + 64 < cLine) (ha:QE X a f) (hb:QE X b g) (hm:k7 o b=true):QE X (.Compare a [o] [b] pos) (a2 f g (jV (mn o))) :=
 PE_imp (Bt (vO hu o) ha hb (qo hm)) fun _ _ _ q=>uW q
def Cz (f g:EF) (o:CmpOp):TF:=fun sl st=>(f sl st).bind fun p=>(g sl p.2).bind fun q=>(cC o q.2 p.1 q.1).map fun b=>(b,q.2)
theorem CS [L7] (hu:X.A.units + 64 < cLine) (ha:QE X a f) (hb:QE X b g) (hm:k7 o b=true):QT X (.Compare a [o] [b] pos) (Cz f g o) :=
 PT_imp (Ba (vO hu o) ha hb (qo hm)) fun σ H Q hq0=>by
  obtain ⟨P,φ,sl,st,rs,s,k⟩:=hq0;refine uW (k:=jV (mn o)) ⟨P,φ,sl,st,rs,s,?_⟩;obtain ⟨b,st',e,q⟩:=k;unfold Cz at e;obtain ⟨p,e1,e2⟩:=zA e;obtain ⟨r,e3,e4⟩:=zA e2;obtain ⟨c,e5,e6⟩:=zE.mp e4;injection e6 with e7 e8;subst e7;subst e8;refine ⟨.bl c,r.2,by simp only [a2,e1,bind_some,e3,jV,mn,e5,map_some],fun P' φ' H' w f' s' r'=>?_⟩;simp only [RA] at r';exact ⟨c,r',q P' φ' H' c f' s' rfl⟩
def lx (o:UnaryOp) (_:aa):AV->Option AV
 | .int i=>match o with
  | .USub=>some (.int (-i))
  | .Invert=>some (.int (Builtin.bitNot i))
  | _=>none
 | _=>none
theorem Gr [L7] (ha:QE X a f):QE X (.UnaryOp o a pos) (a1 f (CF (lx o))):=by
 have h:wx X (unaryOp o) (r1 X.gm (CF (lx o))):=by
  rintro L5 s σ H v u Q I ru ⟨P,φ,st,x,sm,rx,k⟩;obtain ⟨z,e,k⟩:=k.map;cases x <;> simp only [lx] at e <;> first | (cases e;done) | skip
  rename_i i;simp only [RA] at rx;subst rx;cases o <;> first | (cases e;done) | skip
  ·cases e
   exact Cm L5 s σ H _ u Q I ru ⟨i,rfl,k.pure sm (by simp only [RA])⟩
  ·cases e
   exact Cl L5 s σ H _ u Q I ru ⟨i,rfl,k.pure sm (by simp only [RA])⟩
 exact PE_imp (GB h ha) fun _ _ _ q=>J8 q
def dH (st:aa) (v:AV):Option Bool:=match bw st v with
 | some xs=>some !xs.isEmpty
 | none=>match v with
  | .non=>some false
  | .bl b=>some b
  | .int i=>some (i != 0)
  | .str x=>if Nat.ble x.length 1000000=true then some ((x.length:Int) != 0) else none
  | .tup xs=>some !xs.isEmpty
  | v=>(iF st v).map fun L6=>!L6.isEmpty
theorem oU (r:Ma mg P H φ xs vs):vs.isEmpty=xs.isEmpty:=by
 cases xs with
 | nil=>simp only [Ma] at r;subst r;rfl
 | cons x xs=>simp only [Ma] at r;obtain ⟨v,ws,rfl,_⟩:=r;rfl
theorem wK [L7] {P:Pr}{H:Hp}{φ:List Addr}{st:aa} (sm:Sim X.gm P φ st H) {v:AV}{w:V}{b:Bool} (h:dH st v=some b) (r:RA X.gm P H φ v w):yt X.K w H b:=by
 unfold dH at h;split at h
 ·rename_i xs e
  cases h;obtain ⟨a,vs,rfl,rd,q⟩:=r.ls sm e;exact .inl ⟨vs,rd,by rw [oU q]⟩
 ·cases v <;> simp only at h
  case non=>cases h;simp only [RA] at r;subst r;exact rfl
  case bl=>cases h;simp only [RA] at r;subst r;exact rfl
  case int=>cases h;simp only [RA] at r;subst r;exact rfl
  case str x =>
   simp only [RA] at r;subst r;split at h
   ·rename_i hl;cases h;exact ⟨z0 (zS hl) dC,rfl⟩
   ·cases h
  case tup xs =>
   cases h;simp only [RA] at r;obtain ⟨a,vs,rfl,_,e,q⟩:=r;exact .inr (.inl ⟨vs,.inl (.inl e),by rw [oU q]⟩)
  case fz=>obtain ⟨_,z,_⟩:=zE.mp h;simp [iF] at z
  case ref k =>
   obtain ⟨L6,e1,e2⟩:=zE.mp h;subst e2;simp only [iF] at e1;split at e1
   ·rename_i kvs' hk
    cases e1;simp only [RA] at r;obtain ⟨a,ea,rfl⟩:=r;obtain ⟨a',ea',c⟩:=sm.at hk;rw [ea] at ea';cases ea';obtain ⟨_,ws,q1,q2,q3⟩:=c;refine .inr (.inr ⟨ws,q1,?_⟩)
    have:=congrArg List.isEmpty q2
    simpa using this
   ·cases e1
def tV (f:EF):TF:=fun sl st=>(f sl st).bind fun p=>(dH p.2 p.1).map fun b=>(b,p.2)
theorem CP [L7] (ha:QE X a f) (he:∀ whole,isTrue a X.env whole=(do let v <- whole;standAt a.pos;holding [v] (truthy v))):QT X a (tV f) :=
 PT_imp (xb ha he) fun σ H Q ⟨P,φ,sl,st,rs,s,k⟩=>⟨P,φ,sl,st,rs,s,by
  obtain ⟨a,st',e1,q⟩:=k.bind (Ra:=RA);refine ⟨a,st',e1,fun P1 φ1 H1 b f1 s1 r1=>?_⟩;obtain ⟨P2,φ2,st2,x,f2,s2,r2,k2⟩:=q P1 φ1 H1 b f1 s1 r1;obtain ⟨c,e2,k2⟩:=k2.map;exact ⟨c,wK s2 e2 r2,k2.pure s2 rfl⟩⟩
def HX (f g:TF):TF:=fun sl st=>(f sl st).bind fun p=>if p.1=true then g sl p.2 else some (false,p.2)
def Ct (f g:TF):TF:=fun sl st=>(f sl st).bind fun p=>if p.1=true then some (true,p.2) else g sl p.2
def HV (f:TF):TF:=fun sl st=>(f sl st).bind fun p=>some (!p.1,p.2)
section
variable {a b:Expr}{rest:List Expr}{pos:Pos}{f g:TF}
theorem mC [L7] (op:BoolOp) (ha:QT X a f):QW X (.BoolOp op [a] pos) f:=by
 cases op
 ·exact A9 ha
 ·exact Dh ha
theorem mD [L7] (ha:QT X a f) (hb:QW X (.BoolOp .And (b::rest) pos) g):QW X (.BoolOp .And (a::b::rest) pos) (HX f g) :=
 PW_imp (Di ha hb) fun σ H Q ⟨P,φ,sl,st,rs,s,k⟩=>⟨P,φ,sl,st,rs,s,by
  obtain ⟨a,st',e1,q⟩:=k.bind (Ra:=RB);refine ⟨a,st',e1,fun P1 φ1 H1 c f1 s1 r1=>?_⟩;obtain ⟨P2,φ2,st2,x,f2,s2,r2,k2⟩:=q P1 φ1 H1 c f1 s1 r1;cases r2;cases c with
  | true=>exact ⟨P2,φ2,sl,st2,rs.frm f2,s2,k2⟩
  | false=>exact k2.pure s2 rfl⟩
theorem pw [L7] (ha:QT X a f) (hb:QW X (.BoolOp .Or (b::rest) pos) g):QW X (.BoolOp .Or (a::b::rest) pos) (Ct f g) :=
 PW_imp (Gx ha hb) fun σ H Q ⟨P,φ,sl,st,rs,s,k⟩=>⟨P,φ,sl,st,rs,s,by
  obtain ⟨a,st',e1,q⟩:=k.bind (Ra:=RB);refine ⟨a,st',e1,fun P1 φ1 H1 c f1 s1 r1=>?_⟩;obtain ⟨P2,φ2,st2,x,f2,s2,r2,k2⟩:=q P1 φ1 H1 c f1 s1 r1;cases r2;cases c with
  | false=>exact ⟨P2,φ2,sl,st2,rs.frm f2,s2,k2⟩
  | true=>exact k2.pure s2 rfl⟩
theorem CQ [L7] (ha:QT X a f):QT X (.UnaryOp .Not a pos) (HV f) :=
 PT_imp (Dj ha) fun σ H Q ⟨P,φ,sl,st,rs,s,k⟩=>⟨P,φ,sl,st,rs,s,by
  obtain ⟨a,st',e1,q⟩:=k.bind (Ra:=RB);refine ⟨a,st',e1,fun P1 φ1 H1 c f1 s1 r1=>?_⟩;obtain ⟨P2,φ2,st2,x,f2,s2,r2,k2⟩:=q P1 φ1 H1 c f1 s1 r1;cases r2;exact k2.pure s2 rfl⟩
end
def Aq (f g:EF):EF:=fun sl st=>(f sl st).bind fun p=>match p.1 with
 | .bl true=>g sl p.2
 | .bl false=>some (.bl false,p.2)
 | _=>none
def Ao (f g:EF):EF:=fun sl st=>(f sl st).bind fun p=>match p.1 with
 | .bl false=>g sl p.2
 | .bl true=>some (.bl true,p.2)
 | _=>none
def IK (f:EF):EF:=fun sl st=>(f sl st).bind fun p=>match p.1 with
 | .bl b=>some (.bl !b,p.2)
 | _=>none
def IL (t:TF) (f g:EF):EF:=fun sl st=>(t sl st).bind fun p=>if p.1=true then f sl p.2 else g sl p.2
section
variable {a b c:Expr}{rest:List Expr}{pos:Pos}{f g:EF}{t:TF}
theorem KG.no [L7] {α β:Type}{Ra:Gm->Pr->Hp->List Addr->α->β->Prop}{Q:β->Hp->Prop} (h:KG mg Ra P φ H none Q):False:=by obtain ⟨_,_,e,_⟩:=h;cases e
theorem vt [L7] (ha:QE X a f) (hb:QE X (.BoolOp .And (b::rest) pos) g):QE X (.BoolOp .And (a::b::rest) pos) (Aq f g) :=
 PE_imp (DF ha hb) fun σ H Q ⟨P,φ,sl,st,rs,s,k⟩=>⟨P,φ,sl,st,rs,s,by
  obtain ⟨a,st',e1,q⟩:=k.bind (Ra:=RA);refine ⟨a,st',e1,fun P1 φ1 H1 c f1 s1 r1=>?_⟩;obtain ⟨P2,φ2,st2,x,f2,s2,r2,k2⟩:=q P1 φ1 H1 c f1 s1 r1;cases x <;> first | exact k2.no.elim | skip
  rename_i d;simp only [RA] at r2;refine ⟨d,r2,?_⟩;cases d with
  | true=>exact ⟨P2,φ2,sl,st2,rs.frm f2,s2,k2⟩
  | false=>exact k2.pure s2 (by simp only [RA])⟩
theorem zm [L7] (ha:QE X a f) (hb:QE X (.BoolOp .Or (b::rest) pos) g):QE X (.BoolOp .Or (a::b::rest) pos) (Ao f g) :=
 PE_imp (GC ha hb) fun σ H Q ⟨P,φ,sl,st,rs,s,k⟩=>⟨P,φ,sl,st,rs,s,by
  obtain ⟨a,st',e1,q⟩:=k.bind (Ra:=RA);refine ⟨a,st',e1,fun P1 φ1 H1 c f1 s1 r1=>?_⟩;obtain ⟨P2,φ2,st2,x,f2,s2,r2,k2⟩:=q P1 φ1 H1 c f1 s1 r1;cases x <;> first | exact k2.no.elim | skip
  rename_i d;simp only [RA] at r2;refine ⟨d,r2,?_⟩;cases d with
  | false=>exact ⟨P2,φ2,sl,st2,rs.frm f2,s2,k2⟩
  | true=>exact k2.pure s2 (by simp only [RA])⟩
theorem Db [L7] (ha:QE X a f):QE X (.UnaryOp .Not a pos) (IK f) :=
 PE_imp (Dy ha) fun σ H Q ⟨P,φ,sl,st,rs,s,k⟩=>⟨P,φ,sl,st,rs,s,by
  obtain ⟨a,st',e1,q⟩:=k.bind (Ra:=RA);refine ⟨a,st',e1,fun P1 φ1 H1 c f1 s1 r1=>?_⟩;obtain ⟨P2,φ2,st2,x,f2,s2,r2,k2⟩:=q P1 φ1 H1 c f1 s1 r1;cases x <;> first | exact k2.no.elim | skip
  rename_i d;simp only [RA] at r2;exact ⟨d,r2,k2.pure s2 (by simp only [RA])⟩⟩
theorem Gw [L7] (hc:QT X c t) (ha:QE X a f) (hb:QE X b g):QE X (.IfExp c a b pos) (IL t f g) :=
 PE_imp (xr hc ha hb) fun σ H Q ⟨P,φ,sl,st,rs,s,k⟩=>⟨P,φ,sl,st,rs,s,by
  obtain ⟨a,st',e1,q⟩:=k.bind (Ra:=RB);refine ⟨a,st',e1,fun P1 φ1 H1 c f1 s1 r1=>?_⟩;obtain ⟨P2,φ2,st2,x,f2,s2,r2,k2⟩:=q P1 φ1 H1 c f1 s1 r1;cases r2;cases c with
  | true=>exact ⟨P2,φ2,sl,st2,rs.frm f2,s2,k2⟩
  | false=>exact ⟨P2,φ2,sl,st2,rs.frm f2,s2,k2⟩⟩
end
def cE (st:aa) (x y:AV):Option AV:=match mj st x y with
 | some o=>o
 | none=>match y with
  | .int i=>match bw st x with
   | some xs=>fN xs i
   | none=>match g7 st x with
    | some xs=>fN xs i
    | none=>match x with
     | .str z=>if Nat.ble z.length 1000000=true then (fN z.cps.toList i).map fun c=>.str ⟨#[c]⟩ else none
     | _=>none
  | _=>none
theorem oy {i:Int} (r:Ma mg P H φ xs vs) (h:fN xs i=some x):∃ v,fN vs i=some v/\RA mg P H φ x v:=by
 unfold fN at h ⊢;rw [<- r.length];obtain ⟨j,e1,e2⟩:=zA h;rw [e1,bind_some];exact r.get e2
theorem BR (hu:X.A.units + 64 < cLine):IxR X (fun x y H Q=>∃ a v,x=.ref a/\DGet H a y (some v)/\Q v H):=by
 rintro value slice L5 s σ H x y v u Q I rx ry ⟨a,t,ex,g,q⟩ hs;subst ex;cases rx;have hT:=rJ I g;unfold subscriptTail;refine yD ?_;rw [getitemInPython_of_ne hT.not_modules];refine yD (wpAny_specialOf hT PySem.F.slot_dict_getitem.lookup ?_);have aF:wpAny (model X.prog X.w) X.A (subscripted slice false (.ref a) u) (fun r s₃=>wpAny (model X.prog X.w) X.A (letTemporaryGo value (.ref a) r >>= fun _=>pure r) (EP X L5 σ Q) X.xe s₃) X.xe s:=by
  rw [hs];exact wpAny_operating (wg oM I g ry fun w' s3 I3 rw'=>yD (wpAny_letTemporaryGo (yE ⟨t,H,I3,rw',q⟩)))
 first
  | exact yE (yD aF)
  | exact yD (yE (yD aF))
  | exact yD aF
theorem JJ [L7] (hu:X.A.units + 64 < cLine):IxR X (r2 X.gm (jV cE)):=by
 rintro value slice L5 s σ H v w u r Q I ru rr ⟨P,φ,st,x,y,sm,rx,ry,k0⟩ hs;obtain ⟨z,e,k⟩:=k0.map;clear k0;unfold cE at e;split at e
 ·rename_i o eo
  subst e;obtain ⟨a,o',rfl,g,_,g2⟩:=qE sm eo ry rx;obtain ⟨t,rfl,rt⟩:=g2 z rfl;exact BR hu value slice L5 s σ H _ _ u r Q I ru rr ⟨a,t,rfl,g,k.pure sm rt⟩ hs
 ·cases y with
  | int i =>
   simp only [RA] at ry;subst ry;dsimp only at e;split at e
   ·rename_i xs el
    obtain ⟨a,vs,rfl,rd,q⟩:=rx.ls sm el;obtain ⟨t,e2,rt⟩:=oy q e;exact qy value slice L5 s σ H _ _ u r Q I ru rr (.inl ⟨a,vs,i,t,rfl,rfl,rd,e2,k.pure sm rt⟩) hs
   ·split at e
    ·rename_i xs el
     obtain ⟨a,vs,rfl,rd,q⟩:=rx.tp sm el;obtain ⟨t,e2,rt⟩:=oy q e;exact qy value slice L5 s σ H _ _ u r Q I ru rr (.inr (.inl ⟨a,vs,i,t,rfl,rfl,.inl (.inl rd),e2,k.pure sm rt⟩)) hs
    ·cases x with
     | str x =>
      dsimp only at e;split at e
      ·rename_i hl
       obtain ⟨c,e1,e2⟩:=zE.mp e;subst e2;simp only [RA] at rx;subst rx;exact qy value slice L5 s σ H _ _ u r Q I ru rr (.inr (.inr ⟨x,i,c,rfl,rfl,z0 (zS hl) dC,e1,k.pure sm (by simp only [RA])⟩)) hs
      ·cases e
     | _=>cases e
  | _=>cases e
theorem Gu [L7] (hu:X.A.units + 64 < cLine) (ha:QE X a f) (hb:QE X b g) (hs:oB b):QE X (.Subscript a b pos) (a2 f g (jV cE)) :=
 PE_imp (GE (JJ hu) ha hb hs) fun _ _ _ q=>uW q
def IJ (g:AF):EF:=fun sl st=>(g sl st).bind fun p=>if Nat.ble p.1.length 1000=true then some (.tup p.1,p.2) else none
theorem Da [L7] {x1:Nat} (h:QA X es g):QE X (.Tuple es x1 pos) (IJ g) :=
 PE_imp (Dw h) fun σ H Q ⟨P,φ,sl,st,rs,s,k⟩=>⟨P,φ,sl,st,rs,s,by
  obtain ⟨a,st',e1,q⟩:=k.bind (Ra:=Ma);refine ⟨a,st',e1,fun P1 φ1 H1 vs f1 s1 r1=>?_⟩;obtain ⟨P2,φ2,st2,xs,f2,s2,r2,k2⟩:=q P1 φ1 H1 vs f1 s1 r1;dsimp only at k2;split at k2
  ·rename_i hl
   refine ⟨by rw [<- r2.length];exact z0 (zS hl) dC,fun p hp=>?_⟩;obtain ⟨f3,s3⟩:=mJ (o:=.tup vs) s2 hp;obtain ⟨_,_,e5,q5⟩:=k2;cases e5;refine q5 _ _ _ _ f3 s3 ?_;simp only [RA];exact ⟨p,vs,rfl,.inr rfl,ar,r2.frm f3⟩
  ·exact k2.no.elim⟩
end
mutual
noncomputable def cK:AV->AV->Bool
 | .non,.non=>true
 | .bl a,.bl b=>a == b
 | .int a,.int b=>a == b
 | .str a,.str b=>a == b
 | .ref a,.ref b=>a == b
 | .tup a,.tup b=>fG a b
 | .fz a,.fz b=>fG a b
 | _,_=>false
noncomputable def fG:List AV->List AV->Bool
 | [],[]=>true
 | x::xs,y::ys=>cK x y && fG xs ys
 | _,_=>false
end
mutual
theorem tz:∀ {x y:AV},cK x y=true->x=y
 | .non,y,h=>by cases y <;> simp only [cK] at h <;> first | rfl | cases h
 | .bl a,y,h=>by cases y <;> simp only [cK] at h <;> first | (rw [yI h]) | cases h
 | .int a,y,h=>by cases y <;> simp only [cK] at h <;> first | (rw [yI h]) | cases h
 | .str a,y,h=>by cases y <;> simp only [cK] at h <;> first | (rw [yI h]) | cases h
 | .ref a,y,h=>by cases y <;> simp only [cK] at h <;> first | (rw [yI h]) | cases h
 | .tup a,y,h=>by cases y <;> simp only [cK] at h <;> first | (rw [lq h]) | cases h
 | .fz a,y,h=>by cases y <;> simp only [cK] at h <;> first | (rw [lq h]) | cases h
theorem lq:∀ {xs ys:List AV},fG xs ys=true->xs=ys
 | [],ys,h=>by cases ys <;> simp only [fG] at h <;> first | rfl | cases h
 | x::xs,ys,h=>by
  cases ys with
  | nil=>simp only [fG] at h;cases h
  | cons y ys =>
   simp only [fG,zC] at h;rw [tz h.1,lq h.2]
end
mutual
theorem wo:∀ x:AV,cK x x=true
 | .non=>by simp only [cK]
 | .bl a=>by simp [cK]
 | .int a=>by simp [cK]
 | .str a=>by simp [cK]
 | .ref a=>by simp [cK]
 | .tup a=>by simp only [cK];exact iH a
 | .fz a=>by simp only [cK];exact iH a
theorem iH:∀ xs:List AV,fG xs xs=true
 | []=>by simp only [fG]
 | x::xs=>by simp only [fG,wo x,iH xs,Bool.and_self]
end
abbrev Gd:=List (Nat × L8)
def uP:L8->L8->Bool
 | .lst a,.lst b=>fG a b
 | .dK a,.dK b=>decide (a.map (·.1)=b.map (·.1)) && fG (a.map (·.2)) (b.map (·.2))
 | _,_=>false
def ce:Gd->aa->Bool
 | [],_=>true
 | g::gs,st=>(match st[g.1]? with | some c=>uP c g.2 | none=>false) && ce gs st
theorem yg {k:Nat}{xs:List AV}{gs:Gd}{st:aa} (h:ce ((k,.lst xs)::gs) st=true):st[k]?=some (.lst xs)/\ce gs st=true:=by
 simp only [ce,zC] at h;refine ⟨?_,h.2⟩;have h:=h.1;split at h
 ·rename_i c e
  cases c <;> simp only [uP] at h <;> first | (cases h;done) | skip
  rw [e,lq h]
 ·cases h
theorem sY {a b:Gd}{st:aa} (h:ce (a++b) st=true):ce a st=true/\ce b st=true:=by
 induction a with
 | nil=>exact ⟨rfl,h⟩
 | cons g a ih =>
  simp only [List.cons_append,ce,zC] at h ⊢;exact ⟨⟨h.1,(ih h.2).1⟩,(ih h.2).2⟩
structure Iv where
 L9:List AV
 gd:Gd
abbrev IF:=Sl->aa->Option (Iv × aa)
structure rq [L7] (mg:Gm) (J:It) (iv:Iv) (P:Pr) (φ:List Addr) (H:Hp):Prop where
 go:∀ P2 φ2 H2 st2 (i:Nat) x,Frm P φ H P2 φ2 H2->Sim mg P2 φ2 st2 H2->ce iv.gd st2=true->iv.L9[i]?=some x->J.go i H2/\∀ v H3,J.yld i H2 v H3->∃ P3,Frm P2 φ2 H2 P3 φ2 H3/\Sim mg P3 φ2 st2 H3/\RA mg P3 H3 φ2 x v
 stop:∀ P2 φ2 H2 st2,Frm P φ H P2 φ2 H2->Sim mg P2 φ2 st2 H2->ce iv.gd st2=true->J.stop iv.L9.length H2
def rI [L7] (mg:Gm) (f:IF):TI:=fun σ H R=>∃ P φ sl st,Mg mg P H φ sl σ/\Sim mg P φ st H/\∃ iv st',f sl st=some (iv,st')/\∀ P' φ' H' J,Frm P φ H P' φ' H'->Sim mg P' φ' st' H'->rq mg J iv P' φ' H'->R J H'
def QI [L7] (X:Cx) (tg iter:Expr) (f:IF):Prop:=PI X tg iter (rI X.gm f)
theorem gf (h:PI X tg iter t) (i:∀ σ H R,t' σ H R->t σ H R):PI X tg iter t':=fun L5 s σ H R I h'=>h L5 s σ H R I (i σ H R h')
def hU (st:aa) (v:AV):Option Iv:=match dr st v with
 | .fz xs=>some ⟨xs,[]⟩
 | .ref k=>match st[k]? with
  | some (.lst xs)=>some ⟨xs,[(k,.lst xs)]⟩
  | _=>none
 | _=>none
section
variable {mg:Gm}{P:Pr}{φ:List Addr}{st:aa}{H:Hp}{v:AV}{w:V}{iv:Iv}
theorem j9 [L7] (s:Sim mg P φ st H) (r:RA mg P H φ v w) (h:hU st v=some iv):∃ a,w=.ref a/\∀ P2 φ2 H2 st2,Frm P φ H P2 φ2 H2->Sim mg P2 φ2 st2 H2->ce iv.gd st2=true->∃ vs,bJ mg.K H2 a vs/\Ma mg P2 H2 φ2 iv.L9 vs:=by
 have r:=r.dr s;unfold hU at h;split at h
 ·rename_i ys e
  cases h;rw [e] at r;simp only [RA] at r;obtain ⟨a,vs,e1,e2,q⟩:=r;refine ⟨a,e1,fun P2 φ2 H2 st2 f _ _=>⟨vs,(e2.mono f.ext).sq,?_⟩⟩;exact Ma.lift (q.mono f.ext fun k a e=>by simp at e)
 ·rename_i k e
  rw [e] at r;simp only [RA] at r;obtain ⟨a,e1,e2⟩:=r;split at h
  ·rename_i ys e3
   cases h;refine ⟨a,e2,fun P2 φ2 H2 st2 f s2 g=>?_⟩;obtain ⟨g1,_⟩:=yg g;obtain ⟨a',e4,c⟩:=s2.at g1;rw [f.ix k a e1] at e4;cases e4;obtain ⟨_,vs,q1,q2⟩:=c;exact ⟨vs,.inl (.inl q1),q2⟩
  ·cases h
 ·cases h
end
section
variable {X:Cx}{tg e a b:Expr}{es:List Expr}{pos p:Pos}
def mS (st:aa) (v:AV):Option Iv:=match v with
 | .str x=>if x.cps.all (· < 128)=true then some ⟨x.cps.toList.map fun c=>.str ⟨#[c]⟩,[]⟩ else none
 | v=>match g7 st v with
  | some xs=>some ⟨xs,[]⟩
  | none=>hU st v
def iE (f:EF):IF:=fun sl st=>(f sl st).bind fun p=>(mS p.2 p.1).map fun iv=>(iv,p.2)
theorem Ds [L7] (hl:PE X e tl):PI X tg e (fun σ H R=>tl σ H fun x H1=>(∃ a,x=.ref a/\(∃ xs,bJ X.K H1 a xs)/\R (Aw X.K a) H1)\/(∃ a,x=.ref a/\(∃ xs,gF X.K H1 a xs)/\R (Au X.K a) H1)\/∃ x':Str,x=.str x'/\x'.cps.all (· < 128)=true/\R (Av x') H1):=by
 intro L5 s σ H R I h;refine aB (hl L5 s σ H _ I h) fun v s1 hq0=>?_
 obtain ⟨x,H1,I1,r1,q1⟩:=hq0;have fp:∀ b ∈ [s1.heap.objs.size],dB X L5 H1 b:=fun b hb=>by
  have e:b=s1.heap.objs.size:=by simpa using hb
  subst e;exact I1.fpOk (zP _) (I1.Mb.fresh (zP _))
 rcases q1 with ⟨a,e,⟨xs,hq⟩,q⟩ | ⟨a,e,⟨xs,hq⟩,q⟩ | ⟨y,e,hy,q⟩
 ·subst e
  cases r1;obtain ⟨L9,rv,p,hz⟩:=I1.list hq;refine wpAny_pyIter_list p.isList ?_;exact ⟨s1.heap.objs.size,[s1.heap.objs.size],_,_,H1,rfl,I1.kept (t':=s1.toks) fun b o e=>zG _ e,u8 a _,⟨_,zY _ rfl,rfl,rfl⟩,fp,q⟩
 ·subst e
  cases r1;obtain ⟨L9,rv,p,hz⟩:=I1.tuple hq;refine wpAny_pyIter_tuple (show s1.heap.IsTuple a L9.toArray from p) ?_;exact ⟨s1.heap.objs.size,[s1.heap.objs.size],_,_,H1,rfl,I1.kept (t':=s1.toks) fun b o e=>zG _ e,tO a _,⟨_,zY _ rfl,rfl,rfl⟩,fp,q⟩
 ·subst e
  obtain ⟨t,rfl⟩:=r1;refine wpAny_pyIter_ascii hy ?_;exact ⟨s1.heap.objs.size,[s1.heap.objs.size],_,_,H1,rfl,I1.kept (t':=s1.toks) fun b o e=>zG _ e,wJ y t _,⟨_,zY _ rfl,rfl,rfl⟩,fp,q⟩
theorem x9 [L7] {mg:Gm}{P:Pr}{φ:List Addr}{H:Hp}{K:Frag}{a:Addr}{iv:Iv} (h:∀ P2 φ2 H2 st2,Frm P φ H P2 φ2 H2->Sim mg P2 φ2 st2 H2->ce iv.gd st2=true->∃ vs,bJ K H2 a vs/\Ma mg P2 H2 φ2 iv.L9 vs):rq mg (Aw K a) iv P φ H where
 go:=fun P2 φ2 H2 st2 i x f s g e=>by
  obtain ⟨vs,rd,ra⟩:=h P2 φ2 H2 st2 f s g;obtain ⟨v,e1,r1⟩:=ra.get e;refine ⟨⟨vs,v,rd,e1⟩,fun w H3 hq0=>?_⟩;obtain ⟨hH,hx⟩:=hq0;subst hH
  have:=hx vs rd
  rw [e1] at this;cases this;exact ⟨P2,Frm.refl,s,r1⟩
 stop:=fun P2 φ2 H2 st2 f s g=>by
  obtain ⟨vs,rd,ra⟩:=h P2 φ2 H2 st2 f s g;exact ⟨vs,rd,by rw [<- ra.length];exact zP _⟩
theorem BS [L7] {mg:Gm}{P:Pr}{φ:List Addr}{H:Hp}{K:Frag}{a:Addr}{xs:List AV}{vs:List V} (pa:P a) (ea:H a=some (.tup vs)) (ra:Ma mg P H φ xs vs):rq mg (Au K a) ⟨xs,[]⟩ P φ H where
 go:=fun P2 φ2 H2 st2 i x f s g e=>by
  obtain ⟨v,e1,r1⟩:=(ra.frm f).get e;have e2:gF K H2 a vs:=.inl (.inl ((f.ext a pa).2.trans ea));refine ⟨⟨vs,v,e2,e1⟩,fun w H3 hq0=>?_⟩;obtain ⟨hH,hx⟩:=hq0;subst hH
  have:=hx vs e2
  rw [e1] at this;cases this;exact ⟨P2,Frm.refl,s,r1⟩
 stop:=fun P2 φ2 H2 st2 f s g=>⟨vs,.inl (.inl ((f.ext a pa).2.trans ea)),by rw [<- ra.length];exact zP _⟩
theorem BT [L7]:rq mg (Av x) ⟨x.cps.toList.map fun c=>.str ⟨#[c]⟩,[]⟩ P φ H where
 go:=fun P2 φ2 H2 st2 i y f s g e=>by
  rw [zR] at e;obtain ⟨c,e1,e2⟩:=zE.mp e;rw [Array.getElem?_toList] at e1;subst e2;refine ⟨⟨c,e1⟩,fun w H3 hq0=>?_⟩;obtain ⟨hH,c',e3,hw⟩:=hq0;subst hH;rw [e1] at e3;cases e3;exact ⟨P2,Frm.refl,s,by simp only [RA];exact hw⟩
 stop:=fun P2 φ2 H2 st2 f s g=>by
  show x.cps[_]?=none;simp
theorem j8 {st:aa}{v:AV}{iv:Iv} (h:hU st v=some iv):ce iv.gd st=true:=by
 unfold hU at h;split at h
 ·cases h;rfl
 ·split at h
  ·rename_i k _ xs hk
   cases h;simp only [ce];rw [hk];simp only [uP,iH,Bool.and_self]
  ·cases h
 ·cases h
theorem Jv [L7] (ha:QE X e f):QI X tg e (iE f):=gf (Ds ha) fun σ H R ⟨P,φ,sl,st,rs,s,iv,st',ef,k⟩=>⟨P,φ,sl,st,rs,s,by
 unfold iE at ef;obtain ⟨p,e1,e2⟩:=zA ef;obtain ⟨iv',e3,e4⟩:=zE.mp e2;cases e4;refine ⟨p.1,p.2,e1,fun P1 φ1 H1 w f1 s1 r1=>?_⟩;unfold mS at e3;have gen:∀ v:AV,p.1=v->(match g7 p.2 v with | some xs=>some ⟨xs,[]⟩ | none=>hU p.2 v)=some iv->((∃ a,w=.ref a/\(∃ xs,bJ X.K H1 a xs)/\R (Aw X.K a) H1)\/(∃ a,w=.ref a/\(∃ xs,gF X.K H1 a xs)/\R (Au X.K a) H1)\/∃ x':Str,w=.str x'/\x'.cps.all (· < 128)=true/\R (Av x') H1):=by
  intro v ev e3;rw [ev] at r1;split at e3
  ·rename_i xs et
   cases e3;have r2:=r1.dr s1;unfold g7 at et;split at et
   ·rename_i ys ed
    cases et;rw [ed] at r2;simp only [RA] at r2;obtain ⟨a,vs,rfl,pa,ea,ra⟩:=r2;exact .inr (.inl ⟨a,rfl,⟨vs,.inl (.inl ea)⟩,k P1 φ1 H1 _ f1 s1 (BS pa ea ra)⟩)
   ·cases et
  ·obtain ⟨a,rfl,h⟩:=j9 s1 r1 e3
   obtain ⟨vs,rd,_⟩:=h P1 φ1 H1 p.2 Frm.refl s1 (j8 e3);exact .inl ⟨a,rfl,⟨vs,rd⟩,k P1 φ1 H1 _ f1 s1 (x9 h)⟩
 cases hv:p.1 with
 | str x =>
  rw [hv] at e3 r1;simp only at e3;split at e3
  ·rename_i hx
   cases e3;simp only [RA] at r1;exact .inr (.inr ⟨x,r1,hx,k P1 φ1 H1 _ f1 s1 BT⟩)
  ·cases e3
 | _=>rw [hv] at e3;exact gen _ hv e3⟩
noncomputable def eV (i:Int):Bool:=Nat.ble i.natAbs.log2 60
noncomputable def db (i:Int) (n:Nat):List AV:=(List.range n).map fun k=>.int (i + (k:Nat))
def Ae (f:EF):IF:=fun sl st=>(f sl st).bind fun p=>match p.1 with
 | .int j=>if eV j=true then some (⟨db 0 j.toNat,[]⟩,p.2) else none
 | _=>none
def Ad (f g:EF):IF:=fun sl st=>(f sl st).bind fun p=>(g sl p.2).bind fun q=>match p.1,q.1 with
 | .int i,.int j=>if (eV i && eV j)=true then some (⟨db i (j - i).toNat,[]⟩,q.2) else none
 | _,_=>none
theorem fR {i:Int} (h:eV i=true):-(2 ^ 62) <= i/\i < 2 ^ 62:=by
 have:=log2_lt h
 have e:(2:Nat) ^ (60 + 1)=2305843009213693952:=by decide
 rw [e] at this;omega
theorem sP [L7] {i:Int}{n:Nat}:rq mg (wC i n) ⟨db i n,[]⟩ P φ H where
 go:=fun P2 φ2 H2 st2 k y f s g e=>by
  unfold db at e;rw [zR] at e;obtain ⟨c,e1,e2⟩:=zE.mp e;obtain ⟨h1,h2⟩:=zB.mp e1;rw [List.getElem_range] at h2;subst h2 e2;rw [List.length_range] at h1;refine ⟨h1,fun w H3 hq0=>?_⟩;obtain ⟨hH,hw⟩:=hq0;subst hH;exact ⟨P2,Frm.refl,s,by simp only [RA];exact hw⟩
 stop:=fun P2 φ2 H2 st2 f s g=>by
  show n <= (db i n).length;simp [db]
theorem vn [L7] {mg:Gm}{f:EF}{σ:St}{H:Hp}{Q:List V->Hp->Prop}{P:Pr}{φ:List Addr}{sl:Sl}{st:aa} (rs:Mg mg P H φ sl σ) (s:Sim mg P φ st H)
  (h:∃ v st1,f sl st=some (v,st1)/\∀ P1 φ1 H1 w,Frm P φ H P1 φ1 H1->Sim mg P1 φ1 st1 H1->RA mg P1 H1 φ1 v w->Q [w] H1):rA mg (dl f dN) σ H Q:=by
 obtain ⟨v,st1,e,k⟩:=h;refine ⟨P,φ,sl,st,rs,s,[v],st1,by simp only [dl,dN,e,bind_some],fun P1 φ1 H1 ws f1 s1 r1=>?_⟩;simp only [Ma] at r1;obtain ⟨w,us,rfl,r,rfl⟩:=r1;exact k P1 φ1 H1 w f1 s1 r
theorem CO [L7] {mg:Gm}{f g:EF}{σ:St}{H:Hp}{Q:List V->Hp->Prop}{P:Pr}{φ:List Addr}{sl:Sl}{st:aa} (rs:Mg mg P H φ sl σ) (s:Sim mg P φ st H)
  (h:∃ v st1 u st2,f sl st=some (v,st1)/\g sl st1=some (u,st2)/\∀ P1 φ1 H1 w w',Frm P φ H P1 φ1 H1->Sim mg P1 φ1 st2 H1->RA mg P1 H1 φ1 v w->RA mg P1 H1 φ1 u w'->Q [w,w'] H1):rA mg (dl f (dl g dN)) σ H Q:=by
 obtain ⟨v,st1,u,st2,e,e',k⟩:=h;refine ⟨P,φ,sl,st,rs,s,[v,u],st2,by simp only [dl,dN,e,e',bind_some],fun P1 φ1 H1 ws f1 s1 r1=>?_⟩;simp only [Ma] at r1;obtain ⟨w,us,rfl,r,w',us',rfl,r',rfl⟩:=r1;exact k P1 φ1 H1 w w' f1 s1 r r'
theorem Gp [L7] (hg:Gl X "range") (hm:X.mg "range"=none) (ha:QE X a f) (hs:starEach [a] X.env=[(false,eval a X.env)]):QI X tg (.Call (.Name "range" p) [a] [] pos) (Ae f) :=
 gf (vD hg hm (bR ha dR (by rw [hs];rfl)) hs) fun σ H R hq0=>by
  obtain ⟨P,φ,sl,st,rs,s,iv,st',ef,k⟩:=hq0;obtain ⟨q,e1,e2⟩:=zA ef;refine vn rs s ⟨q.1,q.2,e1,fun P1 φ1 H1 w f1 s1 r1=>?_⟩;split at e2
  ·rename_i j ej
   rw [ej] at r1;split at e2
   ·rename_i hb
    cases e2;simp only [RA] at r1;subst r1;exact ⟨j,rfl,(fR hb).1,(fR hb).2,k P1 φ1 H1 _ f1 s1 sP⟩
   ·cases e2
  ·cases e2
theorem Go [L7] (hg:Gl X "range") (hm:X.mg "range"=none) (ha:QE X a f) (hb:QE X b g) (hs:starEach [a,b] X.env=[(false,eval a X.env),(false,eval b X.env)]) (hs2:starEach [b] X.env=[(false,eval b X.env)]) :
  QI X tg (.Call (.Name "range" p) [a,b] [] pos) (Ad f g) :=
 gf (vC hg hm (bR ha (bR hb dR (by rw [hs2];rfl)) (by rw [hs,hs2])) hs hs2) fun σ H R hq0=>by
  obtain ⟨P,φ,sl,st,rs,s,iv,st',ef,k⟩:=hq0;obtain ⟨q,e1,e2⟩:=zA ef;obtain ⟨r,e3,e4⟩:=zA e2;refine CO rs s ⟨q.1,q.2,r.1,r.2,e1,e3,fun P1 φ1 H1 w w' f1 s1 r1 r2=>?_⟩;split at e4
  ·rename_i i j ei ej
   rw [ei] at r1;rw [ej] at r2;split at e4
   ·rename_i hb
    cases e4;obtain ⟨h1,h2⟩:=Bool.and_eq_true_iff.mp hb;simp only [RA] at r1 r2;subst r1;subst r2;exact ⟨i,j,rfl,⟨(fR h1).1,(fR h1).2,(fR h2).1,(fR h2).2⟩,k P1 φ1 H1 _ f1 s1 sP⟩
   ·cases e4
  ·cases e4
def iZ (f g:EF):IF:=fun sl st=>(f sl st).bind fun p=>(g sl p.2).bind fun q=>(hU q.2 p.1).bind fun x=>(hU q.2 q.1).bind fun y=>some (⟨(x.L9.zip y.L9).map fun z=>.tup [z.1,z.2],x.gd++y.gd⟩,q.2)
theorem sF [L7] {mg:Gm}{P:Pr}{φ:List Addr}{st:aa}{H:Hp}{p:Addr}{x y:AV}{u w:V} (s:Sim mg P φ st H) (hp:H p=none) (rx:RA mg P H φ x u) (ry:RA mg P H φ y w) :
  ∃ P3,Frm P φ H P3 φ (af H p (.tup [u,w]))/\Sim mg P3 φ st (af H p (.tup [u,w]))/\RA mg P3 (af H p (.tup [u,w])) φ (.tup [x,y]) (.ref p):=by
 obtain ⟨f3,s3⟩:=mJ (o:=.tup [u,w]) s hp;refine ⟨_,f3,s3,?_⟩;simp only [RA];exact ⟨p,[u,w],rfl,.inr rfl,ar,aW (rx.frm f3) (aW (ry.frm f3) br)⟩
theorem C5 [L7] {x1:Nat} (hg:Gl X "zip") (hm:X.mg "zip"=none) (ha:QE X a f) (hb:QE X b g) (hs:starEach [a,b] X.env=[(false,eval a X.env),(false,eval b X.env)]) (hs2:starEach [b] X.env=[(false,eval b X.env)]) :
  QI X (.Tuple elts x1 tpos) (.Call (.Name "zip" p) [a,b] [] pos) (iZ f g) :=
 gf (Dr hg hm (bR ha (bR hb dR (by rw [hs2];rfl)) (by rw [hs,hs2])) hs hs2) fun σ H R hq0=>by
  obtain ⟨P,φ,sl,st,rs,s,iv,st',ef,k⟩:=hq0;obtain ⟨q,e1,e2⟩:=zA ef;obtain ⟨r,e3,e4⟩:=zA e2;obtain ⟨x,e5,e6⟩:=zA e4;obtain ⟨y,e7,e8⟩:=zA e6;cases e8;refine CO rs s ⟨q.1,q.2,r.1,r.2,e1,e3,fun P1 φ1 H1 w w' f1 s1 r1 r2=>?_⟩;obtain ⟨a1,rfl,h1⟩:=j9 s1 r1 e5;obtain ⟨a2,rfl,h2⟩:=j9 s1 r2 e7;obtain ⟨vs,rd1,_⟩:=h1 P1 φ1 H1 r.2 Frm.refl s1 (j8 e5);obtain ⟨us,rd2,_⟩:=h2 P1 φ1 H1 r.2 Frm.refl s1 (j8 e7);refine ⟨a1,a2,rfl,⟨vs,rd1⟩,⟨us,rd2⟩,k P1 φ1 H1 _ f1 s1 ⟨fun P2 φ2 H2 st2 i t f2 s2 g2 et=>?_,fun P2 φ2 H2 st2 f2 s2 g2=>?_⟩⟩
  ·obtain ⟨ga,gb⟩:=sY g2
   obtain ⟨vs2,d1,q1⟩:=h1 P2 φ2 H2 st2 f2 s2 ga;obtain ⟨us2,d2,q2⟩:=h2 P2 φ2 H2 st2 f2 s2 gb;rw [zR] at et;obtain ⟨z,ez,et⟩:=zE.mp et;subst et;obtain ⟨hx,hy⟩:=List.getElem?_zip_eq_some.mp ez;obtain ⟨u1,c1,b1⟩:=q1.get hx;obtain ⟨u2,c2,b2⟩:=q2.get hy;refine ⟨⟨vs2,us2,u1,u2,d1,d2,c1,c2⟩,fun v H3 hq0=>?_⟩;obtain ⟨pp,u,w,k1,k2,hp,hH,hv⟩:=hq0;have k1:=k1 vs2 d1;have k2:=k2 us2 d2;rw [c1] at k1;rw [c2] at k2;cases k1;cases k2;subst hH;subst hv;exact sF s2 hp b1 b2
  ·obtain ⟨ga,gb⟩:=sY g2
   obtain ⟨vs2,d1,q1⟩:=h1 P2 φ2 H2 st2 f2 s2 ga;obtain ⟨us2,d2,q2⟩:=h2 P2 φ2 H2 st2 f2 s2 gb;refine ⟨vs2,us2,d1,d2,?_⟩;rw [<- q1.length,<- q2.length];simp only [zH,List.length_zip];omega
noncomputable def d9 (n0:Nat) (xs:List AV):List AV:=(xs.zipIdx n0).map fun z=>.tup [.int ((z.2:Nat):Int),z.1]
theorem qz [L7] {mg:Gm}{P:Pr}{φ:List Addr}{H:Hp}{K:Frag}{a:Addr}{iv:Iv}{n0:Nat} (h:∀ P2 φ2 H2 st2,Frm P φ H P2 φ2 H2->Sim mg P2 φ2 st2 H2->ce iv.gd st2=true->∃ vs,bJ K H2 a vs/\Ma mg P2 H2 φ2 iv.L9 vs):rq mg (wD K a n0) ⟨d9 n0 iv.L9,iv.gd⟩ P φ H where
 go:=fun P2 φ2 H2 st2 i x f s g e=>by
  obtain ⟨vs,rd,ra⟩:=h P2 φ2 H2 st2 f s g;unfold d9 at e;rw [zR,List.getElem?_zipIdx] at e;cases hz:iv.L9[i]? with
  | none=>rw [hz] at e;cases e
  | some y =>
   rw [hz] at e;cases e;obtain ⟨v,e1,r1⟩:=ra.get hz;refine ⟨⟨vs,v,rd,e1⟩,fun w H3 hq0=>?_⟩;obtain ⟨pp,u,hx,hp,hH,hw⟩:=hq0
   have:=hx vs rd
   rw [e1] at this;cases this;subst hH;subst hw;exact sF s hp (by simp only [RA]) r1
 stop:=fun P2 φ2 H2 st2 f s g=>by
  obtain ⟨vs,rd,ra⟩:=h P2 φ2 H2 st2 f s g;exact ⟨vs,rd,by rw [<- ra.length];simp [d9]⟩
def IB (f:EF):IF:=fun sl st=>(f sl st).bind fun p=>(hU p.2 p.1).map fun iv=>(⟨d9 0 iv.L9,iv.gd⟩,p.2)
theorem Gq [L7] {x1:Nat} (hg:Gl X "enumerate") (hm:X.mg "enumerate"=none) (ha:QE X a f) (hs:starEach [a] X.env=[(false,eval a X.env)]) :
  QI X (.Tuple elts x1 tpos) (.Call (.Name "enumerate" p) [a] [] pos) (IB f) :=
 gf (Bl hg hm (bR ha dR (by rw [hs];rfl)) hs) fun σ H R hq0=>by
  obtain ⟨P,φ,sl,st,rs,s,iv,st',ef,k⟩:=hq0;obtain ⟨q,e1,e2⟩:=zA ef;obtain ⟨iv',e3,e4⟩:=zE.mp e2;cases e4;refine vn rs s ⟨q.1,q.2,e1,fun P1 φ1 H1 w f1 s1 r1=>?_⟩;obtain ⟨a1,rfl,h1⟩:=j9 s1 r1 e3;obtain ⟨vs,rd1,_⟩:=h1 P1 φ1 H1 q.2 Frm.refl s1 (j8 e3);exact ⟨a1,rfl,⟨vs,rd1⟩,k P1 φ1 H1 _ f1 s1 (qz h1)⟩
end
end R
namespace L2
open PySem PySem.Spec PyProof.Rows
section
variable {prog:Program}{w:World}{A:Around}{E:Value->Shared->Prop}{s:Shared}
theorem we (l:Addr) (items:Array Value) (n:Nat) (dct:Option Addr) (sl:Array (Option Value)) (t:Tok) (i:Int) (hf:Builtin.SmallTypes.fitsIndex i=true) :
  Meets (Builtin.«enumerate.__new__» ⟨[.type "enumerate",.ref l],[("start",.int i t)]⟩) (fun _ R s=>s.heap.get? l=some { cls:=.type "list",dict:=dct,data:=.seq items n,slots:=sl } /\
   R (.ok (.ret (.ref (s.heap.push { cls:=.type "list_iterator",data:=.fields #[.ref l,.int 0 0] }).objs.size)))
    { s with heap:=(s.heap.push { cls:=.type "list_iterator",data:=.fields #[.ref l,.int 0 0] }).push { cls:=.type "enumerate",data:=.fields #[.none,.bool false,.ref s.heap.objs.size,rawInt i,.none,.none] } }):=Meets.of_wp fun prog w A R s h=>by
  obtain ⟨hp,g,d,tk,os⟩:=s;obtain ⟨hl,h⟩:=h;have hsub:=sub_enumerate;have hL:Heap.IsList (Shared.heap ⟨hp,g,d,tk,os⟩) l items:=⟨_,hl,rfl,n,rfl⟩
  wp_walk using AutoSeq1.wpAny_loadPart' hl
  refine wpAny_stack_any fun st=>yE ?_
  split
  ·rename_i c _ _ _ _ _
   cases (c == Value.type "enumerate")
   ·wp_walk using AutoSeq1.wpAny_loadPart' hl,wpAny_pyIter_list hL
    exact ⟨_,rfl,h⟩
   ·wp_walk using AutoSeq1.wpAny_loadPart' hl,wpAny_pyIter_list hL
    exact ⟨_,rfl,h⟩
  ·wp_walk using AutoSeq1.wpAny_loadPart' hl,wpAny_pyIter_list hL
   exact ⟨_,rfl,h⟩
theorem uM {l:Addr}{items:Array Value}{t:Tok}{i:Int}{Q:Value->Shared->Prop} (hf:Builtin.SmallTypes.fitsIndex i=true) (hL:s.heap.IsList l items)
  (h:∀ h',IsEnum h' (s.heap.objs.size + 1) s.heap.objs.size i .none->h'.IsListIter s.heap.objs.size l 0->(∀ b o,s.heap.get? b=some o->h'.get? b=some o)->Q (.ref (s.heap.objs.size + 1)) { s with heap:=h' }) :
  wpAny (model prog w) A (call (.type "enumerate") [.ref l] [("start",.int i t)]) Q E s:=by
 obtain ⟨⟨c0,dct,dt,sl⟩,hl,hc0,n,hd⟩:=hL;dsimp only at hc0 hd;subst hc0 hd;have ft:=F.called_enumerate;obtain ⟨c,tl,hmro⟩:=ft.mro;have hmade:=ft.made;have hsub:=ft.sub;have h1:=ft.notType;have h2:=ft.canCreate;have hct:=pM (.ref l) (.int i t);have hcn:=pi (.ref l) (.int i t);refine wpAny_call (codeAny_of_tree ?_);show wpAny _ _ (callAny (.type "enumerate") _) _ _ _;refine yE ⟨Code.quiet_builtin _ (by decide +kernel),codeAny_builtin F.entry_type_call ?_⟩;rw [Around.under_plain (weight_type_call_type "enumerate" _ _) (units_type_call_type "enumerate" _ _)]
 repeat (any_goals (first | assumption | wp_step))
 have hz:(s.heap.push { cls:=.type "list_iterator",data:=.fields #[.ref l,.int 0 0] }).objs.size=s.heap.objs.size + 1:=Heap.size_push ..;have he:=zY (s.heap.push { cls:=.type "list_iterator",data:=.fields #[.ref l,.int 0 0] }) (o:={ cls:=.type "enumerate",data:=.fields #[.none,.bool false,.ref s.heap.objs.size,rawInt i,.none,.none] }) rfl;rw [hz] at he;refine codeAny_mono (codeAny_call_builtin (R:=wants (fun obj s₁=>s₁.TypeIs obj "enumerate"/\Q obj s₁) E) ft.plain F.entry_enumerate_new (wpAny_of_eq hcn (we l items n dct sl t i hf prog w A.in1 _ s ⟨hl,?_⟩))) fun r s₁ hr=>?_
 ·show _/\_
  rw [hz];exact ⟨⟨_,he,rfl⟩,h _ he ⟨_,zG _ (zY _ rfl),rfl,rfl⟩ fun b o x=>zG _ (zG _ x)⟩
 ·cases r with
  | error e=>exact hr
  | ok fl =>
   cases fl with
   | ret obj =>
    obtain ⟨hT,hq0⟩:=hr;have hli:=ft.init.lookup;have hbi:=ft.init.bind obj
    repeat (any_goals (first | assumption | wp_step))
    refine codeAny_mono (codeAny_call_builtin (R:=wants (fun r s₂=>r=.none/\Q obj s₂) E) ft.init.plain F.entry_object_init (ft.init.check _ _ _ _ _ _ _ _ hT (oi obj (.ref l) (.int i t)) (uC ft.init.lookup ft.made dC prog w A.in1 _ s₁ ⟨hT,rfl,hq0⟩))) fun r₂ s₂ hr₂=>?_
    cases r₂ with
    | error e=>exact hr₂
    | ok fl₂ =>
     cases fl₂ with
     | ret r =>
      obtain ⟨rfl,hq⟩:=hr₂
      repeat (any_goals (first | assumption | wp_step))
     | _=>exact hr₂.elim
   | _=>exact hr.elim
end
end L2
namespace R
open PySem PySem.Spec PyProof.Rows L2
open DD (PE_imp PT_imp PA_imp PS_imp PSs_imp OpR_imp PW_imp PG_imp pyOk)
section
variable {X:Cx}{tg e a b:Expr}{es:List Expr}{pos p kp:Pos}
theorem xh [L7] {x1:Nat} (hg:Gl X "enumerate") (hm:X.mg "enumerate"=none) (ha:PA X [a] ta) (hb:PE X b tb) (hs:starEach [a] X.env=[(false,eval a X.env)]) :
  PI X (.Tuple elts x1 tpos) (.Call (.Name "enumerate" p) [a] [⟨some "start",b,kp⟩] pos) (fun σ H R=>ta σ H fun vs H1=>tb σ H1 fun y H2=>∃ l n0,vs=[.ref l]/\y=.int ((n0:Nat):Int)/\n0 <= 1000000/\(∃ xs,bJ X.K H2 l xs)/\R (wD X.K l n0) H2):=by
 intro L5 s σ H R I h;refine wpAny_Call_Name_kw (cN I hg hm o4 (qV (by rw [hs];rfl) (by rfl) ?_));have hA:=ha pos L5 s σ H _ I h;rw [hs] at hA ⊢;refine PyProof.Rows.evalArgs_kwB (by rfl) (wL hA fun us s1 hq0=>?_);obtain ⟨vs,H1,I1,r1,q1⟩:=hq0;refine PyProof.Rows.kws_cons (aB (hb L5 s1 σ H1 _ I1 q1) fun u s2 ⟨y,H2,I2,r2,l,n0,e1,e2,hn,⟨xs,hq⟩,q⟩=>PyProof.Rows.kws_nil ?_);subst e1;subst e2;obtain ⟨t,rfl⟩:=r2;cases r1 with
 | cons r rr =>
  cases rr;cases r;obtain ⟨L9,rv,p1,_⟩:=I2.list hq;show wpAny _ _ (call (.type "enumerate") [.ref l] [("start",.int ((n0:Nat):Int) t)]) _ _ _;refine uM (s:=s2) ?_ p1.isList fun h' he hi hk=>?_
  ·unfold Builtin.SmallTypes.fitsIndex
   simp only [zC,yA];omega
  refine wpAny_pyIter_enum (s:={ s2 with heap:=h' }) he ?_;exact qL (t':=s2.toks) (n0:=n0) I2 he hi hk q
def uD (f g:EF):IF:=fun sl st=>(f sl st).bind fun p=>(g sl p.2).bind fun q=>match q.1 with
 | .int i=>if (decide (0 <= i) && Nat.ble i.natAbs 1000000)=true then (hU q.2 p.1).map fun iv=>(⟨d9 i.toNat iv.L9,iv.gd⟩,q.2) else none
 | _=>none
theorem C6 [L7] {x1:Nat} (hg:Gl X "enumerate") (hm:X.mg "enumerate"=none) (ha:QE X a f) (hb:QE X b g) (hs:starEach [a] X.env=[(false,eval a X.env)]) :
  QI X (.Tuple elts x1 tpos) (.Call (.Name "enumerate" p) [a] [⟨some "start",b,kp⟩] pos) (uD f g) :=
 gf (xh hg hm (bR ha dR (by rw [hs];rfl)) hb hs) fun σ H R hq0=>by
  obtain ⟨P,φ,sl,st,rs,s,iv,st',ef,k⟩:=hq0;obtain ⟨q,e1,e2⟩:=zA ef;obtain ⟨r,e3,e4⟩:=zA e2;refine vn rs s ⟨q.1,q.2,e1,fun P1 φ1 H1 w f1 s1 r1=>⟨P1,φ1,sl,q.2,rs.frm f1,s1,r.1,r.2,e3,fun P2 φ2 H2 w2 f2 s2 r2=>?_⟩⟩;split at e4
  ·rename_i i ei
   rw [ei] at r2;simp only [RA] at r2;subst r2;split at e4
   ·rename_i hc
    simp only [zC,yA] at hc;have hc2:=zS hc.2;obtain ⟨iv',e5,e6⟩:=zE.mp e4;cases e6;obtain ⟨a1,rfl,h1⟩:=j9 s2 (r1.frm f2) e5;obtain ⟨vs,rd1,_⟩:=h1 P2 φ2 H2 r.2 Frm.refl s2 (j8 e5);exact ⟨a1,i.toNat,rfl,by rw [Int.toNat_of_nonneg hc.1],by omega,⟨vs,rd1⟩,k P2 φ2 H2 _ (f1.trans f2) s2 (qz h1)⟩
   ·cases e4
  ·cases e4
end
mutual
noncomputable def rf:AV->Bool
 | .ref _=>false
 | .tup xs=>rfs xs
 | _=>true
noncomputable def rfs:List AV->Bool
 | []=>true
 | x::xs=>rf x && rfs xs
end
mutual
theorem RA.rf:∀ {t:AV}{v:V},R.rf t=true->RA mg P H φ t v->RA mg P H ψ t v
 | .non,_,_,h=>by simp only [RA] at h ⊢;exact h
 | .bl _,_,_,h=>by simp only [RA] at h ⊢;exact h
 | .int _,_,_,h=>by simp only [RA] at h ⊢;exact h
 | .str _,_,_,h=>by simp only [RA] at h ⊢;exact h
 | .fz _,_,_,h=>by simp only [RA] at h ⊢;exact h
 | .ref k,_,e,_=>by simp only [R.rf] at e;cases e
 | .tup xs,_,e,h=>by
  simp only [RA,R.rf] at h e ⊢;obtain ⟨a,vs,r,p,e',q⟩:=h;exact ⟨a,vs,r,p,e',Ma.rf e q⟩
theorem Ma.rf:∀ {ts:List AV}{vs:List V},R.rfs ts=true->Ma mg P H φ ts vs->Ma mg P H ψ ts vs
 | [],_,_,h=>by simp only [Ma] at h ⊢;exact h
 | t::ts,_,e,h=>by
  simp only [Ma,R.rfs,zC] at h e ⊢;obtain ⟨v,ws,e',r,q⟩:=h;exact ⟨v,ws,e',RA.rf e.1 r,Ma.rf e.2 q⟩
end
abbrev NF:=Sl->aa->Option (List AV × aa)
def rN [L7] (mg:Gm) (f:NF):TE:=fun σ H Q=>∃ P φ sl st,Mg mg P H φ sl σ/\Sim mg P φ st H/\∃ xs st',f sl st=some (xs,st') /\
 ∀ P' φ' H' p vs,Frm P φ H P' φ' H'->Sim mg P' φ' st' H'->H' p=none->Ma mg P' H' φ' xs vs->Q (.ref p) (af H' p (.lst vs))
def QN [L7] (X:Cx) (e:Expr) (f:NF):Prop:=PE X e (rN X.gm f)
def KZ (f:NF):EF:=fun sl st=>(f sl st).bind fun p=>if rfs p.1=true then some (.fz p.1,p.2) else none
def KY (f:NF):EF:=fun sl st=>(f sl st).bind fun p=>some (.ref p.2.length,p.2++[.lst p.1])
theorem E7 [L7] {mg:Gm}{P:Pr}{φ:List Addr}{st:aa}{H:Hp}{p:Addr}{xs:List AV}{vs:List V} (s:Sim mg P φ st H) (hp:H p=none) (hr:rfs xs=true) (r:Ma mg P H φ xs vs) :
  ∃ P3,Frm P φ H P3 φ (af H p (.lst vs))/\Sim mg P3 φ st (af H p (.lst vs))/\RA mg P3 (af H p (.lst vs)) φ (.fz xs) (.ref p):=by
 obtain ⟨f3,s3⟩:=mJ (o:=.lst vs) s hp;refine ⟨_,f3,s3,?_⟩;simp only [RA];exact ⟨p,vs,rfl,.inl ⟨.inr rfl,.inl ar⟩,Ma.rf hr (r.frm f3)⟩
theorem Ec [L7] {mg:Gm}{P:Pr}{φ:List Addr}{st:aa}{H:Hp}{p:Addr}{xs:List AV}{vs:List V} (s:Sim mg P φ st H) (hp:H p=none) (r:Ma mg P H φ xs vs) :
  Frm P φ H P (φ++[p]) (af H p (.lst vs))/\Sim mg P (φ++[p]) (st++[.lst xs]) (af H p (.lst vs))/\RA mg P (af H p (.lst vs)) (φ++[p]) (.ref st.length) (.ref p):=by
 have ne:∀ a,H a ≠ none->a ≠ p:=fun a h e=>h (by rw [e];exact hp)
 obtain ⟨f3,s3⟩:=lZ (c:=.lst xs) (o:=.lst vs) s hp ⟨fun z=>s.dom p z hp,vs,ar,r.mono (fun a h=>⟨h,ad (ne a (s.dom a h))⟩) fun k a e=>by rw [zN (zB.mp e).1];exact e⟩;refine ⟨f3,s3,?_⟩;simp only [RA];exact ⟨p,by rw [<- s.len];simp,rfl⟩
section
variable {X:Cx}{e a b:Expr}{es:List Expr}{pos:Pos}{f:NF}
noncomputable def dP (n:Nat):Bool:=Nat.ble n 1000000
theorem i7 {n:Nat} (h:dP n=true):n <= sizeLine:=z0 (zS h) dC
def Ip (g:AF):NF:=fun sl st=>(g sl st).bind fun p=>if dP p.1.length=true then some p else none
theorem AZ [L7] (h:QA X es g):QN X (.List es pos) (Ip g) :=
 PE_imp (vF h) fun σ H Q hq0=>by
  obtain ⟨P,φ,sl,st,rs,s,xs,st',ef,k⟩:=hq0;obtain ⟨q,e1,e2⟩:=zA ef;split at e2
  ·rename_i hz
   cases e2;exact ⟨P,φ,sl,st,rs,s,xs,st',e1,fun P1 φ1 H1 vs f1 s1 r1=>⟨by rw [<- r1.length];exact i7 hz,fun p hp=>k P1 φ1 H1 p vs f1 s1 hp r1⟩⟩
  ·cases e2
def uj (f g:EF):NF:=fun sl st=>(f sl st).bind fun p=>(g sl p.2).bind fun q=>(bw q.2 p.1).bind fun xs=>(bw q.2 q.1).bind fun ys=>if dP (xs.length + ys.length)=true then some (xs++ys,q.2) else none
theorem C4 [L7] {f g:EF} (ha:QE X a f) (hb:QE X b g):QN X (.BinOp a .Add b pos) (uj f g) :=
 PE_imp (uc Bv ha hb) fun σ H Q hq0=>by
  obtain ⟨P,φ,sl,st,rs,s,xs,st',ef,k⟩:=hq0;obtain ⟨q,e1,e2⟩:=zA ef;obtain ⟨r,e3,e4⟩:=zA e2;obtain ⟨x,e5,e6⟩:=zA e4;obtain ⟨y,e7,e8⟩:=zA e6;split at e8
  ·rename_i hz
   cases e8;refine ⟨P,φ,sl,st,rs,s,q.1,q.2,e1,fun P1 φ1 H1 w f1 s1 r1=>⟨P1,φ1,sl,q.2,rs.frm f1,s1,r.1,r.2,e3,fun P2 φ2 H2 w2 f2 s2 r2=>?_⟩⟩;obtain ⟨a1,vs,rfl,d1,q1⟩:=(r1.frm f2).ls s2 e5;obtain ⟨a2,us,rfl,d2,q2⟩:=r2.ls s2 e7;exact ⟨a1,a2,vs,us,rfl,rfl,d1,d2,by rw [<- q1.length,<- q2.length];exact i7 hz,fun p hp=>k P2 φ2 H2 p _ (f1.trans f2) s2 hp (q1.app q2)⟩
  ·cases e8
def ug (g:AF) (f:EF):NF:=fun sl st=>(g sl st).bind fun p=>(f sl p.2).bind fun q=>match q.1 with
 | .int k=>if (eV k && dP (p.1.length * k.toNat) && dP p.1.length)=true then some ((List.replicate k.toNat p.1).flatten,q.2) else none
 | _=>none
theorem Ma.rep (h:Ma mg P H φ xs vs):∀ k:Nat,Ma mg P H φ (List.replicate k xs).flatten (List.replicate k vs).flatten
 | 0=>br
 | k + 1=>by rw [List.replicate_succ,List.replicate_succ,List.flatten_cons,List.flatten_cons];exact h.app (Ma.rep h k)
theorem CY [L7] {g:AF}{f:EF}{pos':Pos} (h:QA X es g) (hb:QE X b f):QN X (.BinOp (.List es pos') .Mult b pos) (ug g f) :=
 PE_imp (uc DJ (vF h) hb) fun σ H Q hq0=>by
  obtain ⟨P,φ,sl,st,rs,s,xs,st',ef,k⟩:=hq0;obtain ⟨q,e1,e2⟩:=zA ef;obtain ⟨r,e3,e4⟩:=zA e2;split at e4
  ·rename_i j ej
   split at e4
   ·rename_i hc
    cases e4;simp only [zC] at hc;refine ⟨P,φ,sl,st,rs,s,q.1,q.2,e1,fun P1 φ1 H1 vs f1 s1 r1=>⟨by rw [<- r1.length];exact i7 hc.2,fun p hp=>?_⟩⟩
    -- the list itself is a cell that nobody has
    obtain ⟨f2,s2⟩:=mJ (o:=.lst vs) s1 hp;refine ⟨_,φ1,sl,q.2,(rs.frm f1).frm f2,s2,r.1,r.2,e3,fun P3 φ3 H3 w f3 s3 r3=>?_⟩;rw [ej] at r3;simp only [RA] at r3;subst r3;have hH:H3 p=some (.lst vs):=by rw [(f3.ext p (.inr rfl)).2,ar]
    have hj:=fR hc.1.1;refine ⟨p,j,vs,rfl,rfl,hH,by omega,by omega,by rw [<- r1.length];exact i7 hc.1.2,fun p' hp'=>?_⟩;exact k P3 φ3 H3 p' _ ((f1.trans f2).trans f3) s3 hp' (Ma.rep ((r1.frm f2).frm f3) _)
   ·cases e4
  ·cases e4
abbrev OF:=Sl->aa->Option (Option Int × aa)
def rO [L7] (mg:Gm) (f:OF):TO:=fun σ H Q=>∃ P φ sl st,Mg mg P H φ sl σ/\Sim mg P φ st H/\KG mg RB P φ H (f sl st) Q
def QO [L7] (X:Cx) (e:Option Expr) (f:OF):Prop:=PO X e (rO X.gm f)
def Io:OF:=fun _ st=>some (none,st)
def qc (f:EF):OF:=fun sl st=>(f sl st).bind fun p=>match p.1 with
 | .int i=>some (some i,p.2)
 | _=>none
theorem tI (h:PO X eo t) (i:∀ σ H Q,t' σ H Q->t σ H Q):PO X eo t':=fun L5 s σ H Q I h'=>h L5 s σ H Q I (i σ H Q h')
theorem AY [L7]:QO X none Io:=tI Bh fun σ H Q ⟨P,φ,sl,st,rs,s,k⟩=>k.pure s rfl
theorem AX [L7] {f:EF} (h:QE X e f):QO X (some e) (qc f):=tI (Bg h) fun σ H Q ⟨P,φ,sl,st,rs,s,k⟩=>⟨P,φ,sl,st,rs,s,by
 obtain ⟨a,st',e1,q⟩:=k.bind (Ra:=RA);refine ⟨a,st',e1,fun P1 φ1 H1 c f1 s1 r1=>?_⟩;obtain ⟨P2,φ2,st2,x,f2,s2,r2,k2⟩:=q P1 φ1 H1 c f1 s1 r1;cases x <;> first | exact k2.no.elim | skip
 rename_i i;simp only [RA] at r2;exact ⟨i,r2,k2.pure s2 rfl⟩⟩
def cut {α:Type} (xs:List α) (lo hi:Option Int):List α:=(xs.drop (HT.MR xs.length 0 lo)).take (HT.MR xs.length xs.length hi - HT.MR xs.length 0 lo)
theorem Ma.cut (h:Ma mg P H φ xs vs) (lo hi:Option Int):Ma mg P H φ (R.cut xs lo hi) (ou vs lo hi):=by
 unfold R.cut ou;rw [h.length];exact (h.drop _).take _
theorem Jm [L7] {mg:Gm}{f:EF}{l h:OF}{σ:St}{H:Hp}{P:Pr}{φ:List Addr}{sl:Sl}{st:aa} (rs:Mg mg P H φ sl σ) (s:Sim mg P φ st H) {r:V->Option Int->Option Int->Hp->VK->Prop}{Q:VK}
  (k:∃ v st1 lo st2 hi st3,f sl st=some (v,st1)/\l sl st1=some (lo,st2)/\h sl st2=some (hi,st3)/\∀ P' φ' H' w,Frm P φ H P' φ' H'->Sim mg P' φ' st3 H'->RA mg P' H' φ' v w->r w lo hi H' Q):HU r (rE mg f) (rO mg l) (rO mg h) σ H Q:=by
 obtain ⟨v,st1,lo,st2,hi,st3,e1,e2,e3,k⟩:=k;refine ⟨P,φ,sl,st,rs,s,v,st1,e1,fun P1 φ1 H1 w f1 s1 r1=>⟨P1,φ1,sl,st1,rs.frm f1,s1,lo,st2,e2,fun P2 φ2 H2 lo' f2 s2 r2=>⟨P2,φ2,sl,st2,(rs.frm f1).frm f2,s2,hi,st3,e3,fun P3 φ3 H3 hi' f3 s3 r3=>?_⟩⟩⟩;cases r2;cases r3;exact k P3 φ3 H3 w ((f1.trans f2).trans f3) s3 ((r1.frm f2).frm f3)
def qg (f:EF) (l h:OF):NF:=fun sl st=>(f sl st).bind fun p=>(l sl p.2).bind fun q=>(h sl q.2).bind fun r=>(bw r.2 p.1).map fun xs=>(cut xs q.1 r.1,r.2)
theorem Gj [L7] {f:EF}{l h:OF}{lo hi:Option Expr}{p2:Pos} (ha:QE X a f) (hl:QO X lo l) (hh:QO X hi h):QN X (.Subscript a (.Slice lo hi none p2) pos) (qg f l h) :=
 PE_imp (xn AM ha hl hh) fun σ H Q hq0=>by
  obtain ⟨P,φ,sl,st,rs,s,xs,st',ef,k⟩:=hq0;obtain ⟨q,e1,e2⟩:=zA ef;obtain ⟨r,e3,e4⟩:=zA e2;obtain ⟨t,e5,e6⟩:=zA e4;obtain ⟨ys,e7,e8⟩:=zE.mp e6;cases e8;refine Jm rs s ⟨q.1,q.2,r.1,r.2,t.1,t.2,e1,e3,e5,fun P1 φ1 H1 w f1 s1 r1=>?_⟩;obtain ⟨a1,vs,rfl,d1,q1⟩:=r1.ls s1 e7;exact ⟨a1,vs,rfl,d1,fun p hp=>k P1 φ1 H1 p _ f1 s1 hp (q1.cut _ _)⟩
def l8 (f:EF):NF:=fun sl st=>(f sl st).bind fun p=>match bw p.2 p.1 with
 | some xs=>some (xs,p.2)
 | none=>(g7 p.2 p.1).map fun xs=>(xs,p.2)
theorem C3 [L7] {f:EF}{p pos:Pos} (hg:Gl X "list") (hm:X.mg "list"=none) (ha:QE X a f) (hs:starEach [a] X.env=[(false,eval a X.env)]):QN X (.Call (.Name "list" p) [a] [] pos) (l8 f) :=
 PE_imp (vH qT hg hm gY (bR ha dR (by rw [hs];rfl)) (he:=by rw [hs];rfl) (hpl:=rfl)) fun σ H Q hq0=>by
  obtain ⟨P,φ,sl,st,rs,s,xs,st',ef,k⟩:=hq0;obtain ⟨q,e1,e2⟩:=zA ef;refine vn rs s ⟨q.1,q.2,e1,fun P1 φ1 H1 w f1 s1 r1=>?_⟩;split at e2
  ·rename_i ys e3
   cases e2;obtain ⟨a1,vs,rfl,d1,q1⟩:=r1.ls s1 e3;exact ⟨a1,vs,rfl,.inl d1,fun p hp=>k P1 φ1 H1 p vs f1 s1 hp q1⟩
  ·obtain ⟨ys,e3,e4⟩:=zE.mp e2
   cases e4;obtain ⟨a1,vs,rfl,d1,q1⟩:=r1.tp s1 e3;exact ⟨a1,vs,rfl,.inr (.inl (.inl d1)),fun p hp=>k P1 φ1 H1 p vs f1 s1 hp q1⟩
end
abbrev GF:=AV->Sl->aa->Option (Sl × aa)
abbrev rC:=List AV->Sl->aa->Option (Sl × aa)
def KS [L7] (mg:Gm) (P:Pr) (φ:List Addr) (H:Hp) (r:Option (Sl × aa)) (Q:St->Hp->Prop):Prop :=
 ∃ sl' st',r=some (sl',st')/\∀ P' φ' H' σ',Frm P φ H P' φ' H'->Sim mg P' φ' st' H'->Mg mg P' H' φ' sl' σ'->Q σ' H'
def rG [L7] (mg:Gm) (f:GF):TG:=fun v σ H Q=>∃ P φ sl st x,Mg mg P H φ sl σ/\Sim mg P φ st H/\RA mg P H φ x v/\KS mg P φ H (f x sl st) Q
def Ks [L7] (mg:Gm) (f:rC):lR:=fun vs σ H Q=>∃ P φ sl st xs,Mg mg P H φ sl σ/\Sim mg P φ st H/\Ma mg P H φ xs vs/\KS mg P φ H (f xs sl st) Q
def QG [L7] (X:Cx) (tg:Expr) (f:GF):Prop:=PG X tg (rG X.gm f)
def wz [L7] (X:Cx) (tgs:List Expr) (f:rC):Prop:=pf X tgs (Ks X.gm f)
def v8 (i:Nat):GF:=fun x sl st=>some (sl.set i (some x),st)
def E3:rC:=fun xs sl st=>match xs with
 | []=>some (sl,st)
 | _=>none
def E5 (f:GF) (g:rC):rC:=fun xs sl st=>match xs with
 | x::xs=>(f x sl st).bind fun p=>g xs p.1 p.2
 | []=>none
def v7 (n:Nat) (g:rC):GF:=fun x sl st=>match g7 st x with
 | some xs=>if xs.length=n then g xs sl st else none
 | none=>match bw st x with
  | some xs=>if xs.length=n then g xs sl st else none
  | none=>none
theorem rn (h:pf X tgs t) (i:∀ v σ H Q,t' v σ H Q->t v σ H Q):pf X tgs t':=fun L5 s σ H v u Q I rv h'=>h L5 s σ H v u Q I rv (i v σ H Q h')
section
variable {X:Cx}{e a b:Expr}{es:List Expr}{pos:Pos}
theorem KS.pure [L7] {mg:Gm}{P:Pr}{φ:List Addr}{H:Hp}{sl:Sl}{st:aa}{σ:St}{Q:St->Hp->Prop} (h:KS mg P φ H (some (sl,st)) Q) (s:Sim mg P φ st H) (r:Mg mg P H φ sl σ):Q σ H:=by
 obtain ⟨_,_,e,q⟩:=h;cases e;exact q P φ H σ Frm.refl s r
theorem A3 [L7] {i:Nat} (hN:X.N.Nodup) (hi:X.N[i]?=some x) (hx:Loc X.env.scope x) (hf:X.fn x=true\/X.env.scope.names.lookup x=some .local):QG X (.Name x pos) (v8 i) :=
 PG_imp (Bp hN hi hx hf) fun v σ H Q ⟨P,φ,sl,st,x,rs,s,rx,k⟩=>k.pure s (rs.set rx i)
theorem A2 [L7]:wz X [] E3:=rn Bn fun v σ H Q hq0=>by
 obtain ⟨P,φ,sl,st,xs,rs,s,rx,k⟩:=hq0;cases xs with
 | nil=>simp only [Ma] at rx;exact ⟨rx,k.pure s rs⟩
 | cons _ _=>obtain ⟨_,_,e,_⟩:=k;cases e
theorem wZ [L7] (h1:QG X e f) (h2:wz X es g) (hs:(assignEach (e::es) X.env).map (·.2)=assign e X.env::(assignEach es X.env).map (·.2)):wz X (e::es) (E5 f g) :=
 rn (xj h1 h2 hs) fun v σ H Q hq0=>by
  obtain ⟨P,φ,sl,st,xs,rs,s,rx,k⟩:=hq0;cases xs with
  | nil=>obtain ⟨_,_,e,_⟩:=k;cases e
  | cons x xs =>
   simp only [Ma] at rx;obtain ⟨w,ws,rfl,r1,r2⟩:=rx;obtain ⟨sl',st',e,q⟩:=k;obtain ⟨p,e1,e2⟩:=zA e;exact ⟨w,ws,rfl,P,φ,sl,st,x,rs,s,r1,p.1,p.2,e1,fun P1 φ1 H1 σ1 f1 s1 rs1=>⟨P1,φ1,p.1,p.2,xs,rs1,s1,r2.frm f1,sl',st',e2,fun P2 φ2 H2 σ2 f2 s2 rs2=>q P2 φ2 H2 σ2 (f1.trans f2) s2 rs2⟩⟩
theorem GA (h:PG X tg t) (h':PG X tg t'):PG X tg (fun v σ H Q=>t v σ H Q\/t' v σ H Q):=fun L5 s σ H v u Q I r q=>by
 rcases q with q | q
 ·exact h L5 s σ H v u Q I r q
 ·exact h' L5 s σ H v u Q I r q
theorem C7 [L7] {k n:Nat} (hc:X.calm=true) (h:wz X es g) (hn:(assignEach es X.env).length=n) (hst:(assignEach es X.env).findIdx? (·.1)=none):QG X (.Tuple es k pos) (v7 n g) :=
 PG_imp (GA (Dt (k:=k) hc h hn hst) (Bo (k:=k) hc h hn hst)) fun v σ H Q hq0=>by
  obtain ⟨P,φ,sl,st,x,rs,s,rx,kk⟩:=hq0;obtain ⟨sl',st',e,q⟩:=kk;unfold v7 at e;split at e
  ·rename_i xs ex
   split at e
   ·rename_i hl
    obtain ⟨a1,vs,rfl,d1,q1⟩:=rx.tp s ex;exact .inl ⟨a1,vs,rfl,.inl (.inl d1),by rw [<- q1.length];exact hl,P,φ,sl,st,xs,rs,s,q1,sl',st',e,q⟩
   ·cases e
  ·split at e
   ·rename_i xs ex
    split at e
    ·rename_i hl
     obtain ⟨a1,vs,rfl,d1,q1⟩:=rx.ls s ex;exact .inr ⟨a1,vs,rfl,d1,by rw [<- q1.length];exact hl,P,φ,sl,st,xs,rs,s,q1,sl',st',e,q⟩
    ·cases e
   ·cases e
noncomputable def lY {κ:Type} [DecidableEq κ] (L6:List (κ × AV)) (k:κ) (v:AV):List (κ × AV) :=
 if (L6.any fun kv=>decide (kv.1=k))=true then L6.map fun kv=>if kv.1=k then (kv.1,v) else kv else L6++[(k,v)]
theorem pZ {P:Pr}{H:Hp}{φ:List Addr}{κ:Type} [DecidableEq κ] {L6:List (κ × AV)}{ws:List (κ × V)}{k:κ}{v:AV}{w:V} (h:KVR mg P H φ L6 ws) (r:RA mg P H φ v w):KVR mg P H φ (lY L6 k v) (eD ws k w):=by
 have hany:(L6.any fun kv=>decide (kv.1=k))=(ws.any fun kv=>decide (kv.1=k)):=by
  have h1:∀ {α:Type} (l:List (κ × α)),(l.any fun kv=>decide (kv.1=k))=((l.map (·.1)).any fun x=>decide (x=k)):=fun l=>by rw [List.any_map];rfl
  rw [h1 L6,h1 ws,h.1]
 unfold lY eD;rw [hany];split
 ·clear hany
  rename_i hh;clear hh
  induction L6 generalizing ws with
  | nil =>
   have:ws=[]:=by simpa using h.1.symm
   subst this;exact ⟨rfl,br⟩
  | cons p L6 ih =>
   cases ws with
   | nil=>exact absurd h.1 (by simp)
   | cons q ws =>
    obtain ⟨h1,h2⟩:=h;rw [zO,zO] at h1 h2;injection h1 with h3 h4;simp only [Ma] at h2;obtain ⟨u,us,h5,h6,h7⟩:=h2;injection h5 with h8 h9;subst h8;subst h9;have ih:=ih (ws:=ws) ⟨h4,h7⟩;have h3':p.1=q.1:=h3;by_cases e:q.1=k
    ·rw [zO,zO,yG e,yG (h3'.trans e)]
     exact ⟨by rw [zO,zO,ih.1,h3'],aW r ih.2⟩
    ·rw [zO,zO,yF e,yF (fun z=>e (h3'.symm.trans z))]
     exact ⟨by rw [zO,zO,ih.1,h3'],aW h6 ih.2⟩
 ·refine ⟨by rw [List.map_append,List.map_append,h.1];rfl,?_⟩
  rw [List.map_append,List.map_append];exact h.2.app (aW r br)
def jt (st:aa) (o i v:AV):Option aa:=match o with
 | .ref k=>match st[k]? with
  | some (.lst xs)=>match i with
   | .int j=>(j7 xs.length j).map fun n=>st.set k (.lst (xs.set n v))
   | _=>none
  | some (.dK L6)=>(jv i).bind fun x=>if dP L6.length=true then some (st.set k (.dK (lY L6 x v))) else none
  | some (.dT L6)=>match i with
   | .tup is=>(bE jv is).bind fun x=>if dP L6.length=true then some (st.set k (.dT (lY L6 x v))) else none
   | _=>none
  | _=>none
 | _=>none
theorem zd [L7] (hu:X.A.units + 64 < cLine):uX X (fun o i v H Q=>∃ P φ st x y z st',Sim X.gm P φ st H/\RA X.gm P H φ x o/\RA X.gm P H φ y i/\RA X.gm P H φ z v/\jt st x y z=some st'/\∀ P' φ' H',Frm P φ H P' φ' H'->Sim X.gm P' φ' st' H'->Q H'):=by
 rintro L5 s σ H o i v ov iv u Q I ro ri rv ⟨P,φ,st,x,y,z,st',sm,rx,ry,rz,e,k⟩;unfold jt at e;cases x with
 | ref j =>
  simp only [RA] at rx;obtain ⟨a,ea,rfl⟩:=rx;dsimp only at e;split at e
  ·rename_i xs hk
   obtain ⟨a',ea',c⟩:=sm.at hk;rw [ea] at ea';cases ea';obtain ⟨na,vs,q1,q2⟩:=c;cases y with
   | int n =>
    simp only [RA] at ry;subst ry;obtain ⟨m,e1,e2⟩:=zE.mp e;subst e2;have hp:P a->False:=na;obtain ⟨f3,s3⟩:=g6 (c:=.lst (xs.set m z)) (o:=.lst (vs.set m v)) sm ea na ⟨na,_,ar,(q2.set rz m).mono (fun b h=>⟨h,ad fun e=>na (e ▸ h)⟩) fun _ _ z=>z⟩ (fun _ _ z=>by rw [q1] at z;cases z);exact wR L5 s σ H _ _ v ov iv u Q I ro ri rv ⟨a,vs,n,m,rfl,rfl,q1,by rw [<- q2.length];exact e1,k P φ _ f3 s3⟩
   | _=>cases e
  ·rename_i L6 hk
   obtain ⟨a',ea',c⟩:=sm.at hk;rw [ea] at ea';cases ea';obtain ⟨na,ws,q1,q2⟩:=c;obtain ⟨x,e1,e2⟩:=zA e;split at e2
   ·rename_i hz
    cases e2
    have:=mh e1 ry
    subst this;cases ro;obtain ⟨f3,s3⟩:=g6 (c:=.dK (lY L6 x z)) (o:=.dK (eD ws x v)) sm ea na ⟨na,_,ar,(pZ q2 rz).mono (fun b h=>⟨h,ad fun e=>na (e ▸ h)⟩) fun _ _ z=>z⟩ (fun _ _ z=>by rw [q1] at z;cases z);refine oZ oM I (DPut.k q1 ?_) ri rv fun s' I'=>⟨_,I',k P φ _ f3 s3⟩
    have:=congrArg List.length q2.1
    rw [zH,zH] at this;rw [<- this];have h1:=zS hz;have h2:(1000000:Nat) < sizeLine:=by decide
    omega
   ·cases e2
  ·rename_i L6 hk
   obtain ⟨a',ea',c⟩:=sm.at hk;rw [ea] at ea';cases ea';obtain ⟨na,ws,q1,q2⟩:=c;cases y with
   | tup is =>
    dsimp only at e;obtain ⟨x,e1,e2⟩:=zA e;split at e2
    ·rename_i hz
     cases e2;simp only [RA] at ry;obtain ⟨b,us,rfl,_,hb,rr⟩:=ry;rw [oO e1 rr] at hb;cases ro;obtain ⟨f3,s3⟩:=g6 (c:=.dT (lY L6 x z)) (o:=.dT (eD ws x v)) sm ea na ⟨na,_,ar,(pZ q2 rz).mono (fun b h=>⟨h,ad fun e=>na (e ▸ h)⟩) fun _ _ z=>z⟩ (fun _ _ z=>by rw [q1] at z;cases z);refine oZ oM I (DPut.t q1 hb ?_) ri rv fun s' I'=>⟨_,I',k P φ _ f3 s3⟩
     have:=congrArg List.length q2.1
     rw [zH,zH] at this;rw [<- this];have h1:=zS hz;have h2:(1000000:Nat) < sizeLine:=by decide
     omega
    ·cases e2
   | _=>cases e
  ·cases e
 | _=>cases e
def IC (f g:EF):GF:=fun x sl st=>(f sl st).bind fun p=>(g sl p.2).bind fun q=>(jt q.2 p.1 q.1 x).map fun st'=>(sl,st')
theorem C8 [L7] (hu:X.A.units + 64 < cLine) (ho:QE X o f) (hi:QE X i g)
  (ha:∀ v,assign (.Subscript o i pos) X.env v=(do
   let ov <- holding [v] (eval o X.env)
   let iv <- holding [v,ov] (eval i X.env)
   standAt pos
   holding [v,ov,iv] (setItem ov iv v)
   release [v,ov,iv] [])):QG X (.Subscript o i pos) (IC f g) :=
 PG_imp (Du ho hi (zd hu) ha) fun v σ H Q hq0=>by
  obtain ⟨P,φ,sl,st,x,rs,s,rx,sl',st',e,k⟩:=hq0;obtain ⟨q,e1,e2⟩:=zA e;obtain ⟨r,e3,e4⟩:=zA e2;obtain ⟨z,e5,e6⟩:=zE.mp e4;cases e6;exact ⟨P,φ,sl,st,rs,s,q.1,q.2,e1,fun P1 φ1 H1 w f1 s1 r1=>⟨P1,φ1,sl,q.2,rs.frm f1,s1,r.1,r.2,e3,fun P2 φ2 H2 w2 f2 s2 r2=>⟨P2,φ2,r.2,q.1,r.1,x,st',s2,r1.frm f2,r2,(rx.frm f1).frm f2,e5,fun P3 φ3 H3 f3 s3=>k P3 φ3 H3 σ ((f1.trans f2).trans f3) s3 (((rs.frm f1).frm f2).frm f3)⟩⟩⟩
end
def hid (H:Hp) (p:Addr):Hp:=fun b=>if b=p then none else H b
theorem bA (h:b ≠ p):hid H p b=H b:=yF h
theorem de:hid H p p=none:=yG rfl
theorem Az (h:H p=some o):af (hid H p) p o=H:=by
 funext b;by_cases e:b=p
 ·subst e;rw [ar,h]
 ·rw [ad e,bA e]
theorem sV:hid (af H p o) p=hid H p:=by
 funext b;by_cases e:b=p
 ·subst e;rw [de,de]
 ·rw [bA e,bA e,ad e]
theorem yb (h:H p=none):hid H p=H:=by
 funext b;by_cases e:b=p
 ·subst e;rw [de,h]
 ·rw [bA e]
section
variable {mg:Gm}{P P':Pr}{φ φ':List Addr}{st st':aa}{H H':Hp}{p:Addr}
theorem _root_.L2.fA.sh {P:Addr}{pos:Pos}{q:Str} (h:fA (hid H p) P pos q):fA H P pos q:=by
 obtain ⟨ps,e,t,c⟩:=h;have ne:∀ {a o},hid H p a=some o->H a=some o:=fun {a o} e=>by
  by_cases z:a=p
  ·rw [z,de] at e;cases e
  ·rw [bA z] at e;exact e
 refine ⟨ps,ne e,t,?_⟩;rcases c with c | ⟨c',c1,c2⟩
 ·exact .inl c
 ·exact .inr ⟨c',c1,ne c2⟩
theorem _root_.L2.fA.hd {P:Addr}{pos:Pos}{q:Str} (h:fA H P pos q) (hl:∃ vs,H p=some (.lst vs)):fA (hid H p) P pos q:=by
 obtain ⟨ps,e,t,c⟩:=h;obtain ⟨vs,hv⟩:=hl;refine ⟨ps,by rw [bA (ue e hv fun z=>nomatch z)];exact e,t,?_⟩;rcases c with c | ⟨c',c1,c2⟩
 ·exact .inl c
 ·exact .inr ⟨c',c1,by rw [bA (ue c2 hv fun z=>nomatch z)];exact c2⟩
theorem Sim.sh [L7] (s:Sim mg P φ st (hid H p)) (o:HO) (ho:H p=some o):Sim mg P φ st H/\∀ a,P a->P a/\H a=hid H p a:=by
 have nP:∀ a,P a->a ≠ p:=fun a h e=>s.dom a h (by rw [e];exact de)
 have nC:∀ a ∈ φ,a ≠ p:=fun a h e=>s.cd a h (by rw [e];exact de)
 have ex:∀ a,P a->P a/\H a=hid H p a:=fun a h=>⟨h,(bA (nP a h)).symm⟩
 exact ⟨s.stay ex (fun a h=>(bA (nC a h)).symm) (fun _ _ h=>h) (fun a h=>by rw [(ex a h).2];exact s.dom a h) fun t ht=>⟨(s.tb t ht).1.sh,(s.tb t ht).2⟩,ex⟩
theorem Frm.hd [L7] (s0:Sim mg P φ st (hid H p)) (hl:∃ vs,H p=some (.lst vs)) (f:Frm P φ H P' φ' H') (s:Sim mg P' φ' st' H'):Frm P φ (hid H p) P' φ' (hid H' p)/\Sim mg P' φ' st' (hid H' p)/\(∀ a,P' a->P' a/\hid H' p a=H' a)/\H' p=H p:=by
 have nP:∀ a,P a->a ≠ p:=fun a h e=>s0.dom a h (by rw [e];exact de)
 have nC:∀ a ∈ φ,a ≠ p:=fun a h e=>s0.cd a h (by rw [e];exact de)
 have hp:H p ≠ none:=fun z=>by obtain ⟨vs,e⟩:=hl;rw [z] at e;cases e
 have kp:H' p=H p:=f.keep p hp (fun h=>nC p h rfl) fun ps z=>by obtain ⟨vs,e⟩:=hl;rw [z] at e;cases e
 obtain ⟨m,em,nm⟩:=f.new;have nP':∀ a,P' a->a ≠ p:=fun a h e=>by
  rcases f.pn a h with z | z | z
  ·exact nP a z e
  ·exact hp (by rw [<- e];exact z)
  ·exact nC a z e
 have nC':∀ a ∈ φ',a ≠ p:=fun a h e=>by
  rw [em] at h;rcases zZ.mp h with z | z
  ·exact nC a z e
  ·exact hp (by rw [<- e];exact nm a z)
 have hn:∀ a,hid H p a ≠ none->a ≠ p:=fun a h e=>h (by rw [e];exact de)
 have ex:∀ a,P' a->P' a/\hid H' p a=H' a:=fun a h=>⟨h,bA (nP' a h)⟩
 refine ⟨⟨fun a h=>⟨(f.ext a h).1,by rw [bA (nP a h),bA (nP a h)];exact (f.ext a h).2⟩,⟨m,em,fun a h=>?_⟩,fun a h n z=>?_,fun a h=>?_,fun a h=>?_,fun a o u h=>?_⟩,s.stay ex (fun a h=>bA (nC' a h)) (fun _ _ h=>h) (fun a h=>by rw [(ex a h).2];exact s.dom a h) (fun t ht=>⟨(s.tb t ht).1.hd (by rw [kp];exact hl),(s.tb t ht).2⟩),ex,kp⟩
 ·rw [bA (nC' a (by rw [em];exact zK _ h))];exact nm a h
 ·rw [bA (hn a h),bA (hn a h)]
  rw [bA (hn a h)] at z;rw [bA (hn a h)] at h;exact f.keep a h n z
 ·rcases f.pn a h with z | z | z
  ·exact .inl z
  ·exact .inr (.inl (by rw [bA (nP' a h)];exact z))
  ·exact .inr (.inr z)
 ·rw [bA (hn a h)]
  rw [bA (hn a h)] at h;exact f.sm a h
 ·have ne:=hn a (by rw [h];exact fun z=>nomatch z)
  rw [bA ne] at h ⊢;exact f.fz a o u h
end
def fm (gd:Gd) (g:GF) (t:TF) (f:EF) (sl:Sl):List AV->aa->Option (List AV × aa)
 | [],st=>if ce gd st=true then some ([],st) else none
 | x::xs,st=>if ce gd st=true then (g x sl st).bind fun p=>(t p.1 p.2).bind fun q=>if q.1=true then (f p.1 q.2).bind fun r=>(fm gd g t f sl xs r.2).map fun z=>(r.1::z.1,z.2) else fm gd g t f sl xs q.2 else none
def zr (k:Nat) (it:IF) (g:GF) (t:TF) (f:EF):NF:=fun sl st=>(it sl st).bind fun p=>if dP p.1.L9.length=true then fm p.1.gd g t f (sl++List.replicate k none) p.1.L9 p.2 else none
def HS:TF:=fun _ st=>some (true,st)
theorem Mg.ext0 (h:Mg mg P H φ sl σ) (k:Nat):Mg mg P H φ (sl++List.replicate k none) (σ++List.replicate k none):=by
 refine ⟨by rw [zV,zV,h.1,List.length_replicate,List.length_replicate],fun i v e=>?_⟩;have hi:i < sl.length:=by
  rcases yQ i sl.length with z | z
  ·exact z
  ·rw [z5 z,List.getElem?_replicate] at e
   split at e <;> cases e
 rw [zN hi] at e;rw [zN (by rw [<- h.1];exact hi)];exact h.2 i v e
def pJ (n:Nat) (g:GF):Prop:=∀ x sl st sl' st',g x sl st=some (sl',st')->sl'.length=sl.length/\∀ j,j < n->sl'[j]?=sl[j]?
theorem Mg.back {k:Nat} (h:Mg mg P H φ sl' σ) (hl:sl'.length=(sl++List.replicate k none).length) (hj:∀ j,j < sl.length->sl'[j]?=(sl++List.replicate k none)[j]?):Mg mg P H φ (sl++List.replicate k none) σ:=by
 refine ⟨by rw [<- hl];exact h.1,fun i v e=>?_⟩;have hi:i < sl.length:=by
  rcases yQ i sl.length with z | z
  ·exact z
  ·rw [z5 z,List.getElem?_replicate] at e
   split at e <;> cases e
 exact h.2 i v (by rw [hj i hi];exact e)
theorem EE [L7] {n k:Nat} (hk:pJ n g) (hn:σ.length=n) (h:rN mg (zr k it g t f) σ H Q):Cw k (rI mg it) (rG mg g) (rT mg t) (rE mg f) σ H Q:=by
 obtain ⟨P,φ,sl,st,rs,s,out,stE,ef,kk⟩:=h;obtain ⟨q,e1,e2⟩:=zA ef;split at e2
 ·rename_i hz
  refine ⟨P,φ,sl,st,rs,s,q.1,q.2,e1,fun P1 φ1 H1 J f1 s1 ij=>fun p hp=>?_⟩;have hsl:sl.length=n:=by rw [rs.1];exact hn
  refine ⟨fun i m σ' H'=>m=q.1.L9.length - i/\i <= q.1.L9.length/\∃ P' φ' st' xs vs zs,Frm P1 φ1 H1 P' φ' (hid H' p)/\Sim mg P' φ' st' (hid H' p)/\Mg mg P' (hid H' p) φ' (sl++List.replicate k none) σ'/\H' p=some (.lst vs)/\Ma mg P' (hid H' p) φ' xs vs/\xs.length <= i /\
    fm q.1.gd g t f (sl++List.replicate k none) (q.1.L9.drop i) st'=some (zs,stE)/\out=xs++zs,⟨_,rfl,Nat.zero_le _,P1,φ1,q.2,[],[],out,?_⟩,?_⟩
  ·have e:hid (af H1 p (.lst [])) p=H1:=by rw [sV,yb hp]
   rw [e];exact ⟨Frm.refl,s1,(rs.frm f1).ext0 k,ar,br,zP _,by simpa using e2,rfl⟩
  ·rintro i m σ' H' ⟨rfl,hle,P2,φ2,st2,xs,vs,zs,f2,s2,rs2,hv,rx,hlen,eg,eo⟩
   obtain ⟨s2v,ex2⟩:=s2.sh _ hv;have rs2v:Mg mg P2 H' φ2 (sl++List.replicate k none) σ':=⟨rs2.1,fun i v e=>let ⟨w,e',r⟩:=rs2.2 i v e;⟨w,e',r.mono ex2 fun _ _ z=>z⟩⟩;have hpn:H' p ≠ none:=by rw [hv];exact fun z=>nomatch z
   -- the iterator's rules hold at the whole heap: it keeps what is out of sight as it is
   have f2v:Frm P1 φ1 H1 P2 φ2 H':=by
    refine ⟨fun a h=>⟨(f2.ext a h).1,?_⟩,f2.new,fun a h n z=>?_,fun a h=>f2.pn a h,fun a h=>?_,fun a o u h=>?_⟩
    ·have ne:a ≠ p:=fun e=>s1.dom a h (by rw [e];exact hp)
     rw [<- bA (H:=H') ne];exact (f2.ext a h).2
    ·have ne:a ≠ p:=fun e=>h (by rw [e];exact hp)
     rw [<- bA (H:=H') ne];exact f2.keep a h n z
    ·have ne:a ≠ p:=fun e=>h (by rw [e];exact hp)
     rw [<- bA (H:=H') ne];exact f2.sm a h
    ·have ne:a ≠ p:=be h hp
     rw [<- bA (H:=H') ne];exact f2.fz a o u h
   rcases yQ i q.1.L9.length with hi | hi
   ·right
    rw [List.drop_eq_getElem_cons hi] at eg;simp only [fm] at eg;split at eg
    ·rename_i hgd
     obtain ⟨go,yl⟩:=ij.go P2 φ2 H' st2 i _ f2v s2v hgd (zF hi);refine ⟨go,fun x H3 hy=>?_⟩;obtain ⟨P3,f3,s3,r3⟩:=yl x H3 hy;obtain ⟨q4,e4,e5⟩:=zA eg;obtain ⟨q6,e6,e7⟩:=zA e5;obtain ⟨kl,kj⟩:=hk _ _ _ _ _ e4;refine ⟨P3,φ2,sl++List.replicate k none,st2,q.1.L9[i],rs2v.frm f3,s3,r3,q4.1,q4.2,e4,fun P4 φ4 H4 σ4 f4 s4 rs4=>⟨P4,φ4,q4.1,q4.2,rs4,s4,q6.1,q6.2,e6,fun P5 φ5 H5 c f5 s5 r5=>?_⟩⟩;cases r5;have f35:=(f3.trans f4).trans f5;have back:∀ {P6:Pr}{φ6:List Addr}{H6:Hp},Frm P5 φ5 H5 P6 φ6 H6->Mg mg P6 H6 φ6 (sl++List.replicate k none) σ4:=fun f6=>((rs4.frm f5).frm f6).back kl fun j hj=>kj j oM
     cases hc:q6.1 with
     | true =>
      rw [hc] at e7;simp only [if_true] at e7 ⊢;obtain ⟨q8,e8,e9⟩:=zA e7;obtain ⟨z,e10,e11⟩:=zE.mp e9;cases e11;refine ⟨P5,φ5,q4.1,q6.2,rs4.frm f5,s5,q8.1,q8.2,e8,fun P6 φ6 H6 y f6 s6 r6=>?_⟩;obtain ⟨fh,sh,exh,hpe⟩:=Frm.hd s2 ⟨_,hv⟩ (f35.trans f6) s6;refine ⟨vs,by rw [hpe];exact hv,?_,q.1.L9.length - (i + 1),by omega,rfl,hi,P6,φ6,q8.2,xs++[q8.1],vs++[y],z.1,?_⟩
      ·rw [<- rx.length]
       have h1:=zS hz;have h2:(1000000:Nat) < sizeLine:=by decide
       omega
      ·have eh:hid (af H6 p (.lst (vs++[y]))) p=hid H6 p:=sV
       rw [eh];refine ⟨f2.trans fh,sh,?_,ar,(rx.frm fh).app (aW (r6.mono exh fun _ _ z=>z) br),by rw [zV];simp;omega,e10,by rw [eo,yL];rfl⟩
       have:=back f6
       exact ⟨this.1,fun i v e=>let ⟨w,e',r⟩:=this.2 i v e;⟨w,e',r.mono exh fun _ _ z=>z⟩⟩
     | false =>
      rw [hc] at e7;simp only [z9,if_false] at e7 ⊢;obtain ⟨fh,sh,exh,hpe⟩:=Frm.hd s2 ⟨_,hv⟩ f35 s5;refine ⟨q.1.L9.length - (i + 1),by omega,rfl,hi,P5,φ5,q6.2,xs,vs,zs,f2.trans fh,sh,?_,by rw [hpe];exact hv,rx.frm fh,by omega,e7,eo⟩
      have:=back Frm.refl
      exact ⟨this.1,fun i v e=>let ⟨w,e',r⟩:=this.2 i v e;⟨w,e',r.mono exh fun _ _ z=>z⟩⟩
    ·cases eg
   ·left
    have ei:i=q.1.L9.length:=Nat.le_antisymm hle hi;subst ei;rw [List.drop_length] at eg;simp only [fm] at eg;split at eg
    ·rename_i hgd
     cases eg;refine ⟨ij.stop P2 φ2 H' _ f2v s2v hgd,?_⟩
     have:=kk P2 φ2 (hid H' p) p vs (f1.trans f2) s2 de (by rw [eo,List.append_nil];exact rx)
     rw [Az hv] at this;exact this
    ·cases eg
 ·cases e2
def wy [L7] (X:Cx) (ifs:List Expr) (t:TF):Prop:=tJ X ifs (rT X.gm t)
section
variable {X:Cx}{elt iter tg:Expr}{ifs:List Expr}{N':List Str}{scope:Scope}{pos:Pos}{it:IF}{g:GF}{t:TF}{f:EF}
theorem A1 [L7]:wy X [] HS:=fun L5 s σ H Q I ⟨P,φ,sl,st,rs,sm,k⟩=>Bk L5 s σ H Q I (k.pure sm rfl)
theorem A0 [L7] (h:QT X e t):wy X [e] t:=Bj h
theorem FJ {e:Expr}{t t':TE} (h:PE X e t) (i:∀ σ H Q,σ.length=X.N.length->t' σ H Q->t σ H Q):PE X e t':=fun L5 s σ H Q I h'=>h L5 s σ H Q I (i σ H Q I.len h')
theorem FH {st:Stmt}{t t':TS} (h:PS X st t) (i:∀ D σ H,σ.length=X.N.length->t' D σ H->t D σ H):PS X st t':=fun L5 s σ H D I h'=>h L5 s σ H D I (i D σ H I.len h')
theorem Gk [L7] (hc:X.calm=true) (T:jJ X N' scope) (hi:QI X tg iter it) (hg:∀ cl s H fp L5,QG (cz X N' scope cl s H fp L5) tg g) (ht:∀ cl s H fp L5,wy (cz X N' scope cl s H fp L5) ifs t)
  (he:∀ cl s H fp L5,QE (cz X N' scope cl s H fp L5) elt f) (hk:pJ X.N.length g) (hs:∀ x,foldedSetIterable iter X.env x=pure x):QN X (.ListComp elt [⟨tg,iter,ifs,0⟩] scope pos) (zr (N'.length - X.N.length) it g t f) :=
 FJ (GD (g:=rG X.gm g) (tt:=rT X.gm t) (te:=rE X.gm f) hc T hi (fun cl s H fp L5=>hg cl s H fp L5) (fun cl s H fp L5=>ht cl s H fp L5) (fun cl s H fp L5=>he cl s H fp L5) hs) fun σ H Q hl h=>EE hk hl h
end
inductive Out where
 | nx (sl:Sl) (st:aa) | rt (v:AV) (st:aa) | bk (sl:Sl) (st:aa) | ct (sl:Sl) (st:aa)
abbrev SF:=Sl->aa->Option Out
def ThO [L7] (mg:Gm) (P:Pr) (φ:List Addr) (H:Hp) (D:i5):Out->Prop
 | .nx sl st=>∀ P' φ' H' σ',Frm P φ H P' φ' H'->Sim mg P' φ' st H'->Mg mg P' H' φ' sl σ'->D.nx σ' H'
 | .bk sl st=>∀ P' φ' H' σ',Frm P φ H P' φ' H'->Sim mg P' φ' st H'->Mg mg P' H' φ' sl σ'->D.bk σ' H'
 | .ct sl st=>∀ P' φ' H' σ',Frm P φ H P' φ' H'->Sim mg P' φ' st H'->Mg mg P' H' φ' sl σ'->D.ct σ' H'
 | .rt v st=>∀ P' φ' H' w,Frm P φ H P' φ' H'->Sim mg P' φ' st H'->RA mg P' H' φ' v w->D.rt w H'
def KO [L7] (mg:Gm) (P:Pr) (φ:List Addr) (H:Hp) (r:Option Out) (D:i5):Prop:=∃ o,r=some o/\ThO mg P φ H D o
def rS [L7] (mg:Gm) (f:SF):TS:=fun D σ H=>∃ P φ sl st,Mg mg P H φ sl σ/\Sim mg P φ st H/\KO mg P φ H (f sl st) D
def QS [L7] (X:Cx) (st:Stmt) (f:SF):Prop:=PS X st (rS X.gm f)
def kK [L7] (X:Cx) (sts:List Stmt) (f:SF):Prop:=PSs X sts (rS X.gm f)
theorem ThO.frm [L7] (h:ThO mg P φ H D o) (f:Frm P φ H P1 φ1 H1):ThO mg P1 φ1 H1 D o:=by
 cases o with
 | nx sl st=>exact fun P' φ' H' σ' f'=>h P' φ' H' σ' (f.trans f')
 | bk sl st=>exact fun P' φ' H' σ' f'=>h P' φ' H' σ' (f.trans f')
 | ct sl st=>exact fun P' φ' H' σ' f'=>h P' φ' H' σ' (f.trans f')
 | rt v st=>exact fun P' φ' H' σ' f'=>h P' φ' H' σ' (f.trans f')
theorem KO.bindE [L7] {α β:Type}{Ra:Gm->Pr->Hp->List Addr->α->β->Prop}{m:Option (α × aa)}{k:α × aa->Option Out} (h:KO mg P φ H (m.bind k) D) :
  KG mg Ra P φ H m fun b H1=>∃ P1 φ1 st1 a,Frm P φ H P1 φ1 H1/\Sim mg P1 φ1 st1 H1/\Ra mg P1 H1 φ1 a b/\KO mg P1 φ1 H1 (k (a,st1)) D:=by
 obtain ⟨o,e,q⟩:=h;cases m with
 | none=>cases e
 | some p=>exact ⟨p.1,p.2,rfl,fun P1 φ1 H1 b f s r=>⟨P1,φ1,p.2,p.1,f,s,r,o,e,q.frm f⟩⟩
theorem KO.nx [L7] {mg:Gm}{P:Pr}{φ:List Addr}{H:Hp}{sl:Sl}{st:aa}{D:i5}{σ:St} (h:KO mg P φ H (some (.nx sl st)) D) (s:Sim mg P φ st H) (r:Mg mg P H φ sl σ):D.nx σ H:=by
 obtain ⟨o,e,q⟩:=h;cases e;exact q P φ H σ Frm.refl s r
theorem KO.no [L7] (h:KO mg P φ H none D):False:=by obtain ⟨_,e,_⟩:=h;cases e
section
variable {X:Cx}{st:Stmt}{rest:List Stmt}{e c tg:Expr}{pos:Pos}{s t:SF}{f:EF}{g:GF}{b:TF}
def Ic:SF:=fun sl st=>some (.nx sl st)
def Ia (s t:SF):SF:=fun sl st=>(s sl st).bind fun o=>match o with
 | .nx sl st=>t sl st
 | o=>some o
theorem AR [L7]:kK X [] Ic:=PSs_imp Bb fun D σ H ⟨P,φ,sl,st,rs,s,k⟩=>k.nx s rs
theorem wX [L7] (h1:QS X st s) (h2:kK X rest t):kK X (st::rest) (Ia s t):=PSs_imp (xc h1 h2) fun D σ H hq0=>by
 obtain ⟨P,φ,sl,st,rs,sm,o,e,q⟩:=hq0;obtain ⟨o1,e1,e2⟩:=zA e;refine ⟨P,φ,sl,st,rs,sm,o1,e1,?_⟩;cases o1 with
 | nx sl1 st1=>exact fun P' φ' H' σ' f' s' rs'=>⟨P',φ',sl1,st1,rs',s',o,e2,q.frm f'⟩
 | bk sl1 st1=>cases e2;exact q
 | ct sl1 st1=>cases e2;exact q
 | rt v st1=>cases e2;exact q
def ze:SF:=fun _ _=>none
theorem AU [L7]:QS X st ze:=PS_imp xg fun D σ H ⟨P,φ,sl,st,rs,s,k⟩=>k.no
theorem wW [L7]:kK X sts ze:=PSs_imp vw fun D σ H ⟨P,φ,sl,st,rs,s,k⟩=>k.no
def Ih (f:EF):SF:=fun sl st=>(f sl st).bind fun p=>some (.nx sl p.2)
theorem AT [L7] (he:QE X e f) (hs:swapsWith e none pos.line X.env=pure false):QS X (.Expr e pos) (Ih f):=PS_imp (Be he hs) fun D σ H ⟨P,φ,sl,st,rs,s,k⟩=>⟨P,φ,sl,st,rs,s,by
 obtain ⟨a,st',e1,q⟩:=k.bindE (Ra:=RA);refine ⟨a,st',e1,fun P1 φ1 H1 w f1 s1 r1=>?_⟩;obtain ⟨P2,φ2,st2,x,f2,s2,r2,k2⟩:=q P1 φ1 H1 w f1 s1 r1;exact k2.nx s2 (rs.frm f2)⟩
def Ib (f:EF):SF:=fun sl st=>(f sl st).bind fun p=>some (.rt p.1 p.2)
theorem CT [L7] (he:QE X e f):QS X (.Return (some e) pos) (Ib f):=PS_imp (Dl he) fun D σ H ⟨P,φ,sl,st,rs,s,k⟩=>⟨P,φ,sl,st,rs,s,by
 obtain ⟨a,st',e1,q⟩:=k.bindE (Ra:=RA);refine ⟨a,st',e1,fun P1 φ1 H1 w f1 s1 r1=>?_⟩;obtain ⟨P2,φ2,st2,x,f2,s2,r2,o,eo,q2⟩:=q P1 φ1 H1 w f1 s1 r1;cases eo;exact q2 P2 φ2 H1 w Frm.refl s2 r2⟩
def Ie (b:TF) (s t:SF):SF:=fun sl st=>(b sl st).bind fun p=>if p.1=true then s sl p.2 else t sl p.2
theorem Gi [L7] (hc:QT X c b) (ha:kK X x s) (hb:kK X y t):QS X (.If c x y pos) (Ie b s t):=PS_imp (Gy hc ha hb) fun D σ H ⟨P,φ,sl,st,rs,sm,k⟩=>⟨P,φ,sl,st,rs,sm,by
 obtain ⟨a,st',e1,q⟩:=k.bindE (Ra:=RB);refine ⟨a,st',e1,fun P1 φ1 H1 w f1 s1 r1=>?_⟩;obtain ⟨P2,φ2,st2,x,f2,s2,r2,k2⟩:=q P1 φ1 H1 w f1 s1 r1;cases r2;cases w with
 | true=>exact ⟨P2,φ2,sl,st2,rs.frm f2,s2,k2⟩
 | false=>exact ⟨P2,φ2,sl,st2,rs.frm f2,s2,k2⟩⟩
def vm (f:EF) (g:GF):SF:=fun sl st=>(f sl st).bind fun p=>(g p.1 sl p.2).bind fun q=>some (.nx q.1 q.2)
theorem uU [L7] (h:rS mg (vm f g) D σ H):tU (rE mg f) (rG mg g) D σ H:=by
 obtain ⟨P,φ,sl,st,rs,s,o,e,q⟩:=h;obtain ⟨p,e1,e2⟩:=zA e;obtain ⟨r,e3,e4⟩:=zA e2;cases e4;exact ⟨P,φ,sl,st,rs,s,p.1,p.2,e1,fun P1 φ1 H1 w f1 s1 r1=>⟨P1,φ1,sl,p.2,p.1,rs.frm f1,s1,r1,r.1,r.2,e3,fun P2 φ2 H2 σ2 f2 s2 rs2=>q P2 φ2 H2 σ2 (f1.trans f2) s2 rs2⟩⟩
theorem vq [L7] (he:QE X e f) (hg:QG X tg g) (hs:swapsWithSole [tg] e pos.line X.env=pure false) (hw:swappedStores [tg] e X.env=pure none) (h1:(assignEach [tg] X.env).map (·.2)=[assign tg X.env]):QS X (.Assign [tg] e pos) (vm f g) :=
 PS_imp (Do he hg hs hw h1) fun D σ H h=>uU h
theorem D0 [L7] {i:Nat} (h:rG mg (v8 i) v σ H Q):mW i v σ H Q:=by
 obtain ⟨P,φ,sl,st,x,rs,s,rx,k⟩:=h;exact k.pure s (rs.set rx i)
theorem vp [L7] {i:Nat} (hN:X.N.Nodup) (hi:X.N[i]?=some x) (hx:Loc X.env.scope x) (he:QE X e f) (hs:swapsWith e (some (.Name x pos')) pos.line X.env=pure false) (hf:X.fn x=true\/X.env.scope.names.lookup x=some .local) :
  QS X (.Assign [.Name x pos'] e pos) (vm f (v8 i)):=PS_imp (Dk hN hi hx he hs hf) fun D σ H h=>by
 obtain ⟨P,φ,sl,st,rs,s,p1,p2,e1,k⟩:=uU h;exact ⟨P,φ,sl,st,rs,s,p1,p2,e1,fun P1 φ1 H1 w f1 s1 r1=>D0 (k P1 φ1 H1 w f1 s1 r1)⟩
def Ap (m:Bool) (f:NF):EF:=if m=true then KY f else KZ f
theorem DY [L7] {mg:Gm}{m:Bool}{f:NF}{σ:St}{H:Hp}{Q:VK} (h:rE mg (Ap m f) σ H Q):rN mg f σ H Q:=by
 obtain ⟨P,φ,sl,st,rs,s,v,st',ev,k⟩:=h;cases m with
 | true =>
  obtain ⟨q,e1,e2⟩:=zA ev;cases e2;refine ⟨P,φ,sl,st,rs,s,q.1,q.2,e1,fun P1 φ1 H1 p vs f1 s1 hp r1=>?_⟩;obtain ⟨f3,s3,r3⟩:=Ec s1 hp r1;exact k P1 _ _ _ (f1.trans f3) s3 r3
 | false =>
  obtain ⟨q,e1,e2⟩:=zA ev;split at e2
  ·rename_i hr
   cases e2;refine ⟨P,φ,sl,st,rs,s,q.1,q.2,e1,fun P1 φ1 H1 p vs f1 s1 hp r1=>?_⟩;obtain ⟨P3,f3,s3,r3⟩:=E7 s1 hp hr r1;exact k P3 φ1 _ _ (f1.trans f3) s3 r3
  ·cases e2
theorem Gs [L7] {m:Bool}{f:NF} (h:QN X e f):QE X e (Ap m f):=PE_imp h fun _ _ _ q=>DY q
theorem vo [L7] {i:Nat}{y:Str}{py:Pos}{elt iter tg:Expr}{ifs:List Expr}{N':List Str}{scope:Scope}{pos spos:Pos}{it:IF}{g:GF}{t:TF}{f:EF}{m:Bool} (hN:X.N.Nodup) (hiN:X.N[i]?=some y) (hx:Loc X.env.scope y)
  (hsw:swapsWith (.ListComp elt [⟨tg,iter,ifs,0⟩] scope pos) (some (.Name y py)) spos.line X.env=pure true)
  (hc:X.calm=true) (T:jJ X N' scope) (hi:QI X tg iter it) (hg:∀ cl s H fp L5,QG (cz X N' scope cl s H fp L5) tg g) (ht:∀ cl s H fp L5,wy (cz X N' scope cl s H fp L5) ifs t)
  (he:∀ cl s H fp L5,QE (cz X N' scope cl s H fp L5) elt f) (hk:pJ X.N.length g) (hs:∀ x,foldedSetIterable iter X.env x=pure x) (hf:X.fn y=true\/X.env.scope.names.lookup y=some .local) :
  QS X (.Assign [.Name y py] (.ListComp elt [⟨tg,iter,ifs,0⟩] scope pos) spos) (vm (Ap m (zr (N'.length - X.N.length) it g t f)) (v8 i)) :=
 FH (vx (g:=rG X.gm g) (tt:=rT X.gm t) (te:=rE X.gm f) hN hiN hx hsw hc T hi (fun cl s H fp L5=>hg cl s H fp L5) (fun cl s H fp L5=>ht cl s H fp L5) (fun cl s H fp L5=>he cl s H fp L5) hs hf) fun D σ H hl h=>by
  obtain ⟨P,φ,sl,st,rs,s,p1,p2,e1,k⟩:=uU h;exact EE hk hl (DY (m:=m) ⟨P,φ,sl,st,rs,s,p1,p2,e1,fun P1 φ1 H1 w f1 s1 r1=>D0 (k P1 φ1 H1 w f1 s1 r1)⟩)
def re (o:Operator) (_:aa):AV->AV->Option AV
 | .int a,.int b=>match o with
  | .Add=>some (.int (a + b))
  | .Sub=>some (.int (a - b))
  | _=>none
 | _,_=>none
theorem EV [L7] (o:Operator):wA X o (fun x y H Q=>∃ P φ st a b c,Sim X.gm P φ st H/\RA X.gm P H φ a x/\RA X.gm P H φ b y/\re o st a b=some c/\∀ w,RA X.gm P H φ c w->Q w H):=by
 rintro L5 s σ H x y v u Q I rx ry ⟨P,φ,st,a,b,c,sm,ra,rb,e,k⟩;cases a <;> cases b <;> simp only [re] at e <;> first | (cases e;done) | skip
 rename_i i j;simp only [RA] at ra rb;subst ra;subst rb;cases o <;> first | (cases e;done) | skip
 ·cases e
  exact EU L5 s σ H _ _ v u Q I rx ry ⟨i,j,rfl,rfl,k _ (by simp only [RA])⟩
 ·cases e
  exact ET L5 s σ H _ _ v u Q I rx ry ⟨i,j,rfl,rfl,k _ (by simp only [RA])⟩
def zf (i:Nat) (o:Operator) (f:EF):SF:=fun sl st=>match sl[i]? with
 | some (some x)=>(f sl st).bind fun p=>(re o p.2 x p.1).bind fun z=>some (.nx (sl.set i (some z)) p.2)
 | _=>none
theorem CW [L7] {i:Nat} (hN:X.N.Nodup) (hi:X.N[i]?=some x) (hx:Loc X.env.scope x) (he:QE X e f) (hf:X.fn x=true\/X.env.scope.names.lookup x=some .local):QS X (.AugAssign (.Name x pos') o e pos) (zf i o f) :=
 PS_imp (Dn hN hi hx he (EV o) hf) fun D σ H hq0=>by
  obtain ⟨P,φ,sl,st,rs,s,out,eo,q⟩:=hq0;unfold zf at eo;split at eo
  ·rename_i v hv
   obtain ⟨w,e0,r0⟩:=rs.2 i v hv;obtain ⟨p,e1,e2⟩:=zA eo;obtain ⟨z,e3,e4⟩:=zA e2;cases e4;exact ⟨w,e0,P,φ,sl,st,rs,s,p.1,p.2,e1,fun P1 φ1 H1 y f1 s1 r1=>⟨P1,φ1,p.2,v,p.1,z,s1,r0.frm f1,r1,e3,fun w' r'=>q P1 φ1 H1 _ f1 s1 ((rs.frm f1).set r' i)⟩⟩
  ·cases eo
theorem Ha [L7]:yu X (fun x y H Q=>∃ P φ st a b c,Sim X.gm P φ st H/\RA X.gm P H φ a x/\RA X.gm P H φ (.int b) y/\(∃ xs,bw st a=some xs/\fN xs b=some c)/\∀ w,RA X.gm P H φ c w->Q w H):=by
 rintro L5 s σ H x y v u Q I rx ry ⟨P,φ,st,a,b,c,sm,ra,rb,⟨xs,e1,e2⟩,k⟩;obtain ⟨p,vs,rfl,d1,q1⟩:=ra.ls sm e1;obtain ⟨w,e3,r3⟩:=oy q1 e2;simp only [RA] at rb;exact ye L5 s σ H _ y v u Q I rx ry ⟨p,vs,b,w,rfl,rb,d1,e3,k w r3⟩
def tZ (o:Operator) (f g h:EF):SF:=fun sl st=>(f sl st).bind fun p=>(g sl p.2).bind fun q=>match q.1 with
 | .int i=>(bw q.2 p.1).bind fun xs=>(fN xs i).bind fun x=>(h sl q.2).bind fun r=>(re o r.2 x r.1).bind fun z=>(jt r.2 p.1 (.int i) z).bind fun st'=>some (.nx sl st')
 | _=>none
theorem AW [L7] {a i:Expr}{f g h:EF}{o:Operator}{tpos:Pos} (hu:X.A.units + 64 < cLine) (ho:QE X a f) (hi:QE X i g) (he:QE X e h)
  (ha:∀ ov iv new,augStore i ov iv new=(do holding [new,ov,iv] (setItem ov iv new);release [new,ov,iv] [];pure .next)):QS X (.AugAssign (.Subscript a i tpos) o e pos) (tZ o f g h) :=
 PS_imp (Bf ho hi Ha he (EV o) (zd hu) ha) fun D σ H hq0=>by
  obtain ⟨P,φ,sl,st,rs,s,out,eo,q⟩:=hq0;obtain ⟨p,e1,e2⟩:=zA eo;obtain ⟨r,e3,e4⟩:=zA e2;split at e4
  ·rename_i j hj
   obtain ⟨xs,e5,e6⟩:=zA e4;obtain ⟨x,e7,e8⟩:=zA e6;obtain ⟨t,e9,e10⟩:=zA e8;obtain ⟨z,e11,e12⟩:=zA e10;obtain ⟨st',e13,e14⟩:=zA e12;cases e14;refine ⟨P,φ,sl,st,rs,s,p.1,p.2,e1,fun P1 φ1 H1 w1 f1 s1 r1=>⟨P1,φ1,sl,p.2,rs.frm f1,s1,r.1,r.2,e3,fun P2 φ2 H2 w2 f2 s2 r2=>?_⟩⟩;rw [hj] at r2;refine ⟨P2,φ2,r.2,p.1,j,x,s2,r1.frm f2,r2,⟨xs,e5,e7⟩,fun w3 r3=>⟨P2,φ2,sl,r.2,(rs.frm f1).frm f2,s2,t.1,t.2,e9,fun P3 φ3 H3 w4 f3 s3 r4=>⟨P3,φ3,t.2,x,t.1,z,s3,r3.frm f3,r4,e11,fun w5 r5=>⟨P3,φ3,t.2,p.1,.int j,z,st',s3,(r1.frm f2).frm f3,r2.frm f3,r5,e13,fun P4 φ4 H4 f4 s4=>?_⟩⟩⟩⟩;exact q P4 φ4 H4 σ (((f1.trans f2).trans f3).trans f4) s4 ((((rs.frm f1).frm f2).frm f3).frm f4)
  ·cases e4
end
def df (gd:Gd) (g:GF) (s:SF):List AV->Sl->aa->Option Out
 | [],sl,st=>if ce gd st=true then some (.nx sl st) else none
 | x::xs,sl,st=>if ce gd st=true then (g x sl st).bind fun p=>(s p.1 p.2).bind fun o=>match o with
  | .nx sl st=>df gd g s xs sl st
  | .ct sl st=>df gd g s xs sl st
  | .bk sl st=>some (.nx sl st)
  | .rt v st=>some (.rt v st) else none
def Ig (it:IF) (g:GF) (s:SF):SF:=fun sl st=>(it sl st).bind fun p=>df p.1.gd g s p.1.L9 sl p.2
def dG (t:TF) (s:SF):Nat->Sl->aa->Option Out
 | 0,_,_=>none
 | n + 1,sl,st=>(t sl st).bind fun p=>if p.1=true then (s sl p.2).bind fun o=>match o with
  | .nx sl st=>dG t s n sl st
  | .ct sl st=>dG t s n sl st
  | .bk sl st=>some (.nx sl st)
  | .rt v st=>some (.rt v st) else some (.nx sl p.2)
open Classical in
def pT (t:TF) (s:SF):SF:=fun sl st=>if h:∃ n,(dG t s n sl st).isSome=true then dG t s (Classical.choose h) sl st else none
theorem dE:∀ {n m:Nat}{sl:Sl}{st:aa}{o:Out},n <= m->dG t s n sl st=some o->dG t s m sl st=some o:=by
 intro n
 induction n with
 | zero=>intro m sl st o _ h;cases h
 | succ n ih =>
  intro m sl st o hm h;cases m with
  | zero=>omega
  | succ m =>
   simp only [dG] at h ⊢;obtain ⟨p,e1,e2⟩:=zA h;rw [e1,bind_some];split at e2
   ·rename_i hc
    rw [yG hc];obtain ⟨q,e3,e4⟩:=zA e2;rw [e3,bind_some];cases q with
    | nx sl st=>exact ih oM e4
    | ct sl st=>exact ih oM e4
    | bk sl st=>exact e4
    | rt v st=>exact e4
   ·rename_i hc
    rw [yF hc];exact e2
theorem mx {t:TF}{s:SF}{n:Nat}{sl:Sl}{st:aa}{o:Out} (h:dG t s n sl st=some o):pT t s sl st=some o:=by
 have hx:∃ n,(dG t s n sl st).isSome=true:=⟨n,by rw [h];rfl⟩;unfold pT;rw [dif_pos hx];obtain ⟨o',e'⟩:=Option.isSome_iff_exists.mp (Classical.choose_spec hx);have h1:=dE (Nat.le_max_left n (Classical.choose hx)) h;have h2:=dE (Nat.le_max_right n (Classical.choose hx)) e';rw [e',<- h1,h2]
theorem vM {t:TF}{s:SF}{sl:Sl}{st:aa}{o:Out} (h:pT t s sl st=some o):∃ n,dG t s n sl st=some o:=by
 unfold pT at h;split at h
 ·exact ⟨_,h⟩
 ·cases h
section
variable {X:Cx}{tg iter c:Expr}{body:List Stmt}{pos:Pos}{it:IF}{g:GF}{s:SF}{t:TF}
theorem CU [L7] (hp:PassesOwn (model X.prog X.w) X.A X.env X.xe) (hc:X.calm=true) (hi:QI X tg iter it) (hg:QG X tg g) (hb:kK X body s) (hs:∀ x,foldedSetIterable iter X.env x=pure x):QS X (.For tg iter body [] pos) (Ig it g s) :=
 PS_imp (vy hp hc hi hg hb hs) fun D σ H hq0=>by
  obtain ⟨P,φ,sl,st,rs,sm,o,e,q⟩:=hq0;obtain ⟨p,e1,e2⟩:=zA e;refine ⟨P,φ,sl,st,rs,sm,p.1,p.2,e1,fun P1 φ1 H1 J f1 s1 ij=>?_⟩;have q1:=q.frm f1;refine ⟨fun i m σ' H'=>m=p.1.L9.length - i/\i <= p.1.L9.length/\∃ P' φ' sl' st',Frm P1 φ1 H1 P' φ' H'/\Sim X.gm P' φ' st' H'/\Mg X.gm P' H' φ' sl' σ'/\df p.1.gd g s (p.1.L9.drop i) sl' st'=some o,⟨_,rfl,Nat.zero_le _,P1,φ1,sl,p.2,Frm.refl,s1,rs.frm f1,by simpa using e2⟩,?_⟩;rintro i m σ' H' ⟨rfl,hle,P2,φ2,sl2,st2,f2,s2,rs2,eg⟩;rcases yQ i p.1.L9.length with hlt | hge
  ·right
   rw [List.drop_eq_getElem_cons hlt] at eg;simp only [df] at eg;split at eg
   ·rename_i hgd
    obtain ⟨go,yl⟩:=ij.go P2 φ2 H' st2 i _ f2 s2 hgd (zF hlt);obtain ⟨q4,e4,e5⟩:=zA eg;obtain ⟨o1,e6,e7⟩:=zA e5;refine ⟨go,fun σ' H'=>∃ P' φ' sl' st',Frm P1 φ1 H1 P' φ' H'/\Sim X.gm P' φ' st' H'/\Mg X.gm P' H' φ' sl' σ'/\df p.1.gd g s (p.1.L9.drop (i + 1)) sl' st'=some o,fun σ' H' z=>⟨_,by omega,rfl,hlt,z⟩,fun x H3 hy=>?_⟩;obtain ⟨P3,f3,s3,r3⟩:=yl x H3 hy;refine ⟨P3,φ2,sl2,st2,_,rs2.frm f3,s3,r3,q4.1,q4.2,e4,fun P4 φ4 H4 σ4 f4 s4 rs4=>⟨P4,φ4,q4.1,q4.2,rs4,s4,o1,e6,?_⟩⟩;have fa:=(f2.trans f3).trans f4;cases o1 with
    | nx sl5 st5=>exact fun P5 φ5 H5 σ5 f5 s5 rs5=>⟨P5,φ5,sl5,st5,fa.trans f5,s5,rs5,e7⟩
    | ct sl5 st5=>exact fun P5 φ5 H5 σ5 f5 s5 rs5=>⟨P5,φ5,sl5,st5,fa.trans f5,s5,rs5,e7⟩
    | bk sl5 st5=>cases e7;exact fun P5 φ5 H5 σ5 f5 s5 rs5=>q1 P5 φ5 H5 σ5 (fa.trans f5) s5 rs5
    | rt v st5=>cases e7;exact fun P5 φ5 H5 w f5 s5 r5=>q1 P5 φ5 H5 w (fa.trans f5) s5 r5
   ·cases eg
  ·left
   have ei:i=p.1.L9.length:=Nat.le_antisymm hle hge;subst ei;rw [List.drop_length] at eg;simp only [df] at eg;split at eg
   ·rename_i hgd
    cases eg;exact ⟨ij.stop P2 φ2 H' _ f2 s2 hgd,q1 P2 φ2 H' σ' f2 s2 rs2⟩
   ·cases eg
theorem wY [L7] (hp:PassesOwn (model X.prog X.w) X.A X.env X.xe) (hc:QT X c t) (hb:kK X body s):QS X (.While c body [] pos) (pT t s) :=
 PS_imp (xf hp hc hb) fun D σ H hq0=>by
  obtain ⟨P,φ,sl,st,rs,sm,o,e,q⟩:=hq0;obtain ⟨n0,e0⟩:=vM e;refine ⟨fun m σ' H'=>∃ P' φ' sl' st',Frm P φ H P' φ' H'/\Sim X.gm P' φ' st' H'/\Mg X.gm P' H' φ' sl' σ'/\dG t s m sl' st'=some o,⟨n0,P,φ,sl,st,Frm.refl,sm,rs,e0⟩,?_⟩;rintro m σ' H' ⟨P2,φ2,sl2,st2,f2,s2,rs2,eg⟩;cases m with
  | zero=>cases eg
  | succ m =>
   simp only [dG] at eg;obtain ⟨p,e1,e2⟩:=zA eg;refine ⟨P2,φ2,sl2,st2,rs2,s2,p.1,p.2,e1,fun P3 φ3 H3 b f3 s3 r3=>?_⟩;cases r3;cases hb':p.1 with
   | true =>
    rw [hb'] at e2;simp only [if_true] at e2 ⊢;obtain ⟨o1,e6,e7⟩:=zA e2;refine ⟨fun σ' H'=>∃ P' φ' sl' st',Frm P φ H P' φ' H'/\Sim X.gm P' φ' st' H'/\Mg X.gm P' H' φ' sl' σ'/\dG t s m sl' st'=some o,fun σ' H' z=>⟨m,Nat.lt_succ_self m,z⟩,P3,φ3,sl2,p.2,rs2.frm f3,s3,o1,e6,?_⟩;have fa:=f2.trans f3;cases o1 with
    | nx sl5 st5=>exact fun P5 φ5 H5 σ5 f5 s5 rs5=>⟨P5,φ5,sl5,st5,fa.trans f5,s5,rs5,e7⟩
    | ct sl5 st5=>exact fun P5 φ5 H5 σ5 f5 s5 rs5=>⟨P5,φ5,sl5,st5,fa.trans f5,s5,rs5,e7⟩
    | bk sl5 st5=>cases e7;exact fun P5 φ5 H5 σ5 f5 s5 rs5=>q P5 φ5 H5 σ5 (fa.trans f5) s5 rs5
    | rt v st5=>cases e7;exact fun P5 φ5 H5 w f5 s5 r5=>q P5 φ5 H5 w (fa.trans f5) s5 r5
   | false =>
    rw [hb'] at e2;simp only [z9,if_false] at e2 ⊢;cases e2;exact q P3 φ3 H3 σ' (f2.trans f3) s3 (rs2.frm f3)
end
abbrev Fn:=List AV->aa->Option (AV × aa)
def dq [L7] (mg:Gm) (n:Nat) (fn:Fn):Sp:=fun vs H Q _=>vs.length=n/\∃ P φ args st,Ma mg P H φ args vs/\Sim mg P φ st H/\KG mg RA P φ H (fn args st) Q
def cO:Nat->aa->AV->Option AV
 | n + 1,st,.ref k=>match st[k]? with
  | some (.lst xs)=>(bE (cO n st) xs).map .fz
  | some (.al t)=>some t
  | _=>none
 | n + 1,st,.tup xs=>(bE (cO n st) xs).map .tup
 | 0,_,.ref _=>none
 | 0,_,.tup _=>none
 | _,_,t=>some t
def dQ:aa->AV->Option AV:=cO 6
mutual
noncomputable def dg:AV->Bool
 | .ref _=>false
 | .fz _=>false
 | .tup xs=>m7 xs
 | _=>true
noncomputable def m7:List AV->Bool
 | []=>true
 | x::xs=>dg x && m7 xs
end
def oR (st:aa) (x:AV):Option (AV × aa):=if rf x=true then some (x,st) else match x with
 | .ref k=>match st[k]? with
  | some (.lst xs)=>if rfs xs=true then some (.fz xs,st.set k (.al (.fz xs))) else none
  | some (.al t)=>some (t,st)
  | _=>none
 | _=>none
def mX:aa->List AV->Option (List AV × aa)
 | st,[]=>some ([],st)
 | st,x::xs=>(oR st x).bind fun p=>(mX p.2 xs).map fun q=>(p.1::q.1,q.2)
def pm (fn:Fn):Fn:=fun args st=>if rfs args=true then (fn args []).bind fun p=>(dQ p.2 p.1).map fun t=>(t,st)
 else (bE (dQ st) args).bind fun ts=>(fn ts []).bind fun p=>(dQ p.2 p.1).bind fun t=>if dg t=true then some (t,st) else
  (mX st args).bind fun q=>(fn q.1 []).bind fun p=>(dQ p.2 p.1).map fun t=>(t,q.2)
section
variable {mg:Gm}{P:Pr}{φ:List Addr}{st:aa}{H:Hp}
theorem wU [L7] {n:Nat} (ih:∀ v w t,cO n st v=some t->RA mg P H φ v w->RA mg P' H [] t w):∀ {xs:List AV}{vs:List V}{ts:List AV},bE (cO n st) xs=some ts->Ma mg P H φ xs vs->Ma mg P' H [] ts vs:=by
 intro xs
 induction xs with
 | nil=>intro vs ts e r;cases e;simp only [Ma] at r ⊢;exact r
 | cons x xs ihx =>
  intro vs ts e r;simp only [bE] at e;obtain ⟨y,e1,e2⟩:=zA e;obtain ⟨ys,e3,e4⟩:=zE.mp e2;subst e4;simp only [Ma] at r;obtain ⟨v,ws,rfl,r1,r2⟩:=r;exact aW (ih x v y e1 r1) (ihx e3 r2)
theorem pU [L7] (s:Sim mg P φ st H):∀ (n:Nat) (v:AV) (w:V) (t:AV),cO n st v=some t->RA mg P H φ v w->RA mg (fun a=>P a\/a ∈ φ) H [] t w:=by
 have ex:∀ a,P a->(P a\/a ∈ φ)/\H a=H a:=fun a h=>⟨.inl h,rfl⟩
 have pl:∀ {t:AV}{w:V},R.rf t=true->RA mg P H φ t w->RA mg (fun a=>P a\/a ∈ φ) H [] t w:=fun h r=>(RA.rf (ψ:=[]) h r).mono ex fun _ _ z=>z
 intro n
 induction n with
 | zero =>
  intro v w t e r;cases v <;> simp only [cO] at e <;> first | (cases e;done) | skip
  all_goals cases e;exact pl rfl r
 | succ n ih =>
  intro v w t e r;cases v with
  | ref k =>
   simp only [cO] at e;simp only [RA] at r;obtain ⟨a,ea,rfl⟩:=r;split at e
   ·rename_i xs hk
    obtain ⟨ts,e1,e2⟩:=zE.mp e;subst e2;obtain ⟨a',ea',c⟩:=s.at hk;rw [ea] at ea';cases ea';obtain ⟨_,vs,h1,h2⟩:=c;simp only [RA];exact ⟨a,vs,rfl,.inl ⟨.inr (zW ea),.inl h1⟩,wU ih e1 h2⟩
   ·rename_i t' hk
    cases e;obtain ⟨a',ea',c⟩:=s.at hk;rw [ea] at ea';cases ea';exact c.2.mono ex fun _ _ z=>z
   ·cases e
  | tup xs =>
   simp only [cO] at e;obtain ⟨ts,e1,e2⟩:=zE.mp e;subst e2;simp only [RA] at r;obtain ⟨a,vs,rfl,p,h1,h2⟩:=r;simp only [RA];exact ⟨a,vs,rfl,.inl p,h1,wU ih e1 h2⟩
  | _=>simp only [cO] at e;cases e;exact pl rfl r
mutual
theorem RA.fl [L7] (h:∀ a vs,P a->H a=some (.tup vs)->P' a):∀ {t:AV}{w:V},dg t=true->RA mg P H φ t w->RA mg P' H ψ t w
 | .non,_,_,r=>by simp only [RA] at r ⊢;exact r
 | .bl _,_,_,r=>by simp only [RA] at r ⊢;exact r
 | .int _,_,_,r=>by simp only [RA] at r ⊢;exact r
 | .str _,_,_,r=>by simp only [RA] at r ⊢;exact r
 | .ref _,_,e,_=>by simp only [dg] at e;cases e
 | .fz _,_,e,_=>by simp only [dg] at e;cases e
 | .tup xs,_,e,r=>by
  simp only [RA,dg] at r e ⊢;obtain ⟨a,vs,rfl,p,h1,h2⟩:=r;exact ⟨a,vs,rfl,h a vs p h1,h1,Ma.fl h e h2⟩
theorem Ma.fl [L7] (h:∀ a vs,P a->H a=some (.tup vs)->P' a):∀ {ts:List AV}{ws:List V},m7 ts=true->Ma mg P H φ ts ws->Ma mg P' H ψ ts ws
 | [],_,_,r=>by simp only [Ma] at r ⊢;exact r
 | t::ts,_,e,r=>by
  simp only [Ma,m7,zC] at r e ⊢;obtain ⟨v,ws,rfl,r1,r2⟩:=r;exact ⟨v,ws,rfl,RA.fl h e.1 r1,Ma.fl h e.2 r2⟩
end
theorem E8 [L7] (s:Sim mg P φ st H) (e:oR st x=some (t,st')) (r:RA mg P H φ x v):∃ P',Frm P φ H P' φ H/\Sim mg P' φ st' H/\RA mg P' H [] t v:=by
 unfold oR at e;split at e
 ·rename_i h
  cases e;exact ⟨P,Frm.refl,s,RA.rf h r⟩
 ·cases x with
  | ref k =>
   simp only [RA] at r;obtain ⟨a,ea,rfl⟩:=r;dsimp only at e;split at e
   ·rename_i xs hk
    split at e
    ·rename_i hr
     cases e;obtain ⟨a',ea',c⟩:=s.at hk;rw [ea] at ea';cases ea';obtain ⟨na,vs,h1,h2⟩:=c;have ex:∀ b,P b->(P b\/b=a)/\H b=H b:=fun b h=>⟨.inl h,rfl⟩
     have hm:=zW ea;have rr:RA mg (fun b=>P b\/b=a) H [] (.fz xs) (.ref a):=by
      simp only [RA];exact ⟨a,vs,rfl,.inl ⟨.inr rfl,.inl h1⟩,(Ma.rf hr h2).mono ex fun _ _ z=>z⟩
     have dm:∀ b,(P b\/b=a)->H b ≠ none:=fun b h=>by
      rcases h with h | h
      ·exact s.dom b h
      ·rw [h];exact s.cd a hm
     refine ⟨fun b=>P b\/b=a,⟨ex,⟨[],by simp,by simp⟩,fun _ _ _ _=>rfl,fun b h=>?_,fun _ h=>h,fun _ _ _ h=>h⟩,⟨by rw [List.length_set];exact s.len,s.nd,dm,s.cd,fun j c b e1 e2=>?_,fun t ht=>⟨(s.tb t ht).1,fun z=>z.elim (s.tb t ht).2 fun z=>s.tnc ht (by rw [z];exact hm)⟩⟩,rr⟩
     ·rcases h with h | h
      ·exact .inl h
      ·exact .inr (.inr (by rw [h];exact hm))
     ·by_cases hj:j=k
      ·subst hj
       rw [ea] at e2;cases e2;rw [List.getElem?_set_self (by rw [<- s.len];exact (zB.mp ea).1)] at e1;cases e1;exact ⟨.inr rfl,rr⟩
      ·rw [List.getElem?_set_ne (Ne.symm hj)] at e1
       refine (s.cell j c b e1 e2).mono ex (fun _ _ z=>z) rfl fun n z=>?_
       rcases z with z | z
       ·exact n z
       ·refine hj ?_
        subst z;obtain ⟨h1,e1⟩:=zB.mp e2;obtain ⟨h2,e2⟩:=zB.mp ea;exact (List.getElem_inj s.nd).mp (e1.trans e2.symm)
    ·cases e
   ·rename_i t' hk
    cases e;obtain ⟨a',ea',c⟩:=s.at hk;rw [ea] at ea';cases ea';exact ⟨P,Frm.refl,s,c.2⟩
   ·cases e
  | _=>cases e
theorem E6 [L7]:∀ {xs ts:List AV}{st st':aa}{P:Pr}{vs:List V},Sim mg P φ st H->mX st xs=some (ts,st')->Ma mg P H φ xs vs->∃ P',Frm P φ H P' φ H/\Sim mg P' φ st' H/\Ma mg P' H [] ts vs:=by
 intro xs
 induction xs with
 | nil=>intro ts st st' P vs s e r;cases e;simp only [Ma] at r;subst r;exact ⟨P,Frm.refl,s,br⟩
 | cons x xs ih =>
  intro ts st st' P vs s e r;simp only [mX] at e;obtain ⟨p,e1,e2⟩:=zA e;obtain ⟨q,e3,e4⟩:=zE.mp e2;cases e4;simp only [Ma] at r;obtain ⟨v,ws,rfl,r1,r2⟩:=r;obtain ⟨P1,f1,s1,q1⟩:=E8 s e1 r1;obtain ⟨P2,f2,s2,q2⟩:=ih s1 e3 (r2.frm f1);exact ⟨P2,f1.trans f2,s2,aW (q1.mono f2.ext fun _ _ z=>z) q2⟩
theorem Ij [L7] {fn:Fn}{args:List AV}{vs:List V}{Q:VK} (s:Sim mg P φ st H) (r:Ma mg P H [] args vs) (h:KG mg RA P φ H ((fn args []).bind fun p=>(dQ p.2 p.1).map fun t=>(t,st)) Q):∃ P φ args st,Ma mg P H φ args vs/\Sim mg P φ st H/\KG mg RA P φ H (fn args st) Q:=by
 obtain ⟨t,st',e,k⟩:=h;obtain ⟨p,e1,e2⟩:=zA e;obtain ⟨t',e3,e4⟩:=zE.mp e2;cases e4;refine ⟨P,[],args,[],r,Sim.nil s.dom s.tb,p.1,p.2,e1,fun P1 φ1 H1 w f1 s1 r1=>?_⟩;obtain ⟨m,em,nm⟩:=f1.new;have kp:∀ a,H a ≠ none->(∀ ps,H a ≠ some (.tbl ps))->H1 a=H a:=fun a h=>f1.keep a h (by simp)
 have kc:=s.ckeep (fun a h=>(f1.ext a h).2) kp;have nn:∀ a,(P1 a\/a ∈ φ1)->P a\/H a=none:=fun a h=>by
  rcases h with h | h
  ·rcases f1.pn a h with z | z | z
   ·exact .inl z
   ·exact .inr z
   ·cases z
  ·rw [em] at h;exact .inr (nm a h)
 refine k (fun a=>P1 a\/a ∈ φ1) φ H1 w ⟨fun a h=>⟨.inl (f1.ext a h).1,(f1.ext a h).2⟩,⟨[],by simp,by simp⟩,fun a h _ z=>kp a h z,fun a h=>?_,f1.sm,f1.fz⟩ (s.stay (fun a h=>⟨.inl (f1.ext a h).1,(f1.ext a h).2⟩) kc (fun a h n z=>?_) (fun a h=>?_) fun t ht=>⟨(s1.tb t ht).1,fun z=>z.elim (s1.tb t ht).2 (s1.tnc ht)⟩) (RA.lift (pU s1 6 _ _ _ e3 r1))
 ·rcases nn a h with z | z
  ·exact .inl z
  ·exact .inr (.inl z)
 ·rcases nn a z with z | z
  ·exact n z
  ·exact s.cd a h z
 ·rcases h with h | h
  ·exact s1.dom a h
  ·exact s1.cd a h
theorem Gz [L7] {n:Nat} (h:dq mg n (pm fn) vs H Q E):dq mg n fn vs H Q E:=by
 obtain ⟨hl,P,φ,args,st,r,s,k⟩:=h;refine ⟨hl,?_⟩;unfold pm at k;split at k
 ·rename_i hr
  exact Ij s (Ma.rf hr r) k
 ·obtain ⟨t,st',e,k⟩:=k
  obtain ⟨ts,e1,e2⟩:=zA e;obtain ⟨p,e3,e4⟩:=zA e2;obtain ⟨t',e5,e6⟩:=zA e4;split at e6
  ·rename_i hf
   cases e6;have dm:∀ a,(P a\/a ∈ φ)->H a ≠ none:=fun a h=>by
    rcases h with h | h
    ·exact s.dom a h
    ·exact s.cd a h
   refine ⟨fun a=>P a\/a ∈ φ,[],ts,[],wU (fun v w t e r=>pU s 6 v w t e r) e1 r,Sim.nil dm (fun t ht=>⟨(s.tb t ht).1,fun z=>z.elim (s.tb t ht).2 (s.tnc ht)⟩),p.1,p.2,e3,fun P1 φ1 H1 w f1 s1 r1=>?_⟩;obtain ⟨m,em,nm⟩:=f1.new;have kp:∀ a,H a ≠ none->(∀ ps,H a ≠ some (.tbl ps))->H1 a=H a:=fun a h=>f1.keep a h (by simp)
   have kc:=s.ckeep (fun a h=>(f1.ext a (.inl h)).2) kp;have ext:∀ a,P a->((P1 a\/a ∈ φ1)/\(a ∈ φ->P a))/\H1 a=H a:=fun a h=>⟨⟨.inl (f1.ext a (.inl h)).1,fun _=>h⟩,(f1.ext a (.inl h)).2⟩
   refine k (fun a=>(P1 a\/a ∈ φ1)/\(a ∈ φ->P a)) φ H1 w ⟨ext,⟨[],by simp,by simp⟩,fun a h _ z=>kp a h z,fun a h=>?_,f1.sm,f1.fz⟩ (s.stay ext kc (fun a h n z=>n (z.2 h)) (fun a h=>?_) fun t ht=>⟨(s1.tb t ht).1,fun z=>z.1.elim (s1.tb t ht).2 (s1.tnc ht)⟩) (RA.fl (fun a us hP hT=>⟨hP,fun hm=>?_⟩) hf (pU s1 6 _ _ _ e5 r1))
   ·rcases h.1 with z | z
    ·rcases f1.pn a z with z | z | z
     ·rcases z with z | z
      ·exact .inl z
      ·exact .inr (.inr z)
     ·exact .inr (.inl z)
     ·cases z
    ·rw [em] at z;exact .inr (.inl (nm a z))
   ·rcases h.1 with h | h
    ·exact s1.dom a h
    ·exact s1.cd a h
   ·obtain ⟨j,hj⟩:=z7 hm
    obtain ⟨c,hc⟩:∃ c,st[j]?=some c:=⟨_,zF (by rw [<- s.len];exact (zB.mp hj).1)⟩;have cr:=s.cell j c a hc hj;have hT':H a=some (.tup us):=by rw [<- kc a hm];exact hT
    cases c with
    | lst xs=>obtain ⟨_,_,z,_⟩:=cr;rw [hT'] at z;cases z
    | al t=>exact cr.1
    | dK L6=>obtain ⟨_,_,z,_⟩:=cr;rw [hT'] at z;cases z
    | dT L6=>obtain ⟨_,_,z,_⟩:=cr;rw [hT'] at z;cases z
    | ins c fs=>obtain ⟨_,_,_,_,_,z,_⟩:=cr;rw [hT'] at z;cases z
    | wk L6=>obtain ⟨_,_,_,z,_⟩:=cr;rw [hT'] at z;cases z
  ·obtain ⟨q,e7,e8⟩:=zA e6
   obtain ⟨P1,f1,s1,r1⟩:=E6 s e7 r;exact Ij s1 r1 ⟨t,st',e8,fun P2 φ2 H2 w f2 s2 r2=>k P2 φ2 H2 w (f1.trans f2) s2 r2⟩
end
theorem FnOk.pm [L7] {P:Program}{w:World}{K:Frag}{mg:Str->Option Value}{base:Heap}{k:Nat}{f:Addr}{fd:FuncData}{ps:List Str}{n:Nat}{fn:Fn} (F:FnOk P w K mg base er k f fd ps (dq ⟨K,mg⟩ n fn)):FnOk P w K mg base er k f fd ps (dq ⟨K,mg⟩ n (R.pm fn)) :=
 F.imp fun _ _ _ _ h=>Gz h
def run (n:Nat) (b:SF):Fn:=fun args st=>(b (args.map some++List.replicate (n - args.length) none) st).bind fun o=>match o with
 | .rt v st=>some (v,st)
 | .nx _ st=>some (.non,st)
 | _=>none
theorem AL [L7] (h:Ma mg P H φ args vs):Mg mg P H φ (args.map some++List.replicate (N.length - args.length) none) (L2.start N vs):=by
 have hl:=h.length;unfold L2.start;refine ⟨by simp [hl],fun i v e=>?_⟩;have hi:i < args.length:=by
  rcases yQ i args.length with z | z
  ·exact z
  ·rw [z5 (by simpa using z),List.getElem?_replicate] at e
   split at e <;> cases e
 rw [zN (by simpa using hi),zR] at e;rw [zN (by rw [zH,<- hl];exact hi),zR];cases ha:args[i]? with
 | none=>rw [ha] at e;cases e
 | some x =>
  rw [ha] at e;cases e;obtain ⟨w,e1,r1⟩:=h.get ha;exact ⟨w,by rw [e1];rfl,r1⟩
def ww (fn:Fn) (g:AF):EF:=fun sl st=>(g sl st).bind fun p=>fn p.1 p.2
section
variable {X:Cx}{x:Str}{p pos:Pos}{e o:Expr}{es:List Expr}{k:Nat}{f:Addr}{fd:FuncData}{ps:List Str}{fn:Fn}{g:AF}{h:EF}
theorem JV [L7] {n:Nat} (hn:∀ sl st xs st',g sl st=some (xs,st')->xs.length=n) (q:rE mg (ww fn g) σ H Q):tT (dq mg n fn) [] E (rA mg g) σ H Q:=by
 obtain ⟨P,φ,sl,st,rs,s,kk⟩:=q;refine ⟨P,φ,sl,st,rs,s,?_⟩;obtain ⟨a,st',e1,q⟩:=kk.bind (Ra:=Ma);refine ⟨a,st',e1,fun P1 φ1 H1 b f1 s1 r1=>?_⟩;obtain ⟨P2,φ2,st2,xs,f2,s2,r2,k2⟩:=q P1 φ1 H1 b f1 s1 r1;rw [List.append_nil];exact ⟨by rw [<- r1.length];exact hn _ _ _ _ e1,P2,φ2,xs,st2,r2,s2,k2⟩
theorem A8 [L7] (F:FnOk X.prog X.w X.K X.mg X.base er k f fd ps (dq X.gm ps.length fn)) (hr:Room k X.A) (hg:Gl X x) (hm:X.mg x=some (.ref f)) (hk:keepIn X.K (.ref f)=true) (hb:Binds X.K fd ps [])
  (ha:QA X (e::es) g) (hn:∀ sl st xs st',g sl st=some (xs,st')->xs.length=ps.length) (hdb:(x == ("__debug__":Str))=false) (he:starEach (e::es) X.env=(false,eval e X.env)::starEach es X.env) (hpl:(backTo pos (starEach es X.env)).any (·.1)=false) :
  QE X (.Call (.Name x p) (e::es) [] pos) (ww fn g):=PE_imp (Bu (E:=E0) F hr hg hm hk hb .nil mF ha hdb he hpl) fun _ _ _ q=>JV hn q
theorem xa [L7] (F:FnOk X.prog X.w X.K X.mg X.base er k f fd ps (dq X.gm ps.length fn)) (hr:Room k X.A) (hg:Gl X x) (hm:X.mg x=some (.ref f)) (hk:keepIn X.K (.ref f)=true) (hb:Binds X.K fd ps [])
  (hn:ps.length=0) (hdb:(x == ("__debug__":Str))=false):QE X (.Call (.Name x p) [] [] pos) (ww fn dN):=PE_imp (xw (E:=E0) F hr hg hm hk hb .nil mF hdb) fun σ H Q q=>by
 obtain ⟨P,φ,sl,st,rs,s,kk⟩:=q;exact ⟨by simp [hn],P,φ,[],st,br,s,kk⟩
def iP (st:aa) (c:Str):AV->Option (List (Str × AV))
 | .ref k=>match st[k]? with
  | some (.ins c' fs)=>if c'=c then some fs else none
  | _=>none
 | _=>none
theorem mO (h:KVR mg P H φ fs ws) (f:Str):(fs.lookup f=none->ws.lookup f=none)/\∀ v,fs.lookup f=some v->∃ w,ws.lookup f=some w/\RA mg P H φ v w:=by
 induction fs generalizing ws with
 | nil =>
  have:ws=[]:=by simpa using h.1.symm
  subst this;exact ⟨fun _=>rfl,fun v e=>by cases e⟩
 | cons p fs ih =>
  cases ws with
  | nil=>exact absurd h.1 (by simp)
  | cons q ws =>
   obtain ⟨h1,h2⟩:=h;rw [zO,zO] at h1 h2;injection h1 with h3 h4;simp only [Ma] at h2;obtain ⟨v,vs,h5,h6,h7⟩:=h2;injection h5 with h8 h9;subst h8;subst h9;obtain ⟨a,b⟩:=p;obtain ⟨c,d⟩:=q;dsimp only at h3 h6;subst h3;rw [yM,yM];cases hb:f == a with
   | true=>exact ⟨fun z=>(by cases z),fun v z=>(by cases z;exact ⟨d,rfl,h6⟩)⟩
   | false=>exact ih ⟨h4,h7⟩
theorem mi [L7] {mg:Gm}{P:Pr}{φ:List Addr}{st:aa}{H:Hp}{c:Str}{v:AV}{w:V}{fs:List (Str × AV)} (s:Sim mg P φ st H) (h:iP st c v=some fs) (r:RA mg P H φ v w) :
  ∃ k a C dx ws,v=.ref k/\φ[k]?=some a/\¬ P a/\w=.ref a/\mg.mg c=some (.ref C)/\H a=some (.ins C dx ws)/\KVR mg P H φ fs ws:=by
 cases v with
 | ref k =>
  simp only [iP] at h;split at h
  ·rename_i c' fs' hk
   split at h
   ·rename_i hc
    cases h;subst hc;simp only [RA] at r;obtain ⟨a,ea,rfl⟩:=r;obtain ⟨a',ea',cr⟩:=s.at hk;rw [ea] at ea';cases ea';obtain ⟨na,C,dx,ws,h1,h2,h3⟩:=cr;exact ⟨k,a,C,dx,ws,rfl,ea,na,rfl,h1,h2,h3⟩
   ·cases h
  ·cases h
 | _=>cases h
def wv (c m:Str) (fn:Fn) (h:EF) (g:AF):EF:=fun sl st=>(h sl st).bind fun p=>(iP p.2 c p.1).bind fun fs=>if (fs.lookup m).isNone=true then (g sl p.2).bind fun q=>fn (p.1::q.1) q.2 else none
theorem Eo [L7] {n:Nat} (hC:mg.mg c=some (.ref C)) (hn:∀ sl st xs st',g sl st=some (xs,st')->xs.length + 1=n) (q:rE mg (wv c m fn h g) σ H Q):tS C m (dq mg n fn) [] E (rE mg h) (rA mg g) σ H Q:=by
 obtain ⟨P,φ,sl,st,rs,s,v,st',e,k⟩:=q;obtain ⟨p,e1,e2⟩:=zA e;obtain ⟨fs,e3,e4⟩:=zA e2;split at e4
 ·rename_i hm
  obtain ⟨q,e5,e6⟩:=zA e4;refine ⟨P,φ,sl,st,rs,s,p.1,p.2,e1,fun P1 φ1 H1 w f1 s1 r1=>?_⟩;obtain ⟨j,a,C',dx,ws,h1,h2,h3,rfl,h5,h6,h7⟩:=mi s1 e3 r1;rw [hC] at h5;cases h5;refine ⟨a,dx,ws,rfl,h6,(mO h7 m).1 (by simpa using hm),P1,φ1,sl,p.2,rs.frm f1,s1,q.1,q.2,e5,fun P2 φ2 H2 vs f2 s2 r2=>?_⟩;show dq mg n fn (V.ref a::(vs++[])) H2 Q E;rw [List.append_nil];exact ⟨by rw [yT,<- r2.length];exact hn _ _ _ _ e5,P2,φ2,p.1::q.1,q.2,aW (r1.frm f2) r2,s2,v,st',e6,fun P3 φ3 H3 w3 f3 s3 r3=>k P3 φ3 H3 w3 ((f1.trans f2).trans f3) s3 r3⟩
 ·cases e4
theorem A6 [L7] (ho:QE X o h) (cl:Cls X.K C) (hC:X.mg c=some (.ref C)) (hm:jD X.K C m f) (F:FnOk X.prog X.w X.K X.mg X.base er k f fd ps (dq X.gm ps.length fn)) (hr:Room k X.A) (hb:Binds X.K fd ps [])
  (ha:QA X (e::es) g) (hn:∀ sl st xs st',g sl st=some (xs,st')->xs.length + 1=ps.length) (hst:starEach (e::es) X.env=(false,eval e X.env)::starEach es X.env) (hpl:(backTo pos (starEach es X.env)).any (·.1)=false)
  (ht:eval (.Call (.Attribute o m apos) (e::es) [] pos) X.env=(do
   let ov <- eval o X.env
   standAt apos.atName
   let (f,first) <- holding [ov] (getMethod ov m pl)
   callWith pos f first (backTo pos (starEach (e::es) X.env)) (backToKw pos (keywordEach [] X.env)))):QE X (.Call (.Attribute o m apos) (e::es) [] pos) (wv c m fn h g) :=
 PE_imp (Bq (E:=E0) ho cl hm F hr hb .nil mF ha hst hpl ht) fun _ _ _ q=>Eo hC hn q
theorem w6 [L7] (ho:QE X o h) (cl:Cls X.K C) (hC:X.mg c=some (.ref C)) (hm:jD X.K C m f) (F:FnOk X.prog X.w X.K X.mg X.base er k f fd ps (dq X.gm ps.length fn)) (hr:Room k X.A) (hb:Binds X.K fd ps [])
  (hn:ps.length=1)
  (ht:eval (.Call (.Attribute o m apos) [] [] pos) X.env=(do
   let ov <- eval o X.env
   standAt apos.atName
   let (f,first) <- holding [ov] (getMethod ov m pl)
   callWith pos f first (backTo pos (starEach [] X.env)) (backToKw pos (keywordEach [] X.env)))):QE X (.Call (.Attribute o m apos) [] [] pos) (wv c m fn h dN) :=
 PE_imp (xo (E:=E0) ho cl hm F hr hb .nil mF ht) fun σ H Q q=>by
  obtain ⟨P,φ,sl,st,rs,s,v,st',e,k⟩:=Eo (E:=E0) (C:=C) hC (g:=dN) (n:=1) (fun sl st xs st' e=>by cases e;rfl) q;refine ⟨P,φ,sl,st,rs,s,v,st',e,fun P1 φ1 H1 w f1 s1 r1=>?_⟩;obtain ⟨a,dx,fs,h1,h2,h3,h4⟩:=k P1 φ1 H1 w f1 s1 r1;refine ⟨a,dx,fs,h1,h2,h3,?_⟩;obtain ⟨P2,φ2,sl2,st2,rs2,s2,xs,st3,e3,k3⟩:=h4;cases e3
  have:=k3 P2 φ2 H1 [] Frm.refl s2 br
  rw [hn];exact this
def wu (c:Str) (fn:Fn) (g:AF):EF:=fun sl st=>(g sl st).bind fun p=>(fn (.ref p.2.length::p.1) (p.2++[.ins c []])).bind fun q=>match q.1 with
 | .non=>some (.ref p.2.length,q.2)
 | _=>none
theorem BD [L7] {mg:Gm}{P:Pr}{φ:List Addr}{st:aa}{H:Hp}{c:Str}{C x dx:Addr} (s:Sim mg P φ st H) (hC:mg.mg c=some (.ref C)) (hx:H x=none) (hd:H dx=none) (ne:dx ≠ x) :
  Frm P φ H P (φ++[x]) (af (af H dx (.own x)) x (.ins C dx []))/\Sim mg P (φ++[x]) (st++[.ins c []]) (af (af H dx (.own x)) x (.ins C dx [])):=by
 have nd:∀ a,H a ≠ none->a ≠ dx:=fun a h e=>h (by rw [e];exact hd)
 have f1:Frm P φ H P φ (af H dx (.own x)):=⟨fun a h=>⟨h,ad (nd a (s.dom a h))⟩,⟨[],by simp,by simp⟩,fun a h _ _=>ad (nd a h),fun a h=>.inl h,fun a h=>by rw [ad (nd a h)];exact h,fun a o u h=>by rw [ad (be h hd)];exact h⟩;have s1:Sim mg P φ st (af H dx (.own x)):=s.stay f1.ext (fun a h=>ad (nd a (s.cd a h))) (fun _ _ h=>h) (fun a h=>f1.sm a (s.dom a h)) fun t ht=>⟨(s.tb t ht).1.new hd,(s.tb t ht).2⟩
 have hx1:af H dx (.own x) x=none:=by rw [ad (Ne.symm ne)];exact hx
 obtain ⟨f2,s2⟩:=lZ (c:=.ins c []) (o:=.ins C dx []) s1 hx1 ⟨fun z=>s1.dom x z hx1,C,dx,[],hC,ar,rfl,br⟩;exact ⟨f1.trans f2,s2⟩
theorem Jy [L7] {mg:Gm}{c:Str}{C:Addr}{n:Nat}{E:XK}{σ:St}{H:Hp}{Q:VK} (hC:mg.mg c=some (.ref C)) (hn:∀ sl st xs st',g sl st=some (xs,st')->xs.length + 1=n) (q:rE mg (wu c fn g) σ H Q):zb C (dq mg n fn) [] E (rA mg g) σ H Q:=by
 obtain ⟨P,φ,sl,st,rs,s,v,st',e,k⟩:=q;obtain ⟨p,e1,e2⟩:=zA e;obtain ⟨q,e3,e4⟩:=zA e2;refine ⟨P,φ,sl,st,rs,s,p.1,p.2,e1,fun P1 φ1 H1 vs f1 s1 r1=>fun x dx hx hd ne=>?_⟩;obtain ⟨f2,s2⟩:=BD s1 hC hx hd ne;have rx:RA mg P1 (af (af H1 dx (.own x)) x (.ins C dx [])) (φ1++[x]) (.ref p.2.length) (.ref x):=by simp only [RA];exact ⟨x,by rw [<- s1.len];simp,rfl⟩
 rw [List.append_nil];refine ⟨by rw [yT,<- r1.length];exact hn _ _ _ _ e1,P1,φ1++[x],_,_,aW rx (r1.frm f2),s2,q.1,q.2,e3,fun P3 φ3 H3 w f3 s3 r3=>?_⟩;cases hq:q.1 with
 | non =>
  rw [hq] at e4 r3;cases e4;simp only [RA] at r3;exact ⟨r3,k P3 φ3 H3 (.ref x) ((f1.trans f2).trans f3) s3 (rx.frm f3)⟩
 | _=>rw [hq] at e4;cases e4
theorem Dc [L7] (M:Mk X.K C f) (F:FnOk X.prog X.w X.K X.mg X.base er k f fd ps (dq X.gm ps.length fn)) (hr:Room (k + 1) X.A) (hg:Gl X c) (hm:X.mg c=some (.ref C)) (hb:Binds X.K fd ps [])
  (ha:QA X (e::es) g) (hn:∀ sl st xs st',g sl st=some (xs,st')->xs.length + 1=ps.length) (hdb:(c == ("__debug__":Str))=false) (he:starEach (e::es) X.env=(false,eval e X.env)::starEach es X.env) (hpl:(backTo pos (starEach es X.env)).any (·.1)=false) :
  QE X (.Call (.Name c p) (e::es) [] pos) (wu c fn g):=PE_imp (Br (E:=E0) M F hr hg hm hb .nil mF ha hdb he hpl) fun _ _ _ q=>Jy hm hn q
def IM (c fl:Str) (h:EF):EF:=fun sl st=>(h sl st).bind fun p=>(iP p.2 c p.1).bind fun fs=>(fs.lookup fl).map fun v=>(v,p.2)
theorem Dd [L7] (ho:QE X o h) (cl:Cls X.K C) (hC:X.mg c=some (.ref C)) (na:NoAttr X.K C fl) (hb:attributeBase o fl X.env (eval o X.env)=eval o X.env):QE X (.Attribute o fl apos) (IM c fl h) :=
 PE_imp (DB ho hb) fun σ H Q hq0=>by
  obtain ⟨P,φ,sl,st,rs,s,v,st',e,k⟩:=hq0;obtain ⟨p,e1,e2⟩:=zA e;obtain ⟨fs,e3,e4⟩:=zA e2;obtain ⟨t,e5,e6⟩:=zE.mp e4;cases e6;refine ⟨P,φ,sl,st,rs,s,p.1,p.2,e1,fun P1 φ1 H1 w f1 s1 r1=>?_⟩;obtain ⟨j,a,C',dx,ws,h1,h2,h3,rfl,h5,h6,h7⟩:=mi s1 e3 r1;have:C'=C:=by rw [show X.gm.mg c=X.mg c from rfl,hC] at h5;cases h5;rfl
  subst this;obtain ⟨w,hw,rw'⟩:=(mO h7 fl).2 _ e5;exact ⟨a,C',dx,ws,w,rfl,h6,cl,na,hw,k P1 φ1 H1 w f1 s1 rw'⟩
noncomputable def iu (f:Str) (v:AV):List (Str × AV)->List (Str × AV)
 | []=>[(f,v)]
 | (g,x)::r=>if g=f then (g,v)::r else (g,x)::iu f v r
theorem vv {mg:Gm}{P:Pr}{H:Hp}{φ:List Addr}{f:Str}{v:AV}{w:V} (r:RA mg P H φ v w):∀ {fs:List (Str × AV)}{ws:List (Str × V)},KVR mg P H φ fs ws->KVR mg P H φ (iu f v fs) (dI f w ws):=by
 intro fs
 induction fs with
 | nil =>
  intro ws h;have:ws=[]:=by simpa using h.1.symm
  subst this;exact ⟨rfl,aW r br⟩
 | cons p fs ih =>
  intro ws h;cases ws with
  | nil=>exact absurd h.1 (by simp)
  | cons q ws =>
   obtain ⟨h1,h2⟩:=h;rw [zO,zO] at h1 h2;injection h1 with h3 h4;simp only [Ma] at h2;obtain ⟨u,us,h5,h6,h7⟩:=h2;injection h5 with h8 h9;subst h8;subst h9;obtain ⟨a,b⟩:=p;obtain ⟨c,d⟩:=q;dsimp only at h3 h6;subst h3;have i:=ih (ws:=ws) ⟨h4,h7⟩;unfold iu dI;by_cases e:a=f
   ·rw [yG e,yG e]
    exact ⟨by rw [zO,zO,h4],aW r h7⟩
   ·rw [yF e,yF e]
    exact ⟨by rw [zO,zO,i.1],aW h6 i.2⟩
def vk (c fl:Str) (h f:EF):SF:=fun sl st=>(f sl st).bind fun p=>(h sl p.2).bind fun q=>match q.1 with
 | .ref k=>(iP q.2 c (.ref k)).bind fun fs=>if Nat.ble fs.length 900=true then some (.nx sl (q.2.set k (.ins c (iu fl p.1 fs)))) else none
 | _=>none
theorem CV [L7] (ho:QE X o h) (hv:QE X e f') (cl:Cls X.K C) (hC:X.mg c=some (.ref C)) (na:NoAttr X.K C fl) (hs:swapsWith e (some (.Attribute o fl pos')) pos.line X.env=pure false):QS X (.Assign [.Attribute o fl pos'] e pos) (vk c fl h f') :=
 PS_imp (Dm ho hv hs) fun D σ H hq0=>by
  obtain ⟨P,φ,sl,st,rs,s,out,eo,q⟩:=hq0;obtain ⟨p,e1,e2⟩:=zA eo;obtain ⟨r,e3,e4⟩:=zA e2;split at e4
  ·rename_i j hj
   obtain ⟨fs,e5,e6⟩:=zA e4;split at e6
   ·rename_i hl
    cases e6;refine ⟨P,φ,sl,st,rs,s,p.1,p.2,e1,fun P1 φ1 H1 w1 f1 s1 r1=>⟨P1,φ1,sl,p.2,rs.frm f1,s1,r.1,r.2,e3,fun P2 φ2 H2 w2 f2 s2 r2=>?_⟩⟩;rw [hj] at r2;obtain ⟨j',a,C',dx,ws,h1,h2,h3,rfl,h5,h6,h7⟩:=mi s2 e5 r2;cases h1;have:C'=C:=by rw [show X.gm.mg c=X.mg c from rfl,hC] at h5;cases h5;rfl
    subst this;have ln:ws.length < 1000:=by
     have z:=congrArg List.length h7.1;rw [zH,zH] at z
     have:=zS hl
     omega
    obtain ⟨f3,s3⟩:=g6 (c:=.ins c (iu fl p.1 fs)) (o:=.ins C' dx (dI fl w1 ws)) s2 h2 h3 ⟨h3,C',dx,_,hC,ar,(vv (r1.frm f2) h7).mono (fun b h=>⟨h,ad fun e=>h3 (e ▸ h)⟩) fun _ _ z=>z⟩ (fun _ _ z=>by rw [h6] at z;cases z);exact ⟨a,C',dx,ws,rfl,h6,cl,na,ln,q P2 φ2 _ σ ((f1.trans f2).trans f3) s3 (((rs.frm f1).frm f2).frm f3)⟩
   ·cases e6
  ·cases e4
end
end R
namespace R
open PySem PySem.Spec PyProof.Rows L2
open DD (PE_imp PT_imp PA_imp PS_imp PSs_imp OpR_imp PW_imp PG_imp pyOk obj_list obj_tup minL minL_eq cnt_vals)
abbrev BF:=List AV->aa->Option (AV × aa)
def rB [L7] (mg:Gm) (k:BF):List V->Hp->VK->Prop:=fun vs H Q=>∃ P φ st xs,Sim mg P φ st H/\Ma mg P H φ xs vs/\KG mg RA P φ H (k xs st) Q
def tF (k:BF) (g:AF):EF:=fun sl st=>(g sl st).bind fun p=>k p.1 p.2
theorem Fv [L7] (q:rE mg (tF k g) σ H Q):Cy (rB mg k) (rA mg g) σ H Q:=by
 obtain ⟨P,φ,sl,st,rs,s,kk⟩:=q;refine ⟨P,φ,sl,st,rs,s,?_⟩;obtain ⟨a,st',e1,q⟩:=kk.bind (Ra:=Ma);refine ⟨a,st',e1,fun P1 φ1 H1 b f1 s1 r1=>?_⟩;obtain ⟨P2,φ2,st2,xs,f2,s2,r2,k2⟩:=q P1 φ1 H1 b f1 s1 r1;exact ⟨P2,φ2,st2,xs,s2,r2,k2⟩
def b9 (h:aa->List AV->Option AV):BF:=fun xs st=>(h st xs).map fun z=>(z,st)
section
variable {X:Cx}{x:Str}{p pos:Pos}{e o a:Expr}{es:List Expr}{g:AF}{k:BF}{bid T:String}
theorem kW [L7] (hc:cS X (.builtin bid) (rB X.gm k)) (hg:Gl X x) (hm:X.mg x=none) (hv:bootBuiltins x=some (.builtin bid)) (ha:QA X (e::es) g) (hn:x ≠ "__name__") (hdb:(x == ("__debug__":Str))=false)
  (he:starEach (e::es) X.env=(false,eval e X.env)::starEach es X.env) (hpl:(backTo pos (starEach es X.env)).any (·.1)=false):QE X (.Call (.Name x p) (e::es) [] pos) (tF k g) :=
 PE_imp (xu hc hg hm hv ha hn hdb he hpl) fun _ _ _ q=>Fv q
theorem Ma.one {mg:Gm}{P:Pr}{H:Hp}{φ:List Addr}{x:AV}{vs:List V} (h:Ma mg P H φ [x] vs):∃ v,vs=[v]/\RA mg P H φ x v:=by
 simp only [Ma] at h;obtain ⟨v,ws,rfl,r,rfl⟩:=h;exact ⟨v,rfl,r⟩
theorem Ma.two {mg:Gm}{P:Pr}{H:Hp}{φ:List Addr}{x y:AV}{vs:List V} (h:Ma mg P H φ [x,y] vs):∃ v w,vs=[v,w]/\RA mg P H φ x v/\RA mg P H φ y w:=by
 simp only [Ma] at h;obtain ⟨v,ws,rfl,r,w,us,rfl,r',rfl⟩:=h;exact ⟨v,w,rfl,r,r'⟩
theorem uZ (h:cS X f r) (i:∀ xs H Q,r' xs H Q->r xs H Q):cS X f r':=fun L5 s σ H xs us Q I rv h'=>h L5 s σ H xs us Q I rv (i xs H Q h')
def eE (st:aa):List AV->Option AV
 | [v]=>match bw st v with
  | some xs=>some (.int xs.length)
  | none=>match g7 st v with
   | some xs=>some (.int xs.length)
   | none=>match v with
    | .str x=>if dP x.length=true then some (.int x.length) else none
    | v=>match iF st v with
     | some L6=>some (.int L6.length)
     | none=>(lL st v).map fun L6=>.int L6.length
 | _=>none
theorem uL:cS X (.builtin "len") (fun xs H Q=>∃ a L6,xs=[V.ref a]/\H a=some (.dK L6)/\Q (.int L6.length) H):=by
 intro L5 s σ H xs us Q I r h;obtain ⟨a,L6,rfl,ha,q⟩:=h;obtain ⟨u,rfl,ru⟩:=eP r;cases ru;obtain ⟨z,hd,vs,rel,dd⟩:=Al I.Mb ha;have hl:L6.length=vs.length:=Paired.length rel;have hz:sizeLine=16777216:=sizeLine_eq;exact call_len_dict hd dd oM ⟨.int _,H,I.tok _,⟨_,by rw [hl]⟩,q⟩
theorem Hv [L7]:cS X (.builtin "len") (rB X.gm (b9 eE)):=by
 rintro L5 s σ H vs us Q I rv ⟨P,φ,st,xs,sm,r,k0⟩;obtain ⟨z,e,k⟩:=k0.map;clear k0;unfold eE at e;split at e
 ·rename_i v
  obtain ⟨w,ew,r9⟩:=r.one;clear r;subst ew;have r:=r9;clear r9;have aF:∀ n:Nat,z=.int n->Q (.int n) H:=fun n h=>by subst h;exact k.pure sm (by simp only [RA])
  split at e
  ·rename_i ys e1
   cases e;obtain ⟨a,vs,rfl,d1,q1⟩:=r.ls sm e1;exact kA L5 s σ H _ us Q I rv ⟨a,vs,rfl,.inl d1,by rw [<- q1.length];exact aF _ rfl⟩
  ·split at e
   ·rename_i ys e1
    cases e;obtain ⟨a,vs,rfl,d1,q1⟩:=r.tp sm e1;exact kA L5 s σ H _ us Q I rv ⟨a,vs,rfl,.inr (.inl (.inl d1)),by rw [<- q1.length];exact aF _ rfl⟩
   ·cases v with
    | str x =>
     dsimp only at e;split at e
     ·rename_i hz
      cases e;simp only [RA] at r;subst r;exact qU L5 s σ H _ us Q I rv ⟨x,rfl,i7 hz,aF _ rfl⟩
     ·cases e
    | ref j =>
     simp only [RA] at r;obtain ⟨a,ea,rfl⟩:=r;dsimp only [iF,lL] at e;cases hj:st[j]? with
     | none=>rw [hj] at e;cases e
     | some c =>
      rw [hj] at e;obtain ⟨a',ea',c'⟩:=sm.at hj;rw [ea] at ea';cases ea';cases c with
      | dK L6 =>
       cases e;obtain ⟨_,ws,q1,q2⟩:=c'
       have:=congrArg List.length q2.1
       rw [zH,zH] at this;exact uL L5 s σ H _ us Q I rv ⟨a,ws,rfl,q1,by rw [<- this];exact aF _ rfl⟩
      | dT L6 =>
       cases e;obtain ⟨_,ws,q1,q2⟩:=c'
       have:=congrArg List.length q2.1
       rw [zH,zH] at this;exact wn L5 s σ H _ us Q I rv ⟨a,ws,rfl,q1,by rw [<- this];exact aF _ rfl⟩
      | _=>cases e
    | _=>cases e
 ·cases e
def jx:List AV->Option (List Int):=bE fun x=>match x with
 | .int i=>some i
 | _=>none
theorem v3 (h:jx xs=some ns):xs=ns.map .int:=by
 unfold jx at h
 induction xs generalizing ns with
 | nil=>cases h;rfl
 | cons x xs ih =>
  simp only [bE] at h;obtain ⟨y,e1,e2⟩:=zA h;obtain ⟨ys,e3,e4⟩:=zE.mp e2;subst e4;cases x <;> first | (cases e1;done) | skip
  cases e1;rw [ih e3];rfl
def lsI (st:aa) (v:AV):Option (List Int):=(bw st v).bind jx
theorem RA.lsI [L7] {mg:Gm}{P:Pr}{H:Hp}{φ:List Addr}{st:aa}{v:AV}{w:V}{ns:List Int} (s:Sim mg P φ st H) (r:RA mg P H φ v w) (h:R.lsI st v=some ns):∃ a,w=.ref a/\bJ mg.K H a (ns.map .int):=by
 obtain ⟨xs,e1,e2⟩:=zA h;obtain ⟨a,vs,rfl,d1,q1⟩:=r.ls s e1
 have:=v3 e2
 subst this;rw [q1.ints] at d1;exact ⟨a,rfl,d1⟩
def pP (st:aa):List AV->Option AV
 | [v]=>(lsI st v).map fun ns=>.int ns.sum
 | _=>none
theorem Hs [L7] (hc:X.calm=true):cS X (.builtin "sum") (rB X.gm (b9 pP)):=by
 rintro L5 s σ H vs us Q I rv ⟨P,φ,st,xs,sm,r,k0⟩;obtain ⟨z,e,k⟩:=k0.map;clear k0;unfold pP at e;split at e
 ·rename_i v
  obtain ⟨w,ew,r9⟩:=r.one;clear r;subst ew;have r:=r9;clear r9;obtain ⟨ns,e1,rfl⟩:=zE.mp e;obtain ⟨a,rfl,d1⟩:=r.lsI sm e1;obtain ⟨u,rfl,ru⟩:=eP rv;cases ru;obtain ⟨L9,r',pl,_⟩:=I.list d1;have hi:IntsAre L9 ns:=jw r';obtain ⟨ys,hy⟩:=hi.allInts.items;refine sum_intListG (xs:=ys) (I.ok.hd hc) (by rw [<- hy];exact pl.isList) fun h' tk t' hk=>⟨.int ns.sum,H,I.kept hk,?_,k.pure sm (by simp only [RA])⟩
  have:(preSum (numAt ys) ys.size)=ns.sum:=by
   rw [preSum_eq,List.take_of_length_le (by simp),<- nums_intItems,<- hy];rw [show L9.toArray.toList=L9 from rfl,hi.numsOf]
  rw [this];exact ⟨t',rfl⟩
 ·cases e
noncomputable def vd:AV->Option Bool
 | .bl b=>some b
 | .int i=>some (i != 0)
 | _=>none
def rg (st:aa):List AV->Option AV
 | [v]=>(bw st v).bind fun xs=>(bE vd xs).map fun bs=>.bl (bs.any id)
 | _=>none
theorem Cr [L7]:∀ {xs:List AV}{vs:List V}{us:List Value}{bs:List Bool},bE vd xs=some bs->Ma mg P H φ xs vs->Vals vs us->bs.length=us.length/\∀ (i:Nat) u,us[i]?=some u->u=.bool (bs.getD i true)\/∃ n t,u=.int n t/\(n != 0)=bs.getD i true:=by
 intro xs
 induction xs with
 | nil=>intro vs us bs e r q;cases e;simp only [Ma] at r;subst r;cases q;exact ⟨rfl,fun i u h=>by simp at h⟩
 | cons x xs ih =>
  intro vs us bs e r q;simp only [bE] at e;obtain ⟨y,e1,e2⟩:=zA e;obtain ⟨ys,e3,e4⟩:=zE.mp e2;subst e4;simp only [Ma] at r;obtain ⟨v,ws,rfl,r1,r2⟩:=r;cases q with
  | cons q1 q2 =>
   obtain ⟨h1,h2⟩:=ih e3 r2 q2;refine ⟨by simp [h1],fun i u h=>?_⟩;cases i with
   | zero =>
    simp at h;subst h;cases x <;> first | (cases e1;done) | skip
    ·cases e1;simp only [RA] at r1;subst r1;cases q1;exact .inl rfl
    ·cases e1;simp only [RA] at r1;subst r1;obtain ⟨t,rfl⟩:=q1;exact .inr ⟨_,t,rfl,rfl⟩
   | succ i=>simpa using h2 i u (by simpa using h)
theorem Ce (bs:List Bool) (n:Nat) (h:bs.length=n):(List.range n).any (fun i=>bs.getD i true)=bs.any id:=by
 subst h;rw [Bool.eq_iff_iff,List.any_eq_true,List.any_eq_true];constructor
 ·rintro ⟨i,hi,h⟩
  have hi':i < bs.length:=by simpa using hi
  exact ⟨bs[i],List.getElem_mem hi',by simpa [hi'] using h⟩
 ·rintro ⟨x,hx,h⟩
  obtain ⟨i,hi,rfl⟩:=List.getElem_of_mem hx;exact ⟨i,by simp [hi],by simpa [hi] using h⟩
theorem Hw [L7] (hc:X.calm=true):cS X (.builtin "any") (rB X.gm (b9 rg)):=by
 rintro L5 s σ H vs us Q I rv ⟨P,φ,st,xs,sm,r,k0⟩;obtain ⟨z,e,k⟩:=k0.map;clear k0;unfold rg at e;split at e
 ·rename_i v
  obtain ⟨w,ew,r9⟩:=r.one;clear r;subst ew;have r:=r9;clear r9;obtain ⟨ys,e1,e2⟩:=zA e;obtain ⟨bs,e3,rfl⟩:=zE.mp e2;obtain ⟨a,vs,rfl,d1,q1⟩:=r.ls sm e1;obtain ⟨u,rfl,ru⟩:=eP rv;cases ru;obtain ⟨L9,r',pl,_⟩:=I.list d1;obtain ⟨hl1,hat⟩:=Cr e3 q1 r';have hl:=pl.isList;have hlt:a < s.heap.objs.size:=by obtain ⟨_,e,_⟩:=hl;exact yH e
  refine call_any_walk (wpAny_pyIter_list hl ⟨_,_,_,_,_,_,fun i=>bs.getD i true,rfl,Walks.list (A:=X.A.in1) (I.ok.hd hc) _ a (zU hlt) L9.toArray,⟨⟨_,zY _ rfl,rfl,rfl⟩,hl.push _⟩,?_,fun h' tk hk=>?_⟩)
  ·intro i v s2 Q2 E2 hP hQ
   rcases hat i v (by simpa using hP) with rfl | ⟨n,t,rfl,hn⟩
   ·exact wpAny_truthy_bool hQ
   ·exact PySem.P.truthy_int (by rw [hn];exact hQ)
  ·refine ⟨.bl (bs.any id),H,I.kept (old_kept hk),?_,k.pure sm (by simp only [RA])⟩
   rw [Ce bs _ (by simpa using hl1)];rfl
 ·cases e
def jC (_:aa):List AV->Option AV
 | [.int i]=>some (.int (if i < 0 then -i else i))
 | _=>none
theorem Hx [L7]:cS X (.builtin "abs") (rB X.gm (b9 jC)):=uZ yo fun vs H Q hq0=>by
 obtain ⟨P,φ,st,xs,sm,r,k0⟩:=hq0;obtain ⟨z,e,k⟩:=k0.map;unfold jC at e;split at e
 ·cases e
  obtain ⟨w,ew,r9⟩:=r.one;clear r;subst ew;have r:=r9;clear r9;simp only [RA] at r;exact ⟨_,by rw [r],k.pure sm (by simp only [RA])⟩
 ·cases e
def uk (st:aa):List AV->Option AV
 | [.int i,.int j]=>some (.int (if j < i then j else i))
 | [v]=>(lsI st v).bind fun ns=>(minL ns).map .int
 | _=>none
noncomputable def Ep:List Int->Option Int
 | []=>none
 | x::xs=>some (xs.foldl (fun a b=>if a < b then b else a) x)
theorem JA:∀ (xs:List Int) (x:Int),(xs.foldl (fun a b=>if a < b then b else a) x ∈ x::xs)/\∀ a ∈ x::xs,a <= xs.foldl (fun a b=>if a < b then b else a) x:=by
 intro xs
 induction xs with
 | nil=>intro x;exact ⟨by simp,by simp⟩
 | cons y xs ih =>
  intro x;rw [List.foldl_cons];obtain ⟨h1,h2⟩:=ih (if x < y then y else x);refine ⟨?_,fun a ha=>?_⟩
  ·rcases zT.mp h1 with h | h
   ·rw [h];split <;> simp
   ·exact zQ _ (zQ _ h)
  ·have h3:=h2 _ z6
   rcases zT.mp ha with rfl | ha
   ·refine Int.le_trans ?_ h3;split <;> omega
   ·rcases zT.mp ha with rfl | ha
    ·refine Int.le_trans ?_ h3;split <;> omega
    ·exact h2 a (zQ _ ha)
theorem BJ {m x:Int} (h:Ep ns=some m) (h1:x ∈ ns) (h2:∀ a ∈ ns,a <= x):x=m:=by
 cases ns with
 | nil=>cases h
 | cons y ns =>
  obtain ⟨a,b⟩:=JA ns y;have e:ns.foldl (fun a b=>if a < b then b else a) y=m:=by injection h
  rw [e] at a b
  have:=h2 m a
  have:=b x h1
  omega
def um (st:aa):List AV->Option AV
 | [.int i,.int j]=>some (.int (if j > i then j else i))
 | [v]=>(lsI st v).bind fun ns=>(Ep ns).map .int
 | _=>none
theorem Ht [L7] (hc:X.calm=true):cS X (.builtin "min") (rB X.gm (b9 uk)):=by
 rintro L5 s σ H vs us Q I rv ⟨P,φ,st,xs,sm,r,k0⟩;obtain ⟨z,e,k⟩:=k0.map;clear k0;unfold uk at e;split at e
 ·rename_i i j
  cases e;obtain ⟨w,w',ew,r8,r9⟩:=r.two;clear r;subst ew;have r:=r8;have r':=r9;clear r8 r9;simp only [RA] at r r';subst r;subst r';exact wl hc L5 s σ H _ us Q I rv ⟨i,j,rfl,k.pure sm (by simp only [RA])⟩
 ·rename_i v
  obtain ⟨w,ew,r9⟩:=r.one;clear r;subst ew;have r:=r9;clear r9;obtain ⟨ns,e1,e2⟩:=zA e;obtain ⟨m,hm,rfl⟩:=zE.mp e2;obtain ⟨a,rfl,d1⟩:=r.lsI sm e1;obtain ⟨u,rfl,ru⟩:=eP rv;cases ru;obtain ⟨L9,r',pl,_⟩:=I.list d1;have hi:IntsAre L9 ns:=jw r';obtain ⟨ys,hy⟩:=hi.allInts.items;have hns':ns=ys.toList.map (·.1):=by rw [<- hi.numsOf,<- nums_intItems,<- hy]
  have hsz:0 < ys.size:=by
   cases ns with
   | nil=>cases hm
   | cons n ns =>
    have:(n::ns).length=ys.size:=by rw [hns',zH,Array.length_toList]
    simp at this;omega
  refine min_intList (xs:=ys) (I.ok.hd hc) (by rw [<- hy];exact pl.isList) hsz fun v h' tk hv hk=>?_
  obtain ⟨t,rfl⟩:=intItems_at hv;obtain ⟨h1,h2⟩:=argBest_lt (numAt ys) (ys.size - 1);refine ⟨.int m,H,I.kept hk,?_,k.pure sm (by simp only [RA])⟩;have e:numAt ys (argBest (fun i j=>decide (numAt ys i < numAt ys j)) (ys.size - 1))=m:=by
   refine minL_eq hm ?_ fun a ha=>?_
   ·rw [hns',numAt_eq];exact getD_mem (by rw [zH,Array.length_toList];omega)
   ·rw [hns'] at ha
    obtain ⟨j,hj,rfl⟩:=mem_getD ha;rw [zH,Array.length_toList] at hj;rw [<- numAt_eq];exact h2 j oM
  exact ⟨t,by rw [e]⟩
 ·cases e
theorem Hu [L7] (hc:X.calm=true):cS X (.builtin "max") (rB X.gm (b9 um)):=by
 rintro L5 s σ H vs us Q I rv ⟨P,φ,st,xs,sm,r,k0⟩;obtain ⟨z,e,k⟩:=k0.map;clear k0;unfold um at e;split at e
 ·rename_i i j
  cases e;obtain ⟨w,w',ew,r8,r9⟩:=r.two;clear r;subst ew;have r:=r8;have r':=r9;clear r8 r9;simp only [RA] at r r';subst r;subst r';exact wm hc L5 s σ H _ us Q I rv ⟨i,j,rfl,k.pure sm (by simp only [RA])⟩
 ·rename_i v
  obtain ⟨w,ew,r9⟩:=r.one;clear r;subst ew;have r:=r9;clear r9;obtain ⟨ns,e1,e2⟩:=zA e;obtain ⟨m,hm,rfl⟩:=zE.mp e2;obtain ⟨a,rfl,d1⟩:=r.lsI sm e1;obtain ⟨u,rfl,ru⟩:=eP rv;cases ru;obtain ⟨L9,r',pl,_⟩:=I.list d1;have hi:IntsAre L9 ns:=jw r';obtain ⟨ys,hy⟩:=hi.allInts.items;have hns':ns=ys.toList.map (·.1):=by rw [<- hi.numsOf,<- nums_intItems,<- hy]
  have hsz:0 < ys.size:=by
   cases ns with
   | nil=>cases hm
   | cons n ns =>
    have:(n::ns).length=ys.size:=by rw [hns',zH,Array.length_toList]
    simp at this;omega
  refine max_intList (xs:=ys) (I.ok.hd hc) (by rw [<- hy];exact pl.isList) hsz fun v h' tk hv hk=>?_
  obtain ⟨t,rfl⟩:=intItems_at hv;obtain ⟨h1,h2⟩:=argBest_gt (numAt ys) (ys.size - 1);refine ⟨.int m,H,I.kept hk,?_,k.pure sm (by simp only [RA])⟩;have e:numAt ys (argBest (fun i j=>decide (numAt ys i > numAt ys j)) (ys.size - 1))=m:=by
   refine BJ hm ?_ fun a ha=>?_
   ·rw [hns',numAt_eq];exact getD_mem (by rw [zH,Array.length_toList];omega)
   ·rw [hns'] at ha
    obtain ⟨j,hj,rfl⟩:=mem_getD ha;rw [zH,Array.length_toList] at hj;rw [<- numAt_eq];exact h2 j oM
  exact ⟨t,by rw [e]⟩
 ·cases e
end
end R
namespace R
open PySem PySem.Spec PyProof.Rows L2
open DD (PE_imp PT_imp PA_imp PS_imp PSs_imp OpR_imp PW_imp PG_imp pyOk reads_each cnt_vals)
abbrev MF:=AV->List AV->aa->Option (AV × aa)
def rM [L7] (mg:Gm) (k:MF):V->List V->Hp->VK->Prop:=fun x vs H Q=>∃ P φ st a xs,Sim mg P φ st H/\RA mg P H φ a x/\Ma mg P H φ xs vs/\KG mg RA P φ H (k a xs st) Q
def oC (T:String) (st:aa) (v:AV):Bool:=match v with
 | .str _=>T == "str"
 | .int _=>T == "int"
 | v=>if T="list" then (bw st v).isSome else if T="dict" then (iF st v).isSome || (lL st v).isSome else false
def kJ (T:String) (k:MF) (f:EF) (g:AF):EF:=fun sl st=>(f sl st).bind fun p=>if oC T p.2 p.1=true then (g sl p.2).bind fun q=>k p.1 q.1 q.2 else none
section
variable {X:Cx}{e o:Expr}{es:List Expr}{f:EF}{g:AF}{k:MF}{name:Str}{apos cpos:Pos}{T mid:String}
theorem AB [L7] {P:Pr}{φ:List Addr}{st:aa}{H:Hp}{v:AV}{w:V} (s:Sim X.gm P φ st H) (r:RA X.gm P H φ v w) (h:oC T st v=true):u7 X.K T w H:=by
 have gen:(if T="list" then (bw st v).isSome else if T="dict" then (iF st v).isSome || (lL st v).isSome else false)=true->u7 X.K T w H:=fun h=>by
  split at h
  ·rename_i hT
   obtain ⟨xs,e⟩:=Option.isSome_iff_exists.mp h;obtain ⟨a,vs,rfl,d1,_⟩:=r.ls s e;exact .inl ⟨hT,vs,d1⟩
  ·split at h
   ·rename_i hT
    cases v with
    | ref j =>
     simp only [RA] at r;obtain ⟨a,ea,rfl⟩:=r;simp only [iF,lL] at h;cases hj:st[j]? with
     | none=>rw [hj] at h;simp at h
     | some c =>
      rw [hj] at h;obtain ⟨a',ea',c'⟩:=s.at hj;rw [ea] at ea';cases ea';cases c with
      | dK L6=>obtain ⟨_,ws,q1,_⟩:=c';exact .inr (.inr (.inl ⟨hT,.inl ⟨ws,q1⟩⟩))
      | dT L6=>obtain ⟨_,ws,q1,_⟩:=c';exact .inr (.inr (.inl ⟨hT,.inr ⟨ws,q1⟩⟩))
      | _=>simp at h
    | _=>simp [iF,lL] at h
   ·cases h
 unfold oC at h;cases v with
 | str x=>simp only [RA] at r;subst r;exact yI h
 | int x=>simp only [RA] at r;subst r;exact yI h
 | _=>exact gen h
theorem Ed [L7] (q:rE X.gm (kJ T k f g) σ H Q):HW X.K T (rM X.gm k) (rE X.gm f) (rA X.gm g) σ H Q:=by
 obtain ⟨P,φ,sl,st,rs,s,v,st',ev,kk⟩:=q;obtain ⟨p,e1,e2⟩:=zA ev;split at e2
 ·rename_i hT
  obtain ⟨r,e3,e4⟩:=zA e2;exact ⟨P,φ,sl,st,rs,s,p.1,p.2,e1,fun P1 φ1 H1 w f1 s1 r1=>⟨AB s1 r1 hT,P1,φ1,sl,p.2,rs.frm f1,s1,r.1,r.2,e3,fun P2 φ2 H2 ws f2 s2 r2=>⟨P2,φ2,r.2,p.1,r.1,s2,r1.frm f2,r2,v,st',e4,fun P3 φ3 H3 w3 f3 s3 r3=>kk P3 φ3 H3 w3 ((f1.trans f2).trans f3) s3 r3⟩⟩⟩
 ·cases e2
theorem px [L7] (pa:PlainAttrs T) (slot:Slot T name mid) (hty:typeOf (.builtin mid)=pure (.type "method_descriptor")) (hm:kO X mid (rM X.gm k)) (ho:QE X o f) (ha:QA X (e::es) g)
  (hbase:attributeBase o name X.env (eval o X.env)=eval o X.env)
  (hfew:((backTo cpos (starEach (e::es) X.env)).all (fun x=>!x.1) && (backToKw cpos (keywordEach [] X.env)).all (fun x=>x.1.isSome)
   && decide ((e::es).length + ([]:List Keyword).length + (if ([]:List Keyword).isEmpty then 0 else 1) < 30))=true)
  (hline:(apos.endLine == cpos.line)=true) (hs:starEach (e::es) X.env=(false,eval e X.env)::starEach es X.env) (hplain:(backTo cpos (starEach es X.env)).any (·.1)=false) :
  QE X (.Call (.Attribute o name apos) (e::es) [] cpos) (kJ T k f g):=PE_imp (GG pa slot hty hm ho ha hbase hfew hline hs hplain) fun _ _ _ q=>Ed q
theorem mE [L7] (pa:PlainAttrs T) (slot:Slot T name mid) (hty:typeOf (.builtin mid)=pure (.type "method_descriptor")) (hm:kO X mid (rM X.gm k)) (ho:QE X o f)
  (hbase:attributeBase o name X.env (eval o X.env)=eval o X.env) (hline:(apos.endLine == cpos.line)=true):QE X (.Call (.Attribute o name apos) [] [] cpos) (kJ T k f dN) :=
 PE_imp (DC pa slot hty hm ho hbase hline) fun σ H Q q=>by
  obtain ⟨P,φ,sl,st,rs,s,v,st',ev,kk⟩:=Ed q;refine ⟨P,φ,sl,st,rs,s,v,st',ev,fun P1 φ1 H1 w f1 s1 r1=>?_⟩;obtain ⟨h1,P2,φ2,sl2,st2,rs2,s2,xs,st3,e3,k3⟩:=kk P1 φ1 H1 w f1 s1 r1;cases e3;exact ⟨h1,k3 P2 φ2 H1 [] Frm.refl s2 br⟩
theorem mq (h:kO X mid r) (i:∀ x xs H Q,r' x xs H Q->r x xs H Q):kO X mid r':=fun L5 s σ H x xs v us Q I rx rv h'=>h L5 s σ H x xs v us Q I rx rv (i x xs H Q h')
def gk (st:aa):AV->Option (Nat × List AV)
 | .ref k=>match st[k]? with
  | some (.lst xs)=>some (k,xs)
  | _=>none
 | _=>none
theorem o0 [L7] {mg:Gm}{P:Pr}{φ:List Addr}{st:aa}{H:Hp}{v:AV}{w:V}{j:Nat}{xs:List AV} (s:Sim mg P φ st H) (r:RA mg P H φ v w) (h:gk st v=some (j,xs)):∃ a vs,w=.ref a/\φ[j]?=some a/\¬ P a/\H a=some (.lst vs)/\Ma mg P H φ xs vs:=by
 cases v with
 | ref i =>
  simp only [gk] at h;split at h
  ·rename_i ys hj
   cases h;simp only [RA] at r;obtain ⟨a,ea,rfl⟩:=r;obtain ⟨a',ea',na,vs,h1,h2⟩:=s.at hj;rw [ea] at ea';cases ea';exact ⟨a,vs,rfl,ea,na,h1,h2⟩
  ·cases h
 | _=>cases h
theorem rL [L7] {mg:Gm}{P:Pr}{φ:List Addr}{st:aa}{H:Hp}{j:Nat}{a:Addr}{ys:List AV}{us:List V} (s:Sim mg P φ st H) (ea:φ[j]?=some a) (na:¬ P a) (nz:∃ vs,H a=some (.lst vs)) (r:Ma mg P H φ ys us) :
  Frm P φ H P φ (af H a (.lst us))/\Sim mg P φ (st.set j (.lst ys)) (af H a (.lst us))/\∀ {t:AV}{w:V},RA mg P H φ t w->RA mg P (af H a (.lst us)) φ t w:=by
 have ex:∀ b,P b->P b/\af H a (.lst us) b=H b:=fun b h=>⟨h,ad fun e=>na (e ▸ h)⟩
 obtain ⟨f3,s3⟩:=g6 (c:=.lst ys) (o:=.lst us) s ea na ⟨na,us,ar,r.mono ex fun _ _ z=>z⟩ (fun _ _ z=>by obtain ⟨vs,q⟩:=nz;rw [q] at z;cases z);exact ⟨f3,s3,fun h=>h.mono ex fun _ _ z=>z⟩
def ma:MF:=fun x xs st=>match xs with
 | [y]=>(gk st x).bind fun c=>if dP c.2.length=true then some (.non,st.set c.1 (.lst (c.2++[y]))) else none
 | _=>none
theorem F6 {n:Nat} (h:dP n=true):n < sizeLine:=yK (zS h) dC
theorem zz [L7]:kO X "list.append" (rM X.gm ma):=mq oH fun x vs H Q hq0=>by
 obtain ⟨P,φ,st,a,xs,s,r,rr,v,st',e,kk⟩:=hq0;unfold ma at e;split at e
 ·rename_i y
  obtain ⟨c,e1,e2⟩:=zA e;split at e2
  ·rename_i hz
   cases e2;obtain ⟨b,us,rfl,ea,na,h1,h2⟩:=o0 s r e1;obtain ⟨w,rfl,r1⟩:=rr.one;obtain ⟨f3,s3,_⟩:=rL s ea na ⟨_,h1⟩ (h2.app (aW r1 br));exact ⟨b,us,w,rfl,rfl,h1,by rw [<- h2.length];exact F6 hz,kk P φ _ _ f3 s3 (by simp only [RA])⟩
  ·cases e2
 ·cases e
def Ln:MF:=fun x xs st=>match xs with
 | [.int i]=>(gk st x).bind fun c=>if eV i=true then (j7 c.2.length i).bind fun j=>(c.2[j]?).map fun y=>(y,st.set c.1 (.lst (c.2.eraseIdx j))) else none
 | _=>none
def uu:MF:=fun x xs st=>match xs with
 | [y]=>(gk st x).bind fun c=>(bw st y).bind fun ys=>if dP (c.2.length + ys.length)=true then some (.non,st.set c.1 (.lst (c.2++ys))) else none
 | _=>none
theorem zx [L7]:kO X "list.extend" (rM X.gm uu):=mq BH fun x vs H Q hq0=>by
 obtain ⟨P,φ,st,a,xs,s,r,rr,v,st',e,kk⟩:=hq0;unfold uu at e;split at e
 ·rename_i y
  obtain ⟨c,e1,e2⟩:=zA e;obtain ⟨ys,e3,e4⟩:=zA e2;split at e4
  ·rename_i hz
   cases e4;obtain ⟨b,us,rfl,ea,na,h1,h2⟩:=o0 s r e1;obtain ⟨w,rfl,r1⟩:=rr.one;obtain ⟨b2,us2,rfl,d2,q2⟩:=r1.ls s e3;obtain ⟨f3,s3,_⟩:=rL s ea na ⟨_,h1⟩ (h2.app q2);exact ⟨b,b2,us,us2,rfl,rfl,h1,d2,by rw [<- h2.length,<- q2.length];exact i7 hz,kk P φ _ _ f3 s3 (by simp only [RA])⟩
  ·cases e4
 ·cases e
def xP:MF:=fun x xs st=>match xs with
 | [y]=>(c6 9 st x).bind fun p=>(c6 9 st y).bind fun q=>match p with
  | .list ps=>if (ps.all fun r=>pyOk r q)=true then some (.int ((ps.countP fun r=>PyData.eqv r q:Nat):Int),st) else none
  | _=>none
 | _=>none
theorem zy [L7] (hu:X.A.units + 64 < cLine):kO X "list.count" (rM X.gm xP):=by
 rintro L5 s σ H x vs v us Q I rx rv ⟨P,φ,st,a,xs,sm,r,rr,z,st',e,kk⟩;unfold xP at e;split at e
 ·rename_i y
  obtain ⟨p,e1,e2⟩:=zA e;obtain ⟨q,e3,e4⟩:=zA e2;split at e4
  ·rename_i ps
   split at e4
   ·rename_i Mb
    cases e4;obtain ⟨w,rfl,r1⟩:=rr.one;obtain ⟨u,rfl,ru⟩:=rv.one;obtain ⟨as,ra⟩:=gw I sm 9 _ _ _ _ r e1 rx;obtain ⟨bs,rb⟩:=gw I sm 9 _ _ _ _ r1 e3 ru;cases ra with
    | @list a o items n xs as' hg hc hdt rall =>
     obtain ⟨ocl,odi,oda,osl⟩:=o;dsimp only at hc hdt;subst hc;subst hdt
     classical
     have uq:∀ z p' az,Reads s.heap z p' az->decide (∃ p as,Reads s.heap z p as/\PyData.eqv p q=true)=PyData.eqv p' q:=by
      intro z p' az rz;rcases he:PyData.eqv p' q with _ | _
      ·refine z8 ?_
       rintro ⟨p2,as',r',e'⟩
       have:=(PySem.Reads.unique rz p2 as' r').1
       rw [<- this,he] at e';cases e'
      ·exact yR ⟨p',az,rz,he⟩
     refine call_meets PySem.F.slot_list_count ⟨_,hg,rfl⟩ PySem.F.entry_list_count (PySem.F.args_list_count_2 _ _) (PySem.SeqAt.list_countAt a items n odi osl u (fun z=>decide (∃ p as,Reads s.heap z p as/\PyData.eqv p q=true))) ⟨hg,?_,?_⟩
     ·intro z hz
      obtain ⟨pz,az,hpz,rz⟩:=reads_each rall z (by simpa using hz);obtain ⟨k1,k2,k3⟩:=nY (yN.mp Mb pz hpz);rw [uq z pz az rz];exact PySem.SeqAt.eqAt_reads pz q _ s z u az bs rz rb k1 k2 (by simp only [Around.in1_units];omega)
     ·have hc:=cnt_vals (q:=q) (e:=fun z=>decide (∃ p as,Reads s.heap z p as/\PyData.eqv p q=true)) (h:=s.heap) (vs:=items.toList) (ps:=ps) (fun v p as rv=>uq v p as rv) rall
      rw [hc];exact ⟨.int _,H,I.kept (fun _ _ e=>e),⟨_,rfl⟩,kk P φ H _ Frm.refl sm (by simp only [RA])⟩
   ·cases e4
  ·cases e4
 ·cases e
def Et:MF:=fun x xs st=>match x,xs with
 | .int i,[]=>some (.int ((Builtin.Int.intBits i:Nat):Int),st)
 | _,_=>none
theorem Es [L7]:kO X "int.bit_length" (rM X.gm Et):=mq BI fun x vs H Q hq0=>by
 obtain ⟨P,φ,st,a,xs,s,r,rr,v,st',e,kk⟩:=hq0;unfold Et at e;split at e
 ·cases e
  simp only [RA] at r;simp only [Ma] at rr;exact ⟨_,r,rr,kk P φ H _ Frm.refl s (by simp only [RA])⟩
 ·cases e
def IN (t:Bool):EF:=fun _ st=>some (.ref st.length,st++[if t=true then .dT [] else .dK []])
theorem A7 [L7] (hm:PE X (.Dict [] [] pos) vg):QE X (.Dict [] [] pos) (IN false):=PE_imp hm fun σ H Q hq0=>by
 obtain ⟨P,φ,sl,st,rs,s,v,st',e,kk⟩:=hq0;cases e;intro d hd;obtain ⟨f3,s3⟩:=lZ (c:=.dK []) (o:=.dK []) s hd ⟨fun z=>s.dom d z hd,[],ar,rfl,br⟩;refine kk P _ _ _ f3 s3 ?_;simp only [RA];exact ⟨d,by rw [<- s.len];simp,rfl⟩
end
end R
namespace R
open PySem PySem.Spec PyProof.Rows L2
open DD (PE_imp PT_imp PA_imp PS_imp PSs_imp OpR_imp PW_imp PG_imp pyOk obj_list obj_tup minL minL_eq cnt_vals)
theorem qW:bootBuiltins "min"=some (.builtin "min"):=by decide +kernel
def xN (ns:List Int):AV:=match minL ns with
 | some m=>.int m
 | none=>.non
def mN (st:aa):List AV->Option AV
 | [v]=>(lsI st v).map xN
 | _=>none
theorem Ek (a:Value):argsOk "min" ⟨[a],[(Str.ofString "default",.none)]⟩:=by unfold argsOk;kernel_rfl
theorem Ej (a v:Value):argsOk "min" ⟨[a],[(Str.ofString "key",v),(Str.ofString "default",.none)]⟩:=by unfold argsOk;kernel_rfl
theorem En {α:Type}{l:List α}{x:α} (h:x ∈ l):∃ i:Nat,l[i]?=some x:=z7 h
section
variable {X:Cx}{a:Expr}{f:EF}{p pos kp pc:Pos}{j:Nat}
theorem A5 [L7] (hc:X.calm=true) (hg:Gl X "min") (hm:X.mg "min"=none) (ha:QE X a f) (hs:starEach [a] X.env=[(false,eval a X.env)]) :
  QE X (.Call (.Name "min" p) [a] [⟨some "default",.Constant .none j pc,kp⟩] pos) (tF (b9 mN) (dl f dN)):=by
 intro L5 s σ H Q I h;have hb:=Fv h;refine wpAny_Call_Name_kw (cN I hg hm qW (callWith_kw (aB ((bR ha dR (by rw [hs];rfl)) pos L5 s σ H _ I hb) fun us s1 ⟨vs,H1,I1,r1,q1⟩=>?_) (by rw [hs];rfl) (by rw [hs];rfl) (by rfl) (by rfl)));refine kws_cons (Constant_none (kws_nil ?_));obtain ⟨P,φ,st,xs,sm,r,k0⟩:=q1;obtain ⟨z,e,k⟩:=k0.map;unfold mN at e;split at e
 ·rename_i v
  obtain ⟨w,rfl,rv⟩:=r.one;obtain ⟨ns,e1,e2⟩:=zE.mp e;obtain ⟨l,rfl,hl⟩:=rv.lsI sm e1;obtain ⟨u,rfl,ru⟩:=eP r1;cases ru;refine qk (ko:=none) (ns:=ns) (I.ok.hd hc) (fun i=>ns.getD i 0) (fun _ H=>H=H1) (fun i H e=>by rw [e];exact hl) rfl (Ek _) (fun i n u pl s H en ru eH I=>.inl ⟨rfl,by simp [en],eH⟩) (fun i n H en hmin eH=>?_) (fun en=>?_) I1 rfl
  ·subst eH
   have:minL ns=some n:=by
    cases hM:minL ns with
    | none =>
     cases ns with
     | nil=>simp at en
     | cons _ _=>cases hM
    | some m =>
     rw [minL_eq hM (zW en) fun b hb=>?_];obtain ⟨i',hi'⟩:=En hb;have h1:=(hmin i' (zB.mp hi').1).1;simpa [en,hi'] using h1
   have ez:z=.int n:=by rw [<- e2];unfold xN;rw [this]
   subst ez;exact k.pure sm (by simp only [RA])
  ·subst en
   have ez:z=.non:=by rw [<- e2];rfl
   subst ez;exact k.pure sm (by simp only [RA])
 ·cases e
end
def vW (key:EF) (sl:Sl) (st:aa) (n:Int):Option Int:=match key (sl++[some (.int n)]) st with
 | some (.int k,_)=>some k
 | _=>none
noncomputable def iW:Int->Int->List (Int × Int)->Int
 | n,_,[]=>n
 | n,k,(m,j)::r=>if j < k then iW m j r else iW n k r
def oz:List (Int × Int)->AV
 | []=>.non
 | (n,k)::r=>.int (iW n k r)
def pG (f key:EF):EF:=fun sl st=>(f sl st).bind fun p=>(lsI p.2 p.1).bind fun ns=>(bE (vW key sl p.2) ns).map fun ks=>(oz (ns.zip ks),p.2)
def As (f:EF):Prop:=∀ sl st v st',f sl st=some (v,st')->st'=st
theorem oA:∀ (r:List (Int × Int)) (n k:Int),∃ (i:Nat) (κ:Int),((n,k)::r)[i]?=some (iW n k r,κ)/\∀ (j:Nat) q,((n,k)::r)[j]?=some q->κ <= q.2/\(j < i->κ < q.2)
 | [],n,k=>⟨0,k,rfl,fun j q e=>by
   cases j with
   | zero=>cases e;exact ⟨Int.le_refl _,fun h=>absurd h (yV _)⟩
   | succ j=>simp at e⟩
 | (m,j0)::r,n,k=>by
  by_cases hb:j0 < k
  ·obtain ⟨i,κ,e1,e2⟩:=oA r m j0
   refine ⟨i + 1,κ,by rw [List.getElem?_cons_succ];simpa [iW,hb] using e1,fun j q e=>?_⟩;cases j with
   | zero =>
    cases e
    have:=(e2 0 (m,j0) rfl).1
    exact ⟨by show κ <= k;omega,fun _=>by show κ < k;omega⟩
   | succ j =>
    rw [List.getElem?_cons_succ] at e;exact ⟨(e2 j q e).1,fun h=>(e2 j q e).2 oM⟩
  ·obtain ⟨i,κ,e1,e2⟩:=oA r n k
   have ea:iW n k ((m,j0)::r)=iW n k r:=by simp [iW,hb]
   have hk:=(e2 0 (n,k) rfl).1;refine ⟨if i=0 then 0 else i + 1,κ,?_,fun j q e=>?_⟩
   ·rw [ea]
    cases i with
    | zero=>simpa using e1
    | succ i=>simpa using e1
   ·cases j with
    | zero =>
     cases e;refine ⟨hk,fun h=>?_⟩;cases i with
     | zero=>simp at h
     | succ i=>exact (e2 0 (n,k) rfl).2 (Nat.succ_pos i)
    | succ j =>
     rw [List.getElem?_cons_succ] at e;cases j with
     | zero =>
      cases e;refine ⟨by show κ <= j0;omega,fun h=>?_⟩;cases i with
      | zero=>simp at h
      | succ i =>
       have:=(e2 0 (n,k) rfl).2 (Nat.succ_pos i)
       show κ < j0;have:κ < k:=this;omega
     | succ j =>
      rw [List.getElem?_cons_succ] at e
      have:=e2 (j + 1) q (by rw [List.getElem?_cons_succ];exact e)
      refine ⟨this.1,fun h=>this.2 ?_⟩;cases i with
      | zero=>simp at h
      | succ i=>simp at h;omega
theorem Cd {ns ks:List Int}{i:Nat}{n:Int} (hl:ns.length=ks.length) (hn:ns[i]?=some n) (hm:∀ j,j < ns.length->ks.getD i 0 <= ks.getD j 0/\(j < i->ks.getD i 0 < ks.getD j 0)):oz (ns.zip ks)=.int n:=by
 have hi:i < ns.length:=(zB.mp hn).1;obtain ⟨k,hk⟩:∃ k,ks[i]?=some k:=⟨_,zF oM⟩;have hz:(ns.zip ks)[i]?=some (n,k):=by rw [List.getElem?_zip_eq_some];exact ⟨hn,hk⟩
 have hd:ks.getD i 0=k:=by simp [hk]
 cases e:ns.zip ks with
 | nil=>rw [e] at hz;simp at hz
 | cons q r =>
  obtain ⟨n0,k0⟩:=q;obtain ⟨i',κ,e1,e2⟩:=oA r n0 k0;rw [<- e] at e1 e2;have e3:=List.getElem?_zip_eq_some.mp e1;have hi':i' < ns.length:=(zB.mp e3.1).1;have hd':ks.getD i' 0=κ:=by simp [e3.2]
  have m1:=hm i' hi';have m2:=e2 i (n,k) hz;rw [hd,hd'] at m1;have m2a:κ <= k:=m2.1;have m2b:i < i'->κ < k:=m2.2;have:i=i':=by
   rcases Nat.lt_trichotomy i i' with h | h | h
   ·have:=m2b h;omega
   ·exact h
   ·have:=m1.2 h;omega
  subst this;rw [hn] at e3
  have:=e3.1
  simp only [oz];cases this;rfl
theorem qp {α β:Type}{f:α->Option β}:∀ {l:List α}{r:List β},bE f l=some r->l.length=r.length/\∀ (i:Nat) x,l[i]?=some x->∃ y,r[i]?=some y/\f x=some y
 | [],r,h=>by cases h;exact ⟨rfl,fun i x e=>by simp at e⟩
 | x::l,r,h=>by
  simp only [bE] at h;obtain ⟨y,e1,e2⟩:=zA h;obtain ⟨ys,e3,e4⟩:=zE.mp e2;subst e4;obtain ⟨h1,h2⟩:=qp e3;refine ⟨by simp [h1],fun i z e=>?_⟩;cases i with
  | zero=>cases e;exact ⟨y,rfl,e1⟩
  | succ i=>exact h2 i z (by simpa using e)
section
variable {X:Cx}{a body:Expr}{f key:EF}{p pos kp lp EI pc:Pos}{j:Nat}{params:Arguments}{scope:Scope}{N':List Str}{x:Str}{c P:Addr}
theorem Mg.snoc [L7] {mg:Gm}{P:Pr}{H:Hp}{φ:List Addr}{sl:Sl}{σ:St}{v:AV}{w:V} (h:Mg mg P H φ sl σ) (r:RA mg P H φ v w):Mg mg P H φ (sl++[some v]) (σ++[some w]):=by
 refine ⟨by rw [zV,zV,h.1];rfl,fun i u e=>?_⟩;rcases yQ i sl.length with hi | hi
 ·rw [zN hi] at e
  rw [zN (by rw [<- h.1];exact hi)];exact h.2 i u e
 ·rw [z5 hi] at e
  rw [z5 (by rw [<- h.1];exact hi),<- h.1];cases hk:i - sl.length with
  | zero=>rw [hk] at e;cases e;exact ⟨w,rfl,r⟩
  | succ m=>rw [hk] at e;simp at e
theorem A4 [L7] (hc:X.calm=true) (hg:Gl X "min") (hm:X.mg "min"=none) (ha:QE X a f) (hs:starEach [a] X.env=[(false,eval a X.env)]) (hdef:defaultsOf params X.env=([],[])) (hcode:X.env.code=.ref c) (C:CodeHd X.base c P) (B:iq X.mg X.base)
  (ht:(P,lp,X.env.qual++"<lambda>") ∈ L7.tb) (T:uY X N' scope x) (hp:plainA params=true) (hps:params.args.map (·.arg)=[x]) (hd:X.A.in1.depth < recursionLimit) (pu:As key)
  (he:∀ cl f c' s H,QE (qP X N' scope cl f (X.env.qual++"<lambda>") (.ref c') X.A.in1 s H) body key)
  (hdj:∀ t ∈ L7.tb,t.1=P->t=(P,lp,X.env.qual++"<lambda>")) :
  QE X (.Call (.Name "min" p) [a] [⟨some "key",.Lambda params body scope lp,kp⟩,⟨some "default",.Constant .none j pc,EI⟩] pos) (pG f key):=by
 rintro L5 s σ H Q I ⟨Pr0,φ,sl,st,rs,sm,v,st',ev,k⟩;obtain ⟨p1,e1,e2⟩:=zA ev;obtain ⟨ns,e3,e4⟩:=zA e2;obtain ⟨ks,e5,e6⟩:=zE.mp e4;cases e6;have hra:rA X.gm (dl f dN) σ H (fun vs H1=>∃ P1 φ1 w,vs=[w]/\Frm Pr0 φ H P1 φ1 H1/\Sim X.gm P1 φ1 p1.2 H1/\RA X.gm P1 H1 φ1 p1.1 w) :=
  vn rs sm ⟨p1.1,p1.2,e1,fun P1 φ1 H1 w f1 s1 r1=>⟨P1,φ1,w,rfl,f1,s1,r1⟩⟩
 refine wpAny_Call_Name_kw (cN I hg hm qW (callWith_kw (aB ((bR ha dR (by rw [hs];rfl)) pos L5 s σ H _ I hra) fun us s1 ⟨vs,H1,I1,r1,P1,φ1,w,ew,f1,s1',rw1⟩=>?_) (by rw [hs];rfl) (by rw [hs];rfl) (by rfl) (by rfl)));subst ew;obtain ⟨l,rfl,hl0⟩:=rw1.lsI s1' e3;obtain ⟨u,rfl,ru⟩:=eP r1;cases ru;obtain ⟨cl,hcl,hcl1,hcl2⟩:=jA (scope:=scope) (env:=X.env) (fun y hy=>by
  rcases T.cy.free y hy with h | h
  ·exact I1.ok.has y (.inl h)
  ·exact I1.ok.has y (.inr h))
 refine kws_cons (xW I1 hdef hcode C B hcl (s1'.tb _ ht).1 fun q c' ctv H2 s2 hH2 tb2 hx2 I2=>kws_cons (Constant_none (kws_nil ?_)))
 -- the heap behind the making
 have fs:Frm P1 φ1 H1 P1 φ1 H2/\Sim X.gm P1 φ1 p1.2 H2:=by
  rcases hH2 with rfl | ⟨ps,more,hP,hn,hne,rfl⟩
  ·exact ⟨Frm.refl,s1'⟩
  ·have nP:∀ b,P1 b->b ≠ P:=fun b h e=>(s1'.tb _ ht).2 (by rw [<- e];exact h)
   have nc:∀ b,H1 b ≠ none->b ≠ c':=fun b h e=>h (by rw [e];exact hn)
   have ncell:∀ b ∈ φ1,b ≠ P:=fun b h e=>s1'.tnc ht (by rw [<- e];exact h)
   have eq:∀ b,b ≠ P->b ≠ c'->af (af H1 P (.tbl (ps++more))) c' (fF c' (X.env.qual++"<lambda>")) b=H1 b:=fun b h1 h2=>by rw [ad h2,ad h1]
   have ex:∀ b,P1 b->P1 b/\af (af H1 P (.tbl (ps++more))) c' (fF c' (X.env.qual++"<lambda>")) b=H1 b:=fun b h=>⟨h,eq b (nP b h) (nc b (s1'.dom b h))⟩
   refine ⟨⟨ex,⟨[],by simp,by simp⟩,fun b h _ z=>eq b (fun e=>z ps (by rw [e];exact hP)) (nc b h),fun b h=>.inl h,fun b h=>?_,fun b o u h=>?_⟩,s1'.stay ex (fun b h=>eq b (ncell b h) (nc b (s1'.cd b h))) (fun _ _ h=>h) (fun b h=>by rw [(ex b h).2];exact s1'.dom b h) fun t ht'=>⟨?_,(s1'.tb t ht').2⟩⟩
   ·by_cases e:b=P
    ·subst e;rw [ad hne,ar];exact fun z=>nomatch z
    ·rw [eq b e (nc b h)];exact h
   ·rw [eq b (fun e=>by rw [e,hP] at h;cases h) (nc b (by rw [h];exact fun z=>nomatch z))];exact h
   ·by_cases e:t.1=P
    ·rw [hdj t ht' e];exact tb2
    ·obtain ⟨qs,g1,g2,g3⟩:=(s1'.tb t ht').1
     refine ⟨qs,by rw [eq t.1 e (nc _ (by rw [g1];exact fun z=>nomatch z))];exact g1,g2,?_⟩;rcases g3 with g3 | ⟨c2,g4,g5⟩
     ·exact .inl g3
     ·exact .inr ⟨c2,g4,by rw [eq c2 (fun z=>by rw [z,hP] at g5;cases g5) (nc _ (by rw [g5];exact fun z=>nomatch z))];exact g5⟩
 obtain ⟨hlen,hget⟩:=qp e5;have aF:∀ H',(∃ P' φ',Frm P1 φ1 H2 P' φ' H'/\Sim X.gm P' φ' p1.2 H')->∀ z,oz (ns.zip ks)=z->∀ w,(∀ P' φ',RA X.gm P' H' φ' z w)->Q w H':=fun H' hq0 z hz w r=>by
  obtain ⟨P',φ',f',s'⟩:=hq0;rw [hz] at k;exact k P' φ' H' w ((f1.trans fs.1).trans f') s' (r P' φ')
 have hmc:=qk (X:=X) (L5:=L5++[(q,uw X.mg (X.env.qual++"<lambda>") params body scope cl (.ref c') ctv)]) (σ:=σ) (ko:=some (.ref q)) (kws:=[(Str.ofString "key",.ref q),(Str.ofString "default",.none)]) (l:=l) (ns:=ns) (H:=H2) (s:=s2) (Q:=Q) (E:=X.xe)
  (I.ok.hd hc) (fun i=>ks.getD i 0) (fun _ H'=>∃ P' φ',Frm P1 φ1 H2 P' φ' H'/\Sim X.gm P' φ' p1.2 H') (fun i H' ⟨P',φ',f',s'⟩=>?_) rfl (Ej _ _) (fun i n u pl s3 H3 en ru ⟨P3,φ3,f3,s3'⟩ I3=>.inr ⟨q,rfl,?_⟩) (fun i n H' en hmin hJ=>?_) (fun en=>?_) I2 ⟨P1,φ1,Frm.refl,fs.2⟩
 ·exact aB hmc fun u s9 ⟨v9,H9,I9,r9,q9⟩=>⟨v9,H9,I9.pins_of fun p hp=>I9.pin p (zK _ (zL _ hp)),r9,q9⟩
 ·obtain ⟨b,eb,hb⟩:=(rw1.frm (fs.1.trans f')).lsI s' e3
  cases eb;exact hb
 ·obtain ⟨kv,ek,hk⟩:=hget i n en
  unfold vW at hk;split at hk
  ·rename_i k0 st0 ekey
   cases hk
   have:=pu _ _ _ _ ekey
   subst this;have hpin:=I3.pin (q,uw X.mg (X.env.qual++"<lambda>") params body scope cl (.ref c') ctv) (zK _ (zL _ (zK _ (zM.mpr rfl))));have hcx:H3 c'=some (fF c' (X.env.qual++"<lambda>")):=fs.2.okeep f3 hx2;have hcr:s3.heap.CodeRec (.ref c') (X.env.qual++"<lambda>"):=(I3.Mb c' _ hcx).1;refine xX (te:=rE X.gm key) T I3 I.ok.frames (I.ok.hd hc) hd hcl1 hcl2 hp hps hpin.1 hcr (fun s H=>he cl q c' s H) ru ?_;have ksl:Mg X.gm P3 H3 φ3 (sl++[some (.int n)]) (σ++[some (.int n)]):=Mg.snoc (((rs.frm f1).frm fs.1).frm f3) (by simp only [RA]);refine ⟨P3,φ3,sl++[some (.int n)],p1.2,ksl,s3',.int kv,p1.2,ekey,fun P4 φ4 H4 b f4 s4 r4=>?_⟩;simp only [RA] at r4;exact ⟨by rw [r4];simp [ek],P4,φ4,f3.trans f4,s4⟩
  ·cases hk
 ·exact aF H' hJ _ (Cd hlen en hmin) _ fun P' φ'=>by simp only [RA]
 ·subst en
  exact aF H2 ⟨P1,φ1,Frm.refl,fs.2⟩ _ rfl _ fun P' φ'=>by simp only [List.zip_nil_left,oz,RA]
end
section
variable {X:Cx}{a b:Expr}{f g:EF}{pos p1 p2 pos2:Pos}
noncomputable def oF (i:Int):Bool:=decide (0 <= i) && decide (i <= 1000)
def ui (f:EF):NF:=fun sl st=>(f sl st).bind fun p=>match p.1 with
 | .int j=>if oF j=true then some (db 0 j.toNat,p.2) else none
 | _=>none
def uh (f g:EF):NF:=fun sl st=>(f sl st).bind fun p=>(g sl p.2).bind fun q=>match p.1,q.1 with
 | .int i,.int j=>if (oF i && oF j && decide (i <= j))=true then some (db i (j - i).toNat,q.2) else none
 | _,_=>none
theorem Ma.rng (i:Nat):∀ n:Nat,Ma mg P H φ (db (i:Int) n) ((List.range' i n).map fun (q:Nat)=>V.int (q:Int)):=by
 have key:∀ (l:List Nat),Ma mg P H φ (l.map fun (k:Nat)=>AV.int ((i:Int) + (k:Int))) (l.map fun (k:Nat)=>V.int ((i:Int) + (k:Int))):=by
  intro l
  induction l with
  | nil=>exact br
  | cons x l ih=>exact aW (by simp only [RA]) ih
 intro n;have:((List.range' i n).map fun (q:Nat)=>V.int (q:Int))=(List.range n).map fun (k:Nat)=>V.int ((i:Int) + (k:Int)):=by
  rw [List.range'_eq_map_range,List.map_map];refine List.map_congr_left fun k _=>?_
  simp
 rw [this];exact key _
theorem C2 [L7] (hc:X.calm=true) (hgl:Gl X "list") (hml:X.mg "list"=none) (hgr:Gl X "range") (hmr:X.mg "range"=none) (ha:QE X a f)
  (hs:starEach [a] X.env=[(false,eval a X.env)]):QN X (.Call (.Name "list" p1) [.Call (.Name "range" p2) [a] [] pos2] [] pos) (ui f) :=
 PE_imp (xp hc hgl hml hgr hmr ha hs) fun σ H Q hq0=>by
  obtain ⟨P,φ,sl,st,rs,s,xs,st',ef,k⟩:=hq0;obtain ⟨q,e1,e2⟩:=zA ef;refine ⟨P,φ,sl,st,rs,s,q.1,q.2,e1,fun P1 φ1 H1 w f1 s1 r1=>?_⟩;show ∃ j:Nat,[w]=[.int (j:Int)]/\j <= 1000/\∀ p,H1 p=none->Q (.ref p) (af H1 p (.lst ((List.range' 0 j).map fun (q:Nat)=>V.int (q:Int))));split at e2
  ·rename_i j ej
   split at e2
   ·rename_i hb
    cases e2;rw [ej] at r1;simp only [RA] at r1;subst r1;obtain ⟨h1,h2⟩:=Bool.and_eq_true_iff.mp hb;have h1:=of_decide_eq_true h1;have h2:=of_decide_eq_true h2;refine ⟨j.toNat,by rw [Int.toNat_of_nonneg h1],by omega,fun p hp=>?_⟩;exact k P1 φ1 H1 p _ f1 s1 hp (Ma.rng 0 j.toNat)
   ·cases e2
  ·cases e2
theorem C1 [L7] (hc:X.calm=true) (hgl:Gl X "list") (hml:X.mg "list"=none) (hgr:Gl X "range") (hmr:X.mg "range"=none) (ha:QE X a f) (hb:QE X b g)
  (hs:starEach [a,b] X.env=[(false,eval a X.env),(false,eval b X.env)]) (hs2:starEach [b] X.env=[(false,eval b X.env)]):QN X (.Call (.Name "list" p1) [.Call (.Name "range" p2) [a,b] [] pos2] [] pos) (uh f g) :=
 PE_imp (vG hc hgl hml hgr hmr (bR ha (bR hb dR (by rw [hs2];rfl)) (by rw [hs,hs2])) hs hs2) fun σ H Q hq0=>by
  obtain ⟨P,φ,sl,st,rs,s,xs,st',ef,k⟩:=hq0;obtain ⟨q,e1,e2⟩:=zA ef;obtain ⟨r,e3,e4⟩:=zA e2;refine CO rs s ⟨q.1,q.2,r.1,r.2,e1,e3,fun P1 φ1 H1 w w' f1 s1 r1 r2=>?_⟩;split at e4
  ·rename_i i j ei ej
   split at e4
   ·rename_i hb
    cases e4;rw [ei] at r1;rw [ej] at r2;simp only [RA] at r1 r2;subst r1;subst r2;simp only [oF,zC,yA] at hb;obtain ⟨⟨⟨h1,h2⟩,h3,h4⟩,h5⟩:=hb;refine ⟨i.toNat,j.toNat,by rw [Int.toNat_of_nonneg h1,Int.toNat_of_nonneg h3],by omega,by omega,fun p hp=>?_⟩;refine k P1 φ1 H1 p _ f1 s1 hp ?_;have e1:(j - i).toNat=j.toNat - i.toNat:=by omega
    have e2:i=((i.toNat:Nat):Int):=by omega
    have:=Ma.rng (mg:=X.gm) (P:=P1) (H:=H1) (φ:=φ1) i.toNat (j.toNat - i.toNat)
    rw [<- e2,<- e1] at this;rw [<- e1];exact this
   ·cases e4
  ·cases e4
end
def mQ:a0->AV
 | .inl i=>.int i
 | .inr x=>.str x
noncomputable def yZ (k:Nat):Out->Option Out
 | .nx sl st=>match st[k]? with
  | some (.wk L6)=>some (.nx sl (st.set k (.dK L6)))
  | _=>none
 | .rt v st=>match st[k]? with
  | some (.wk L6)=>some (.rt v (st.set k (.dK L6)))
  | _=>none
 | _=>none
def tY (f:EF) (g:GF) (s:SF):SF:=fun sl st=>(f sl st).bind fun p=>match p.1 with
 | .ref k=>match p.2[k]? with
  | some (.dK L6)=>(df [] g s (L6.map fun q=>mQ q.1) sl (p.2.set k (.wk L6))).bind (yZ k)
  | _=>none
 | _=>none
section
variable {X:Cx}{tg iter:Expr}{body:List Stmt}{pos:Pos}{f:EF}{g:GF}{s:SF}
theorem AS [L7] (hp:PassesOwn (model X.prog X.w) X.A X.env X.xe) (hc:X.calm=true) (hi:QE X iter f) (hg:QG X tg g) (hb:kK X body s) (hs:∀ x,foldedSetIterable iter X.env x=pure x):QS X (.For tg iter body [] pos) (tY f g s) :=
 PS_imp (Bc (vy hp hc (Bm hi) hg hb hs)) fun D σ H hq0=>by
  obtain ⟨P,φ,sl,st,rs,sm,o,e,q⟩:=hq0;obtain ⟨p,e1,e2⟩:=zA e;refine ⟨P,φ,sl,st,rs,sm,p.1,p.2,e1,fun P1 φ1 H1 w f1 s1 r1=>?_⟩;split at e2
  ·rename_i k ek
   rw [ek] at r1;simp only [RA] at r1;obtain ⟨a,ea,rfl⟩:=r1;split at e2
   ·rename_i L6 hk
    obtain ⟨o1,e3,e4⟩:=zA e2;obtain ⟨na,ws,h1,h2⟩:=s1.cell k _ a hk ea;refine ⟨a,ws,rfl,h1,fun ob hn=>?_⟩;have hkeys:(L6.map fun q=>mQ q.1).length=ws.length:=by
     have:=congrArg List.length h2.1
     rw [zH,zH] at this;rw [zH];exact this
    obtain ⟨fw,sw⟩:=g6 (c:=.wk L6) (o:=.frz ob (.dK ws)) s1 ea na ⟨na,ob,ws,ar,h2.mono (fun b h=>⟨h,ad fun e=>na (e ▸ h)⟩) fun _ _ z=>z⟩ (fun _ _ z=>by rw [h1] at z;cases z);have rsw:Mg X.gm P1 (af H1 a (.frz ob (.dK ws))) φ1 sl σ:=(rs.frm f1).frm fw
    -- behind the loop
    have back:∀ {P5 φ5 H5 st5},Frm P1 φ1 (af H1 a (.frz ob (.dK ws))) P5 φ5 H5->Sim X.gm P5 φ5 st5 H5->∀ {kvs'},st5[k]?=some (.wk kvs')->∃ o5 ws5,H5 a=some (.frz o5 (.dK ws5)) /\
      Frm P φ H P5 φ5 (af H5 a (.dK ws5))/\Sim X.gm P5 φ5 (st5.set k (.dK kvs')) (af H5 a (.dK ws5))/\∀ b,P5 b->P5 b/\af H5 a (.dK ws5) b=H5 b:=by
     intro P5 φ5 H5 st5 f5 s5 kvs' hw;have ea5:φ5[k]?=some a:=f5.ix k a ea;obtain ⟨na5,o5,ws5,g1,g2⟩:=s5.cell k _ a hw ea5;have ex5:∀ b,P5 b->P5 b/\af H5 a (.dK ws5) b=H5 b:=fun b h=>⟨h,ad fun e=>na5 (e ▸ h)⟩
     refine ⟨o5,ws5,g1,?_,?_,ex5⟩
     ·have fall:=(f1.trans fw).trans f5
      obtain ⟨m,em,nm⟩:=fall.new;have hna:H a=none\/a ∈ φ:=by
       rcases zZ.mp (show a ∈ φ++f1.new.choose by rw [<- f1.new.choose_spec.1];exact zW ea) with z | z
       ·exact .inr z
       ·exact .inl (f1.new.choose_spec.2 a z)
      refine ⟨fun b h=>⟨(fall.ext b h).1,?_⟩,⟨m,em,nm⟩,fun b h n z=>?_,fall.pn,fun b h=>?_,fun b o u h=>?_⟩
      ·rw [(ex5 b (fall.ext b h).1).2];exact (fall.ext b h).2
      ·have nb:b ≠ a:=fun e=>by
        rcases hna with y | y
        ·exact h (by rw [e];exact y)
        ·exact n (by rw [e];exact y)
       rw [ad nb];exact fall.keep b h n z
      ·by_cases e:b=a
       ·rw [e,ar];exact fun z=>nomatch z
       ·rw [ad e];exact fall.sm b h
      ·have nb:b ≠ a:=fun e=>by
        have:=f1.fz b o u h
        rw [e,h1] at this;cases this
       rw [ad nb];exact fall.fz b o u h
     ·have hs5:st5[k]?=some (.wk kvs'):=hw
      refine ⟨by rw [List.length_set];exact s5.len,s5.nd,fun b h=>by rw [(ex5 b h).2];exact s5.dom b h,fun b h=>?_,fun j c b e5 e6=>?_,fun t ht=>⟨(s5.tb t ht).1.wr (s5.notb ea5 na5),(s5.tb t ht).2⟩⟩
      ·by_cases e:b=a
       ·rw [e,ar];exact fun z=>nomatch z
       ·rw [ad e];exact s5.cd b h
      ·by_cases hj:j=k
       ·subst hj
        rw [ea5] at e6;cases e6;rw [List.getElem?_set_self (by rw [<- s5.len];exact (zB.mp ea5).1)] at e5;cases e5;exact ⟨na5,ws5,ar,g2.mono ex5 fun _ _ z=>z⟩
       ·rw [List.getElem?_set_ne (Ne.symm hj)] at e5
        have hb:b ≠ a:=fun e=>hj (by
         subst e;obtain ⟨l1,q1⟩:=zB.mp e6;obtain ⟨l2,q2⟩:=zB.mp ea5;exact (List.getElem_inj s5.nd).mp (q1.trans q2.symm))
        exact (s5.cell j c b e5 e6).mono ex5 (fun _ _ z=>z) (ad hb) fun z=>z
    have endN:∀ {P5 φ5 H5 σ5 sl5 st5},o1=.nx sl5 st5->Frm P1 φ1 (af H1 a (.frz ob (.dK ws))) P5 φ5 H5->Sim X.gm P5 φ5 st5 H5->Mg X.gm P5 H5 φ5 sl5 σ5->(pq X.H₀ D).nx σ5 H5:=by
     intro P5 φ5 H5 σ5 sl5 st5 eo f5 s5 rs5;subst eo;simp only [yZ] at e4;split at e4
     ·rename_i kvs' hw
      cases e4;obtain ⟨o5,ws5,g1,g2,g3,g4⟩:=back f5 s5 hw;exact ⟨a,o5,ws5,g1,hn,q P5 φ5 _ σ5 g2 g3 ⟨rs5.1,fun i v e=>let ⟨w,e',r⟩:=rs5.2 i v e;⟨w,e',r.mono g4 fun _ _ z=>z⟩⟩⟩
     ·cases e4
    have endR:∀ {P5 φ5 H5 v5 st5 w5},o1=.rt v5 st5->Frm P1 φ1 (af H1 a (.frz ob (.dK ws))) P5 φ5 H5->Sim X.gm P5 φ5 st5 H5->RA X.gm P5 H5 φ5 v5 w5->(pq X.H₀ D).rt w5 H5:=by
     intro P5 φ5 H5 v5 st5 w5 eo f5 s5 r5;subst eo;simp only [yZ] at e4;split at e4
     ·rename_i kvs' hw
      cases e4;obtain ⟨o5,ws5,g1,g2,g3,g4⟩:=back f5 s5 hw;exact ⟨a,o5,ws5,g1,hn,q P5 φ5 _ w5 g2 g3 (r5.mono g4 fun _ _ z=>z)⟩
     ·cases e4
    refine ⟨fun i m σ' H'=>m=ws.length - i/\i <= ws.length/\∃ P' φ' sl' st',Frm P1 φ1 (af H1 a (.frz ob (.dK ws))) P' φ' H'/\Sim X.gm P' φ' st' H'/\Mg X.gm P' H' φ' sl' σ'/\df [] g s ((L6.map fun q=>mQ q.1).drop i) sl' st'=some o1,
     ⟨_,rfl,Nat.zero_le _,P1,φ1,sl,_,Frm.refl,sw,rsw,by simpa using e3⟩,?_⟩
    rintro i m σ' H' ⟨rfl,hle,P2,φ2,sl2,st2,f2,s2,rs2,eg⟩;have hfz:H' a=some (.frz ob (.dK ws)):=f2.fz a _ _ ar;rcases yQ i ws.length with hlt | hge
    ·right
     rw [List.drop_eq_getElem_cons (by rw [hkeys];exact hlt)] at eg;simp only [df,ce,if_true] at eg;obtain ⟨q4,e5,e6⟩:=zA eg;obtain ⟨o2,e7,e8⟩:=zA e6;refine ⟨⟨hfz,hlt⟩,fun σ' H'=>∃ P' φ' sl' st',Frm P1 φ1 (af H1 a (.frz ob (.dK ws))) P' φ' H'/\Sim X.gm P' φ' st' H'/\Mg X.gm P' H' φ' sl' σ'/\df [] g s ((L6.map fun q=>mQ q.1).drop (i + 1)) sl' st'=some o1,fun σ' H' z=>⟨_,by omega,rfl,hlt,z⟩,fun x H3 hy=>?_⟩;obtain ⟨rfl,hx⟩:=hy;have rx:RA X.gm P2 H3 φ2 ((L6.map fun q=>mQ q.1)[i]'(by rw [hkeys];exact hlt)) x:=by
      have hkw:L6[i]?.map (·.1)=ws[i]?.map (·.1):=by rw [<- zR,<- zR,h2.1]
      have hlt':i < L6.length:=by rw [zH] at hkeys;omega
      rw [zR,zF hlt] at hx;rw [zF hlt',zF hlt] at hkw;simp only [map_some,Option.some.injEq] at hx hkw;rw [List.getElem_map,hkw,<- hx];cases ws[i].1 with
      | inl n=>simp only [mQ,RA,kV]
      | inr z=>simp only [mQ,RA,kV]
     refine ⟨P2,φ2,sl2,st2,_,rs2,s2,rx,q4.1,q4.2,e5,fun P4 φ4 H4 σ4 f4 s4 rs4=>⟨P4,φ4,q4.1,q4.2,rs4,s4,o2,e7,?_⟩⟩;have fa:=f2.trans f4;cases o2 with
     | nx sl5 st5=>exact fun P5 φ5 H5 σ5 f5 s5 rs5=>⟨P5,φ5,sl5,st5,fa.trans f5,s5,rs5,e8⟩
     | ct sl5 st5=>exact fun P5 φ5 H5 σ5 f5 s5 rs5=>⟨P5,φ5,sl5,st5,fa.trans f5,s5,rs5,e8⟩
     | bk sl5 st5=>exact fun P5 φ5 H5 σ5 f5 s5 rs5=>endN (yC e8).symm (fa.trans f5) s5 rs5
     | rt v st5=>exact fun P5 φ5 H5 w f5 s5 r5=>endR (yC e8).symm (fa.trans f5) s5 r5
    ·left
     have ei:i=ws.length:=Nat.le_antisymm hle hge;subst ei;rw [<- hkeys,List.drop_length] at eg;simp only [df,ce,if_true] at eg;exact ⟨⟨hfz,zP _⟩,endN (yC eg).symm f2 s2 rs2⟩
   ·cases e2
  ·cases e2
end
end R
namespace R
open PySem PySem.Spec PyProof.Rows L2
noncomputable def aY:Expr->Bool
 | .Starred _ _=>false
 | _=>true
noncomputable def jb:Expr->Bool
 | .Slice _ _ _ _=>false
 | _=>true
noncomputable def uf:Expr->Bool
 | .Set _ _ _=>false
 | _=>true
noncomputable def l7:Expr->Bool
 | .Call (.Name _ _) [] [] _=>false
 | _=>true
noncomputable def k4:Expr->Bool
 | .ListComp _ _ _ _=>false
 | .SetComp _ _ _ _=>false
 | .DictComp _ _ _ _ _=>false
 | _=>true
noncomputable def xH:Expr->Bool
 | .Tuple _ _ _=>false
 | _=>true
noncomputable def vB:Expr->Bool
 | .UnaryOp .Not _ _=>false
 | .BoolOp _ _ _=>false
 | .IfExp _ _ _ _=>false
 | .Compare _ _ _ _=>false
 | _=>true
section
variable {env:Env}{e o i a b:Expr}{es:List Expr}{pos cpos apos:Pos}{f:Str}
theorem ao (h:aY e=true):starEach (e::es) env=(false,eval e env)::starEach es env:=by
 cases e <;> first | rfl | cases h
theorem g8 (h:es.all aY=true):(backTo pos (starEach es env)).any (·.1)=false:=by
 induction es with
 | nil=>rfl
 | cons e es ih =>
  rw [List.all_cons,zC] at h;rw [ao h.1];show (false || (backTo pos (starEach es env)).any (·.1))=false;rw [ih h.2];rfl
theorem wP (h:es.all aY=true):(backTo pos (starEach es env)).all (fun x=>!x.1)=true:=by
 induction es with
 | nil=>rfl
 | cons e es ih =>
  rw [List.all_cons,zC] at h;rw [ao h.1];show (true && (backTo pos (starEach es env)).all (fun x=>!x.1))=true;rw [ih h.2];rfl
theorem IG (h:es.all aY=true) (hl:es.length < 30):((backTo cpos (starEach es env)).all (fun x=>!x.1) && (backToKw cpos (keywordEach [] env)).all (fun x=>x.1.isSome) && decide (es.length + ([]:List Keyword).length + (if ([]:List Keyword).isEmpty then 0 else 1) < 30))=true:=by
 rw [wP h];have:decide (es.length + ([]:List Keyword).length + (if ([]:List Keyword).isEmpty then 0 else 1) < 30)=true:=yR (by simpa using hl);rw [this];rfl
theorem fx (w:Sem Value) (h:l7 o=true):attributeBase o f env w=w:=by
 unfold attributeBase;split
 ·simp [l7] at h
 ·rfl
theorem sI (hb:l7 o=true) (hs:es.all aY=true) (hl:es.length < 30) (hline:(apos.endLine == pos.line)=true):eval (.Call (.Attribute o f apos) es [] pos) env=(do
   let ov <- eval o env
   standAt apos.atName
   let (f,first) <- holding [ov] (getMethod ov f (do return (<- importBound o env).getD true))
   callWith pos f first (backTo pos (starEach es env)) (backToKw pos (keywordEach [] env))):=by
 rw [arm_eval_Call,fx _ hb];have hform:methodCallForm (es.length + ([]:List Keyword).length) (backTo pos (starEach es env)) (backToKw pos (keywordEach [] env))=true:=IG hs hl;have hpos:methodCallPos true o env apos pos=pure pos:=by unfold methodCallPos;simp [hline]
 unfold methodCall;rw [hform,hpos];rfl
theorem mv (h:uf e=true) (x:Value):foldedSetIterable e env x=pure x:=by
 cases e <;> first | rfl | cases h
theorem G1 (h:jb i=true):oB i:=fun _ _=>by
 cases i <;> first | rfl | cases h
theorem CB (h:jb i=true) (v:Value):assign (.Subscript o i pos) env v=(do
   let ov <- holding [v] (eval o env)
   let iv <- holding [v,ov] (eval i env)
   standAt pos
   holding [v,ov,iv] (setItem ov iv v)
   release [v,ov,iv] []):=by
 cases i <;> first | rfl | cases h
theorem FA (h:jb i=true) (ov iv new:Value):augStore i ov iv new=(do holding [new,ov,iv] (setItem ov iv new);release [new,ov,iv] [];pure .next):=by
 cases i <;> first | rfl | cases h
theorem rR {l:Nat} (h:k4 e=true):swapsWith e t l env=pure false:=by
 cases e <;> first | rfl | cases h
theorem wM {l:Nat}:swapsWith e (some (.Attribute o f p)) l env=pure false:=by
 cases e <;> rfl
noncomputable def HY (nm:List (Str × NameKind)) (t:Str) (tl:Nat) (sc:Scope) (vl:Nat):Bool:=decide (nm.lookup t=some .local) && (tl == vl) && !(sc.names.any fun (n,k)=>n == t && (k == .local || k == .cell))
theorem CA {l:Nat} (hk:env.scope.kind=.function) :
  swapsWith (.ListComp elt gens sc pos) (some (.Name t p)) l env=pure (HY env.scope.names t p.line sc pos.line):=by
 have hb:env.blockKind=.function:=by unfold Env.blockKind;rw [hk];rfl
 show (pure (env.blockKind == .function && env.kindOf t == some .local && p.line == pos.line && !(sc.names.any fun (n,k)=>n == t && (k == .local || k == .cell))):Sem Bool)=_;rw [hb];have:(env.kindOf t == some NameKind.local)=decide (env.scope.names.lookup t=some .local):=by
  show (env.scope.names.lookup t == some NameKind.local)=_;cases h:env.scope.names.lookup t with
  | none=>rfl
  | some k=>cases k <;> rfl
 rw [this];rfl
theorem wO:swappedStores [.Subscript a b p] e env=pure none:=by cases e <;> rfl
theorem wN {k:Nat} (h:xH e=true):swappedStores [.Tuple ts k p] e env=pure none:=by cases e <;> first | rfl | cases h
theorem td (h:aY e=true):(assignEach [e] env).map (·.2)=[assign e env]:=by
 cases e <;> first | rfl | cases h
theorem yh (h:aY e=true):(assignEach (e::es) env).map (·.2)=assign e env::(assignEach es env).map (·.2):=by
 cases e <;> first | rfl | cases h
theorem yi:(assignEach es env).length=es.length:=by
 induction es with
 | nil=>rfl
 | cons e es ih=>cases e <;> (show (assignEach es env).length + 1=es.length + 1;rw [ih])
theorem yj (h:es.all aY=true):(assignEach es env).findIdx? (·.1)=none:=by
 have:∀ p ∈ assignEach es env,p.1=false:=by
  induction es with
  | nil=>intro p hp;cases hp
  | cons e es ih =>
   rw [List.all_cons,zC] at h;have e1:assignEach (e::es) env=(false,assign e env)::assignEach es env:=by
    cases e <;> first | rfl | cases h.1
   rw [e1];intro p hp;rcases zT.mp hp with rfl | hp
   ·rfl
   ·exact ih h.2 p hp
 rw [List.findIdx?_eq_none_iff];intro p hp;rw [this p hp]
theorem AE (h:vB e=true) (whole:Sem Value):isTrue e env whole=(do let v <- whole;standAt e.pos;holding [v] (truthy v)):=by
 cases e with
 | UnaryOp op x p=>cases op <;> first | rfl | cases h
 | BoolOp=>cases h
 | IfExp=>cases h
 | Compare=>cases h
 | _=>rfl
end
noncomputable def FO (a c:Int) (n:Nat):It:=⟨fun i _=>i < n,fun i H x H'=>H'=H/\x=.int (a + (i:Int) * c),fun i _=>n <= i⟩
theorem Co {P:Program}{w:World}{K:Frag}{tg:Expr} (it:Addr) (a c:Int) (n:Nat):iX P w K tg (FO a c n) [it] it (fun i h=>IsRangeIter h it (a + (i:Nat) * c) ((n:Int) - (i:Nat)) c) where
 mem:=by simp
 obj:=fun i h st b hb=>by
  obtain rfl:b=it:=by simpa using hb
  exact ⟨_,st,fun v z=>nomatch (show Data.fields _=Data.cell v from z)⟩
 keep:=fun i h h' st k=>k it (by simp) _ st
 item:=by
  intro X hP hw hK hc i L5 s σ H E I hf st hg;subst hP hw hK;obtain ⟨f0,f1,f2,f3,f4,f5⟩:=hf it (by simp);refine (Walks.range (prog:=X.prog) (w:=X.w) (I.ok.hd hc) it a c n).item i s _ _ hg st fun v h' tk hv st' kk=>?_
  obtain ⟨t,rfl⟩:=hv;have I1:Inv X L5 σ H { s with heap:=h',toks:=tk }:=I.turned (fun b o hb e=>kk b o (by simpa using hb) e) f0 f1 f3 f4 f5;exact ⟨_,rfl,ld (s:={ s with heap:=h',toks:=tk }) (n:="range_iterator") st' rfl rfl dC ⟨.int (a + (i:Int) * c),H,I1,⟨t,rfl⟩,⟨rfl,rfl⟩,st',fun b hb=>(hf b hb).1⟩⟩
 done:=by
  intro X hP hw hK hc i L5 s σ H E I hf st hg;subst hP hw hK;obtain ⟨f0,f1,f2,f3,f4,f5⟩:=hf it (by simp);exact wpAny_pyNext_range_end (I.ok.hd hc) st (by have:n <= i:=hg;omega) fun h' eb=>⟨rfl,I.turned (t':=s.toks) (fun b o hb e=>eb b o hb e) f0 f1 f3 f4 f5⟩
 self:=fun _ _ _ _ _ st h=>wpAny_pyIter_rangeiter st h
noncomputable def mB (a b c:Int):Bool:=decide (0 < c) && Nat.ble c.natAbs 1000000 && Builtin.Range.small a b c
noncomputable def dY (a b c:Int):Nat:=(Builtin.Range.rangeSize a b c).toNat
def nX (a b c:Int):List AV:=(List.range (dY a b c)).map fun (i:Nat)=>.int (a + (i:Int) * c)
theorem rV {a b c:Int} (hc:0 < c):0 <= Builtin.Range.rangeSize a b c:=by
 unfold Builtin.Range.rangeSize;rw [yG (show c > 0 from hc)];split
 ·have:=Int.ediv_nonneg (a:=b - a - 1) (b:=c) oM oM;omega
 ·exact Int.le_refl _
section
variable {X:Cx}{tg:Expr}{mg:Gm}{P:Pr}{φ:List Addr}{H:Hp}{a b c:Expr}{f g h:EF}{p pos:Pos}
def KB (ta:TA):TI:=fun σ H R=>ta σ H fun vs H1=>∃ i j k:Int,vs=[.int i,.int j,.int k]/\mB i j k=true/\R (FO i k (dY i j k)) H1
theorem Jw {ta:TA} (hg:Gl X "range") (hm:X.mg "range"=none) (ha:PA X [a,b,c] ta) (hs:starEach [a,b,c] X.env=[(false,eval a X.env),(false,eval b X.env),(false,eval c X.env)])
  (hs2:starEach [b,c] X.env=[(false,eval b X.env),(false,eval c X.env)]):PI X tg (.Call (.Name "range" p) [a,b,c] [] pos) (KB ta):=by
 intro L5 s σ H R I h;refine Call_ (cN I hg hm boot_range (PyProof.Rows.callWith_type1 (aB (ha pos L5 s σ H _ I h) fun us s1 hq0=>?_) (by rw [hs,hs2]) (by rw [hs2];rfl)));obtain ⟨vs,H1,I1,r1,i,j,k,e,hb,q⟩:=hq0;subst e;unfold mB at hb;simp only [zC,yA] at hb;obtain ⟨⟨h1,h2⟩,h3⟩:=hb;have h2:=zS h2;obtain ⟨u1,us1,rfl,ru1,r2⟩:∃ u us',us=u::us'/\RelV (.int i) u/\Vals [.int j,.int k] us':=by cases r1 with | cons r rr=>exact ⟨_,_,rfl,r,rr⟩
 obtain ⟨u2,us2,rfl,ru2,r3⟩:∃ u us',us1=u::us'/\RelV (.int j) u/\Vals [.int k] us':=by cases r2 with | cons r rr=>exact ⟨_,_,rfl,r,rr⟩
 obtain ⟨u3,us3,rfl,ru3,r4⟩:∃ u us',us2=u::us'/\RelV (.int k) u/\Vals [] us':=by cases r3 with | cons r rr=>exact ⟨_,_,rfl,r,rr⟩
 cases r4;obtain ⟨t1,rfl⟩:=ru1;obtain ⟨t2,rfl⟩:=ru2;obtain ⟨t3,rfl⟩:=ru3;refine call_range_3 oM ?_ (Or.inl (PyProof.noPylong_small oM));refine wpAny_pyIter_range (IsRange.new ..) h3 ?_;have I2:Inv X L5 σ H1 { s1 with heap:=s1.heap.push { cls:=.type "range",data:=.fields #[.int i t1,.int j t2,.int k t3] },toks:=s1.toks }:=I1.kept fun b o e=>zG _ e
 refine ⟨(s1.heap.push { cls:=.type "range",data:=.fields #[.int i t1,.int j t2,.int k t3] }).objs.size,[(s1.heap.push { cls:=.type "range",data:=.fields #[.int i t1,.int j t2,.int k t3] }).objs.size],_,_,H1,rfl,I2.kept (t':=s1.toks) fun b o e=>zG _ e,Co _ i k (dY i j k),?_,fun b hb=>?_,q⟩
 ·have e1:i + ((0:Nat):Int) * k=i:=by simp
  have e2:((dY i j k:Nat):Int) - ((0:Nat):Int)=Builtin.Range.rangeSize i j k:=by have:=rV (a:=i) (b:=j) h1;unfold dY;omega
  show IsRangeIter _ _ (i + ((0:Nat):Int) * k) (((dY i j k:Nat):Int) - ((0:Nat):Int)) k;rw [e1,e2];exact zY _ rfl
 ·obtain rfl:b=(s1.heap.push { cls:=.type "range",data:=.fields #[.int i t1,.int j t2,.int k t3] }).objs.size:=by simpa using hb
  exact I2.fpOk (zP _) (I2.Mb.fresh (zP _))
theorem G2 [L7] {i k:Int}{j:Int}:rq mg (FO i k (dY i j k)) ⟨nX i j k,[]⟩ P φ H where
 go:=fun P2 φ2 H2 st2 m y f s g e=>by
  unfold nX at e;rw [zR] at e;obtain ⟨c,e1,e2⟩:=zE.mp e;obtain ⟨h1,h2⟩:=zB.mp e1;rw [List.getElem_range] at h2;subst h2 e2;rw [List.length_range] at h1;refine ⟨h1,fun w H3 hq=>?_⟩;obtain ⟨hH,hw⟩:=hq;subst hH;exact ⟨P2,Frm.refl,s,by simp only [RA];exact hw⟩
 stop:=fun P2 φ2 H2 st2 f s g=>by
  show dY i j k <= (nX i j k).length;simp [nX]
theorem Ii [L7] {σ:St}{Q:List V->Hp->Prop}{sl:Sl}{st:aa} (rs:Mg mg P H φ sl σ) (s:Sim mg P φ st H)
  (hh:∃ v st1 u st2 x st3,f sl st=some (v,st1)/\g sl st1=some (u,st2)/\h sl st2=some (x,st3)/\∀ P1 φ1 H1 w w' w'',Frm P φ H P1 φ1 H1->Sim mg P1 φ1 st3 H1->RA mg P1 H1 φ1 v w->RA mg P1 H1 φ1 u w'->RA mg P1 H1 φ1 x w''->Q [w,w',w''] H1):rA mg (dl f (dl g (dl h dN))) σ H Q:=by
 obtain ⟨v,st1,u,st2,x,st3,e,e',e'',k⟩:=hh;refine ⟨P,φ,sl,st,rs,s,[v,u,x],st3,by simp only [dl,dN,e,e',e'',bind_some],fun P1 φ1 H1 ws f1 s1 r1=>?_⟩;simp only [Ma] at r1;obtain ⟨w,us,rfl,r,w',us',rfl,r',w'',us'',rfl,r'',rfl⟩:=r1;exact k P1 φ1 H1 w w' w'' f1 s1 r r' r''
def EY (f g h:EF):IF:=fun sl st=>(f sl st).bind fun p=>(g sl p.2).bind fun q=>(h sl q.2).bind fun r=>match p.1,q.1,r.1 with
 | .int i,.int j,.int k=>if mB i j k=true then some (⟨nX i j k,[]⟩,r.2) else none
 | _,_,_=>none
theorem Gn [L7] (hg:Gl X "range") (hm:X.mg "range"=none) (ha:QE X a f) (hb:QE X b g) (hc:QE X c h) (hs:starEach [a,b,c] X.env=[(false,eval a X.env),(false,eval b X.env),(false,eval c X.env)]) (hs2:starEach [b,c] X.env=[(false,eval b X.env),(false,eval c X.env)]) (hs3:starEach [c] X.env=[(false,eval c X.env)]) :
  QI X tg (.Call (.Name "range" p) [a,b,c] [] pos) (EY f g h) :=
 gf (Jw hg hm (bR ha (bR hb (bR hc dR (by rw [hs3];rfl)) (by rw [hs2,hs3])) (by rw [hs,hs2])) hs hs2) fun σ H R hq=>by
  obtain ⟨P,φ,sl,st,rs,s,iv,st',ef,k⟩:=hq;obtain ⟨q,e1,e2⟩:=zA ef;obtain ⟨r,e3,e4⟩:=zA e2;obtain ⟨t,e5,e6⟩:=zA e4;refine Ii rs s ⟨q.1,q.2,r.1,r.2,t.1,t.2,e1,e3,e5,fun P1 φ1 H1 w w' w'' f1 s1 r1 r2 r3=>?_⟩;split at e6
  ·rename_i i j m ei ej em
   rw [ei] at r1;rw [ej] at r2;rw [em] at r3;split at e6
   ·rename_i hb
    cases e6;simp only [RA] at r1 r2 r3;subst r1;subst r2;subst r3;exact ⟨i,j,m,rfl,hb,k P1 φ1 H1 _ f1 s1 G2⟩
   ·cases e6
  ·cases e6
end
end R
namespace R
open PySem PySem.Spec PyProof.Rows L2 DD
theorem u4 (a c:Int):∀ (l:List Value) (k:Nat),(∀ (j:Nat) (v:Value),l[j]?=some v->∃ t,v=.int (a + ((k + j:Nat):Int) * c) t)->Vals ((List.range' k l.length).map fun (q:Nat)=>V.int (a + (q:Int) * c)) l
 | [],_,_=>.nil
 | u::l,k,h=>by
  rw [yT,List.range'_succ,zO];refine .cons ?_ (u4 a c l (k + 1) fun j v e=>?_)
  ·obtain ⟨t,e⟩:=h 0 u rfl
   exact ⟨t,e⟩
  ·obtain ⟨t,e2⟩:=h (j + 1) v (by simpa using e)
   exact ⟨t,by rw [e2,show k + (j + 1)=k + 1 + j by omega]⟩
def xQ (i j k:Int):Bool:=mB i j k && Nat.ble (dY i j k) 1000
section
variable {X:Cx}{a b c:Expr}{f g h:EF}{p1 p2 pos pos2:Pos}
def Cv (ta:TA):TE:=fun σ H Q=>ta σ H fun vs H1=>∃ i j k:Int,vs=[.int i,.int j,.int k]/\xQ i j k=true/\∀ p,H1 p=none->Q (.ref p) (af H1 p (.lst ((List.range (dY i j k)).map fun (q:Nat)=>V.int (i + (q:Int) * k))))
theorem xq {ta:TA} (hc:X.calm=true) (hgl:Gl X "list") (hml:X.mg "list"=none) (hgr:Gl X "range") (hmr:X.mg "range"=none) (ha:PA X [a,b,c] ta)
  (hs:starEach [a,b,c] X.env=[(false,eval a X.env),(false,eval b X.env),(false,eval c X.env)]) (hs2:starEach [b,c] X.env=[(false,eval b X.env),(false,eval c X.env)]) :
  PE X (.Call (.Name "list" p1) [.Call (.Name "range" p2) [a,b,c] [] pos2] [] pos) (Cv ta):=by
 intro L5 s σ H Q I h;have hs1:starEach [.Call (.Name "range" p2) [a,b,c] [] pos2] X.env=[(false,eval (.Call (.Name "range" p2) [a,b,c] [] pos2) X.env)]:=rfl;refine Call_ (cN I hgl hml gY (PyProof.Rows.callWith_type1 ?_ (by rw [hs1];rfl) (by rfl)));rw [hs1];refine Calls.spliced_cons (Call_ (cN I hgr hmr boot_range (PyProof.Rows.callWith_type1 (aB (ha pos2 L5 s σ H _ I h) fun us s1 hq0=>?_) (by rw [hs,hs2]) (by rw [hs2];rfl))));obtain ⟨vs,H1,I1,r1,i,j,k,e,hb,q⟩:=hq0;subst e;unfold xQ mB at hb;simp only [zC,yA] at hb;obtain ⟨⟨⟨h1,h2⟩,h3⟩,h4⟩:=hb;have h2:=zS h2;have h4:=zS h4;obtain ⟨u1,us1,rfl,ru1,r2⟩:∃ u us',us=u::us'/\RelV (.int i) u/\Vals [.int j,.int k] us':=by cases r1 with | cons r rr=>exact ⟨_,_,rfl,r,rr⟩
 obtain ⟨u2,us2,rfl,ru2,r3⟩:∃ u us',us1=u::us'/\RelV (.int j) u/\Vals [.int k] us':=by cases r2 with | cons r rr=>exact ⟨_,_,rfl,r,rr⟩
 obtain ⟨u3,us3,rfl,ru3,r4⟩:∃ u us',us2=u::us'/\RelV (.int k) u/\Vals [] us':=by cases r3 with | cons r rr=>exact ⟨_,_,rfl,r,rr⟩
 cases r4;obtain ⟨t1,rfl⟩:=ru1;obtain ⟨t2,rfl⟩:=ru2;obtain ⟨t3,rfl⟩:=ru3;refine call_range_3 oM (Calls.spliced_nil ?_) (Or.inl (PyProof.noPylong_small oM));have I2:Inv X L5 σ H1 { s1 with heap:=s1.heap.push { cls:=.type "range",data:=.fields #[.int i t1,.int j t2,.int k t3] },toks:=s1.toks }:=I1.kept fun b o e=>zG _ e
 refine call_list_range (n:=dY i j k) (I.ok.hd hc) (IsRange.new ..) h3 (by have:=rV (a:=i) (b:=j) h1;unfold dY;omega) oM fun h' tk acc' c' hk hS hacc=>?_
 have hv:=u4 i k acc'.toList 0 (fun i v e=>by
  obtain ⟨t,e2⟩:=hacc.2 i v (by simpa using e);exact ⟨t,by rw [e2,Nat.zero_add]⟩)
 rw [show acc'.toList.length=dY i j k by simpa using hacc.1,<- List.range_eq_range'] at hv;exact ⟨.ref _,_,I2.laid (o:=.lst ((List.range (dY i j k)).map fun (q:Nat)=>V.int (i + (q:Int) * k))) hk (zP _) ⟨yU (jU (by simp;omega)),acc'.toList,c',hv,hS⟩,rfl,q _ I2.fresh⟩
def xI (f g h:EF):NF:=fun sl st=>(f sl st).bind fun p=>(g sl p.2).bind fun q=>(h sl q.2).bind fun r=>match p.1,q.1,r.1 with
 | .int i,.int j,.int k=>if xQ i j k=true then some (nX i j k,r.2) else none
 | _,_,_=>none
theorem Ar {mg:Gm}{P:Pr}{H:Hp}{φ:List Addr} (i k:Int):∀ l:List Nat,Ma mg P H φ (l.map fun (q:Nat)=>AV.int (i + (q:Int) * k)) (l.map fun (q:Nat)=>V.int (i + (q:Int) * k))
 | []=>br
 | x::l=>aW (by simp only [RA]) (Ar i k l)
theorem CZ [L7] (hc:X.calm=true) (hgl:Gl X "list") (hml:X.mg "list"=none) (hgr:Gl X "range") (hmr:X.mg "range"=none) (ha:QE X a f) (hb:QE X b g) (hh:QE X c h)
  (hs:starEach [a,b,c] X.env=[(false,eval a X.env),(false,eval b X.env),(false,eval c X.env)]) (hs2:starEach [b,c] X.env=[(false,eval b X.env),(false,eval c X.env)]) (hs3:starEach [c] X.env=[(false,eval c X.env)]):QN X (.Call (.Name "list" p1) [.Call (.Name "range" p2) [a,b,c] [] pos2] [] pos) (xI f g h) :=
 PE_imp (xq hc hgl hml hgr hmr (bR ha (bR hb (bR hh dR (by rw [hs3];rfl)) (by rw [hs2,hs3])) (by rw [hs,hs2])) hs hs2) fun σ H Q hq0=>by
  obtain ⟨P,φ,sl,st,rs,s,xs,st',ef,k⟩:=hq0;obtain ⟨q,e1,e2⟩:=zA ef;obtain ⟨r,e3,e4⟩:=zA e2;obtain ⟨t,e5,e6⟩:=zA e4;refine Ii rs s ⟨q.1,q.2,r.1,r.2,t.1,t.2,e1,e3,e5,fun P1 φ1 H1 w w' w'' f1 s1 r1 r2 r3=>?_⟩;split at e6
  ·rename_i i j m ei ej em
   rw [ei] at r1;rw [ej] at r2;rw [em] at r3;split at e6
   ·rename_i hb
    cases e6;simp only [RA] at r1 r2 r3;subst r1;subst r2;subst r3;exact ⟨i,j,m,rfl,hb,fun p hp=>k P1 φ1 H1 p _ f1 s1 hp (Ar i m _)⟩
   ·cases e6
  ·cases e6
end
end R
namespace R
open PySem PySem.Spec PyProof.Rows L2
set_option genInjectivity false
set_option genSizeOf false
set_option genSizeOfSpec false
inductive Bi where
 | len | sum | any | abs | min | max
inductive Mi where
 | app | ext | cnt | bl
mutual
inductive Ex where
 | n | b (x:Bool) | i (x:Int) | s (x:Str) | v (k:Nat) | g (x:Str) (c:AV) | bin (o:Operator) (a b:Ex) | cmp (o:CmpOp) (a b:Ex) | un (o:UnaryOp) (a:Ex) | no (a:Ex) | an (a b:Ex) | or (a b:Ex) | ife (t:Tx) (a b:Ex) | ix (a b:Ex) | tu (es:Exs) | nw (m:Bool) (x:Nx) | ca (p:Bool) (j:Nat) (es:Exs) | me (c m:Str) (j:Nat) (o:Ex) (es:Exs) | ne (c:Str) (j:Nat) (es:Exs) | fd (c f:Str) (o:Ex) | bi (b:Bi) (es:Exs) | mt (m:Mi) (o:Ex) (es:Exs) | dn | mnd (a:Ex) | mnk (a key:Ex)
inductive Tx where
 | va (e:Ex) | cmp (o:CmpOp) (a b:Ex) | no (t:Tx) | an (t u:Tx) | or (t u:Tx)
inductive Exs where
 | nil | cons (e:Ex) (es:Exs)
inductive Nx where
 | li (es:Exs) | cat (a b:Ex) | rep (es:Exs) (b:Ex) | sl (a:Ex) (l h:Ox) | lof (a:Ex) | lc (k:Nat) (it:Ix) (t:Tg) (c:Cx') (e:Ex) | lr1 (a:Ex) | lr2 (a b:Ex) | lr3 (a b c:Ex)
inductive Ox where
 | no | so (e:Ex)
inductive Cx' where
 | no | so (t:Tx)
inductive Ix where
 | e (a:Ex) | r1 (a:Ex) | r2 (a b:Ex) | zi (a b:Ex) | en (a:Ex) | es (a b:Ex) | r3 (a b c:Ex)
inductive Tg where
 | nm (k:Nat) | tu (n:Nat) (ts:Tgs) | su (a b:Ex)
inductive Tgs where
 | nil | cons (t:Tg) (ts:Tgs)
end
mutual
inductive Sx where
 | ex (e:Ex) | as (e:Ex) (t:Tg) | au (k:Nat) (o:Operator) (e:Ex) | aus (o:Operator) (a b e:Ex) | fl (c f:Str) (o e:Ex) | rt (e:Ex) | iff (t:Tx) (a b:Mc) | fo (it:Ix) (t:Tg) (b:Mc) | wh (t:Tx) (b:Mc) | dead | fd (a:Ex) (t:Tg) (b:Mc)
inductive Mc where
 | nil | cons (s:Sx) (ss:Mc) | dead
end
def nE:Bi->BF
 | .len=>b9 eE
 | .sum=>b9 pP
 | .any=>b9 rg
 | .abs=>b9 jC
 | .min=>b9 uk
 | .max=>b9 um
def oJ:Mi->MF
 | .app=>ma
 | .ext=>uu
 | .cnt=>xP
 | .bl=>Et
noncomputable def oK:Mi->String
 | .bl=>"int"
 | _=>"list"
def kf (ks:List Fn) (j:Nat):Fn:=ks.getD j fun _ _=>none
def vA (p:Bool) (fn:Fn):Fn:=if p=true then pm fn else fn
section
variable (ks:List Fn)
mutual
noncomputable def ev:Ex->EF
 | .n=>aC .non
 | .b x=>aC (.bl x)
 | .i x=>aC (.int x)
 | .s x=>aC (.str x)
 | .v k=>aV k
 | .g _ c=>aC c
 | .bin o a b=>a2 (ev a) (ev b) (jV (dL o))
 | .cmp o a b=>a2 (ev a) (ev b) (jV (mn o))
 | .un o a=>a1 (ev a) (CF (lx o))
 | .no a=>IK (ev a)
 | .an a b=>Aq (ev a) (ev b)
 | .or a b=>Ao (ev a) (ev b)
 | .ife t a b=>IL (tv t) (ev a) (ev b)
 | .ix a b=>a2 (ev a) (ev b) (jV cE)
 | .tu es=>IJ (aE es)
 | .nw m x=>Ap m (hZ x)
 | .ca p j es=>ww (vA p (kf ks j)) (aE es)
 | .me c m j o es=>wv c m (kf ks j) (ev o) (aE es)
 | .ne c j es=>wu c (kf ks j) (aE es)
 | .fd c f o=>IM c f (ev o)
 | .bi b es=>tF (nE b) (aE es)
 | .mt m o es=>kJ (oK m) (oJ m) (ev o) (aE es)
 | .dn=>IN false
 | .mnd a=>tF (b9 mN) (dl (ev a) dN)
 | .mnk a key=>pG (ev a) (ev key)
noncomputable def tv:Tx->TF
 | .va e=>tV (ev e)
 | .cmp o a b=>Cz (ev a) (ev b) o
 | .no a=>HV (tv a)
 | .an a b=>HX (tv a) (tv b)
 | .or a b=>Ct (tv a) (tv b)
noncomputable def aE:Exs->AF
 | .nil=>dN
 | .cons e es=>dl (ev e) (aE es)
noncomputable def hZ:Nx->NF
 | .li es=>Ip (aE es)
 | .cat a b=>uj (ev a) (ev b)
 | .rep es b=>ug (aE es) (ev b)
 | .sl a l h=>qg (ev a) (m8 l) (m8 h)
 | .lof a=>l8 (ev a)
 | .lc k it t c e=>zr k (eL it) (bQ t) (eM c) (ev e)
 | .lr1 a=>ui (ev a)
 | .lr2 a b=>uh (ev a) (ev b)
 | .lr3 a b c=>xI (ev a) (ev b) (ev c)
noncomputable def m8:Ox->OF
 | .no=>Io
 | .so e=>qc (ev e)
noncomputable def eM:Cx'->TF
 | .no=>HS
 | .so e=>tv e
noncomputable def eL:Ix->IF
 | .e a=>iE (ev a)
 | .r1 a=>Ae (ev a)
 | .r2 a b=>Ad (ev a) (ev b)
 | .zi a b=>iZ (ev a) (ev b)
 | .en a=>IB (ev a)
 | .es a b=>uD (ev a) (ev b)
 | .r3 a b c=>EY (ev a) (ev b) (ev c)
noncomputable def bQ:Tg->GF
 | .nm k=>v8 k
 | .tu n ts=>v7 n (iS ts)
 | .su a b=>IC (ev a) (ev b)
noncomputable def iS:Tgs->rC
 | .nil=>E3
 | .cons t ts=>E5 (bQ t) (iS ts)
end
mutual
noncomputable def cG:Sx->SF
 | .ex e=>Ih (ev ks e)
 | .as e t=>vm (ev ks e) (bQ ks t)
 | .au k o e=>zf k o (ev ks e)
 | .aus o a b e=>tZ o (ev ks a) (ev ks b) (ev ks e)
 | .fl c f o e=>vk c f (ev ks o) (ev ks e)
 | .rt e=>Ib (ev ks e)
 | .iff t a b=>Ie (tv ks t) (ai a) (ai b)
 | .fo it t b=>Ig (eL ks it) (bQ ks t) (ai b)
 | .wh t b=>pT (tv ks t) (ai b)
 | .dead=>ze
 | .fd a t b=>tY (ev ks a) (bQ ks t) (ai b)
noncomputable def ai:Mc->SF
 | .nil=>Ic
 | .cons s ss=>Ia (cG s) (ai ss)
 | .dead=>ze
end
end
inductive Ke where
 | f (x:Str) (n:Nat) | m (c m:Str) (n:Nat) | k (c:Str) (n:Nat)
structure SC where
 N:List Str
 nm:List (Str × NameKind)
 cf:List Str
 ke:List Ke
 gs:List (Str × AV)
 cl:List (Str × List Str)
 la:List Pos
noncomputable def kd (C:SC) (x:Str):Option NameKind:=C.nm.lookup x
def wH (C:SC) (x:Str):Bool:=match kd C x with
 | some .local=>true
 | some .cell=>true
 | some .free=>true
 | _=>false
def qt (C:SC) (x:Str):Bool:=match kd C x with
 | some .local=>true
 | some .cell=>C.cf.contains x
 | _=>false
def d8 (C:SC) (x:Str):Bool:=(match kd C x with
 | some .globalImplicit=>true
 | _=>false) && !(x == ("__debug__":Str))
noncomputable def sE (C:SC) (k:Nat) (x:Str):Bool:=(match C.N[k]? with
 | some y=>y == x
 | none=>false) && !(x == ("__debug__":Str)) && !(x == ("__classdict__":Str))
def E1 (C:SC) (x:Str) (c:AV):Bool:=C.gs.any fun p=>p.1 == x && cK p.2 c && (mw c).isSome
noncomputable def Am (C:SC) (c f:Str):Bool:=C.cl.any fun p=>p.1 == c && p.2.contains f
noncomputable def qx (C:SC) (j:Nat) (x:Str) (n:Nat):Bool:=match C.ke[j]? with
 | some (.f y m)=>y == x && m == n
 | _=>false
noncomputable def Iy (C:SC) (j:Nat) (c m:Str) (n:Nat):Bool:=match C.ke[j]? with
 | some (.m c' m' k)=>c' == c && m' == m && k == n
 | _=>false
noncomputable def Iz (C:SC) (j:Nat) (c:Str) (n:Nat):Bool:=match C.ke[j]? with
 | some (.k c' k)=>c' == c && k == n
 | _=>false
noncomputable def bnames:List Str:=["len","sum","all","any","abs","min","max","int","tuple","range","zip","enumerate","list","isinstance","bool","str","sorted"]
noncomputable def Bi.nm:Bi->Str
 | .len=>"len"
 | .sum=>"sum"
 | .any=>"any"
 | .abs=>"abs"
 | .min=>"min"
 | .max=>"max"
noncomputable def Mi.nm:Mi->Str
 | .app=>"append"
 | .ext=>"extend"
 | .cnt=>"count"
 | .bl=>"bit_length"
noncomputable def DG (sc:Scope):List Str:=(sc.names.filter fun p=>(match p.2 with | .local=>true | .cell=>true | _=>false) && !(p.1 == (".0":Str))).map (·.1)
noncomputable def v1 (sc:Scope) (x:Str):Bool:=match sc.names.lookup x with
 | some .free=>true
 | _=>false
def dZ (C:SC) (sc:Scope):List Str:=(C.N.map fun x=>if v1 sc x=true then x else x++("!":Str))++DG sc
noncomputable def ID:NameKind->Bool
 | .free=>true
 | _=>false
noncomputable def An:Option NameKind->Bool
 | some .cell=>true
 | _=>false
def blk (C:SC) (sc:Scope):SC:={ C with N:=dZ C sc,nm:=sc.names.map fun p=>if (ID p.2 && An (kd C p.1))=true then (p.1,.cell) else (p.1,p.2),cf:=(sc.names.filter fun p=>An (some p.2)).map (·.1),la:=[] }
def qX (C:SC) (sc:Scope):Bool :=
 (match sc.kind with | .function=>true | _=>false) && decide (sc.names.map (·.1)).Nodup && decide (dZ C sc).Nodup &&
 (sc.names.all fun p=>match p.2 with | .free=>(match kd C p.1 with | some .cell=>true | some .free=>true | _=>false) | _=>true) &&
 ((List.range C.N.length).all fun i=>match (dZ C sc)[i]? with
  | some x=>(match sc.names.lookup x with
   | some .free=>decide (C.N[i]?=some x)
   | some _=>false
   | none=>true)
  | none=>false)
mutual
noncomputable def nW (n:Nat):Tg->Bool
 | .nm k=>Nat.ble n k
 | .tu _ ts=>pr n ts
 | .su _ _=>false
noncomputable def pr (n:Nat):Tgs->Bool
 | .nil=>true
 | .cons t ts=>nW n t && pr n ts
end
def EH (C:SC) (sc:Scope):SC:={ C with N:=dZ C sc,nm:=sc.names,cf:=[],ke:=[],la:=[] }
noncomputable def Ky (C:SC) (p:Pos):Bool:=C.la.any fun q=>q.line == p.line && q.col == p.col && q.endLine == p.endLine && q.endCol == p.endCol
def xY (C:SC) (sc:Scope) (ps:Arguments):Bool:=qX C sc && !sc.isCoroutine && !sc.isGenerator && plainA ps && ps.defaults.isEmpty && ps.kw_defaults.isEmpty &&
 (match DG sc,ps.args.map (·.arg) with
  | [x],[y]=>x == y && (match sc.names.lookup x with | some .local=>true | _=>false)
  | _,_=>false) && sc.names.all fun p=>!(An (some p.2))
noncomputable def kY:Ex->Bool
 | .v _=>true
 | .i _=>true
 | .ix a b=>kY a && kY b
 | .fd _ _ o=>kY o
 | _=>false
theorem aP {P:Prop} (h:false=true):P:=nomatch h
theorem bI {a b:Bool}{P:Prop} (h:(a && b)=true) (H:a=true->b=true->P):P:=by cases a;exact aP h;exact H rfl h
section
variable {e:Expr}{s:Stmt}
noncomputable def mI (e:Expr) (k:Str->Bool):Bool:=match e with | .Name x _=>k x | _=>false
@[elab_as_elim] theorem gx {k:Str->Bool}{P:Expr->Prop} (h:mI e k=true) (H:∀ x p,k x=true->P (.Name x p)):P e:=by cases e with | Name x p=>exact H x p h | _=>exact aP h
noncomputable def p8 (e:Expr) (k:Const->Bool):Bool:=match e with | .Constant c _ _=>k c | _=>false
@[elab_as_elim] theorem ja {k:Const->Bool}{P:Expr->Prop} (h:p8 e k=true) (H:∀ c a p,k c=true->P (.Constant c a p)):P e:=by cases e with | Constant c a p=>exact H c a p h | _=>exact aP h
noncomputable def kN (c:Const):Bool:=match c with | .none=>true | _=>false
noncomputable def kB (x:Bool) (c:Const):Bool:=match c with | .bool y=>x == y | _=>false
noncomputable def kI (x:Int) (c:Const):Bool:=match c with | .int y=>x == y | _=>false
noncomputable def kS (x:Str) (c:Const):Bool:=match c with | .str y=>x == y | _=>false
theorem uA {c:Const} (h:kN c=true):c=.none:=by cases c with | none=>rfl | _=>exact aP h
theorem G0 {x:Bool}{c:Const} (h:kB x c=true):c=.bool x:=by cases c with | bool y=>rw [yI h] | _=>exact aP h
theorem GZ {x:Int}{c:Const} (h:kI x c=true):c=.int x:=by cases c with | int y=>rw [yI h] | _=>exact aP h
theorem GY {x:Str}{c:Const} (h:kS x c=true):c=.str x:=by cases c with | str y=>rw [yI h] | _=>exact aP h
noncomputable def zo (e:Expr) (k:Expr->Operator->Expr->Bool):Bool:=match e with | .BinOp a o b _=>k a o b | _=>false
@[elab_as_elim] theorem p9 {k:Expr->Operator->Expr->Bool}{P:Expr->Prop} (h:zo e k=true) (H:∀ a o b p,k a o b=true->P (.BinOp a o b p)):P e:=by cases e with | BinOp a o b p=>exact H a o b p h | _=>exact aP h
noncomputable def du {α:Type} (l:List α) (k:α->Bool):Bool:=match l with | []=>false | a::r=>r.isEmpty && k a
@[elab_as_elim] theorem bS {α:Type}{l:List α}{k:α->Bool}{P:List α->Prop} (h:du l k=true) (H:∀ a,k a=true->P ([a])):P l:=by
 rcases l with _ | ⟨a,_ | ⟨b,r⟩⟩
 ·exact aP h
 ·exact H a h
 ·exact aP h
def n8 {α:Type} (l:List α) (k:α->α->Bool):Bool:=match l with | []=>false | a::r=>du r (k a)
@[elab_as_elim] theorem i9 {α:Type}{l:List α}{k:α->α->Bool}{P:List α->Prop} (h:n8 l k=true) (H:∀ a b,k a b=true->P ([a,b])):P l:=by
 cases l with
 | nil=>exact aP h
 | cons a r=>exact bS h fun b h=>H a b h
def DQ (e:Expr) (k:Expr->CmpOp->Expr->Bool):Bool:=match e with | .Compare a os bs _=>du os fun o=>du bs fun b=>k a o b | _=>false
@[elab_as_elim] theorem vK {k:Expr->CmpOp->Expr->Bool}{P:Expr->Prop} (h:DQ e k=true) (H:∀ a o b p,k a o b=true->P (.Compare a [o] [b] p)):P e:=by
 cases e with
 | Compare a os bs p=>refine bS h fun o h=>?_;refine bS h fun b h=>?_;exact H a o b p h
 | _=>exact aP h
def xA {α:Type} (l:List α) (k:α->α->α->Bool):Bool:=match l with | []=>false | a::r=>n8 r (k a)
@[elab_as_elim] theorem sr {α:Type}{l:List α}{k:α->α->α->Bool}{P:List α->Prop} (h:xA l k=true) (H:∀ a b c,k a b c=true->P [a,b,c]):P l:=by
 cases l with
 | nil=>exact aP h
 | cons a r=>exact i9 h fun b c h=>H a b c h
noncomputable def zn (e:Expr) (k:UnaryOp->Expr->Bool):Bool:=match e with | .UnaryOp o a _=>k o a | _=>false
@[elab_as_elim] theorem p5 {k:UnaryOp->Expr->Bool}{P:Expr->Prop} (h:zn e k=true) (H:∀ o a p,k o a=true->P (.UnaryOp o a p)):P e:=by cases e with | UnaryOp o a p=>exact H o a p h | _=>exact aP h
noncomputable def sk (o:BoolOp) (e:Expr) (k:Expr->Expr->Bool):Bool:=match e with | .BoolOp o' es p=>decide (o=o') && (match es with | x::y::r=>k x (if r.isEmpty=true then y else .BoolOp o (y::r) p) | _=>false) | _=>false
noncomputable def sj (e:Expr) (k:List Expr->Bool):Bool:=match e with | .Tuple es _ _=>k es | _=>false
@[elab_as_elim] theorem jZ {k:List Expr->Bool}{P:Expr->Prop} (h:sj e k=true) (H:∀ es a p,k es=true->P (.Tuple es a p)):P e:=by cases e with | Tuple es a p=>exact H es a p h | _=>exact aP h
noncomputable def xz (e:Expr) (k:List Expr->Bool):Bool:=match e with | .List es _=>k es | _=>false
@[elab_as_elim] theorem sn {k:List Expr->Bool}{P:Expr->Prop} (h:xz e k=true) (H:∀ es p,k es=true->P (.List es p)):P e:=by cases e with | List es p=>exact H es p h | _=>exact aP h
noncomputable def vJ (e:Expr) (k:Expr->Expr->Bool):Bool:=match e with | .Subscript a b _=>k a b | _=>false
@[elab_as_elim] theorem mG {k:Expr->Expr->Bool}{P:Expr->Prop} (h:vJ e k=true) (H:∀ a b p,k a b=true->P (.Subscript a b p)):P e:=by cases e with | Subscript a b p=>exact H a b p h | _=>exact aP h
noncomputable def Ik (e:Expr) (k:Option Expr->Option Expr->Option Expr->Bool):Bool:=match e with | .Slice a b c _=>k a b c | _=>false
@[elab_as_elim] theorem DN {k:Option Expr->Option Expr->Option Expr->Bool}{P:Expr->Prop} (h:Ik e k=true) (H:∀ a b c p,k a b c=true->P (.Slice a b c p)):P e:=by cases e with | Slice a b c p=>exact H a b c p h | _=>exact aP h
noncomputable def sy (e:Expr) (k:Expr->List Expr->List Keyword->Pos->Bool):Bool:=match e with | .Call f es ks p=>k f es ks p | _=>false
@[elab_as_elim] theorem j1 {k:Expr->List Expr->List Keyword->Pos->Bool}{P:Expr->Prop} (h:sy e k=true) (H:∀ f es ks p,k f es ks p=true->P (.Call f es ks p)):P e:=by cases e with | Call f es ks p=>exact H f es ks p h | _=>exact aP h
noncomputable def zp (e:Expr) (k:Expr->Str->Pos->Bool):Bool:=match e with | .Attribute o f p=>k o f p | _=>false
@[elab_as_elim] theorem qa {k:Expr->Str->Pos->Bool}{P:Expr->Prop} (h:zp e k=true) (H:∀ o f p,k o f p=true->P (.Attribute o f p)):P e:=by cases e with | Attribute o f p=>exact H o f p h | _=>exact aP h
def gM (e:Expr) (k:Str->List Expr->Bool):Bool:=sy e fun f es ks _=>mI f fun x=>ks.isEmpty && k x es
@[elab_as_elim] theorem cW {k:Str->List Expr->Bool}{P:Expr->Prop} (h:gM e k=true) (H:∀ x p es q,k x es=true->P (.Call (.Name x p) es [] q)):P e:=by
 refine j1 h fun f es ks q h=>?_
 refine gx h fun x p h=>?_
 cases ks with
 | nil=>exact H x p es q h
 | cons _ _=>exact aP h
def xD (e:Expr) (k:Expr->Str->Pos->List Expr->Pos->Bool):Bool:=sy e fun f es ks p=>zp f fun o m ap=>ks.isEmpty && k o m ap es p
@[elab_as_elim] theorem sB {k:Expr->Str->Pos->List Expr->Pos->Bool}{P:Expr->Prop} (h:xD e k=true) (H:∀ o m ap es p,k o m ap es p=true->P (.Call (.Attribute o m ap) es [] p)):P e:=by
 refine j1 h fun f es ks q h=>?_
 refine qa h fun o m p h=>?_
 cases ks with
 | nil=>exact H o m p es q h
 | cons _ _=>exact aP h
def DM (e:Expr) (k:Expr->Option Expr->Option Expr->Bool):Bool:=vJ e fun a b=>Ik b fun l h c=>c.isNone && k a l h
@[elab_as_elim] theorem Bx {k:Expr->Option Expr->Option Expr->Bool}{P:Expr->Prop} (h:DM e k=true) (H:∀ a l r p q,k a l r=true->P (.Subscript a (.Slice l r none p) q)):P e:=by
 refine mG h fun a b q h=>?_
 refine DN h fun l r c p h=>?_
 cases c with
 | none=>exact H a l r p q h
 | some _=>exact aP h
noncomputable def p7 (w:Keyword) (k:Str->Expr->Bool):Bool:=match w with | ⟨some y,v,_⟩=>k y v | ⟨none,_,_⟩=>false
@[elab_as_elim] theorem kZ {w:Keyword}{k:Str->Expr->Bool}{P:Keyword->Prop} (h:p7 w k=true) (H:∀ y v p,k y v=true->P (⟨some y,v,p⟩)):P w:=by
 obtain ⟨o,v,p⟩:=w;cases o with
 | some y=>exact H y v p h
 | none=>exact aP h
noncomputable def DS (e:Expr) (k:Expr->Expr->Expr->Bool):Bool:=match e with | .IfExp a b c _=>k a b c | _=>false
@[elab_as_elim] theorem BA {k:Expr->Expr->Expr->Bool}{P:Expr->Prop} (h:DS e k=true) (H:∀ a b c p,k a b c=true->P (.IfExp a b c p)):P e:=by cases e with | IfExp a b c p=>exact H a b c p h | _=>exact aP h
noncomputable def ER (e:Expr):Bool:=match e with | .Dict a b _=>a.isEmpty && b.isEmpty | _=>false
theorem BV (h:ER e=true):∃ p,e=.Dict [] [] p:=by
 cases e with
 | Dict a b p =>
  cases a with
  | nil=>cases b with
   | nil=>exact ⟨p,rfl⟩
   | cons _ _=>exact aP h
  | cons _ _=>exact aP h
 | _=>exact aP h
noncomputable def DR (e:Expr) (k:Arguments->Expr->Scope->Pos->Bool):Bool:=match e with | .Lambda a b s p=>k a b s p | _=>false
@[elab_as_elim] theorem Bz {k:Arguments->Expr->Scope->Pos->Bool}{P:Expr->Prop} (h:DR e k=true) (H:∀ a b s p,k a b s p=true->P (.Lambda a b s p)):P e:=by cases e with | Lambda a b s p=>exact H a b s p h | _=>exact aP h
def Im (e:Expr) (k:Expr->Expr->Expr->List Expr->Scope->Bool):Bool:=match e with | .ListComp a gs sc _=>du gs (fun g=>decide (g.is_async=0) && k a g.target g.iter g.ifs sc) | _=>false
@[elab_as_elim] theorem DU {k:Expr->Expr->Expr->List Expr->Scope->Bool}{P:Expr->Prop} (h:Im e k=true) (H:∀ a t it cs sc p,k a t it cs sc=true->P (.ListComp a [⟨t,it,cs,0⟩] sc p)):P e:=by
 cases e with
 | ListComp a gs sc p =>
  refine bS h fun g h=>?_
  obtain ⟨t,it,cs,i⟩:=g;refine bI h fun h1 h=>?_
  cases of_decide_eq_true h1;exact H a t it cs sc p h
 | _=>exact aP h
theorem fH {a b c:Bool}{P:Prop} (h:(a && b && c)=true) (H:a=true->b=true->c=true->P):P:=bI h fun x y=>bI x fun h0 h1=>H h0 h1 y
theorem fy {a b c d:Bool}{P:Prop} (h:(a && b && c && d)=true) (H:a=true->b=true->c=true->d=true->P):P:=bI h fun x y=>fH x fun h0 h1 h2=>H h0 h1 h2 y
theorem iJ {a b c d e:Bool}{P:Prop} (h:(a && b && c && d && e)=true) (H:a=true->b=true->c=true->d=true->e=true->P):P:=bI h fun x y=>fy x fun h0 h1 h2 h3=>H h0 h1 h2 h3 y
end
mutual
noncomputable def aZ:Ex->SC->Expr->Bool
 | .n,_,e=>p8 e kN
 | .b x,_,e=>p8 e (kB x)
 | .i x,_,e=>p8 e (kI x)
 | .s x,_,e=>p8 e (kS x)
 | .v k,C,e=>mI e fun x=>sE C k x && wH C x
 | .g x c,C,e=>mI e fun y=>x == y && d8 C x && E1 C x c
 | .bin o a b,C,e=>zo e fun a' o' b'=>decide (o=o') && aZ a C a' && aZ b C b'
 | .cmp o a b,C,e=>DQ e fun a' o' b'=>decide (o=o') && aZ a C a' && aZ b C b' && k7 o b'
 | .un o a,C,e=>zn e fun o' a'=>decide (o=o') && aZ a C a'
 | .no a,C,e=>zn e fun o' a'=>decide (UnaryOp.Not=o') && aZ a C a'
 | .an a b,C,e=>sk .And e fun x y=>aZ a C x && aZ b C y
 | .or a b,C,e=>sk .Or e fun x y=>aZ a C x && aZ b C y
 | .ife t a b,C,e=>DS e fun t' a' b'=>j2 t C t' && aZ a C a' && aZ b C b'
 | .ix a b,C,e=>vJ e fun a' b'=>aZ a C a' && aZ b C b' && jb b'
 | .tu es,C,e=>sj e fun es'=>jK es C es'
 | .nw _ x,C,e=>zw x C e
 | .ca _ j es,C,e=>gM e fun x es'=>qx C j x es'.length && d8 C x && jK es C es' && es'.all aY
 | .me c m j o es,C,e=>xD e fun o' m' ap es' p=>m == m' && Iy C j c m (es'.length + 1) && aZ o C o' && jK es C es' && (es'.all aY && Nat.blt es'.length 30 && l7 o' && (ap.endLine == p.line))
 | .ne c j es,C,e=>gM e fun x es'=>c == x && Iz C j c (es'.length + 1) && d8 C c && jK es C es' && (es'.all aY && !es'.isEmpty)
 | .fd c f o,C,e=>zp e fun o' f' _=>f == f' && Am C c f && aZ o C o' && l7 o'
 | .bi b es,C,e=>gM e fun x es'=>x == b.nm && d8 C x && jK es C es' && es'.all aY && !es'.isEmpty
 | .mt m o es,C,e=>xD e fun o' m' ap es' p=>m.nm == m' && aZ o C o' && jK es C es' && (es'.all aY && Nat.blt es'.length 30 && l7 o' && (ap.endLine == p.line))
 | .dn,_,e=>ER e
 | .mnd a,C,e=>sy e fun f es ks _=>mI f fun x=>du es fun a'=>du ks fun w=>p7 w fun y d=>p8 d fun c=>kN c && (x == ("min":Str) && y == ("default":Str) && d8 C x && aZ a C a' && aY a')
 | .mnk a key,C,e=>sy e fun f es ks _=>mI f fun x=>du es fun a'=>n8 ks fun w u=>p7 w fun y l=>p7 u fun z d=>DR l fun ps body sc lp=>p8 d fun c=>kN c && (x == ("min":Str) && y == ("key":Str) && z == ("default":Str) && d8 C x && aZ a C a') && (aY a' && Ky C lp && xY C sc ps && kY key && aZ key (EH C sc) body)
noncomputable def j2:Tx->SC->Expr->Bool
 | .va a,C,e=>vB e && aZ a C e
 | .cmp o a b,C,e=>DQ e fun a' o' b'=>decide (o=o') && aZ a C a' && aZ b C b' && k7 o b'
 | .no a,C,e=>zn e fun o' a'=>decide (UnaryOp.Not=o') && j2 a C a'
 | .an a b,C,e=>sk .And e fun x y=>j2 a C x && j2 b C y
 | .or a b,C,e=>sk .Or e fun x y=>j2 a C x && j2 b C y
noncomputable def jK:Exs->SC->List Expr->Bool
 | .nil,_,es=>es.isEmpty
 | .cons a as,C,es=>match es with
  | e::es=>aY e && aZ a C e && jK as C es
  | _=>false
noncomputable def zw:Nx->SC->Expr->Bool
 | .li es,C,e=>xz e fun es'=>jK es C es'
 | .cat a b,C,e=>zo e fun a' o' b'=>decide (Operator.Add=o') && aZ a C a' && aZ b C b'
 | .rep es b,C,e=>zo e fun a' o' b'=>decide (Operator.Mult=o') && xz a' fun es'=>jK es C es' && aZ b C b'
 | .sl a l h,C,e=>DM e fun a' l' h'=>aZ a C a' && zu l C l' && zu h C h'
 | .lof a,C,e=>gM e fun x es=>du es fun a'=>x == ("list":Str) && d8 C x && aZ a C a' && aY a'
 | .lc k it t c a,C,e=>Im e fun a' t' it' cs sc=>Eh it C t' it' && uf it' && qX C sc && (k == (dZ C sc).length - C.N.length) && (nW C.N.length t && sH t (blk C sc) t' && Ir c (blk C sc) cs && aZ a (blk C sc) a')
 | .lr1 a,C,e=>gM e fun x es=>du es fun d=>gM d fun y es=>du es fun a'=>(x == ("list":Str) && y == ("range":Str)) && d8 C x && d8 C y && aZ a C a' && aY a'
 | .lr2 a b,C,e=>gM e fun x es=>du es fun d=>gM d fun y es=>n8 es fun a' b'=>(x == ("list":Str) && y == ("range":Str)) && (d8 C x && d8 C y) && aZ a C a' && aZ b C b' && (aY a' && aY b')
 | .lr3 a b c,C,e=>gM e fun x es=>du es fun d=>gM d fun y es=>xA es fun a' b' c'=>(x == ("list":Str) && y == ("range":Str)) && (d8 C x && d8 C y) && (aZ a C a' && aZ b C b' && aZ c C c') && (aY a' && aY b' && aY c')
noncomputable def zu:Ox->SC->Option Expr->Bool
 | .no,_,e=>e.isNone
 | .so a,C,e=>match e with
  | some e=>aZ a C e
  | none=>false
noncomputable def Ir:Cx'->SC->List Expr->Bool
 | .no,_,e=>e.isEmpty
 | .so t,C,e=>du e fun e=>j2 t C e
noncomputable def Eh:Ix->SC->Expr->Expr->Bool
 | .e a,C,_,e=>aZ a C e
 | .r1 a,C,_,e=>gM e fun x es=>du es fun a'=>x == ("range":Str) && d8 C x && aZ a C a' && aY a'
 | .r2 a b,C,_,e=>gM e fun x es=>n8 es fun a' b'=>x == ("range":Str) && d8 C x && aZ a C a' && aZ b C b' && (aY a' && aY b')
 | .zi a b,C,t,e=>sj t fun _=>gM e fun x es=>n8 es fun a' b'=>x == ("zip":Str) && d8 C x && aZ a C a' && aZ b C b' && (aY a' && aY b')
 | .en a,C,t,e=>sj t fun _=>gM e fun x es=>du es fun a'=>x == ("enumerate":Str) && d8 C x && aZ a C a' && aY a'
 | .es a b,C,t,e=>sj t fun _=>sy e fun f es ks _=>mI f fun x=>du es fun a'=>du ks fun w=>p7 w fun y b'=>(x == ("enumerate":Str) && y == ("start":Str)) && d8 C x && aZ a C a' && aZ b C b' && aY a'
 | .r3 a b c,C,_,e=>gM e fun x es=>xA es fun a' b' c'=>x == ("range":Str) && d8 C x && (aZ a C a' && aZ b C b' && aZ c C c') && (aY a' && aY b' && aY c')
noncomputable def sH:Tg->SC->Expr->Bool
 | .nm k,C,e=>mI e fun x=>sE C k x && qt C x
 | .tu n ts,C,e=>sj e fun es=>(es.length == n) && es.all aY && xJ ts C es
 | .su a b,C,e=>vJ e fun a' b'=>aZ a C a' && aZ b C b' && jb b'
noncomputable def xJ:Tgs->SC->List Expr->Bool
 | .nil,_,es=>es.isEmpty
 | .cons t ts,C,es=>match es with
  | e::es=>aY e && sH t C e && xJ ts C es
  | _=>false
end
theorem p6 {o:BoolOp}{e:Expr}{k:Expr->Expr->Bool}{Q:Prop} (h:sk o e k=true) (H1:∀ x y p,e=.BoolOp o [x,y] p->k x y=true->Q) (H2:∀ x y z r p,e=.BoolOp o (x::y::z::r) p->k x (.BoolOp o (y::z::r) p)=true->Q):Q:=by
 cases e with
 | BoolOp o' es p =>
  refine bI h fun h1 h2=>?_
  clear h;cases of_decide_eq_true h1;rcases es with _ | ⟨x,_ | ⟨y,_ | ⟨z,r⟩⟩⟩
  ·exact aP h2
  ·exact aP h2
  ·exact H1 x y p rfl h2
  ·exact H2 x y z r p rfl h2
 | _=>exact aP h
@[elab_as_elim] theorem mH {o:BoolOp}{e:Expr}{k:Expr->Expr->Bool}{P:Expr->Prop} (h:sk o e k=true) (H1:∀ x y p,k x y=true->P (.BoolOp o [x,y] p)) (H2:∀ x y z r p,k x (.BoolOp o (y::z::r) p)=true->P (.BoolOp o (x::y::z::r) p)):P e :=
 p6 h (fun x y p e h=>e ▸ H1 x y p h) fun x y z r p e h=>e ▸ H2 x y z r p h
section
variable {s:Stmt}
def xE (s:Stmt) (k:Expr->Expr->Bool):Bool:=match s with | .Assign ts e _=>du ts fun t=>k t e | _=>false
@[elab_as_elim] theorem sC {k:Expr->Expr->Bool}{P:Stmt->Prop} (h:xE s k=true) (H:∀ t e p,k t e=true->P (.Assign [t] e p)):P s:=by
 cases s with
 | Assign ts e p=>exact bS h fun t h=>H t e p h
 | _=>exact aP h
noncomputable def xC (s:Stmt) (k:Expr->Operator->Expr->Bool):Bool:=match s with | .AugAssign t o e _=>k t o e | _=>false
@[elab_as_elim] theorem sA {k:Expr->Operator->Expr->Bool}{P:Stmt->Prop} (h:xC s k=true) (H:∀ t o e p,k t o e=true->P (.AugAssign t o e p)):P s:=by cases s with | AugAssign t o e p=>exact H t o e p h | _=>exact aP h
noncomputable def xB (s:Stmt) (k:Expr->Expr->List Stmt->Bool):Bool:=match s with | .For t it b r _=>r.isEmpty && k t it b | _=>false
@[elab_as_elim] theorem sx {k:Expr->Expr->List Stmt->Bool}{P:Stmt->Prop} (h:xB s k=true) (H:∀ t it b p,k t it b=true->P (.For t it b [] p)):P s:=by
 cases s with
 | For t it b r p=>cases r with
  | nil=>exact H t it b p h
  | cons _ _=>exact aP h
 | _=>exact aP h
noncomputable def DL (s:Stmt) (k:Expr->List Stmt->Bool):Bool:=match s with | .While t b r _=>r.isEmpty && k t b | _=>false
@[elab_as_elim] theorem Bw {k:Expr->List Stmt->Bool}{P:Stmt->Prop} (h:DL s k=true) (H:∀ t b p,k t b=true->P (.While t b [] p)):P s:=by
 cases s with
 | While t b r p=>cases r with
  | nil=>exact H t b p h
  | cons _ _=>exact aP h
 | _=>exact aP h
noncomputable def Il (s:Stmt) (k:Expr->List Stmt->List Stmt->Bool):Bool:=match s with | .If t a b _=>k t a b | _=>false
@[elab_as_elim] theorem DT {k:Expr->List Stmt->List Stmt->Bool}{P:Stmt->Prop} (h:Il s k=true) (H:∀ t a b p,k t a b=true->P (.If t a b p)):P s:=by cases s with | If t a b p=>exact H t a b p h | _=>exact aP h
noncomputable def DV (s:Stmt) (k:Expr->Bool):Bool:=match s with | .Expr e _=>k e | _=>false
@[elab_as_elim] theorem BB {k:Expr->Bool}{P:Stmt->Prop} (h:DV s k=true) (H:∀ e p,k e=true->P (.Expr e p)):P s:=by cases s with | Expr e p=>exact H e p h | _=>exact aP h
noncomputable def DO (s:Stmt) (k:Option Expr->Bool):Bool:=match s with | .Return e _=>k e | _=>false
@[elab_as_elim] theorem By {k:Option Expr->Bool}{P:Stmt->Prop} (h:DO s k=true) (H:∀ e p,k e=true->P (.Return e p)):P s:=by cases s with | Return e p=>exact H e p h | _=>exact aP h
end
noncomputable def ya (e:Expr):Bool:=match e with | .ListComp _ _ _ _=>true | _=>false
@[elab_as_elim] theorem BU {e:Expr}{P:Expr->Prop} (h:ya e=true) (H:∀ a g s p,P (.ListComp a g s p)):P e:=by cases e with | ListComp a g s p=>exact H a g s p | _=>exact aP h
def II (t e:Expr):Bool:=match t with | .Name _ _=>k4 e || ya e | .Subscript _ _ _=>true | .Tuple _ _ _=>xH e && k4 e | _=>false
@[elab_as_elim] theorem FC {t e:Expr}{P:Expr->Prop} (h:II t e=true) (H1:(k4 e || ya e)=true->∀ x p,P (.Name x p)) (H2:∀ a b p,P (.Subscript a b p)) (H3:(xH e && k4 e)=true->∀ es k p,P (.Tuple es k p)):P t:=by
 cases t with
 | Name x p=>exact H1 h x p
 | Subscript a b p=>exact H2 a b p
 | Tuple es k p=>exact H3 h es k p
 | _=>exact aP h
@[elab_as_elim] theorem Kx {a:Ex}{C:SC}{elt:Expr}{g:List Comprehension}{sc:Scope}{p:Pos}{P:Ex->Prop} (h:aZ a C (.ListComp elt g sc p)=true) (H:∀ m k it t c b,zw (.lc k it t c b) C (.ListComp elt g sc p)=true->P (.nw m (.lc k it t c b))):P a:=by
 cases a with
 | nw m n=>cases n with
  | lc k it t c b=>exact H m k it t c b h
  | _=>exact aP h
 | _=>exact aP h
mutual
noncomputable def Iq:Sx->SC->Stmt->Bool
 | .ex a,C,s=>DV s fun e=>aZ a C e && k4 e
 | .as a t,C,s=>xE s fun t' e=>aZ a C e && sH t C t' && II t' e
 | .au k o a,C,s=>xC s fun t o' e=>mI t fun x=>decide (o=o') && sE C k x && qt C x && aZ a C e
 | .aus o a b c,C,s=>xC s fun t o' e=>vJ t fun a' b'=>decide (o=o') && aZ a C a' && aZ b C b' && aZ c C e && jb b'
 | .fl c f o a,C,s=>xE s fun t e=>zp t fun o' f' _=>f == f' && Am C c f && aZ o C o' && aZ a C e
 | .rt a,C,s=>DO s fun e=>zu (.so a) C e
 | .iff t a b,C,s=>Il s fun e x y=>j2 t C e && j3 a C x && j3 b C y
 | .fo it t b,C,s=>xB s fun t' it' x=>Eh it C t' it' && uf it' && sH t C t' && j3 b C x
 | .wh t b,C,s=>DL s fun e x=>j2 t C e && j3 b C x
 | .dead,_,_=>true
 | .fd a t b,C,s=>xB s fun t' it' x=>aZ a C it' && uf it' && sH t C t' && j3 b C x
noncomputable def j3:Mc->SC->List Stmt->Bool
 | .nil,_,s=>s.isEmpty
 | .cons a as,C,s=>match s with
  | s::ss=>Iq a C s && j3 as C ss
  | _=>false
 | .dead,_,_=>true
end
def FN [L7] (P:Program) (w:World) (K:Frag) (mg:Str->Option Value) (base:Heap) (A:Around) (fn:Fn):Ke->Prop
 | .f x n=>∃ d f fd ps,ps.length=n/\FnOk P w K mg base er d f fd ps (dq ⟨K,mg⟩ ps.length fn)/\Room d A/\mg x=some (.ref f)/\keepIn K (.ref f)=true/\Binds K fd ps []
 | .m c m n=>∃ d f fd ps C,ps.length=n/\FnOk P w K mg base er d f fd ps (dq ⟨K,mg⟩ ps.length fn)/\Room d A/\mg c=some (.ref C)/\Cls K C/\jD K C m f/\Binds K fd ps []
 | .k c n=>∃ d f fd ps C,ps.length=n/\FnOk P w K mg base er d f fd ps (dq ⟨K,mg⟩ ps.length fn)/\Room (d + 1) A/\mg c=some (.ref C)/\Mk K C f/\Binds K fd ps []
structure Fit [L7] (X:Cx) (C:SC) (ks:List Fn):Prop where
 N:X.N=C.N
 nm:X.env.scope.names=C.nm
 nd:C.N.Nodup
 kind:X.env.scope.kind=.function
 calm:X.calm=true
 cf:∀ x ∈ C.cf,X.fn x=true
 hu:X.A.units + 64 < cLine
 bl:∀ x ∈ bnames,X.mg x=none
 po:PassesOwn (model X.prog X.w) X.A X.env X.xe
 ke:∀ (j:Nat) k,C.ke[j]?=some k->FN X.prog X.w X.K X.mg X.base X.A (kf ks j) k
 gs:∀ p ∈ C.gs,∀ w,mw p.2=some w->∃ u,X.mg p.1=some u/\RelV w u
 cl:∀ p ∈ C.cl,∃ Ca,X.mg p.1=some (.ref Ca)/\Cls X.K Ca/\∀ f ∈ p.2,NoAttr X.K Ca f
 la:∀ p ∈ C.la,Room 2 X.A/\∃ c P,X.env.code=.ref c/\CodeHd X.base c P/\iq X.mg X.base/\(P,p,X.env.qual++"<lambda>") ∈ L7.tb/\∀ t ∈ L7.tb,t.1=P->t=(P,p,X.env.qual++"<lambda>")
section
variable {X:Cx}{C:SC}{ks:List Fn}
theorem Fit.kdO [L7] (F:Fit X C ks) (x:Str):X.env.kindOf x=kd C x:=by unfold kd;rw [<- F.nm];rfl
theorem Fit.vis [L7] (F:Fit X C ks) (h:wH C x=true):tG X.env.scope x:=by
 unfold wH kd at h;rw [<- F.nm] at h;unfold tG;split at h
 ·rename_i e;exact .inl e
 ·rename_i e;exact .inr (.inl e)
 ·rename_i e;exact .inr (.inr e)
 ·cases h
theorem Fit.loc [L7] (F:Fit X C ks) (h:qt C x=true):L2.Loc X.env.scope x/\(X.fn x=true\/X.env.scope.names.lookup x=some .local):=by
 unfold qt kd at h;rw [<- F.nm] at h;unfold L2.Loc;split at h
 ·rename_i e;exact ⟨.inl e,.inr e⟩
 ·rename_i e;exact ⟨.inr e,.inl (F.cf x (by simpa using h))⟩
 ·cases h
theorem Fit.gl [L7] (F:Fit X C ks) (h:d8 C x=true):Gl X x/\(x == ("__debug__":Str))=false:=by
 unfold d8 at h;obtain ⟨h1,h2⟩:=Bool.and_eq_true_iff.mp h;refine ⟨?_,by simpa using h2⟩;unfold Gl;rw [F.kdO];split at h1
 ·rename_i e;exact e
 ·cases h1
theorem Fit.nmb [L7] (F:Fit X C ks) {k:Nat} (h:sE C k x=true):X.N[k]?=some x/\(x == ("__debug__":Str))=false/\(x == ("__classdict__":Str))=false:=by
 unfold sE at h;obtain ⟨h12,h3⟩:=Bool.and_eq_true_iff.mp h;obtain ⟨h1,h2⟩:=Bool.and_eq_true_iff.mp h12;refine ⟨?_,by simpa using h2,by simpa using h3⟩;rw [F.N];split at h1
 ·rename_i y e;rw [e,yI h1]
 ·cases h1
theorem Fit.gc [L7] (F:Fit X C ks) (h:E1 C x c=true):∃ w u,mw c=some w/\X.mg x=some u/\RelV w u:=by
 unfold E1 at h;obtain ⟨p,hp,e⟩:=List.any_eq_true.mp h;simp only [zC] at e;obtain ⟨⟨e1,e2⟩,e3⟩:=e;obtain ⟨w,hw⟩:=Option.isSome_iff_exists.mp e3;have e4:=tz e2;obtain ⟨u,h1,h2⟩:=F.gs p hp w (by rw [e4];exact hw);exact ⟨w,u,hw,by rw [<- yI e1];exact h1,h2⟩
theorem Fit.clb [L7] (F:Fit X C ks) (h:Am C c f=true):∃ Ca,X.mg c=some (.ref Ca)/\Cls X.K Ca/\NoAttr X.K Ca f:=by
 unfold Am at h;obtain ⟨p,hp,e⟩:=List.any_eq_true.mp h;simp only [zC] at e;obtain ⟨Ca,h1,h2,h3⟩:=F.cl p hp;exact ⟨Ca,by rw [<- yI e.1];exact h1,h2,h3 f (by simpa using e.2)⟩
theorem Fit.blt [L7] (F:Fit X C ks) (h:x ∈ bnames):X.mg x=none:=F.bl x h
theorem Fc (b:NameKind):ID b=(b == NameKind.free):=by cases b <;> rfl
theorem Ft (o:Option NameKind):An o=(o == some NameKind.cell):=by
 cases o with
 | none=>rfl
 | some k=>cases k <;> rfl
theorem Fit.blk [L7] (F:Fit X C ks) (h:qX C sc=true):jJ X (dZ C sc) sc/\∀ cl s H fp L5,Fit (cz X (dZ C sc) sc cl s H fp L5) (R.blk C sc) ks:=by
 unfold qX at h;simp only [zC,yA] at h;obtain ⟨⟨⟨⟨h1,h2⟩,h3⟩,h4⟩,h5⟩:=h;have hk:sc.kind=.function:=by
  split at h1
  ·rename_i e;exact e
  ·cases h1
 have hlen:C.N.length <= (dZ C sc).length:=by unfold dZ;rw [zV,zH];omega
 have free:∀ x,(x,NameKind.free) ∈ sc.names->X.env.kindOf x=some .cell\/X.env.kindOf x=some .free:=fun x hx=>by
  have:=yN.mp h4 _ hx
  simp only at this;rw [F.kdO];split at this
  ·rename_i e;exact .inl e
  ·rename_i e;exact .inr e
  ·cases this
 have at5:∀ i x,i < X.N.length->(dZ C sc)[i]?=some x->(∀ k,(x,k) ∈ sc.names->k=.free/\X.N[i]?=some x):=fun i x hi e k hm=>by
  rw [F.N] at hi ⊢
  have:=yN.mp h5 i (List.mem_range.mpr hi)
  rw [e] at this;simp only at this;have hl:=cQ h2 hm;rw [hl] at this;cases k <;> simp only at this <;> first | (cases this;done) | exact ⟨rfl,of_decide_eq_true this⟩
 refine ⟨⟨hk,h2,by rw [F.N];exact hlen,free,fun i x hi e hm=>(at5 i x hi e _ hm).2,fun i x hi e hq0=>by obtain ⟨k,hm⟩:=hq0;have:=(at5 i x hi e k hm).1;subst this;exact hm⟩,fun cl s H fp L5=>?_⟩;refine ⟨rfl,?_,h3,hk,F.calm,fun x hx=>?_,F.hu,F.bl,PassesOwn.never,F.ke,F.gs,F.cl,fun p hp=>absurd (show p ∈ ([]:List Pos) from hp) (by simp)⟩
 ·show (relabel sc X.env).names=_
  unfold relabel R.blk;dsimp only;rw [F.kind];apply List.map_congr_left;intro p _;obtain ⟨a,b⟩:=p;simp only [F.kdO,Fc,Ft];simp
 ·unfold R.blk at hx
  obtain ⟨p,hp,e⟩:=yB.mp hx;obtain ⟨hp1,hp2⟩:=List.mem_filter.mp hp;obtain ⟨a,b⟩:=p;dsimp only at e hp2;subst e;have:b=.cell:=by cases b <;> first | rfl | cases hp2
  subst this;show (sc.names.lookup a == some NameKind.cell)=true;rw [cQ h2 hp1];rfl
end
section
variable {X:Cx}{C:SC}{ks:List Fn}
theorem Fit.lam [L7] (F:Fit X C ks) (rm:Room 2 X.A) (h:xY C sc ps=true):∃ x,uY X (dZ C sc) sc x/\plainA ps=true/\ps.args.map (·.arg)=[x]/\defaultsOf ps X.env=([],[]) /\
  ∀ cl f q cd s H,Fit (qP X (dZ C sc) sc cl f q cd X.A.in1 s H) (EH C sc) ks:=by
 unfold xY at h;simp only [zC] at h;obtain ⟨⟨⟨⟨⟨⟨⟨h1,h2⟩,h3⟩,h4⟩,h5⟩,h6⟩,h7⟩,h8⟩:=h;obtain ⟨cy,_⟩:=F.blk h1;split at h7
 ·rename_i x y ex ey
  simp only [zC] at h7;have exy:=yI h7.1;subst exy;have hl:sc.names.lookup x=some .local:=by
   have:=h7.2
   split at this
   ·rename_i e;exact e
   ·cases this
  have hN:dZ C sc=(C.N.map fun x=>if v1 sc x=true then x else x++("!":Str))++[x]:=by unfold dZ;rw [ex]
  refine ⟨x,⟨cy,by simpa using h2,by simpa using h3,by rw [hN,F.N];simp,by rw [hN,F.N];simp,hl,fun y hy e=>?_⟩,h4,ey,?_,fun cl f q cd s H=>?_⟩
  ·have:=yN.mp h8 y hy
   rw [e] at this;cases this
  ·obtain ⟨a1,a2,a3,a4,a5,a6,a7⟩:=ps
   have e5:a7=[]:=List.isEmpty_iff.mp h5;have e6:a5=[]:=List.isEmpty_iff.mp h6;subst e5;subst e6;rfl
  ·have hnd:(dZ C sc).Nodup:=by
    unfold qX at h1;simp only [zC,yA] at h1;exact h1.1.1.2
   have hkd:sc.kind=.function:=cy.kind;have r1:Room 1 X.A.in1:=rm.in1;have r0:=Room.deeper r1 (newEnv sc s.heap.objs.size mainGlobals cl (q++".<locals>.") (some f) cd none builtinsNs);refine ⟨rfl,rfl,hnd,hkd,rfl,fun x hx=>absurd (show x ∈ ([]:List Str) from hx) (by simp),r0.units,F.bl,PassesOwn.never,fun j k e=>absurd (show ([]:List Ke)[j]?=some k from e) (by simp),F.gs,F.cl,fun p hp=>absurd (show p ∈ ([]:List Pos) from hp) (by simp)⟩
 ·cases h7
end
mutual
theorem nV {n:Nat}:∀ {t:Tg},nW n t=true->pJ n (bQ ks t)
 | .nm k,h=>by
  simp only [nW] at h;have hk:=zS h;simp only [bQ];intro x sl st sl' st' e;cases e;exact ⟨List.length_set,fun j hj=>List.getElem?_set_ne oM⟩
 | .tu m ts,h=>by
  simp only [nW] at h;simp only [bQ];intro x sl st sl' st' e;unfold v7 at e;split at e
  ·split at e
   ·exact lV h _ _ _ _ _ e
   ·cases e
  ·split at e
   ·split at e
    ·exact lV h _ _ _ _ _ e
    ·cases e
   ·cases e
 | .su _ _,h=>by simp only [nW] at h;cases h
theorem lV {n:Nat}:∀ {ts:Tgs},pr n ts=true->∀ xs sl st sl' st',iS ks ts xs sl st=some (sl',st')->sl'.length=sl.length/\∀ j,j < n->sl'[j]?=sl[j]?
 | .nil,_,xs,sl,st,sl',st',e=>by
  simp only [iS] at e;cases xs with
  | nil=>cases e;exact ⟨rfl,fun _ _=>rfl⟩
  | cons _ _=>cases e
 | .cons t ts,h,xs,sl,st,sl',st',e=>by
  simp only [pr,zC] at h;simp only [iS] at e;cases xs with
  | nil=>cases e
  | cons x xs =>
   obtain ⟨p,e1,e2⟩:=zA e;obtain ⟨a1,a2⟩:=nV h.1 _ _ _ _ _ e1;obtain ⟨b1,b2⟩:=lV h.2 _ _ _ _ _ e2;exact ⟨b1.trans a1,fun j hj=>(b2 j hj).trans (a2 j hj)⟩
end
theorem fZ:∀ (as:Exs) {es:List Expr},jK as C es=true->∀ sl st xs st',aE ks as sl st=some (xs,st')->xs.length=es.length
 | .nil,es,h,sl,st,xs,st',e=>by
  cases e;cases es with
  | nil=>rfl
  | cons _ _=>exact aP h
 | .cons a as,es,h,sl,st,xs,st',e=>by
  cases es with
  | nil=>exact aP h
  | cons x es =>
   obtain ⟨p,e1,e2⟩:=zA e;obtain ⟨q,e3,e4⟩:=zA e2;cases e4;rw [yT,yT,fZ as (bI h fun _ x=>x) _ _ _ _ e3]
theorem HD:bootBuiltins "len"=some (.builtin "len"):=by decide +kernel
theorem Hz:bootBuiltins "sum"=some (.builtin "sum"):=by decide +kernel
theorem HE:bootBuiltins "any"=some (.builtin "any"):=by decide +kernel
theorem HF:bootBuiltins "abs"=some (.builtin "abs"):=by decide +kernel
theorem HB:bootBuiltins "min"=some (.builtin "min"):=by decide +kernel
theorem HC:bootBuiltins "max"=some (.builtin "max"):=by decide +kernel
section
variable {X:Cx}{C:SC}{ks:List Fn}
theorem Hy [L7] (F:Fit X C ks) (b:Bi) {e:Expr}{es:List Expr}{g:AF}{p pos:Pos} (hg:d8 C b.nm=true) (ha:QA X (e::es) g) (hs:(e::es).all aY=true):QE X (.Call (.Name b.nm p) (e::es) [] pos) (tF (nE b) g):=by
 have gl:=F.gl hg;rw [List.all_cons,zC] at hs;have he:=ao (env:=X.env) (es:=es) hs.1;have hpl:=g8 (env:=X.env) (pos:=pos) hs.2;cases b with
 | len=>exact kW Hv gl.1 (F.blt dC) HD ha dC gl.2 he hpl
 | sum=>exact kW (Hs F.calm) gl.1 (F.blt dC) Hz ha dC gl.2 he hpl
 | any=>exact kW (Hw F.calm) gl.1 (F.blt dC) HE ha dC gl.2 he hpl
 | abs=>exact kW Hx gl.1 (F.blt dC) HF ha dC gl.2 he hpl
 | min=>exact kW (Ht F.calm) gl.1 (F.blt dC) HB ha dC gl.2 he hpl
 | max=>exact kW (Hu F.calm) gl.1 (F.blt dC) HC ha dC gl.2 he hpl
theorem GO [L7] (F:Fit X C ks) (m:Mi) {o:Expr}{es:List Expr}{f:EF}{g:AF}{ap p:Pos} (ho:QE X o f) (ha:QA X es g) (h0:es=[]->g=dN) (hs:es.all aY=true) (hl:es.length < 30) (hb:l7 o=true) (hline:(ap.endLine == p.line)=true) :
  QE X (.Call (.Attribute o m.nm ap) es [] p) (kJ (oK m) (oJ m) f g):=by
 cases es with
 | nil =>
  have:=h0 rfl
  subst this;have hbase:=fx (env:=X.env) (f:=m.nm) (eval o X.env) hb;cases m with
  | app=>exact mE PySem.F.plainAttrs_list PySem.F.slot_list_append PySem.F.type_list_append zz ho hbase hline
  | ext=>exact mE PySem.F.plainAttrs_list PySem.F.slot_list_extend PySem.F.type_list_extend zx ho hbase hline
  | cnt=>exact mE PySem.F.plainAttrs_list PySem.F.slot_list_count PySem.F.type_list_count (zy F.hu) ho hbase hline
  | bl=>exact mE PySem.F.plainAttrs_int PySem.F.slot_int_bit_length PySem.F.type_int_bit_length Es ho hbase hline
 | cons e es =>
  have hbase:=fx (env:=X.env) (f:=m.nm) (eval o X.env) hb;have hfew:=IG (env:=X.env) (cpos:=p) hs hl;rw [List.all_cons,zC] at hs;have he:=ao (env:=X.env) (es:=es) hs.1;have hpl:=g8 (env:=X.env) (pos:=p) hs.2;cases m with
  | app=>exact px PySem.F.plainAttrs_list PySem.F.slot_list_append PySem.F.type_list_append zz ho ha hbase hfew hline he hpl
  | ext=>exact px PySem.F.plainAttrs_list PySem.F.slot_list_extend PySem.F.type_list_extend zx ho ha hbase hfew hline he hpl
  | cnt=>exact px PySem.F.plainAttrs_list PySem.F.slot_list_count PySem.F.type_list_count (zy F.hu) ho ha hbase hfew hline he hpl
  | bl=>exact px PySem.F.plainAttrs_int PySem.F.slot_int_bit_length PySem.F.type_int_bit_length Es ho ha hbase hfew hline he hpl
theorem Dq [L7] {P:Program}{w:World}{K:Frag}{mg:Str->Option Value}{base:Heap}{k:Nat}{f:Addr}{fd:FuncData}{ps:List Str}{n:Nat}{fn:Fn} (b:Bool) (F:FnOk P w K mg base er k f fd ps (dq ⟨K,mg⟩ n fn)):FnOk P w K mg base er k f fd ps (dq ⟨K,mg⟩ n (vA b fn)):=by
 cases b
 ·exact F
 ·exact FnOk.pm F
theorem om {as:Exs}{es:List Expr} (h:jK as C es=true) (he:es=[]):aE ks as=dN:=by
 subst he;cases as with
 | nil=>rfl
 | cons a as=>exact aP h
end
theorem ju {ks:List Fn}:∀ {e:Ex},kY e=true->As (ev ks e)
 | .v k,_=>fun sl st v st' e=>by
  have e:aV k sl st=some (v,st'):=e;unfold aV at e;split at e
  ·cases e;rfl
  ·cases e
 | .i k,_=>fun sl st v st' e=>by
  cases e;rfl
 | .ix a b,h=>fun sl st v st' e=>by
  refine bI h fun h1 h2=>?_
  obtain ⟨p,e1,e2⟩:=zA e;obtain ⟨q,e3,e4⟩:=zA e2;obtain ⟨z,e5,e6⟩:=zE.mp e4;cases e6;rw [ju h2 _ _ _ _ e3,ju h1 _ _ _ _ e1]
 | .fd c f o,h=>fun sl st v st' e=>by
  obtain ⟨p,e1,e2⟩:=zA e;obtain ⟨q,e3,e4⟩:=zA e2;obtain ⟨z,e5,e6⟩:=zE.mp e4;cases e6;rw [ju (show kY o=true from h) _ _ _ _ e1]
mutual
theorem ag [L7] {ks:List Fn}:∀ (a:Ex) {X:Cx}{C:SC} (_:Fit X C ks) {e:Expr},aZ a C e=true->QE X e (ev ks a)
 | .n,X,C,F,e,h=>by
  refine ja h fun c a p h=>?_
  rw [uA h];exact pY (w:=.non) rfl Dz fun _ _ _ h=>h
 | .b x,X,C,F,e,h=>by
  refine ja h fun c a p h=>?_
  rw [G0 h];exact pY rfl GH fun _ _ _ h=>h
 | .i x,X,C,F,e,h=>by
  refine ja h fun c a p h=>?_
  rw [GZ h];exact pY rfl DA fun _ _ _ h=>h
 | .s x,X,C,F,e,h=>by
  refine ja h fun c a p h=>?_
  rw [GY h];exact pY rfl Dx fun _ _ _ h=>h
 | .v k,X,C,F,e,h=>by
  refine gx h fun x p h=>?_
  refine bI h fun h0 h=>?_
  obtain ⟨h1,h2,h3⟩:=F.nmb h0;exact C9 h1 (F.vis h) h2 h3
 | .g x c,X,C,F,e,h=>by
  refine gx h fun y p h=>?_
  refine fH h fun h0 h1 h2=>?_
  rw [<- yI h0];obtain ⟨w,u,h1',h2',h3⟩:=F.gc h2;obtain ⟨g1,g2⟩:=F.gl h1;exact pY h1' (Bs g1 h2' h3 g2) fun _ _ _ h=>h
 | .bin o a b,X,C,F,e,h=>by
  refine p9 h fun a' o' b' p h=>?_
  refine fH h fun h0 h1 h2=>?_
  cases of_decide_eq_true h0;exact Df (ag a F h1) (ag b F h2)
 | .cmp o a b,X,C,F,e,h=>by
  refine vK h fun a' o' b' p h=>?_
  refine fy h fun h0 h1 h2 h3=>?_
  cases of_decide_eq_true h0;exact De F.hu (ag a F h1) (ag b F h2) h3
 | .un o a,X,C,F,e,h=>by
  refine p5 h fun o' a' p h=>?_
  refine bI h fun h0 h1=>?_
  cases of_decide_eq_true h0;exact Gr (ag a F h1)
 | .no a,X,C,F,e,h=>by
  refine p5 h fun o' a' p h=>?_
  refine bI h fun h0 h1=>?_
  cases of_decide_eq_true h0;exact Db (ag a F h1)
 | .an a b,X,C,F,e,h=>by
  refine mH h (fun x y p h=>?_) fun x y z r p h=>?_
  ·refine bI h fun h0 h1=>?_
   exact vt (ag a F h0) (vE (ag b F h1))
  ·refine bI h fun h0 h1=>?_
   exact vt (ag a F h0) (ag b F h1)
 | .or a b,X,C,F,e,h=>by
  refine mH h (fun x y p h=>?_) fun x y z r p h=>?_
  ·refine bI h fun h0 h1=>?_
   exact zm (ag a F h0) (vE (ag b F h1))
  ·refine bI h fun h0 h1=>?_
   exact zm (ag a F h0) (ag b F h1)
 | .ife t a b,X,C,F,e,h=>by
  refine BA h fun t' a' b' p h=>?_
  refine fH h fun h0 h1 h2=>?_
  exact Gw (cB t F h0) (ag a F h1) (ag b F h2)
 | .ix a b,X,C,F,e,h=>by
  refine mG h fun a' b' p h=>?_
  refine fH h fun h0 h1 h2=>?_
  exact Gu F.hu (ag a F h0) (ag b F h1) (G1 h2)
 | .tu es,X,C,F,e,h=>by
  refine jZ h fun es' a p h=>?_
  exact Da (fC es F h)
 | .nw m x,X,C,F,e,h=>Gs (Eg x F h)
 | .ca p j es,X,C,F,e,h=>by
  refine cW h fun x p1 es' p2 h=>?_
  refine fy h fun h1 h2 h3 h4=>?_
  unfold qx at h1;split at h1
  ·rename_i y m hk
   refine bI h1 fun h1 h0=>?_
   obtain ⟨d,f,fd,ps,hl,Fn,hr,hm,kp,hb⟩:=F.ke j _ hk;obtain ⟨g1,g2⟩:=F.gl h2;rw [yI h1] at hm;have hn:ps.length=es'.length:=by rw [hl];exact yI h0
   cases es' with
   | nil=>show QE X _ (ww _ (aE ks es));rw [om h3 rfl];exact xa (Dq p Fn) hr g1 hm kp hb hn g2
   | cons e1 es1 =>
    refine bI h4 fun h4 h5=>?_
    exact A8 (Dq p Fn) hr g1 hm kp hb (fC es F h3) (fun sl st xs st' e=>by rw [hn];exact fZ es h3 _ _ _ _ e) g2 (ao h4) (g8 h5)
  ·exact aP h1
 | .me c m j o es,X,C,F,e,h=>by
  refine sB h fun o' m' ap es' p h=>?_
  refine iJ h fun h0 h1 h2 h3 h=>?_
  refine fy h fun h4 h5 h6 h7=>?_
  rw [<- yI h0];unfold Iy at h1;split at h1
  ·rename_i c' m'' k hk
   refine fH h1 fun a1 a2 a3=>?_
   obtain ⟨d,f,fd,ps,Ca,hl,Fn,hr,hC,cl,hm,hb⟩:=F.ke j _ hk;rw [yI a1] at hC;rw [yI a2] at hm;have hn:ps.length=es'.length + 1:=by rw [hl];exact yI a3
   have h5:es'.length < 30:=zJ (Nat.lt_succ_self _) (zS h5);cases es' with
   | nil=>show QE X _ (wv _ _ _ _ (aE ks es));rw [om h3 rfl];exact w6 (ag o F h2) cl hC hm Fn hr hb hn (sI h6 h4 h5 h7)
   | cons e1 es1 =>
    have ht:=sI (env:=X.env) (f:=m) (o:=o') (es:=e1::es1) h6 h4 h5 h7;refine bI h4 fun h4 h8=>?_
    exact A6 (ag o F h2) cl hC hm Fn hr hb (fC es F h3) (fun sl st xs st' e=>by rw [hn,fZ es h3 _ _ _ _ e]) (ao h4) (g8 h8) ht
  ·exact aP h1
 | .ne c j es,X,C,F,e,h=>by
  refine cW h fun x p1 es' p2 h=>?_
  refine iJ h fun h0 h1 h2 h3 h=>?_
  refine bI h fun h4 h5=>?_
  rw [<- yI h0];unfold Iz at h1;split at h1
  ·rename_i c' k hk
   refine bI h1 fun a1 a2=>?_
   obtain ⟨d,f,fd,ps,Ca,hl,Fn,hr,hC,M,hb⟩:=F.ke j _ hk;rw [yI a1] at hC;obtain ⟨g1,g2⟩:=F.gl h2;cases es' with
   | nil=>exact aP h5
   | cons e1 es1 =>
    have hn:ps.length=es1.length + 2:=by rw [hl];exact yI a2
    refine bI h4 fun h4 h6=>?_
    exact Dc M Fn hr g1 hC hb (fC es F h3) (fun sl st xs st' e=>by rw [hn,fZ es h3 _ _ _ _ e];rfl) g2 (ao h4) (g8 h6)
  ·exact aP h1
 | .fd c f o,X,C,F,e,h=>by
  refine qa h fun o' f' p h=>?_
  refine fy h fun h0 h1 h2 h3=>?_
  rw [<- yI h0];obtain ⟨Ca,hC,cl,na⟩:=F.clb h1;exact Dd (ag o F h2) cl hC na (fx _ h3)
 | .bi b es,X,C,F,e,h=>by
  refine cW h fun x p1 es' p2 h=>?_
  refine iJ h fun h0 h1 h2 h3 h4=>?_
  cases es' with
  | nil=>exact aP h4
  | cons e1 es1 =>
   have e0:=yI h0;subst e0;exact Hy F b h1 (fC es F h2) h3
 | .mt m o es,X,C,F,e,h=>by
  refine sB h fun o' m' ap es' p h=>?_
  refine fy h fun h0 h1 h2 h=>?_
  refine fy h fun h3 h4 h5 h6=>?_
  rw [<- yI h0];exact GO F m (ag o F h1) (fC es F h2) (fun e=>om h2 e) h3 (zJ (Nat.lt_succ_self _) (zS h4)) h5 h6
 | .mnd a,X,C,F,e,h=>by
  refine j1 h fun f es kws p h=>?_
  refine gx h fun x p1 h=>?_
  refine bS h fun a' h=>?_
  refine bS h fun w h=>?_
  refine kZ h fun y d p2 h=>?_
  refine ja h fun c c1 c2 h=>?_
  refine bI h fun hc h=>?_
  refine iJ h fun h0 h1 h2 h3 h4=>?_
  have e0:=yI h0;have e1:=yI h1;subst e0;subst e1;rw [uA hc];exact A5 F.calm (F.gl h2).1 (F.blt dC) (ag a F h3) (ao h4)
 | .mnk a key,X,C,F,e,h=>by
  refine j1 h fun f es kws p h=>?_
  refine gx h fun x p1 h=>?_
  refine bS h fun a' h=>?_
  refine i9 h fun w u h=>?_
  refine kZ h fun y l p2 h=>?_
  refine kZ h fun z d p3 h=>?_
  refine Bz h fun ps body sc lp h=>?_
  refine ja h fun c c1 c2 h=>?_
  refine fH h fun hc h h'=>?_
  refine iJ h fun h0 h1 h2 h3 h4=>?_
  refine iJ h' fun h5 h6 h7 h8 h9=>?_
  have e0:=yI h0;have e1:=yI h1;have e2:=yI h2;subst e0;subst e1;subst e2;rw [uA hc];obtain ⟨q,hq,hqe⟩:=List.any_eq_true.mp h6;have eqp:q=lp:=by
   refine fy hqe fun q1 q2 q3 q4=>?_
   cases q;cases lp;cases yI q1;cases yI q2;cases yI q3;cases yI q4;rfl
  subst eqp;obtain ⟨rm,c,P,g1,g2,g3,g4,g5⟩:=F.la q hq;obtain ⟨x,T,hp,hps,hdef,FL⟩:=F.lam rm h7;exact A4 F.calm (F.gl h3).1 (F.blt dC) (ag a F h4) (ao h5) hdef g1 g2 g3 g4 T hp hps rm.in1.depth (ju h8) (fun cl f c' s H=>ag key (FL cl f _ _ s H) h9) g5
 | .dn,X,C,F,e,h=>by
  obtain ⟨p,rfl⟩:=BV h;exact A7 xt
theorem cB [L7] {ks:List Fn}:∀ (a:Tx) {X:Cx}{C:SC} (_:Fit X C ks) {e:Expr},j2 a C e=true->QT X e (tv ks a)
 | .va a,X,C,F,e,h=>by
  refine bI h fun h0 h1=>?_
  exact CP (ag a F h1) (AE h0)
 | .cmp o a b,X,C,F,e,h=>by
  refine vK h fun a' o' b' p h=>?_
  refine fy h fun h0 h1 h2 h3=>?_
  cases of_decide_eq_true h0;exact CS F.hu (ag a F h1) (ag b F h2) h3
 | .no a,X,C,F,e,h=>by
  refine p5 h fun o' a' p h=>?_
  refine bI h fun h0 h1=>?_
  cases of_decide_eq_true h0;exact CQ (cB a F h1)
 | .an a b,X,C,F,e,h=>by
  refine mH h (fun x y p h=>?_) fun x y z r p h=>?_
  ·refine bI h fun h0 h1=>?_
   exact PW.pt (mD (cB a F h0) (mC .And (cB b F h1)))
  ·refine bI h fun h0 h1=>?_
   exact PW.pt (mD (cB a F h0) (mM b F h1))
 | .or a b,X,C,F,e,h=>by
  refine mH h (fun x y p h=>?_) fun x y z r p h=>?_
  ·refine bI h fun h0 h1=>?_
   exact PW.pt (pw (cB a F h0) (mC .Or (cB b F h1)))
  ·refine bI h fun h0 h1=>?_
   exact PW.pt (pw (cB a F h0) (mM b F h1))
theorem mM [L7] {ks:List Fn}:∀ (a:Tx) {X:Cx}{C:SC} (_:Fit X C ks) {op:BoolOp}{x y:Expr}{r:List Expr}{p:Pos},j2 a C (.BoolOp op (x::y::r) p)=true->QW X (.BoolOp op (x::y::r) p) (tv ks a)
 | .va a,X,C,F,op,x,y,r,p,h=>aP h
 | .cmp o a b,X,C,F,op,x,y,r,p,h=>aP h
 | .no a,X,C,F,op,x,y,r,p,h=>aP h
 | .an a b,X,C,F,op,x,y,r,p,h=>by
  refine p6 h (fun _ _ _ e h=>?_) fun _ _ _ _ _ e h=>?_
  ·cases e
   refine bI h fun h0 h1=>?_
   exact mD (cB a F h0) (mC .And (cB b F h1))
  ·cases e
   refine bI h fun h0 h1=>?_
   exact mD (cB a F h0) (mM b F h1)
 | .or a b,X,C,F,op,x,y,r,p,h=>by
  refine p6 h (fun _ _ _ e h=>?_) fun _ _ _ _ _ e h=>?_
  ·cases e
   refine bI h fun h0 h1=>?_
   exact pw (cB a F h0) (mC .Or (cB b F h1))
  ·cases e
   refine bI h fun h0 h1=>?_
   exact pw (cB a F h0) (mM b F h1)
theorem fC [L7] {ks:List Fn}:∀ (as:Exs) {X:Cx}{C:SC} (_:Fit X C ks) {es:List Expr},jK as C es=true->QA X es (aE ks as)
 | .nil,X,C,F,es,h=>by cases es with | nil=>exact dR | cons _ _=>exact aP h
 | .cons a as,X,C,F,es,h=>by
  cases es with
  | nil=>exact aP h
  | cons e es =>
   refine fH h fun h0 h1 h2=>?_
   exact bR (ag a F h1) (fC as F h2) (ao h0)
theorem Eg [L7] {ks:List Fn}:∀ (a:Nx) {X:Cx}{C:SC} (_:Fit X C ks) {e:Expr},zw a C e=true->QN X e (hZ ks a)
 | .li es,X,C,F,e,h=>by
  refine sn h fun es' p h=>?_
  exact AZ (fC es F h)
 | .cat a b,X,C,F,e,h=>by
  refine p9 h fun a' o' b' p h=>?_
  refine fH h fun h0 h1 h2=>?_
  cases of_decide_eq_true h0;exact C4 (ag a F h1) (ag b F h2)
 | .rep es b,X,C,F,e,h=>by
  refine p9 h fun a' o' b' p h=>?_
  refine bI h fun h0 h=>?_
  cases of_decide_eq_true h0;refine sn h fun es' p1 h=>?_
  refine bI h fun h1 h2=>?_
  exact CY (fC es F h1) (ag b F h2)
 | .sl a l h',X,C,F,e,h=>by
  refine Bx h fun a' l' r' p q h=>?_
  refine fH h fun h0 h1 h2=>?_
  exact Gj (ag a F h0) (vR l F h1) (vR h' F h2)
 | .lof a,X,C,F,e,h=>by
  refine cW h fun x p1 es p2 h=>?_
  refine bS h fun a' h=>?_
  refine fy h fun h0 h1 h2 h3=>?_
  have e0:=yI h0;subst e0;exact C3 (F.gl h1).1 (F.blt dC) (ag a F h2) (ao h3)
 | .lc k it t c a,X,C,F,e,h=>by
  simp only [zw] at h;refine DU h fun a' t' it' cs sc p h=>?_
  refine iJ h fun h0 h1 h2 h3 h=>?_
  refine fy h fun h4 h5 h6 h7=>?_
  obtain ⟨T,FB⟩:=F.blk h2;have ek:k=(dZ C sc).length - X.N.length:=by rw [yI h3,F.N]
  subst ek;exact Gk F.calm T (qh it F h0) (fun cl s H fp L5=>hG t (FB cl s H fp L5) h5) (fun cl s H fp L5=>vS c (FB cl s H fp L5) h6) (fun cl s H fp L5=>ag a (FB cl s H fp L5) h7) (by rw [F.N];exact nV h4) (mv h1)
 | .lr1 a,X,C,F,e,h=>by
  refine cW h fun x p1 es p2 h1=>?_
  clear h;refine bS h1 fun d h2=>?_
  clear h1;refine cW h2 fun y p3 es p4 h=>?_
  clear h2;refine bS h fun a' h=>?_
  refine iJ h fun h0 h2 h3 h4 h5=>?_
  refine bI h0 fun h0 h1=>?_
  have e0:=yI h0;have e1:=yI h1;subst e0;subst e1;exact C2 F.calm (F.gl h2).1 (F.blt dC) (F.gl h3).1 (F.blt dC) (ag a F h4) (ao h5)
 | .lr2 a b,X,C,F,e,h=>by
  refine cW h fun x p1 es p2 h1=>?_
  clear h;refine bS h1 fun d h2=>?_
  clear h1;refine cW h2 fun y p3 es p4 h=>?_
  clear h2;refine i9 h fun a' b' h=>?_
  refine iJ h fun h0 h23 h4 h5 h6=>?_
  refine bI h0 fun h0 h1=>?_
  refine bI h23 fun h2 h3=>?_
  refine bI h6 fun h6 h7=>?_
  have e0:=yI h0;have e1:=yI h1;subst e0;subst e1;exact C1 F.calm (F.gl h2).1 (F.blt dC) (F.gl h3).1 (F.blt dC) (ag a F h4) (ag b F h5) ((ao h6).trans (by rw [ao h7];rfl)) (ao h7)
 | .lr3 a b c,X,C,F,e,h=>by
  refine cW h fun x p1 es p2 h1=>?_
  clear h;refine bS h1 fun d h2=>?_
  clear h1;refine cW h2 fun y p3 es p4 h=>?_
  clear h2;refine sr h fun a' b' c' h=>?_
  refine fy h fun h0 h23 h4 h5=>?_
  refine bI h0 fun h0 h1=>?_
  refine bI h23 fun h2 h3=>?_
  refine fH h4 fun h4 h6 h7=>?_
  refine fH h5 fun h8 h9 h10=>?_
  have e0:=yI h0;have e1:=yI h1;subst e0;subst e1;exact CZ F.calm (F.gl h2).1 (F.blt dC) (F.gl h3).1 (F.blt dC) (ag a F h4) (ag b F h6) (ag c F h7) (by rw [ao h8,ao h9,ao h10];rfl) (by rw [ao h9,ao h10];rfl) (ao h10)
theorem vR [L7] {ks:List Fn}:∀ (a:Ox) {X:Cx}{C:SC} (_:Fit X C ks) {e:Option Expr},zu a C e=true->QO X e (m8 ks a)
 | .no,X,C,F,e,h=>by cases e with | none=>exact AY | some _=>exact aP h
 | .so a,X,C,F,e,h=>by cases e with | none=>exact aP h | some e=>exact AX (ag a F h)
theorem vS [L7] {ks:List Fn}:∀ (a:Cx') {X:Cx}{C:SC} (_:Fit X C ks) {es:List Expr},Ir a C es=true->wy X es (eM ks a)
 | .no,X,C,F,e,h=>by cases e with | nil=>exact A1 | cons _ _=>exact aP h
 | .so a,X,C,F,e,h=>by
  refine bS h fun e h=>?_
  exact A0 (cB a F h)
theorem qh [L7] {ks:List Fn}:∀ (a:Ix) {X:Cx}{C:SC} (_:Fit X C ks) {t e:Expr},Eh a C t e=true->QI X t e (eL ks a)
 | .e a,X,C,F,t,e,h=>Jv (ag a F h)
 | .r1 a,X,C,F,t,e,h=>by
  refine cW h fun x p1 es p2 h=>?_
  refine bS h fun a' h=>?_
  refine fy h fun h0 h1 h2 h3=>?_
  have e0:=yI h0;subst e0;exact Gp (F.gl h1).1 (F.blt dC) (ag a F h2) (ao h3)
 | .r2 a b,X,C,F,t,e,h=>by
  refine cW h fun x p1 es p2 h=>?_
  refine i9 h fun a' b' h=>?_
  refine iJ h fun h0 h1 h2 h3 h4=>?_
  refine bI h4 fun h4 h5=>?_
  have e0:=yI h0;subst e0;exact Go (F.gl h1).1 (F.blt dC) (ag a F h2) (ag b F h3) (by rw [ao h4,ao h5];rfl) (ao h5)
 | .zi a b,X,C,F,t,e,h=>by
  refine jZ h fun ts k p h=>?_
  refine cW h fun x p1 es p2 h=>?_
  refine i9 h fun a' b' h=>?_
  refine iJ h fun h0 h1 h2 h3 h4=>?_
  refine bI h4 fun h4 h5=>?_
  have e0:=yI h0;subst e0;exact C5 (F.gl h1).1 (F.blt dC) (ag a F h2) (ag b F h3) (by rw [ao h4,ao h5];rfl) (ao h5)
 | .en a,X,C,F,t,e,h=>by
  refine jZ h fun ts k p h=>?_
  refine cW h fun x p1 es p2 h=>?_
  refine bS h fun a' h=>?_
  refine fy h fun h0 h1 h2 h3=>?_
  have e0:=yI h0;subst e0;exact Gq (F.gl h1).1 (F.blt dC) (ag a F h2) (ao h3)
 | .es a b,X,C,F,t,e,h=>by
  refine jZ h fun ts k p h=>?_
  refine j1 h fun f es kws p0 h=>?_
  refine gx h fun x p1 h=>?_
  refine bS h fun a' h=>?_
  refine bS h fun w h=>?_
  refine kZ h fun y d p2 h=>?_
  refine iJ h fun h0 h2 h3 h4 h5=>?_
  refine bI h0 fun h0 h1=>?_
  have e0:=yI h0;have e1:=yI h1;subst e0;subst e1;exact C6 (F.gl h2).1 (F.blt dC) (ag a F h3) (ag b F h4) (ao h5)
 | .r3 a b c,X,C,F,t,e,h=>by
  refine cW h fun x p1 es p2 h=>?_
  refine sr h fun a' b' c' h=>?_
  refine fy h fun h0 h1 h2 h3=>?_
  refine fH h2 fun h2 h4 h5=>?_
  refine fH h3 fun h6 h7 h8=>?_
  have e0:=yI h0;subst e0;exact Gn (F.gl h1).1 (F.blt dC) (ag a F h2) (ag b F h4) (ag c F h5) (by rw [ao h6,ao h7,ao h8];rfl) (by rw [ao h7,ao h8];rfl) (ao h8)
theorem hG [L7] {ks:List Fn}:∀ (t:Tg) {X:Cx}{C:SC} (_:Fit X C ks) {e:Expr},sH t C e=true->QG X e (bQ ks t)
 | .nm k,X,C,F,e,h=>by
  refine gx h fun x p h=>?_
  refine bI h fun h0 h=>?_
  obtain ⟨h1,h2⟩:=F.loc h;exact A3 (by rw [F.N];exact F.nd) (F.nmb h0).1 h1 h2
 | .tu n ts,X,C,F,e,h=>by
  refine jZ h fun es k p h=>?_
  refine fH h fun h0 h1 h2=>?_
  exact C7 F.calm (sG ts F h2) (by rw [yi];exact yI h0) (yj h1)
 | .su a b,X,C,F,e,h=>by
  refine mG h fun a' b' p h=>?_
  refine fH h fun h0 h1 h2=>?_
  exact C8 F.hu (ag a F h0) (ag b F h1) (CB h2)
theorem sG [L7] {ks:List Fn}:∀ (ts:Tgs) {X:Cx}{C:SC} (_:Fit X C ks) {es:List Expr},xJ ts C es=true->wz X es (iS ks ts)
 | .nil,X,C,F,es,h=>by cases es with | nil=>exact A2 | cons _ _=>exact aP h
 | .cons t ts,X,C,F,es,h=>by
  cases es with
  | nil=>exact aP h
  | cons e es =>
   refine fH h fun h0 h1 h2=>?_
   exact wZ (hG t F h1) (sG ts F h2) (yh h0)
end
theorem vi {env:Env}{e o i:Expr}{p:Pos}{l:Nat}:swapsWithSole [.Subscript o i p] e l env=pure false:=by cases e <;> rfl
theorem vh {env:Env}{e:Expr}{es:List Expr}{k:Nat}{p:Pos}{l:Nat}:swapsWithSole [.Tuple es k p] e l env=pure false:=by cases e <;> rfl
mutual
theorem Ee [L7] {ks:List Fn}:∀ (a:Sx) {X:Cx}{C:SC} (_:Fit X C ks) {s:Stmt},Iq a C s=true->QS X s (cG ks a)
 | .ex a,X,C,F,s,h=>by
  refine BB h fun e p h=>bI h fun h0 h1=>?_
  exact AT (ag a F h0) (rR h1)
 | .as a t,X,C,F,s,h=>by
  refine sC h fun t' e p2 h=>fH h fun h0 h1 h2=>?_
  refine FC h2 (fun h2 x p h1=>?_) (fun o i q h1=>?_) (fun h2 es k q h1=>?_) h1
  ·cases t with
   | nm k =>
    refine bI (show (sE C k x && qt C x)=true from h1) fun g0 g1=>?_
    obtain ⟨l1,l2⟩:=F.loc g1;have hN:X.N.Nodup:=by rw [F.N];exact F.nd
    rcases Bool.or_eq_true_iff.mp h2 with hc | hc
    ·exact vp hN (F.nmb g0).1 l1 (ag a F h0) (rR hc) l2
    ·refine BU hc (fun elt gens sc pos h0=>?_) h0
     have hsw:=CA (env:=X.env) (elt:=elt) (gens:=gens) (sc:=sc) (pos:=pos) (t:=x) (p:=p) (l:=p2.line) F.kind;cases hsb:HY X.env.scope.names x p.line sc pos.line with
     | false=>rw [hsb] at hsw;exact vp hN (F.nmb g0).1 l1 (ag a F h0) hsw l2
     | true =>
      rw [hsb] at hsw;refine Kx h0 fun m k' it t c a' h0=>?_
      have h0:du gens _=true:=h0;refine bS h0 fun g h0=>?_
      obtain ⟨t',it',cs,i⟩:=g;refine bI h0 fun h9 h0=>?_
      cases of_decide_eq_true h9;refine iJ h0 fun q0 h1' h2' h3 h=>?_
      refine fy h fun h4 h5 h6 h7=>?_
      obtain ⟨T,FB⟩:=F.blk h2';have ek:k'=(dZ C sc).length - X.N.length:=by rw [yI h3,F.N]
      subst ek;exact vo hN (F.nmb g0).1 l1 hsw F.calm T (qh it F q0) (fun cl s H fp L5=>hG t (FB cl s H fp L5) h5) (fun cl s H fp L5=>vS c (FB cl s H fp L5) h6) (fun cl s H fp L5=>ag a' (FB cl s H fp L5) h7) (by rw [F.N];exact nV h4) (mv h1') l2
   | _=>exact aP h1
  ·exact vq (ag a F h0) (hG t F h1) vi wO (td rfl)
  ·exact bI h2 fun h2 h3=>vq (ag a F h0) (hG t F h1) vh (wN h2) (td rfl)
 | .au k o a,X,C,F,s,h=>by
  refine sA h fun t o' e p h=>gx h fun x p h=>fy h fun h0 h1 h2 h3=>?_
  cases of_decide_eq_true h0;obtain ⟨l1,l2⟩:=F.loc h2;exact CW (by rw [F.N];exact F.nd) (F.nmb h1).1 l1 (ag a F h3) l2
 | .aus o a b c,X,C,F,s,h=>by
  refine sA h fun t o' e p h=>mG h fun a' b' p h=>iJ h fun h0 h1 h2 h3 h4=>?_
  cases of_decide_eq_true h0;exact AW F.hu (ag a F h1) (ag b F h2) (ag c F h3) (FA h4)
 | .fl c f o a,X,C,F,s,h=>by
  refine sC h fun t e p h=>qa h fun o' f' p h=>fy h fun h0 h1 h2 h3=>?_
  rw [<- yI h0];obtain ⟨Ca,hC,cl,na⟩:=F.clb h1;exact CV (ag o F h2) (ag a F h3) cl hC na wM
 | .rt a,X,C,F,s,h=>by
  refine By h fun e p h=>?_
  cases e with
  | none=>exact aP h
  | some e=>exact CT (ag a F h)
 | .iff t a b,X,C,F,s,h=>by
  refine DT h fun e x y p h=>fH h fun h0 h1 h2=>?_
  exact Gi (cB t F h0) (fW a F h1) (fW b F h2)
 | .fo it t b,X,C,F,s,h=>by
  refine sx h fun t' it' x p h=>fy h fun h0 h1 h2 h3=>?_
  exact CU F.po F.calm (qh it F h0) (hG t F h2) (fW b F h3) (mv h1)
 | .fd a t b,X,C,F,s,h=>by
  refine sx h fun t' it' x p h=>fy h fun h0 h1 h2 h3=>?_
  exact AS F.po F.calm (ag a F h0) (hG t F h2) (fW b F h3) (mv h1)
 | .wh t b,X,C,F,s,h=>by
  refine Bw h fun e x p h=>bI h fun h0 h1=>?_
  exact wY F.po (cB t F h0) (fW b F h1)
 | .dead,X,C,F,s,h=>AU
theorem fW [L7] {ks:List Fn}:∀ (as:Mc) {X:Cx}{C:SC} (_:Fit X C ks) {ss:List Stmt},j3 as C ss=true->kK X ss (ai ks as)
 | .nil,X,C,F,s,h=>by cases s with | nil=>exact AR | cons _ _=>exact aP h
 | .cons a as,X,C,F,s,h=>by
  cases s with
  | nil=>exact aP h
  | cons s ss=>exact bI h fun h0 h1=>wX (Ee a F h0) (fW as F h1)
 | .dead,X,C,F,s,h=>wW
end
section
variable (P:Program) (w:World) (K:Frag) (mg:Str->Option Value) (base:Heap)
def Lb [L7] (d:Nat) (x:Str) (n:Nat) (fn:Fn):Prop:=∃ f fd ps,ps.length=n/\FnOk P w K mg base er d f fd ps (dq ⟨K,mg⟩ ps.length fn)/\mg x=some (.ref f)/\keepIn K (.ref f)=true/\Binds K fd ps []
def K1 [L7] (d:Nat) (c m:Str) (n:Nat) (fn:Fn):Prop:=∃ f fd ps C,ps.length=n/\FnOk P w K mg base er d f fd ps (dq ⟨K,mg⟩ ps.length fn)/\mg c=some (.ref C)/\Cls K C/\jD K C m f/\Binds K fd ps []
def K0 [L7] (d:Nat) (c:Str) (n:Nat) (fn:Fn):Prop:=∃ f fd ps C,ps.length=n/\FnOk P w K mg base er d f fd ps (dq ⟨K,mg⟩ ps.length fn)/\mg c=some (.ref C)/\Mk K C f/\Binds K fd ps []
def KOk [L7] (d:Nat) (fn:Fn):Ke->Prop
 | .f x n=>Lb P w K mg base d x n fn
 | .m c m n=>K1 P w K mg base d c m n fn
 | .k c n=>K0 P w K mg base d c n fn
def KsOk [L7] (d:Nat):List Ke->List Fn->Prop
 | [],_=>True
 | k::ke,fn::ks=>KOk P w K mg base d fn k/\KsOk d ke ks
 | _::_,[]=>False
structure Ev (gs:List (Str × AV)) (cl:List (Str × List Str)):Prop where
 bl:∀ x ∈ bnames,mg x=none
 gs:∀ p ∈ gs,∀ w,mw p.2=some w->∃ u,mg p.1=some u/\RelV w u
 cl:∀ p ∈ cl,∃ Ca,mg p.1=some (.ref Ca)/\Cls K Ca/\∀ f ∈ p.2,NoAttr K Ca f
end
section
variable {P:Program}{w:World}{K:Frag}{mg:Str->Option Value}{base:Heap}{d d':Nat}{fn:Fn}
theorem KOk.mono [L7] (h:d <= d'):∀ {k:Ke},KOk P w K mg base d fn k->KOk P w K mg base d' fn k
 | .f _ _,⟨f,fd,ps,e,F,r⟩=>⟨f,fd,ps,e,F.mono h,r⟩
 | .m _ _ _,⟨f,fd,ps,C,e,F,r⟩=>⟨f,fd,ps,C,e,F.mono h,r⟩
 | .k _ _,⟨f,fd,ps,C,e,F,r⟩=>⟨f,fd,ps,C,e,F.mono h,r⟩
theorem KsOk.at [L7]:∀ {ke:List Ke}{ks:List Fn}{j:Nat}{k:Ke},KsOk P w K mg base d ke ks->ke[j]?=some k->KOk P w K mg base d (kf ks j) k
 | [],_,_,_,_,e=>by simp at e
 | k::ke,[],_,_,h,_=>h.elim
 | k::ke,fn::ks,0,_,h,e=>by simp at e;subst e;exact h.1
 | k::ke,fn::ks,j + 1,_,h,e=>by
  have:=KsOk.at (j:=j) h.2 (by simpa using e)
  exact this
theorem KOk.ok [L7] (hr:Room (d + 1) A):∀ {k:Ke},KOk P w K mg base d fn k->FN P w K mg base A fn k
 | .f _ _,⟨f,fd,ps,e,F,m,kp,b⟩=>⟨d,f,fd,ps,e,F,hr.mono (Nat.le_succ d),m,kp,b⟩
 | .m _ _ _,⟨f,fd,ps,C,e,F,m,c,me,b⟩=>⟨d,f,fd,ps,C,e,F,hr.mono (Nat.le_succ d),m,c,me,b⟩
 | .k _ _,⟨f,fd,ps,C,e,F,m,mk,b⟩=>⟨d,f,fd,ps,C,e,F,hr,m,mk,b⟩
end
def fU (st:Stmt):List Str:=(dw st).args.map (·.arg)
noncomputable def Fa (N ps:List Str) (sc:Scope):Bool:=(match sc.kind with | .function=>true | _=>false) && !sc.isCoroutine && !sc.isGenerator && decide N.Nodup && decide (N.take ps.length=ps) &&
 (ps.all fun x=>match sc.names.lookup x with | some .local=>true | some .cell=>true | _=>false) && (sc.names.all fun p=>match p.2 with | .free=>false | _=>true)
theorem E9 (h:Fa N ps sc=true):lu N ps sc:=by
 unfold Fa at h;simp only [zC,yA] at h;obtain ⟨⟨⟨⟨⟨⟨h1,h2⟩,h3⟩,h4⟩,h5⟩,h6⟩,h7⟩:=h;refine ⟨?_,by simpa using h2,by simpa using h3,h4,h5,fun x hx=>?_,fun y hy e=>?_⟩
 ·split at h1
  ·rename_i e;exact e
  ·cases h1
 ·have:=yN.mp h6 x hx
  split at this
  ·rename_i e;exact .inl e
  ·rename_i e;exact .inr e
  ·cases this
 ·have:=yN.mp h7 y hy
  rw [e] at this;cases this
def chk (N:List Str) (ke:List Ke) (gs:List (Str × AV)) (cl:List (Str × List Str)) (la:List Pos) (b:Mc) (st:Stmt):Bool :=
 Fa N (fU st) (cx st) && plainA (dw st) && decide (fU st).Nodup && j3 b ⟨N,(cx st).names,N,ke,gs,cl,la⟩ (dW st)
section
variable {P:Program}{w:World}{K:Frag}{mg:Str->Option Value}{base:Heap}{d:Nat}{x qual:Str}{st:Stmt}{f:Addr}{fd:FuncData}{N:List Str}{ke:List Ke}{ks:List Fn}{gs:List (Str × AV)}{cl:List (Str × List Str)}{la:List Pos}{b:Mc}
theorem Hh [L7] {N ps:List Str}{k:Nat}{b:SF} (F:Fun K x qual st f fd) (S:lu N ps (cx st))
  (hbody:∀ (A:Around) (outer:List Env) (s:Shared) (H:Hp) (E:XK),Room k (A.deeper (envOfC qual (cx st) s.heap.objs.size f fd.code))->kK (oo er P w K mg base N qual (cx st) f fd.code A outer s H E).nox (dW st) b) :
  FnOk P w K mg base er (k + 1) f fd ps (dq ⟨K,mg⟩ ps.length (run N.length b)):=by
 obtain ⟨oc,od,kV,doc,pm,an,cdv,ct,osl,rfl,lk,hcd⟩:=F.ex;refine Hg lk hcd S (fun vs H Q E h=>h.1) fun A outer s H vs Q E hr h=>?_
 obtain ⟨hl,P,φ,args,st,r,sm,k⟩:=h;have hb:=hbody A outer s H E hr;refine ⟨_,PSs.nox hb,?_⟩;obtain ⟨v,st',e,q⟩:=k;obtain ⟨o,e1,e2⟩:=zA e;refine ⟨P,φ,_,st,AL r,sm,o,e1,?_⟩;cases o with
 | nx sl st1=>cases e2;exact fun P' φ' H' σ' f' s' _=>q P' φ' H' .non f' s' (by simp only [RA])
 | rt v st1=>cases e2;exact fun P' φ' H' w f' s' r'=>q P' φ' H' w f' s' r'
 | bk sl st1=>cases e2
 | ct sl st1=>cases e2
def rp [L7] (mg:Str->Option Value) (base:Heap) (qual:Str) (cd:Value) (la:List Pos):Prop:=∀ p ∈ la,∃ c P,cd=.ref c/\CodeHd base c P/\iq mg base/\(P,p,qual++".<locals>."++"<lambda>") ∈ L7.tb/\∀ t ∈ L7.tb,t.1=P->t=(P,p,qual++".<locals>."++"<lambda>")
theorem mY [L7] (F:Fun K x qual st f fd) (E:Ev K mg gs cl) (hl:rp mg base qual fd.code la) (hk:KsOk P w K mg base d ke ks) (h:chk N ke gs cl la b st=true) :
  FnOk P w K mg base er (d + 3) f fd (fU st) (dq ⟨K,mg⟩ (fU st).length (run N.length (ai ks b)))/\Binds K fd (fU st) []:=by
 unfold chk at h;simp only [zC,yA] at h;obtain ⟨⟨⟨h1,h2⟩,h3⟩,h4⟩:=h;have S:=E9 h1;refine ⟨Hh F S fun A outer s H E' hr=>?_,F.binds fun kV doc pm an cdv ct us hl=>bind_plain h2 rfl h3 hl⟩;refine fW b ⟨rfl,rfl,S.nd,S.kind,rfl,fun _ _=>rfl,hr.units,E.bl,PassesOwn.never,fun j k e=>(hk.at e).ok (hr.mono oM),E.gs,E.cl,fun p hp=>⟨hr.mono oM,hl p hp⟩⟩ h4
end
structure FE where
 ke:Ke
 qual:Str
 st:Stmt
 N:List Str
 cs:List Nat
 d:Nat
 la:List Pos
 b:Mc
def FE.fn (e:FE) (fs:List Fn):Fn:=run e.N.length (ai (e.cs.map (kf fs)) e.b)
def FE.ok [L7] (e:FE) (K:Frag) (mg:Str->Option Value) (base:Heap):Prop:=match e.ke with
 | .f x _=>∃ f fd,mg x=some (.ref f)/\Fun K x e.qual e.st f fd/\rp mg base e.qual fd.code e.la
 | .m c m _=>∃ f fd C,mg c=some (.ref C)/\Cls K C/\jD K C m f/\Fun K m e.qual e.st f fd/\rp mg base e.qual fd.code e.la
 | .k c _=>∃ f fd C,mg c=some (.ref C)/\Mk K C f/\Fun K "__init__" e.qual e.st f fd/\rp mg base e.qual fd.code e.la
noncomputable def Ke.n:Ke->Nat
 | .f _ n=>n
 | .m _ _ n=>n
 | .k _ n=>n
noncomputable def x8 (pre:List FE) (j:Nat):Ke:=match pre[j]? with
 | some e=>e.ke
 | none=>.f "" 0
def FE.chk (gs:List (Str × AV)) (cl:List (Str × List Str)) (pre:List FE) (e:FE):Bool :=
 R.chk e.N (e.cs.map (x8 pre)) gs cl e.la e.b e.st && (e.ke.n == (fU e.st).length) && e.cs.all (fun j=>match pre[j]? with | some g=>Nat.ble (g.d + 3) e.d | none=>false) && Nat.ble 3 e.d
def kx (gs:List (Str × AV)) (cl:List (Str × List Str)):List FE->List FE->Bool
 | _,[]=>true
 | pre,e::r=>e.chk gs cl pre && kx gs cl (pre++[e]) r
def iy:List Fn->List FE->List Fn
 | fs,[]=>fs
 | fs,e::r=>iy (fs++[e.fn fs]) r
section
variable {P:Program}{w:World}{K:Frag}{mg:Str->Option Value}{base:Heap}{gs:List (Str × AV)}{cl:List (Str × List Str)}
def pH [L7] (P:Program) (w:World) (K:Frag) (mg:Str->Option Value) (base:Heap) (pre:List FE) (fs:List Fn):Prop:=pre.length=fs.length/\∀ (j:Nat) e,pre[j]?=some e->KOk P w K mg base e.d (kf fs j) e.ke
theorem ux [L7] {d:Nat} (h:pH P w K mg base pre fs):∀ cs:List Nat,(cs.all fun j=>match pre[j]? with | some g=>Nat.ble (g.d + 3) (d + 3) | none=>false)=true->KsOk P w K mg base d (cs.map (x8 pre)) (cs.map (kf fs))
 | [],_=>trivial
 | j::cs,hc=>by
  rw [List.all_cons,zC] at hc;refine ⟨?_,ux h cs hc.2⟩;have h1:=hc.1;split at h1
  ·rename_i g hg
   have:=h.2 j g hg
   unfold x8;rw [hg];exact this.mono (by have:=zS h1;omega)
  ·cases h1
theorem Hi [L7] {pre:List FE}{fs:List Fn}{e:FE} (E:Ev K mg gs cl) (h:pH P w K mg base pre fs) (hf:e.ok K mg base) (hc:e.chk gs cl pre=true):KOk P w K mg base e.d (e.fn fs) e.ke:=by
 unfold FE.chk at hc;simp only [zC] at hc;obtain ⟨⟨⟨h1,h2⟩,h3⟩,h4⟩:=hc;have hn:=yI h2;obtain ⟨d,hd⟩:∃ d,e.d=d + 3:=⟨e.d - 3,by have:=zS h4;omega⟩;rw [hd] at h3 ⊢;have hk:=ux h e.cs h3;unfold FE.fn;unfold FE.ok at hf;split at hf
 ·rename_i x n ek
  obtain ⟨f,fd,m,F,L⟩:=hf;obtain ⟨a1,a2⟩:=mY F E L hk h1;rw [ek] at hn ⊢;exact ⟨f,fd,fU e.st,hn.symm,a1,m,F.kp,a2⟩
 ·rename_i c m n ek
  obtain ⟨f,fd,C,hC,hc,hm,F,L⟩:=hf;obtain ⟨a1,a2⟩:=mY F E L hk h1;rw [ek] at hn ⊢;exact ⟨f,fd,fU e.st,C,hn.symm,a1,hC,hc,hm,a2⟩
 ·rename_i c n ek
  obtain ⟨f,fd,C,hC,hm,F,L⟩:=hf;obtain ⟨a1,a2⟩:=mY F E L hk h1;rw [ek] at hn ⊢;exact ⟨f,fd,fU e.st,C,hn.symm,a1,hC,hm,a2⟩
theorem vX {j:Nat} (h:j < fs.length):kf (fs++[g]) j=kf fs j:=by
 unfold kf;rw [zD,zD,zN h]
theorem BQ:kf (fs++[g]) fs.length=g:=by
 unfold kf;rw [zD];simp
theorem rZ [L7] (E:Ev K mg gs cl):∀ (rest pre:List FE) (fs:List Fn),pH P w K mg base pre fs->(∀ e ∈ rest,e.ok K mg base)->kx gs cl pre rest=true->pH P w K mg base (pre++rest) (iy fs rest)
 | [],pre,fs,h,_,_=>by rw [List.append_nil];exact h
 | e::r,pre,fs,h,hf,hc=>by
  unfold kx at hc;rw [zC] at hc;have h1:=Hi E h (hf e z6) hc.1
  have:=rZ E r (pre++[e]) (fs++[e.fn fs]) ⟨by simp [h.1],fun j g hg=>?_⟩ (fun g hg=>hf g (zQ _ hg)) hc.2
  ·rw [yL] at this;exact this
  ·rcases yQ j pre.length with hj | hj
   ·rw [zN hj] at hg
    rw [vX (by rw [<- h.1];exact hj)];exact h.2 j g hg
   ·have ej:j=pre.length:=by
     have:=(zB.mp hg).1
     rw [zV] at this;simp at this;omega
    subst ej;simp at hg;subst hg;rw [h.1,BQ];exact h1
end
theorem GT [L7] {K:Frag}{mg:Str->Option Value}{H:Hp}{a:Addr}{ns:List Int}{fn:Fn}{E:XK} (hg:∃ st,fn [.fz (ns.map .int)] []=some (.bl true,st)) (hS:bJ K H a (ns.map V.int)) (tb:∀ t ∈ L7.tb,fA H t.1 t.2.1 t.2.2):dq ⟨K,mg⟩ 1 fn [.ref a] H (fun v _=>v=.bl true) E:=by
 obtain ⟨st,e⟩:=hg;refine ⟨rfl,fun c=>∃ vs,Rd H c (.lst vs),[],[.fz (ns.map .int)],[],aW ?_ br,Sim.nil (fun c h=>?_) (fun t ht=>⟨tb t ht,fun hq0=>by obtain ⟨vs,z⟩:=hq0;obtain ⟨ps,e,_⟩:=tb t ht;rcases z with z | ⟨o,z⟩ <;> (rw [e] at z;cases z)⟩),.bl true,st,e,fun P' φ' H' w f s r=>by simpa only [RA] using r⟩
 ·simp only [RA]
  refine ⟨a,ns.map V.int,rfl,?_,Ma.of_ints⟩;rcases hS with h | h
  ·exact .inl ⟨⟨_,h⟩,h⟩
  ·exact .inr fun H'=>.inr h
 ·obtain ⟨vs,h | ⟨o,h⟩⟩:=h <;> (rw [h];exact fun z=>nomatch z)
end R
namespace L2
open PySem PySem.Spec PyProof.Rows
theorem vV {P:Program}{w:World}{K:Frag}{mg mb:Str->Option Value}{CX:kR}{k:Nat}{fa a:Addr}{fd:FuncData}{x:Str}{sp:Sp}{s₁:Shared}{vs:List Value}{ns:List Int}{tabs:List (Addr × Addr)}
  (KX:K.In s₁.heap) (hns:s₁.heap.Ns mainGlobals mg) (hb:s₁.heap.Ns builtinsNs mb) (hbb:∀ x:Str,x ≠ "__name__"->mb x=bootBuiltins x) (hlim:s₁.heap.NoLimit) (hg:s₁.gens=#[])
  (bm:∃ bm ob,mg "__builtins__"=some (.ref bm)/\bm ≠ builtinsNs/\s₁.heap.get? bm=some ob/\ob.cls=.type "module"/\ob.dict=some builtinsNs/\ob.data=.plain)
  (hT:TabsAt tabs s₁.heap) (hK0:noTabs K=true)
  (ha:s₁.heap.get? a=some { cls:=.type "list",data:=.seq vs.toArray }) (hi:IntsAre vs ns) (hl:ns.length <= sizeLine) (hr:Room k callerA)
  (F:∀ base:Heap,K.In base->base.Ns mainGlobals mg->iq mg base->FnOk P w K mg base CX k fa fd [x] sp) (hbind:∀ (s:Shared) (u:Value),BindsTo s fd ⟨[u],[]⟩ [(x,u)])
  (hsp:∀ H:Hp,(∀ q ∈ tabs,H q.2=some (.tbl #[]))->bJ K H a (ns.map V.int)->sp [.ref a] H (fun v _=>v=.bl true) fun _ _ _=>False)
  (hCX:∀ H e s',CX [] H s₁ (fun _ _ _=>False) e s'->False) :
  codeAny (model P w) callerA (.call (.ref fa) ⟨[.ref a],[]⟩) (fun r s'=>r=.ok (.ret (.bool true))/\OldK s₁.heap s'.heap/\s'.os=s₁.os/\AllBare s'.gens) s₁:=by
 have rv:=u0 hi;have lenV:=hi.length;have core:∀ H:Hp,bJ K H a (ns.map V.int)->HOk P w H s₁.heap->(∀ b,H b=none\/(b=a/\K.lookup a=none/\∃ o xs,H b=some (.frz o (.lst xs)))\/(∃ q ∈ tabs,b=q.2/\H b=some (.tbl #[])))->(∀ q ∈ tabs,H q.2=some (.tbl #[])) ->
   codeAny (model P w) callerA (.call (.ref fa) ⟨[.ref a],[]⟩) (fun r s'=>r=.ok (.ret (.bool true))/\OldK s₁.heap s'.heap/\s'.os=s₁.os/\AllBare s'.gens) s₁:=by
  intro H hS Mb hA hTb;have fx:∀ {b:Addr}{o:Obj},s₁.heap.get? b=some o->H b=none->(iQ s₁.heap H).get? b=some o:=fun e n=>yc e n
  have none_of:∀ {b:Addr}{o:Obj},s₁.heap.get? b=some o->o.cls ≠ .type "list"->o ≠ tabObj #[]->H b=none:=fun {b o} e n1 n2=>by
   rcases hA b with z | ⟨rfl,_⟩ | ⟨q,hq,rfl,_⟩
   ·exact z
   ·rw [ha] at e;cases e;exact absurd rfl n1
   ·rw [(hT q hq).2] at e;cases e;exact absurd rfl n2
  have dict_of:∀ {b:Addr}{o:Obj}{es:Array DictEntry}{ep:Nat},s₁.heap.get? b=some o->o.data=.dict es ep->H b=none:=fun {b o es ep} e d=>by
   rcases hA b with z | ⟨rfl,_⟩ | ⟨q,hq,rfl,_⟩
   ·exact z
   ·rw [ha] at e;cases e;cases d
   ·rw [(hT q hq).2] at e;cases e;cases d
  have nsK:∀ {b:Addr}{m:Str->Option Value},s₁.heap.Ns b m->(iQ s₁.heap H).Ns b m:=fun {b m} ⟨o,es,ep,e,d,r⟩=>⟨o,es,ep,fx e (dict_of e d),d,r⟩
  have hKb:K.In (iQ s₁.heap H):=fun b o e=>fx (KX b o e) (by
   rcases hA b with z | ⟨rfl,z,_⟩ | ⟨q,hq,rfl,_⟩
   ·exact z
   ·rw [z] at e;cases e
   ·have e1:=KX _ o e
    rw [(hT q hq).2] at e1;cases e1;have h2:=yN.mp hK0 _ (mem_of_lookupK e);exact absurd (show false=true from h2) Bool.false_ne_true)
  have hM:Mod K mg (iQ s₁.heap H):=⟨hKb,nsK hns,⟨mb,nsK hb,hbb⟩,let ⟨mc,h1,h2⟩:=hlim;⟨mc,nsK h1,h2⟩⟩;have hBM:iq mg (iQ s₁.heap H):=by
   obtain ⟨bm,ob,b1,b2,b3,b4,b5,b6⟩:=bm;refine ⟨bm,ob,b1,b2,fun z=>?_,fx b3 (none_of b3 (by rw [b4];intro z;injection z with z;exact absurd z dC) (fun z=>by rw [z] at b4;cases b4)),b4,b5,b6⟩;obtain ⟨o,es,ep,e,d,_⟩:=hns;rw [z,e] at b3;cases b3;rw [d] at b6;cases b6
  have e0:Env0 P w K mg (iQ s₁.heap H) callerA [] s₁ H:=⟨rfl,hM,fun b o e=>BC e,Nat.le_of_eq (v4 _ _),trivial,fun b hb=>absurd (show b ∈ ([]:List Addr) from hb) (by simp),Mb,.of_eq hg⟩;refine codeAny_mono ((F _ hKb (nsK hns) hBM).run callerA [] s₁ H ⟨[.ref a],[]⟩ [.ref a] [.ref a] _ _ hr e0 (hbind s₁ (.ref a)) (.cons rfl .nil) (hsp H hTb hS)) fun r s' h=>?_
  cases r with
  | error e=>exact (hCX H e s' h).elim
  | ok fl =>
   cases fl with
   | next=>exact False.elim h
   | brk=>exact False.elim h
   | cont=>exact False.elim h
   | ret u =>
    obtain ⟨v,H',os,bare,un,hok',r',q⟩:=h;have q':v=.bl true:=q;subst q';obtain rfl:u=Value.bool true:=r';have old:∀ b o,s₁.heap.get? b=some o->asItWas s₁.heap s'.heap b o:=fun b o e=>by
     rcases hA b with z | ⟨rfl,_,ob,xs,z⟩ | ⟨q,hq,rfl,z⟩
     ·exact .inl (un.keep b o e z (by intro z;exact absurd (show b ∈ ([]:List Addr) from z) (by simp)) (by simp))
     ·have z2:=un.frzs b ob _ z
      obtain ⟨e1,_⟩:=Mb b _ z;obtain ⟨e2,_⟩:=hok' b _ z2;rw [e] at e1;cases e1;exact .inl e2
     ·obtain ⟨more,z2⟩:=un.tbls _ _ z
      have e2:=hok' _ _ z2;rw [(hT q hq).2] at e;cases e;exact .inr (.inl ⟨((hT q hq).1.tab (hT q hq).2).isCodeTable,rfl,#[],more,rfl,e2⟩)
    refine ⟨rfl,⟨old,fun b o e=>?_⟩,os,bare⟩;exact un.there b o e (by simp)
 have natab:∀ q ∈ tabs,q.2 ≠ a:=fun q hq e=>by
  have:=(hT q hq).2
  rw [e,ha] at this;cases this
 cases hk:K.lookup a with
 | some o =>
  have e:=KX a o hk;rw [ha] at e;cases e;refine core (fun b=>if b ∈ tabs.map (·.2) then some (.tbl #[]) else none) (.inr ⟨_,vs.toArray,_,hk,rfl,rfl,rfl,by rw [zI,lenV];exact hl,by simpa using rv⟩) (fun b u z=>?_) (fun b=>?_) fun q hq=>yG (List.mem_map_of_mem hq)
  ·dsimp only at z
   by_cases hb:b ∈ tabs.map (·.2)
   ·rw [yG hb] at z;cases z
    obtain ⟨q,hq,rfl⟩:=yB.mp hb;exact (hT q hq).2
   ·rw [yF hb] at z;cases z
  ·by_cases hb:b ∈ tabs.map (·.2)
   ·obtain ⟨q,hq,rfl⟩:=yB.mp hb
    exact .inr (.inr ⟨q,hq,rfl,yG hb⟩)
   ·exact .inl (yF hb)
 | none =>
  refine core (fun b=>if b ∈ tabs.map (·.2) then some (.tbl #[]) else if b=a then some (.frz { cls:=.type "list",data:=.seq vs.toArray } (.lst (ns.map V.int))) else none) (.inl (.inr ⟨{ cls:=.type "list",data:=.seq vs.toArray },?_⟩)) (fun b u z=>?_) (fun b=>?_) fun q hq=>yG (List.mem_map_of_mem hq)
  ·dsimp only
   rw [yF (fun z=>by obtain ⟨q,hq,e⟩:=yB.mp z;exact natab q hq e),yG rfl]
  ·dsimp only at z
   by_cases hb:b ∈ tabs.map (·.2)
   ·rw [yG hb] at z;cases z
    obtain ⟨q,hq,rfl⟩:=yB.mp hb;exact (hT q hq).2
   ·rw [yF hb] at z
    by_cases hb':b=a
    ·rw [yG hb'] at z;cases z
     subst hb';exact ⟨ha,by rw [zH];exact hl,vs,_,rv,ha⟩
    ·rw [yF hb'] at z;cases z
  ·by_cases hb:b ∈ tabs.map (·.2)
   ·obtain ⟨q,hq,rfl⟩:=yB.mp hb
    exact .inr (.inr ⟨q,hq,rfl,yG hb⟩)
   ·by_cases hb':b=a
    ·exact .inr (.inl ⟨hb',hk,_,_,(yF hb).trans (yG hb')⟩)
    ·exact .inl ((yF hb).trans (yF hb'))
theorem Cj {l:PySem.W.OpenLaw}{n k:Nat}{q:Program}{bU:List Str}{XP:(Str->Option Value)->Heap->Prop}{YP:World->Heap->Prop}{d:DefRec}{K:Params->Frag}{sp:World->Sp}{x:Str}{tabs:List (Addr × Addr)}
  (hn:l.most=some n) (hn2:n <= sizeLine) (hdf:d.params.defaults=[]) (hr:Room k callerA)
  (hY:∀ (w:World) (h:Heap),YP w h->(K w.params).In h/\∀ q ∈ tabs,h.get? q.2=some (tabObj #[])) (hc:∀ (w:World),∀ q ∈ tabs,codeHdIn (K w.params) q.1 q.2=true) (hK0:∀ (w:World),noTabs (K w.params)=true)
  (F:∀ (w:World) (mg:Str->Option Value) (fa:Addr) (h:Heap),(K w.params).In h->h.Ns mainGlobals mg->mg d.name=some (.ref fa) ->
   ∃ fd:FuncData,(∀ (s:Shared) (u:Value),BindsTo s fd ⟨[u],[]⟩ [(x,u)]) /\
    ∀ base:Heap,(K w.params).In base->base.Ns mainGlobals mg->iq mg base->FnOk l.prog w (K w.params) mg base er k fa fd [x] (sp w))
  (hsp:∀ (w:World) (H:Hp) (a:Addr) (ns:List Int),ns.length <= n->(∀ q ∈ tabs,H q.2=some (.tbl #[]))->bJ (K w.params) H a (ns.map V.int)->sp w [.ref a] H (fun v _=>v=.bl true) fun _ _ _=>False) :
  PySem.W.WalkO q bU XP YP l.row.toRowW d [] (fun f vs=>PySem.call f vs):=by
 refine Att.attach_call hn hdf fun w s₀ s₁ mg mb fa o pm cd doc a vs ns G Y ho hd hcd hmg hobj hints hlen hg=>?_
 obtain ⟨KX,hT0⟩:=hY w _ Y;obtain ⟨fd,hb,hF⟩:=F w mg fa _ KX G.T.g hmg;exact vV (tabs:=tabs) KX G.T.g G.T.b G.T.builtins G.T.nolimit hg G.T.bmain (fun q hq=>⟨codeHd_of_K KX (hc w q hq),hT0 q hq⟩) (hK0 w) hobj hints (z0 hlen hn2) hr hF hb (fun H hO hS=>hsp w H a ns hlen hO hS) fun H e s' z=>z
end L2
namespace R
open PySem PySem.Spec PyProof.Rows L2
abbrev FM [L7] (K:Frag) (qual:Str) (cd:Value) (la:List Pos):Prop:=la=[]\/∃ p c P,la=[p]/\cd=.ref c/\codeHdIn K c P=true/\L7.tb=[(P,p,qual++".<locals>."++"<lambda>")]
abbrev FactF [L7] (K:Frag) (x:Str) (e:FE):Prop:=∃ (f:Addr) (oc:Value) (od:Option Addr) (sl:Array (Option Value)) (kV dc pm:Value) (an:Option Addr) (cd ct:Value),nsIn K mainGlobals x=some (some (.ref f)) /\
 K.lookup f=some ⟨oc,od,.func (fnOf x e.qual (dw e.st) (dW e.st) (cx e.st) .none kV dc pm an cd ct),sl⟩/\codeIn K cd e.qual=true/\keepIn K (.ref f)=true/\FM K e.qual cd e.la
abbrev FactM [L7] (K:Frag) (c m:Str) (e:FE):Prop:=∃ (C f:Addr) (oc:Value) (od:Option Addr) (sl:Array (Option Value)) (kV dc pm:Value) (an:Option Addr) (cd ct:Value),nsIn K mainGlobals c=some (some (.ref C))/\findIn K (.ref C) m=some (some (.ref f)) /\
 K.lookup f=some ⟨oc,od,.func (fnOf m e.qual (dw e.st) (dW e.st) (cx e.st) .none kV dc pm an cd ct),sl⟩/\codeIn K cd e.qual=true/\keepIn K (.ref f)=true/\isFn K (.ref f)=true/\FM K e.qual cd e.la
abbrev FactN (K:Frag) (c:Str):Prop:=∃ C:Addr,nsIn K mainGlobals c=some (some (.ref C))/\makesIn K C=true/\keepIn K (.ref C)=true
abbrev nQ (K:Frag) (c:Str):Prop:=∃ C:Addr,nsIn K mainGlobals c=some (some (.ref C))/\plainGet K C Str.empty=true/\hasDictIn K C=true/\plainOver K C=true/\findIn K (.ref C) "__setattr__"=some (some (.builtin "object.__setattr__"))
abbrev Ay (K:Frag) (c:Str) (fs:List Str):Prop:=∃ C:Addr,nsIn K mainGlobals c=some (some (.ref C))/\(fs.all fun f=>match findIn K (.ref C) f with | some none=>true | _=>false)=true
abbrev At (K:Frag):Prop:=(bnames.all fun x=>match nsIn K mainGlobals x with | some none=>true | _=>false)=true
section
variable [L7] {K:Frag}{h base:Heap}{mg:Str->Option Value}
theorem pC (B:K.In base) (hb:iq mg base) (L:FM K qual cd la):rp mg base qual cd la:=by
 intro p hp;rcases L with rfl | ⟨q,c,P,rfl,e,hc,ht⟩
 ·cases hp
 ·rw [zM.mp hp]
  exact ⟨c,P,e,codeHd_of_K B hc,hb,by rw [ht];simp,fun t h1 _=>by rw [ht] at h1;exact zM.mp h1⟩
theorem FactF.ok {n:Nat} (hk:e.ke=.f x n) (F:FactF K x e) (X:K.In h) (G:h.Ns mainGlobals mg) (B:K.In base) (hb:iq mg base):e.ok K mg base:=by
 obtain ⟨f,oc,od,sl,kV,dc,pm,an,cd,ct,a,l,c,k,L⟩:=F;unfold FE.ok;rw [hk];exact ⟨f,_,mg_of X G a,mZ l c k,pC B hb L⟩
theorem wj (F:nQ K c) (X:K.In h) (G:h.Ns mainGlobals mg) (hC:nsIn K mainGlobals c=some (some (.ref C))):mg c=some (.ref C)/\Cls K C:=by
 obtain ⟨C',a,f1,f2,f3,f4⟩:=F;rw [hC] at a;cases a;exact ⟨mg_of X G hC,⟨f1,f2,f3,f4⟩⟩
theorem FactM.ok {n:Nat} (hk:e.ke=.m c m n) (F:FactM K c m e) (C0:nQ K c) (X:K.In h) (G:h.Ns mainGlobals mg) (B:K.In base) (hb:iq mg base):e.ok K mg base:=by
 obtain ⟨C,f,oc,od,sl,kV,dc,pm,an,cd,ct,a,g,l,cc,k,i,L⟩:=F;unfold FE.ok;rw [hk];obtain ⟨m1,m2⟩:=wj C0 X G a;exact ⟨f,_,C,m1,m2,⟨g,i,k⟩,mZ l cc k,pC B hb L⟩
theorem FactN.ok {n:Nat} (hk:e.ke=.k c n) (F:FactM K c "__init__" e) (N:FactN K c) (X:K.In h) (G:h.Ns mainGlobals mg) (B:K.In base) (hb:iq mg base):e.ok K mg base:=by
 obtain ⟨C,f,oc,od,sl,kV,dc,pm,an,cd,ct,a,g,l,cc,k,i,L⟩:=F;obtain ⟨C',a',m1,m2⟩:=N;rw [a] at a';cases a';unfold FE.ok;rw [hk];exact ⟨f,_,C,mg_of X G a,⟨m1,g,i,m2⟩,mZ l cc k,pC B hb L⟩
abbrev FactG (K:Frag) (p:Str × AV):Prop:=match p.2 with
 | .int i=>∃ t,nsIn K mainGlobals p.1=some (some (.int i t))
 | .str x=>∃ t,nsIn K mainGlobals p.1=some (some (.str x t))
 | _=>False
theorem FactG.ok (F:FactG K p) (X:K.In h) (G:h.Ns mainGlobals mg):∀ w,mw p.2=some w->∃ u,mg p.1=some u/\RelV w u:=by
 obtain ⟨x,c⟩:=p;intro w hw;cases c with
 | int i=>obtain ⟨t,e⟩:=F;cases hw;exact ⟨_,mg_of X G e,t,rfl⟩
 | str y=>obtain ⟨t,e⟩:=F;cases hw;exact ⟨_,mg_of X G e,t,rfl⟩
 | _=>exact F.elim
theorem Hk (X:K.In h) (G:h.Ns mainGlobals mg) (hb:At K) (hg:∀ p ∈ gs,FactG K p) (hc:∀ p ∈ cl,nQ K p.1/\Ay K p.1 p.2):Ev K mg gs cl:=by
 refine ⟨fun x hx=>?_,fun p hp=>(hg p hp).ok X G,fun p hp=>?_⟩
 ·have:=yN.mp hb x hx
  split at this
  ·rename_i e;exact mg_none_of X G e
  ·cases this
 ·obtain ⟨C0,C,a,fs⟩:=hc p hp
  obtain ⟨m1,m2⟩:=wj C0 X G a;refine ⟨C,m1,m2,fun f hf=>?_⟩
  have:=yN.mp fs f hf
  split at this
  ·rename_i e;exact e
  ·cases this
end
theorem law_F [L7] {P:Program}{w:World}{K:Frag}{h:Heap}{mg:Str->Option Value}{fa:Addr}{gs:List (Str × AV)}{cl:List (Str × List Str)}{pre:List FE}{e:FE}{fn:Fn} (X:K.In h) (G:h.Ns mainGlobals mg) (hfa:mg "law"=some (.ref fa))
  (hb:At K) (hg:∀ p ∈ gs,FactG K p) (hc:∀ p ∈ cl,nQ K p.1/\Ay K p.1 p.2) (hchk:kx gs cl [] pre=true) (hce:e.chk gs cl pre=true)
  (facts:∀ base:Heap,K.In base->iq mg base->∀ e ∈ pre,e.ok K mg base) (hF:FactF K "law" e) (hps:fU e.st=[("_law_script":Str)]) (hfn:e.fn (iy [] pre)=fn) :
  ∃ fd:FuncData,(∀ (s:Shared) (v:Value),BindsTo s fd ⟨[v],[]⟩ [("_law_script",v)])/\∀ base:Heap,K.In base->base.Ns mainGlobals mg->iq mg base ->
   FnOk P w K mg base er e.d fa fd ["_law_script"] (fun vs H Q E=>∀ mg,dq ⟨K,mg⟩ 1 fn vs H Q E):=by
 have E:=Hk X G hb hg hc;unfold FE.chk at hce;simp only [zC] at hce;obtain ⟨⟨⟨h1,h2⟩,h3⟩,h4⟩:=hce;obtain ⟨d,hd⟩:∃ d,e.d=d + 3:=⟨e.d - 3,by have:=zS h4;omega⟩;rw [hd] at h3 ⊢;obtain ⟨f,oc,od,sl,kV,dc,pm,an,cd,ct,a,l,c,k,L⟩:=hF;have m:=mg_of X G a;rw [hfa] at m;cases m;have F:=mZ l c k;refine ⟨fnOf "law" e.qual (dw e.st) (dW e.st) (cx e.st) .none kV dc pm an cd ct,fun s v=>?_,fun base B _ hbm=>?_⟩
 ·have hp:plainA (dw e.st)=true:=by
   unfold R.chk at h1;simp only [zC] at h1;exact h1.1.1.2
  refine .of_eq ?_
  have:=bind_plain (fd:=fnOf "law" e.qual (dw e.st) (dW e.st) (cx e.st) .none kV dc pm an cd ct) (us:=[v]) hp rfl (by show (fU e.st).Nodup;rw [hps];simp) (by show _=(fU e.st).length;rw [hps];rfl)
  rw [this];show pure ((fU e.st).zip [v])=_;rw [hps];rfl
 ·have pk:=rZ (P:=P) (w:=w) E pre [] [] ⟨rfl,fun j g hg=>by simp at hg⟩ (facts base B hbm) hchk
  have hk:=ux (d:=d) pk e.cs h3
  have:=(mY F E (pC B hbm L) hk h1).1
  rw [hps] at this;have hfn':run e.N.length (ai (e.cs.map (kf (iy [] pre))) e.b)=fn:=hfn;rw [hfn'] at this;exact this.imp fun vs H Q E q=>q mg
theorem walk_R [L7] {l:PySem.W.OpenLaw}{k:Nat}{q:Program}{bU:List Str}{XP:(Str->Option Value)->Heap->Prop}{YP:World->Heap->Prop}{d:DefRec}{K:Params->Frag}{fn:Fn}{tabs:List (Addr × Addr)}
  (hn:l.most=some 63) (hdf:d.params.defaults=[]) (hr:Room k callerA)
  (hY:∀ (w:World) (h:Heap),YP w h->(K w.params).In h/\∀ q ∈ tabs,h.get? q.2=some (tabObj #[])) (hc:∀ (w:World),∀ q ∈ tabs,codeHdIn (K w.params) q.1 q.2=true) (hK0:∀ (w:World),noTabs (K w.params)=true)
  (ht:∀ t ∈ L7.tb,t.1 ∈ tabs.map (·.2)) (hg:∀ ns:List Int,ns.length <= 63->∃ st,fn [.fz (ns.map .int)] []=some (.bl true,st))
  (F:∀ (w:World) (mg:Str->Option Value) (fa:Addr) (h:Heap),(K w.params).In h->h.Ns mainGlobals mg->mg d.name=some (.ref fa) ->
   ∃ fd:FuncData,(∀ (s:Shared) (u:Value),BindsTo s fd ⟨[u],[]⟩ [("_law_script",u)]) /\
    ∀ base:Heap,(K w.params).In base->base.Ns mainGlobals mg->iq mg base->FnOk l.prog w (K w.params) mg base er k fa fd ["_law_script"] (fun vs H Q E=>∀ mg,dq ⟨K w.params,mg⟩ 1 fn vs H Q E)) :
  PySem.W.WalkO q bU XP YP l.row.toRowW d [] (fun f vs=>PySem.call f vs) :=
 Cj (sp:=fun w vs H Q E=>∀ mg,dq ⟨K w.params,mg⟩ 1 fn vs H Q E) hn dC hdf hr hY hc hK0 F fun w H a ns hl hT hS mg=>GT (hg ns hl) hS fun t h=>by
  obtain ⟨q,hq,e⟩:=yB.mp (ht t h);exact ⟨#[],by rw [<- e];exact hT q hq,trivial,.inl rfl⟩
end R
namespace SX
def Mo:Nat->(Nat->Int)->Int
 | 0,_=>0
 | n + 1,f=>Mo n f + f n
theorem HZ {n:Nat}{f g:Nat->Int} (h:∀ i,i < n->f i=g i):Mo n f=Mo n g:=by
 induction n with
 | zero=>rfl
 | succ n ih=>simp only [Mo];rw [ih fun i hi=>h i oM,h n oM]
theorem abs_sum {n:Nat}{f:Nat->Int}{M:Nat} (h:∀ i,i < n->(f i).natAbs <= M):(Mo n f).natAbs <= n * M:=by
 induction n with
 | zero=>simp [Mo]
 | succ n ih =>
  simp only [Mo];have h1:=ih fun i hi=>h i oM
  have h2:=h n oM;rw [Nat.succ_mul]
  have:=Int.natAbs_add_le (Mo n f) (f n)
  omega
structure Pm (w m:Nat) (h s:Nat->Nat):Prop where
 hl:∀ j,j < w->h j < w + m
 sl:∀ i,i < m->s i < w + m
 hi:∀ j k,j < w->k < w->h j=h k->j=k
 si:∀ j k,j < m->k < m->s j=s k->j=k
 hs:∀ j i,j < w->i < m->h j ≠ s i
 cov:∀ q,q < w + m->(∃ i,i < m/\s i=q)\/∃ j,j < w/\h j=q
structure Sh where
 d:Int
 ls:List (List Int)
 hd:List Nat
 sd:List Nat
 gd:List Nat
 nl:List Nat
 tn:List Nat
noncomputable def gI (xs:List Int) (j:Nat):Int:=xs.getD j 0
noncomputable def row (S:Sh) (i:Nat):List Int:=S.ls.getD i []
def Sh.t (S:Sh) (i j:Nat):Int:=gI (row S i) j
noncomputable def Sh.h (S:Sh) (j:Nat):Nat:=S.hd.getD j 0
noncomputable def Sh.s (S:Sh) (i:Nat):Nat:=S.sd.getD i 0
noncomputable def fdvS (a b:Int):Int:=if 0 < b then a / b else a.fdiv b
def chLine (l P:List Int) (c:Nat) (sg d:Int):List Int :=
 if gI l c=0 then (if gI P c=d then l else l.map fun x=>fdvS (x * gI P c) d) else ((l.zip P).map fun z=>fdvS (z.1 * gI P c - gI l c * z.2) d).set c (sg * gI l c)
noncomputable def sgn (x:Int):Int:=if x < 0 then -1 else 1
def pvl (S:Sh) (r c:Nat):List Int:=(row S r).map fun x=>sgn (S.t r c) * x
def Mj (S:Sh) (r c:Nat):Sh:={ S with
 d:=gI (pvl S r c) c
 ls:=(S.ls.map fun l=>chLine l (pvl S r c) c (sgn (S.t r c)) S.d).set r (((pvl S r c).map fun x=>- x).set c (sgn (S.t r c) * S.d))
 hd:=S.hd.set c (S.s r)
 sd:=S.sd.set r (S.h c) }
structure Md (w m:Nat) (S:Sh):Prop where
 ls:S.ls.length=m
 row:∀ l ∈ S.ls,l.length=w + 1
 hd:S.hd.length=w
 sd:S.sd.length=m
theorem gI_set_at {xs:List Int}{j:Nat}{x:Int} (h:j < xs.length):gI (xs.set j x) j=x:=by
 unfold gI;simp [zD,h]
theorem gI_set_ne {j k:Nat}{x:Int} (h:k ≠ j):gI (xs.set j x) k=gI xs k:=by
 unfold gI;simp [zD,yS,h.symm]
theorem getD_mem {α:Type}{xs:List α}{i:Nat}{a:α} (h:i < xs.length):xs.getD i a ∈ xs:=by
 simp [zD,zF h]
theorem Md.rl {w m:Nat} (P:Md w m S) {i:Nat} (h:i < m):(SX.row S i).length=w + 1:=P.row _ (getD_mem (by rw [P.ls];exact h))
theorem uJ {c:Nat}{sg d:Int} (h:l.length=P.length):(chLine l P c sg d).length=l.length:=by
 unfold chLine;split
 ·split
  ·rfl
  ·simp
 ·simp [h]
theorem exch_shp {w m:Nat}{r c:Nat} (P:Md w m S) (hr:r < m):Md w m (Mj S r c):=by
 have hp:(pvl S r c).length=w + 1:=by unfold pvl;rw [zH];exact P.rl hr
 refine ⟨by simp [Mj,P.ls],fun l hl=>?_,by simp [Mj,P.hd],by simp [Mj,P.sd]⟩;rcases List.mem_or_eq_of_mem_set hl with h | h
 ·obtain ⟨l',h1,rfl⟩:=yB.mp h
  rw [uJ (by rw [P.row _ h1,hp])];exact P.row _ h1
 ·rw [h];simp [hp]
def trn (S:Sh) (p:Nat):Sh:={ S with ls:=S.ls.set p ((row S p).map fun x=>- x),tn:=if S.s p ∈ S.tn then S.tn else S.tn++[S.s p] }
theorem trn_shp {w m p:Nat} (P:Md w m S) (hp:p < m):Md w m (trn S p):=by
 refine ⟨by simp [trn,P.ls],fun l hl=>?_,P.hd,P.sd⟩;rcases List.mem_or_eq_of_mem_set hl with h | h
 ·exact P.row _ h
 ·rw [h,zH];exact P.rl hp
def IP (S:Sh) (w q r i:Nat):Prop:=S.t r w * - S.t i q < S.t i w * - S.t r q\/(S.t r w * - S.t i q=S.t i w * - S.t r q/\S.s r <= S.s i)
def Me (S:Sh) (w q k:Nat) (o:Option Nat):Prop:=(o=none->∀ i,i < k->S.s i ∈ S.gd->¬ S.t i q < 0)/\∀ r,o=some r->r < k/\S.s r ∈ S.gd/\S.t r q < 0/\∀ i,i < k->S.s i ∈ S.gd->S.t i q < 0->IP S w q r i
theorem Ki {A B C x y z:Int}{a b c:Nat} (hx:0 < x) (hy:0 < y) (hz:0 < z) (h1:A * y < B * x\/(A * y=B * x/\a <= b)) (h2:B * z < C * y\/(B * z=C * y/\b <= c)):A * z < C * x\/(A * z=C * x/\a <= c):=by
 have l1:A * y <= B * x:=by omega
 have l2:B * z <= C * y:=by omega
 have l3:(A * y) * z <= (B * x) * z:=Int.mul_le_mul_of_nonneg_right l1 oM;have l4:(B * z) * x <= (C * y) * x:=Int.mul_le_mul_of_nonneg_right l2 oM;have e1:(B * x) * z=(B * z) * x:=by grind
 have e2:(A * y) * z=(A * z) * y:=by grind
 have e3:(C * y) * x=(C * x) * y:=by grind
 have l5:(A * z) * y <= (C * x) * y:=by omega
 have l6:A * z <= C * x:=Int.le_of_mul_le_mul_right l5 hy;by_cases e:A * z=C * x
 ·right
  refine ⟨e,?_⟩;have e4:(A * z) * y=(C * x) * y:=by rw [e]
  have q1:A * y=B * x:=by
   have:(A * y) * z=(B * x) * z:=by omega
   exact Int.eq_of_mul_eq_mul_right oM this
  have q2:B * z=C * y:=by
   have:(B * z) * x=(C * y) * x:=by omega
   exact Int.eq_of_mul_eq_mul_right oM this
  rcases h1 with h1 | h1
  ·omega
  ·rcases h2 with h2 | h2
   ·omega
   ·omega
 ·left;omega
section
variable {S:Sh}{w q k r:Nat}{o:Option Nat}
theorem tt_zero:Me S w q 0 none:=⟨fun _ i h=>by omega,fun r h=>nomatch h⟩
theorem tt_skip (h:¬ (S.t k q < 0/\S.s k ∈ S.gd)) (T:Me S w q k o):Me S w q (k + 1) o:=by
 refine ⟨fun e i hi hg ht=>?_,fun r e=>?_⟩
 ·by_cases z:i=k
  ·subst z;exact h ⟨ht,hg⟩
  ·exact T.1 e i oM hg ht
 ·obtain ⟨a,b,c,d⟩:=T.2 r e
  refine ⟨by omega,b,c,fun i hi hg ht=>?_⟩;by_cases z:i=k
  ·subst z;exact absurd ⟨ht,hg⟩ h
  ·exact d i oM hg ht
theorem tt_first (h:S.t k q < 0) (hg:S.s k ∈ S.gd) (T:Me S w q k none):Me S w q (k + 1) (some k):=by
 refine ⟨(fun e=>nomatch e),fun r e=>?_⟩;cases e;refine ⟨by omega,hg,h,fun i hi hg ht=>?_⟩;by_cases z:i=k
 ·subst z;exact .inr ⟨rfl,zP _⟩
 ·exact absurd ht (T.1 rfl i oM hg)
theorem tt_new (h:S.t k q < 0) (hg:S.s k ∈ S.gd) (ht:S.t k w * - S.t r q < S.t r w * - S.t k q\/(S.t k w * - S.t r q=S.t r w * - S.t k q/\S.s k < S.s r)) (T:Me S w q k (some r)):Me S w q (k + 1) (some k):=by
 refine ⟨(fun e=>nomatch e),fun r' e=>?_⟩;cases e;obtain ⟨a,b,c,d⟩:=T.2 r rfl;refine ⟨by omega,hg,h,fun i hi hg' ht'=>?_⟩;by_cases z:i=k
 ·subst z;exact .inr ⟨rfl,zP _⟩
 ·exact Ki (x:=- S.t k q) (y:=- S.t r q) (z:=- S.t i q) oM oM oM (ht.imp id fun x=>⟨x.1,by omega⟩) (d i oM hg' ht')
theorem tt_old (h:S.t k q < 0) (ht:¬ (S.t k w * - S.t r q < S.t r w * - S.t k q\/(S.t k w * - S.t r q=S.t r w * - S.t k q/\S.s k < S.s r))) (T:Me S w q k (some r)):Me S w q (k + 1) (some r):=by
 refine ⟨(fun e=>nomatch e),fun r' e=>?_⟩;cases e;obtain ⟨a,b,c,d⟩:=T.2 r rfl;refine ⟨by omega,b,c,fun i hi hg' ht'=>?_⟩;by_cases z:i=k
 ·subst z
  unfold IP;have h1:¬ (S.t i w * - S.t r q < S.t r w * - S.t i q):=fun x=>ht (.inl x)
  by_cases e:S.t i w * - S.t r q=S.t r w * - S.t i q
  ·exact .inr ⟨e.symm,Nat.le_of_not_lt fun x=>ht (.inr ⟨e,x⟩)⟩
  ·left;omega
 ·exact d i oM hg' ht'
end
noncomputable def openS (w:Nat) (L:List (List Int)) (k:Nat):Sh:=⟨1,L,List.range w,(List.range L.length).map (w + ·),List.range k,[],[]⟩
end SX
namespace R
open PySem PySem.Spec L2
open DD (pyOk)
section
variable {ks:List Fn}{sl:Sl}{st:aa}
@[simp] theorem L3:ev ks .n sl st=some (.non,st):=rfl
@[simp] theorem Kh {x:Bool}:ev ks (.b x) sl st=some (.bl x,st):=rfl
@[simp] theorem fP {x:Int}:ev ks (.i x) sl st=some (.int x,st):=rfl
@[simp] theorem u5 {x:Str}:ev ks (.s x) sl st=some (.str x,st):=rfl
@[simp] theorem L4 {x:Str}{c:AV}:ev ks (.g x c) sl st=some (c,st):=rfl
@[simp] theorem dF {k:Nat}:ev ks (.v k) sl st=aV k sl st:=rfl
@[simp] theorem cZ {v:AV}:aV 0 (some v::sl) st=some (v,st):=rfl
@[simp] theorem cY {k:Nat}{x:Option AV}:aV (k + 1) (x::sl) st=aV k sl st:=rfl
@[simp] theorem gh {o:Operator}{a b:Ex}:ev ks (.bin o a b) sl st=(ev ks a sl st).bind fun p=>(ev ks b sl p.2).bind fun q=>(dL o q.2 p.1 q.1).map fun z=>(z,q.2):=rfl
@[simp] theorem tL {o:CmpOp}{a b:Ex}:ev ks (.cmp o a b) sl st=(ev ks a sl st).bind fun p=>(ev ks b sl p.2).bind fun q=>(mn o q.2 p.1 q.1).map fun z=>(z,q.2):=rfl
@[simp] theorem Lr {o:UnaryOp}{a:Ex}:ev ks (.un o a) sl st=(ev ks a sl st).bind fun p=>(lx o p.2 p.1).map fun z=>(z,p.2):=rfl
def Kw (x:AV) (st:aa):Option (AV × aa):=match x with
 | .bl b=>some (.bl !b,st)
 | _=>none
def FG (x:AV) (st:aa) (r:Option (AV × aa)):Option (AV × aa):=match x with
 | .bl b=>if b=true then r else some (.bl false,st)
 | _=>none
def DH (x:AV) (st:aa) (r:Option (AV × aa)):Option (AV × aa):=match x with
 | .bl b=>if b=true then some (.bl true,st) else r
 | _=>none
@[simp] theorem Lj {b:Bool}:Kw (.bl b) st=some (.bl !b,st):=rfl
@[simp] theorem Lq {b:Bool}{r:Option (AV × aa)}:FG (.bl b) st r=if b=true then r else some (.bl false,st):=rfl
@[simp] theorem Li {b:Bool}{r:Option (AV × aa)}:DH (.bl b) st r=if b=true then some (.bl true,st) else r:=rfl
@[simp] theorem LA {a b:Ex}:ev ks (.an a b) sl st=(ev ks a sl st).bind fun p=>FG p.1 p.2 (ev ks b sl p.2):=by
 show Aq (ev ks a) (ev ks b) sl st=_;unfold Aq FG;congr 1;funext p;cases p.1 <;> first | rfl | skip
 rename_i x;cases x <;> rfl
@[simp] theorem Lu {a b:Ex}:ev ks (.or a b) sl st=(ev ks a sl st).bind fun p=>DH p.1 p.2 (ev ks b sl p.2):=by
 show Ao (ev ks a) (ev ks b) sl st=_;unfold Ao DH;congr 1;funext p;cases p.1 <;> first | rfl | skip
 rename_i x;cases x <;> rfl
@[simp] theorem yW {t:Tx}{a b:Ex}:ev ks (.ife t a b) sl st=(tv ks t sl st).bind fun p=>if p.1=true then ev ks a sl p.2 else ev ks b sl p.2:=rfl
@[simp] theorem iO {a b:Ex}:ev ks (.ix a b) sl st=(ev ks a sl st).bind fun p=>(ev ks b sl p.2).bind fun q=>(cE q.2 p.1 q.1).map fun z=>(z,q.2):=rfl
@[simp] theorem eB {p:Bool}{j:Nat}{es:Exs}:ev ks (.ca p j es) sl st=(aE ks es sl st).bind fun q=>vA p (kf ks j) q.1 q.2:=rfl
@[simp] theorem eR {f:Fn}:vA true f=pm f:=rfl
@[simp] theorem t9 {f:Fn}:vA false f=f:=rfl
@[simp] theorem eZ {f:Fn}:kf (f::ks) 0=f:=rfl
@[simp] theorem eY {f:Fn}{j:Nat}:kf (f::ks) (j + 1)=kf ks j:=rfl
@[simp] theorem cw:aE ks .nil sl st=some ([],st):=rfl
@[simp] theorem bV {e:Ex}{es:Exs}:aE ks (.cons e es) sl st=(ev ks e sl st).bind fun p=>(aE ks es sl p.2).bind fun q=>some (p.1::q.1,q.2):=rfl
@[simp] theorem Ls {es:Exs}:ev ks (.tu es) sl st=(aE ks es sl st).bind fun p=>if Nat.ble p.1.length 1000=true then some (.tup p.1,p.2) else none:=rfl
@[simp] theorem eA {x:Nx}:ev ks (.nw false x) sl st=(hZ ks x sl st).bind fun p=>if rfs p.1=true then some (.fz p.1,p.2) else none:=rfl
@[simp] theorem Ck {x:Nx}:ev ks (.nw true x) sl st=(hZ ks x sl st).bind fun p=>some (.ref p.2.length,p.2++[.lst p.1]):=rfl
@[simp] theorem Lx {c m:Str}{j:Nat}{o:Ex}{es:Exs}:ev ks (.me c m j o es) sl st=(ev ks o sl st).bind fun p=>(iP p.2 c p.1).bind fun fs=>if (fs.lookup m).isNone=true then (aE ks es sl p.2).bind fun q=>kf ks j (p.1::q.1) q.2 else none:=rfl
@[simp] theorem Lv {c:Str}{j:Nat}{es:Exs}:ev ks (.ne c j es) sl st=wu c (kf ks j) (aE ks es) sl st:=rfl
@[simp] theorem Ly {c f:Str}{o:Ex}:ev ks (.fd c f o) sl st=(ev ks o sl st).bind fun p=>(iP p.2 c p.1).bind fun fs=>(fs.lookup f).map fun v=>(v,p.2):=rfl
@[simp] theorem tM {b:Bi}{es:Exs}:ev ks (.bi b es) sl st=(aE ks es sl st).bind fun p=>nE b p.1 p.2:=rfl
@[simp] theorem Fz:nE .len=b9 eE:=rfl
@[simp] theorem Fw:nE .sum=b9 pP:=rfl
@[simp] theorem KQ:nE .abs=b9 jC:=rfl
@[simp] theorem Fx:nE .min=b9 uk:=rfl
@[simp] theorem Fy:nE .max=b9 um:=rfl
@[simp] theorem KP:nE .any=b9 rg:=rfl
@[simp] theorem Lw {m:Mi}{o:Ex}{es:Exs}:ev ks (.mt m o es) sl st=kJ (oK m) (oJ m) (ev ks o) (aE ks es) sl st:=rfl
@[simp] theorem Lz:ev ks .dn sl st=some (.ref st.length,st++[.dK []]):=rfl
@[simp] theorem Ld {a:Ex}:ev ks (.mnd a) sl st=(ev ks a sl st).bind fun p=>b9 mN [p.1] p.2:=by
 show (dl (ev ks a) dN sl st).bind _=_;unfold dl dN;cases ev ks a sl st <;> rfl
@[simp] theorem Lc {a k:Ex}:ev ks (.mnk a k) sl st=pG (ev ks a) (ev ks k) sl st:=rfl
@[simp] theorem JK {a b c:Ex}:eL ks (.r3 a b c) sl st=EY (ev ks a) (ev ks b) (ev ks c) sl st:=rfl
@[simp] theorem Eb {es:Exs}:hZ ks (.li es) sl st=(aE ks es sl st).bind fun p=>if dP p.1.length=true then some p else none:=rfl
@[simp] theorem zq {a b:Ex}:hZ ks (.cat a b) sl st=uj (ev ks a) (ev ks b) sl st:=rfl
@[simp] theorem GL {es:Exs}{b:Ex}:hZ ks (.rep es b) sl st=ug (aE ks es) (ev ks b) sl st:=rfl
@[simp] theorem Jz {a:Ex}{l h:Ox}:hZ ks (.sl a l h) sl st=qg (ev ks a) (m8 ks l) (m8 ks h) sl st:=rfl
@[simp] theorem mK {a:Ex}:hZ ks (.lof a) sl st=l8 (ev ks a) sl st:=rfl
@[simp] theorem Lm {a:Ex}:hZ ks (.lr1 a) sl st=ui (ev ks a) sl st:=rfl
@[simp] theorem Lk {a b c:Ex}:hZ ks (.lr3 a b c) sl st=xI (ev ks a) (ev ks b) (ev ks c) sl st:=rfl
@[simp] theorem Ll {a b:Ex}:hZ ks (.lr2 a b) sl st=uh (ev ks a) (ev ks b) sl st:=rfl
@[simp] theorem xG {k:Nat}{it:Ix}{t:Tg}{c:Cx'}{e:Ex}:hZ ks (.lc k it t c e) sl st=(eL ks it sl st).bind fun p=>if dP p.1.L9.length=true then fm p.1.gd (bQ ks t) (eM ks c) (ev ks e) (sl++List.replicate k none) p.1.L9 p.2 else none:=rfl
@[simp] theorem LP:m8 ks .no sl st=some (none,st):=rfl
@[simp] theorem Jx {e:Ex}:m8 ks (.so e) sl st=qc (ev ks e) sl st:=rfl
@[simp] theorem LY:eM ks .no sl st=some (true,st):=rfl
@[simp] theorem JW {t:Tx}:eM ks (.so t) sl st=tv ks t sl st:=rfl
@[simp] theorem EX {a:Ex}:eL ks (.e a) sl st=(ev ks a sl st).bind fun p=>(mS p.2 p.1).map fun iv=>(iv,p.2):=rfl
@[simp] theorem LS {a:Ex}:eL ks (.r1 a) sl st=Ae (ev ks a) sl st:=rfl
@[simp] theorem LR {a b:Ex}:eL ks (.r2 a b) sl st=Ad (ev ks a) (ev ks b) sl st:=rfl
@[simp] theorem LQ {a b:Ex}:eL ks (.zi a b) sl st=iZ (ev ks a) (ev ks b) sl st:=rfl
@[simp] theorem JL {a:Ex}:eL ks (.en a) sl st=(ev ks a sl st).bind fun p=>(hU p.2 p.1).map fun iv=>(⟨d9 0 iv.L9,iv.gd⟩,p.2):=rfl
@[simp] theorem LU {a b:Ex}:eL ks (.es a b) sl st=uD (ev ks a) (ev ks b) sl st:=rfl
@[simp] theorem iR {k:Nat}{x:AV}:bQ ks (.nm k) x sl st=some (sl.set k (some x),st):=rfl
@[simp] theorem LV {n:Nat}{ts:Tgs}{x:AV}:bQ ks (.tu n ts) x sl st=v7 n (iS ks ts) x sl st:=rfl
@[simp] theorem LX {a b:Ex}{x:AV}:bQ ks (.su a b) x sl st=(ev ks a sl st).bind fun p=>(ev ks b sl p.2).bind fun q=>(jt q.2 p.1 q.1 x).map fun st'=>(sl,st'):=rfl
@[simp] theorem KC {xs:List AV}:iS ks .nil xs sl st=E3 xs sl st:=rfl
@[simp] theorem Kf {t:Tg}{ts:Tgs}{xs:List AV}:iS ks (.cons t ts) xs sl st=E5 (bQ ks t) (iS ks ts) xs sl st:=rfl
@[simp] theorem LB {e:Ex}:tv ks (.va e) sl st=(ev ks e sl st).bind fun p=>(dH p.2 p.1).map fun b=>(b,p.2):=rfl
@[simp] theorem eQ {o:CmpOp}{a b:Ex}:tv ks (.cmp o a b) sl st=(ev ks a sl st).bind fun p=>(ev ks b sl p.2).bind fun q=>(cC o q.2 p.1 q.1).map fun b=>(b,q.2):=rfl
@[simp] theorem LC {t:Tx}:tv ks (.no t) sl st=(tv ks t sl st).bind fun p=>some (!p.1,p.2):=rfl
@[simp] theorem LD {t u:Tx}:tv ks (.an t u) sl st=(tv ks t sl st).bind fun p=>if p.1=true then tv ks u sl p.2 else some (false,p.2):=rfl
@[simp] theorem tQ {t u:Tx}:tv ks (.or t u) sl st=(tv ks t sl st).bind fun p=>if p.1=true then some (true,p.2) else tv ks u sl p.2:=rfl
@[simp] theorem yw:ai ks .nil sl st=some (.nx sl st):=rfl
def sD (o:Out) (k:Sl->aa->Option Out):Option Out:=match o with
 | .nx sl st=>k sl st
 | o=>some o
@[simp] theorem vP {k:Sl->aa->Option Out}:sD (.nx sl st) k=k sl st:=rfl
@[simp] theorem DX {v:AV}{k:Sl->aa->Option Out}:sD (.rt v st) k=some (.rt v st):=rfl
@[simp] theorem Kv {k:Sl->aa->Option Out}:sD (.bk sl st) k=some (.bk sl st):=rfl
@[simp] theorem Ku {k:Sl->aa->Option Out}:sD (.ct sl st) k=some (.ct sl st):=rfl
@[simp] theorem pK {s:Sx}{ss:Mc}:ai ks (.cons s ss) sl st=(cG ks s sl st).bind fun o=>sD o (ai ks ss):=by
 show (cG ks s sl st).bind _=(cG ks s sl st).bind _;congr 1
@[simp] theorem CH {e:Ex}:cG ks (.ex e) sl st=(ev ks e sl st).bind fun p=>some (.nx sl p.2):=rfl
@[simp] theorem eC {e:Ex}{t:Tg}:cG ks (.as e t) sl st=(ev ks e sl st).bind fun p=>(bQ ks t p.1 sl p.2).bind fun q=>some (.nx q.1 q.2):=rfl
@[simp] theorem LI {k:Nat}{o:Operator}{e:Ex}:cG ks (.au k o e) sl st=zf k o (ev ks e) sl st:=rfl
@[simp] theorem F9 {o:Operator}{a b e:Ex}:cG ks (.aus o a b e) sl st=tZ o (ev ks a) (ev ks b) (ev ks e) sl st:=rfl
@[simp] theorem LH {c f:Str}{o e:Ex}:cG ks (.fl c f o e) sl st=vk c f (ev ks o) (ev ks e) sl st:=rfl
@[simp] theorem LG {e:Ex}:cG ks (.rt e) sl st=(ev ks e sl st).bind fun p=>some (.rt p.1 p.2):=rfl
@[simp] theorem kT {t:Tx}{a b:Mc}:cG ks (.iff t a b) sl st=(tv ks t sl st).bind fun p=>if p.1=true then ai ks a sl p.2 else ai ks b sl p.2:=rfl
@[simp] theorem pR {it:Ix}{t:Tg}{b:Mc}:cG ks (.fo it t b) sl st=(eL ks it sl st).bind fun p=>df p.1.gd (bQ ks t) (ai ks b) p.1.L9 sl p.2:=rfl
@[simp] theorem Lg {a:Ex}{t:Tg}{b:Mc}:cG ks (.fd a t b) sl st=tY (ev ks a) (bQ ks t) (ai ks b) sl st:=rfl
@[simp] theorem LF {t:Tx}{b:Mc}:cG ks (.wh t b) sl st=pT (tv ks t) (ai ks b) sl st:=rfl
@[simp] theorem Kq:cG ks .dead sl st=none:=rfl
def aF (o:Out):Option (AV × aa):=match o with
 | .rt v st=>some (v,st)
 | .nx _ st=>some (.non,st)
 | _=>none
@[simp] theorem KJ {v:AV}:aF (.rt v st)=some (v,st):=rfl
@[simp] theorem KK:aF (.nx sl st)=some (.non,st):=rfl
theorem aG {n:Nat}{b:Mc}{args:List AV}:R.run n (ai ks b) args st=(ai ks b (args.map some++List.replicate (n - args.length) none) st).bind aF:=by
 unfold R.run;congr 1
end
@[simp] theorem zj:rfs []=true:=rfl
@[simp] theorem Lh {x:AV}{xs:List AV}:rfs (x::xs)=(rf x && rfs xs):=by simp only [rfs]
@[simp] theorem LM {i:Int}:rf (.int i)=true:=rfl
@[simp] theorem LO {i:Bool}:rf (.bl i)=true:=rfl
@[simp] theorem LK {i:Str}:rf (.str i)=true:=rfl
@[simp] theorem LL:rf .non=true:=rfl
@[simp] theorem LN {xs:List AV}:rf (.fz xs)=true:=rfl
@[simp] theorem LJ {xs:List AV}:rf (.tup xs)=rfs xs:=by simp only [rf]
section
variable {st:aa}{a b:Int}
theorem Ai:m9 st (.int a) (.int b)=some (decide (a=b)):=by
 show (if pyOk (.int a) (.int b)=true then some (PyData.eqv (.int a) (.int b)) else none)=_;rw [yG (by simp [pyOk,PyData.canLay0,PyData.depth])];congr 1
@[simp] theorem JY:cC .Eq st (.int a) (.int b)=some (decide (a=b)):=Ai
@[simp] theorem JX:cC .NotEq st (.int a) (.int b)=some (!decide (a=b)):=by show ((m9 st (.int a) (.int b)).map fun x=>!x)=_;rw [Ai];rfl
@[simp] theorem LZ:cC .Lt st (.int a) (.int b)=some (decide (a < b)):=rfl
@[simp] theorem L0:cC .LtE st (.int a) (.int b)=some (decide (a <= b)):=rfl
@[simp] theorem uN:cC .Gt st (.int a) (.int b)=some (decide (b < a)):=rfl
@[simp] theorem L1:cC .GtE st (.int a) (.int b)=some (decide (b <= a)):=rfl
@[simp] theorem IH {o:CmpOp}{x y:AV}:mn o st x y=(cC o st x y).map .bl:=rfl
@[simp] theorem Lo:cC .Is st .non .non=some true:=rfl
@[simp] theorem Lp:cC .Is st (.int a) .non=some false:=rfl
@[simp] theorem KM:cC .IsNot st .non .non=some false:=rfl
@[simp] theorem KN:cC .IsNot st (.int a) .non=some true:=rfl
@[simp] theorem uT:dL .Add st (.int a) (.int b)=some (.int (a + b)):=rfl
@[simp] theorem uR:dL .Sub st (.int a) (.int b)=some (.int (a - b)):=rfl
theorem c5 (h:cP a b=true):dL .Mult st (.int a) (.int b)=some (.int (a * b)):=by
 show (if cP a b=true then _ else _:Option Int).map _=_;rw [yG h];rfl
theorem jB (h:iT b=true):dL .FloorDiv st (.int a) (.int b)=some (.int (sZ a b)):=by
 show (if iT b=true then _ else _:Option Int).map _=_;rw [yG h];rfl
theorem gq (h:b ≠ 0):dL .Mod st (.int a) (.int b)=some (.int (m6 a b)):=by
 show (if b=0 then _ else _:Option Int).map _=_;rw [yF h];rfl
@[simp] theorem Lf:lx .USub st (.int a)=some (.int (-a)):=rfl
theorem eK {x y:Int} (h1:x.natAbs < 2 ^ 9000) (h2:y.natAbs < 2 ^ 9000):cP x y=true:=by
 have lg:∀ z:Nat,z < 2 ^ 9000->Nat.ble z.log2 1000000=true:=fun z hz=>by
  by_cases h0:z=0
  ·subst h0;rfl
  ·exact yJ (z0 (yU ((Nat.log2_lt h0).mpr hz)) oM)
 unfold cP;rw [lg _ h1,lg _ h2,Bool.and_true,Bool.or_true]
theorem qO {y:Int} (h0:y ≠ 0) (h2:y.natAbs < 2 ^ 9000):iT y=true:=by
 unfold iT;have:Nat.ble y.natAbs.log2 8999=true:=yJ (by have:=(Nat.log2_lt (n:=y.natAbs) oM).mpr h2;omega);rw [this];simp [h0]
end
end R
namespace R
open PySem PySem.Spec L2
open SX (Sh gI)
noncomputable def iL (l:List Int):List AV:=l.map .int
noncomputable def nL (l:List Nat):List AV:=l.map fun q=>.int ((q:Nat):Int)
def kL (l:List Nat):List (a0 × AV):=l.map fun q=>(.inl ((q:Nat):Int),.bl true)
def cL (d:Int) (a b c g n u:Nat):List (Str × AV):=[("below",.int d),("lines",.ref a),("heads",.ref b),("sides",.ref c),("guarded",.ref g),("nailed",.ref n),("turned",.ref u)]
section
variable {d:Int}{a b c g n u:Nat}
@[simp] theorem JF:(cL d a b c g n u).lookup ("below":Str)=some (AV.int d):=rfl
@[simp] theorem JD:(cL d a b c g n u).lookup ("lines":Str)=some (AV.ref a):=rfl
@[simp] theorem JE:(cL d a b c g n u).lookup ("heads":Str)=some (AV.ref b):=rfl
@[simp] theorem JC:(cL d a b c g n u).lookup ("sides":Str)=some (AV.ref c):=rfl
@[simp] theorem GP:(cL d a b c g n u).lookup ("guarded":Str)=some (AV.ref g):=rfl
@[simp] theorem Iw:(cL d a b c g n u).lookup ("nailed":Str)=some (AV.ref n):=rfl
@[simp] theorem Iu:(cL d a b c g n u).lookup ("turned":Str)=some (AV.ref u):=rfl
@[simp] theorem xT:(cL d a b c g n u).lookup ("loose_columns":Str)=none:=rfl
@[simp] theorem wF:(cL d a b c g n u).lookup ("raising_column":Str)=none:=rfl
@[simp] theorem wE:(cL d a b c g n u).lookup ("tightest_place":Str)=none:=rfl
@[simp] theorem Ch:(cL d a b c g n u).lookup ("is_tighter":Str)=none:=rfl
@[simp] theorem BL:(cL d a b c g n u).lookup ("is_up_first":Str)=none:=rfl
@[simp] theorem FQ:(cL d a b c g n u).lookup ("exchange":Str)=none:=rfl
@[simp] theorem Kd:(cL d a b c g n u).lookup ("lift":Str)=none:=rfl
@[simp] theorem FR:(cL d a b c g n u).lookup ("drive_up":Str)=none:=rfl
@[simp] theorem xS:(cL d a b c g n u).lookup ("moving_column":Str)=none:=rfl
@[simp] theorem JB:(cL d a b c g n u).lookup ("guard":Str)=none:=rfl
@[simp] theorem Kc:(cL d a b c g n u).lookup ("nail":Str)=none:=rfl
@[simp] theorem Ez:(cL d a b c g n u).lookup ("turn_line":Str)=none:=rfl
end
def RowR (st:aa) (x:AV) (l:List Int):Prop:=x=.fz (iL l)\/∃ r,x=.ref r/\(st[r]?=some (.lst (iL l))\/st[r]?=some (.al (.fz (iL l))))
structure Rep (st:aa) (k a b c g n u:Nat) (rows:List AV) (S:Sh):Prop where
 hk:st[k]?=some (.ins "Sheet" (cL S.d a b c g n u))
 ha:st[a]?=some (.lst rows)
 hb:st[b]?=some (.lst (nL S.hd))
 hc:st[c]?=some (.lst (nL S.sd))
 hg:st[g]?=some (.dK (kL S.gd))
 hn:st[n]?=some (.dK (kL S.nl))
 hu:st[u]?=some (.dK (kL S.tn))
 len:rows.length=S.ls.length
 row:∀ i x,rows[i]?=some x->RowR st x (SX.row S i)
 ab:a ≠ b
 ac:a ≠ c
 bc:b ≠ c
 gn:g ≠ n
 gu:g ≠ u
 nu:n ≠ u
 ra:∀ (i r:Nat),rows[i]?=some (.ref r)->r ≠ a/\r ≠ b/\r ≠ c
section
variable {st:aa}{x:AV}{xs:List AV}{l:List Int}{i:Int}
theorem RowR.ls (h:RowR st x l):bw st x=some (iL l):=by
 rcases h with rfl | ⟨r,rfl,h | h⟩
 ·rfl
 ·unfold bw dr;simp only [h]
 ·unfold bw dr;simp only [h]
theorem cR (h:bw st x=some xs):cE st x (.int i)=fN xs i:=by
 have hd:mj st x (.int i)=none:=by
  unfold mj;have h1:iF st x=none:=by
   cases x <;> first | rfl | skip
   rename_i k;unfold bw dr at h;unfold iF;dsimp only at h ⊢;cases e:st[k]? with
   | none=>rfl
   | some c=>cases c <;> first | rfl | (rw [e] at h;simp only [e] at h;cases h)
  have h2:lL st x=none:=by
   cases x <;> first | rfl | skip
   rename_i k;unfold bw dr at h;unfold lL;dsimp only at h ⊢;cases e:st[k]? with
   | none=>rfl
   | some c=>cases c <;> first | rfl | (rw [e] at h;simp only [e] at h;cases h)
  rw [h1,h2]
 unfold cE;rw [hd];dsimp only;rw [h]
theorem cD {α:Type}{xs:List α}{j:Nat}:fN xs ((j:Nat):Int)=xs[j]?:=by
 unfold fN j7;rw [yG oM];by_cases h:j < xs.length
 ·rw [yG oM];simp
 ·rw [yF oM,List.getElem?_eq_none oM];rfl
theorem ox {α:Type}{xs:List α}{n:Nat} (h:xs.length=n + 1):fN xs (-1)=xs[n]?:=by
 unfold fN j7;rw [yF oM,yG oM,h,bind_some];congr 1;omega
theorem cb {j:Nat} (h:j < l.length):(iL l)[j]?=some (.int (gI l j)):=by
 unfold iL gI;simp [h,zD]
theorem fV {l:List Nat}{j:Nat} (h:j < l.length):(nL l)[j]?=some (.int ((l.getD j 0:Nat):Int)):=by
 unfold nL;simp [h,zD]
theorem ck {k:Nat} (h:st[k]?=some (.lst xs)):bw st (.ref k)=some xs:=by unfold bw dr;simp only [h]
theorem sR {g:Nat}{l:List Nat}{q:Nat} (h:st[g]?=some (.dK (kL l))):oQ st (.int q) (.ref g)=some (decide (q ∈ l)):=by
 unfold oQ mj iF;simp only [h,jv,map_some];congr 1;unfold lU kL;rw [Option.isSome_map,List.find?_map,Option.isSome_map,Bool.eq_iff_iff,List.isSome_find?,List.any_eq_true];simp [Int.ofNat_inj]
end
noncomputable def jW (rows:List AV) (i:Nat):AV:=rows.getD i .non
section
variable {st:aa}{k a b c g n u w m:Nat}{rows:List AV}{S:Sh}{i j:Nat}
theorem Rep.ins (R:Rep st k a b c g n u rows S):iP st "Sheet" (.ref k)=some (cL S.d a b c g n u):=by
 unfold iP;simp only [R.hk];rfl
theorem Rep.rx (R:Rep st k a b c g n u rows S) (P:SX.Md w m S) (hi:i < m):rows[i]?=some (jW rows i):=by
 have:i < rows.length:=by rw [R.len,P.ls];exact hi
 unfold jW;rw [zD,zF this];rfl
theorem Rep.line (R:Rep st k a b c g n u rows S) (P:SX.Md w m S) (hi:i < m):cE st (.ref a) (.int (i:Int))=some (jW rows i):=by
 rw [cR (ck R.ha),cD];exact R.rx P hi
theorem Rep.rowl (R:Rep st k a b c g n u rows S) (P:SX.Md w m S) (hi:i < m):bw st (jW rows i)=some (iL (SX.row S i)):=(R.row i _ (R.rx P hi)).ls
theorem Rep.cell (R:Rep st k a b c g n u rows S) (P:SX.Md w m S) (hi:i < m) (hj:j < w + 1):cE st (jW rows i) (.int (j:Int))=some (.int (S.t i j)):=by
 rw [cR (R.rowl P hi),cD,cb (by rw [P.rl hi];exact hj)];rfl
theorem Rep.last (R:Rep st k a b c g n u rows S) (P:SX.Md w m S) (hi:i < m):cE st (jW rows i) (.int (-1))=some (.int (S.t i w)):=by
 rw [cR (R.rowl P hi),ox (n:=w) (by unfold iL;rw [zH];exact P.rl hi),cb (by rw [P.rl hi];omega)];rfl
theorem Rep.side (R:Rep st k a b c g n u rows S) (P:SX.Md w m S) (hi:i < m):cE st (.ref c) (.int (i:Int))=some (.int (S.s i:Int)):=by
 rw [cR (ck R.hc),cD,fV (by rw [P.sd];exact hi)];rfl
theorem Rep.head (R:Rep st k a b c g n u rows S) (P:SX.Md w m S) (hj:j < w):cE st (.ref b) (.int (j:Int))=some (.int (S.h j:Int)):=by
 rw [cR (ck R.hb),cD,fV (by rw [P.hd];exact hj)];rfl
theorem Rep.ing (R:Rep st k a b c g n u rows S) {q:Nat}:cC .In st (.int q) (.ref g)=some (decide (q ∈ S.gd)):=sR R.hg
theorem Rep.nin (R:Rep st k a b c g n u rows S) {q:Nat}:cC .NotIn st (.int q) (.ref n)=some (!decide (q ∈ S.nl)):=by show (oQ st _ _).map _=_;rw [sR R.hn];rfl
end
theorem c7 {α:Type}{em:α->AV}{B:α->Bool}{F:α->AV} (hg:ce gd st=true):∀ {xs:List α},(∀ x ∈ xs,∃ sl1,g (em x) sl st=some (sl1,st)/\t sl1 st=some (B x,st)/\(B x=true->f sl1 st=some (F x,st)))->fm gd g t f sl (xs.map em) st=some ((xs.filter B).map F,st)
 | [],_=>by show (if ce gd st=true then _ else _)=_;rw [yG hg];rfl
 | x::xs,h=>by
  obtain ⟨sl1,h1,h2,h3⟩:=h x z6;have ih:=c7 hg (xs:=xs) fun y hy=>h y (zQ _ hy)
  show (if ce gd st=true then (g (em x) sl st).bind _ else none)=_;rw [yG hg,h1,bind_some];dsimp only;rw [h2,bind_some];cases hB:B x with
  | true=>rw [yG rfl];dsimp only;rw [h3 hB,bind_some];dsimp only;rw [ih,List.filter_cons,hB];rfl
  | false=>rw [yF (by simp)];dsimp only;rw [ih,List.filter_cons,hB];rfl
theorem fT:∀ {xs:List AV},(∀ x ∈ xs,rf x=true)->rfs xs=true
 | [],_=>rfl
 | x::xs,h=>by simp only [rfs,zC];exact ⟨h x z6,fT fun y hy=>h y (zQ _ hy)⟩
theorem wV:rfs (iL l)=true:=fT fun x hx=>by obtain ⟨i,_,rfl⟩:=yB.mp hx;rfl
theorem g9:rfs (nL l)=true:=fT fun x hx=>by obtain ⟨i,_,rfl⟩:=yB.mp hx;rfl
mutual
theorem wp:∀ (x:AV),cK x x=true
 | .non=>rfl
 | .bl _=>by simp [cK]
 | .int _=>by simp [cK]
 | .str _=>by simp [cK]
 | .ref _=>by simp [cK]
 | .tup a=>by simp only [cK];exact iI a
 | .fz a=>by simp only [cK];exact iI a
theorem iI:∀ (xs:List AV),fG xs xs=true
 | []=>rfl
 | x::xs=>by simp only [fG,wp x,iI xs,Bool.and_self]
end
theorem fY {k:Nat} (h:st[k]?=some (.lst xs)):ce [(k,.lst xs)] st=true:=by
 simp only [ce,h,uP,iI,Bool.and_self]
theorem Ho:d9 0 (nL l)=l.zipIdx.map fun z=>.tup [.int ((z.2:Nat):Int),.int ((z.1:Nat):Int)]:=by
 unfold d9 nL;rw [List.zipIdx_map,List.map_map];rfl
@[simp] theorem Kj:g7 st (.tup xs)=some xs:=rfl
@[simp] theorem qA:mS st (.fz xs)=some ⟨xs,[]⟩:=rfl
@[simp] theorem EQ:hU st (.fz xs)=some ⟨xs,[]⟩:=rfl
@[simp] theorem d6:bw st (.fz xs)=some xs:=rfl
theorem jd {k:Nat} (h:st[k]?=some (.lst xs)):hU st (.ref k)=some ⟨xs,[(k,.lst xs)]⟩:=by
 unfold hU dr;simp only [h]
theorem og {k:Nat} (h:st[k]?=some (.lst xs)):mS st (.ref k)=some ⟨xs,[(k,.lst xs)]⟩:=by
 have:g7 st (.ref k)=none:=by unfold g7 dr;simp only [h]
 unfold mS;dsimp only;rw [this];exact jd h
@[simp] theorem cF:ce [] st=true:=rfl
theorem sQ:jx (nL l)=some (l.map fun q=>((q:Nat):Int)):=by
 unfold jx nL;exact eW (f:=fun x=>match x with | .int i=>some i | _=>none) (i:=fun q:Nat=>AV.int q) (g:=fun q=>((q:Nat):Int)) (fun _=>rfl) l
theorem BX:jx (iL l)=some l:=by
 unfold jx iL
 have:=eW (f:=fun x:AV=>match x with | .int i=>some i | _=>none) (i:=fun q:Int=>AV.int q) (g:=fun q=>q) (fun _=>rfl) l
 rw [List.map_id'] at this;exact this
noncomputable def oN:Option Nat->AV
 | none=>.non
 | some c=>.int (c:Int)
noncomputable def bU (S:Sh):List Nat:=(S.hd.zipIdx.filter fun z=>!decide (z.1 ∈ S.nl)).map (·.2)
theorem gy {w m:Nat} (P:SX.Md w m S) {j:Nat}:j ∈ bU S ↔ j < w/\S.h j ∉ S.nl:=by
 unfold bU;simp only [yB,List.mem_filter,Prod.exists];constructor
 ·rintro ⟨q,i,⟨h1,h2⟩,rfl⟩
  have h3:=List.mem_zipIdx' h1;have hi:i < S.hd.length:=h3.1;refine ⟨by rw [<- P.hd];exact hi,?_⟩;have:S.h i=q:=by
   show S.hd.getD i 0=q;rw [zD,zF hi,h3.2];rfl
  rw [this];simpa using h2
 ·rintro ⟨h1,h2⟩
  have hi:j < S.hd.length:=by rw [P.hd];exact h1
  refine ⟨S.h j,j,⟨?_,by simpa using h2⟩,rfl⟩;have e:S.h j=S.hd[j]:=by
   show S.hd.getD j 0=_;rw [zD,zF hi];rfl
  rw [e,List.mem_zipIdx_iff_getElem?];exact zF hi
theorem bG {n:Nat} (h:n <= 1000):dP n=true:=yJ oM
theorem Er {l:List Nat}{key:EF}{sl:Sl}{st:aa}{f:Nat->Nat} (h:∀ q ∈ l,key (sl++[some (.int ((q:Nat):Int))]) st=some (.int ((f q:Nat):Int),st)):bE (vW key sl st) (l.map fun q=>((q:Nat):Int))=some (l.map fun q=>((f q:Nat):Int)):=by
 induction l with
 | nil=>rfl
 | cons x l ih =>
  have h1:vW key sl st (x:Int)=some ((f x:Nat):Int):=by unfold vW;rw [h x z6]
  simp only [zO,bE,h1,ih fun q hq=>h q (zQ _ hq),bind_some,map_some]
def fk (gd:Gd) (g:GF) (s:SF) (xs:List AV):Out->Option Out
 | .nx sl st=>df gd g s xs sl st
 | .ct sl st=>df gd g s xs sl st
 | .bk sl st=>some (.nx sl st)
 | .rt v st=>some (.rt v st)
theorem wd (hg:ce gd st=true) (h1:g x sl st=some p) (h2:s p.1 p.2=some o):df gd g s (x::xs) sl st=fk gd g s xs o:=by
 show (if ce gd st=true then (g x sl st).bind _ else none)=_;rw [yG hg,h1,bind_some,h2,bind_some];cases o <;> rfl
theorem lf {gd:Gd}{g:GF}{s:SF}{I:Nat->Sl->aa->Prop}{Post:AV->aa->Prop}{xs:List AV} (hg:∀ i sl st,i <= xs.length->I i sl st->ce gd st=true)
  (h:∀ i x sl st,xs[i]?=some x->I i sl st->∃ p o,g x sl st=some p/\s p.1 p.2=some o/\((∃ sl2 st2,o=.nx sl2 st2/\I (i + 1) sl2 st2)\/∃ v st2,o=.rt v st2/\Post v st2)) :
  ∀ {sl:Sl}{st:aa},I 0 sl st->(∃ sl' st',df gd g s xs sl st=some (.nx sl' st')/\I xs.length sl' st')\/∃ v st',df gd g s xs sl st=some (.rt v st')/\Post v st':=by
 have go:∀ (r:Nat) (j:Nat) {sl:Sl}{st:aa},j + r=xs.length->I j sl st->(∃ sl' st',df gd g s (xs.drop j) sl st=some (.nx sl' st')/\I xs.length sl' st')\/∃ v st',df gd g s (xs.drop j) sl st=some (.rt v st')/\Post v st':=fun r=>by
  induction r with
  | zero =>
   intro j sl st hj hI;left;rw [List.drop_of_length_le oM];refine ⟨sl,st,?_,by rw [show xs.length=j by omega];exact hI⟩;show (if ce gd st=true then _ else _)=_;rw [yG (hg j sl st oM hI)]
  | succ r ih =>
   intro j sl st hj hI;have hl:j < xs.length:=by omega
   obtain ⟨p,o,h1,h2,h3⟩:=h j xs[j] sl st (zF hl) hI;rw [List.drop_eq_getElem_cons hl];have e:=wd (xs:=xs.drop (j + 1)) (hg j sl st oM hI) h1 h2;rw [e];rcases h3 with ⟨sl2,st2,rfl,h3⟩ | ⟨v,st2,rfl,h3⟩
   ·exact ih (j + 1) oM h3
   ·exact .inr ⟨v,st2,rfl,h3⟩
 intro sl st h0
 have:=go xs.length 0 oM h0
 rw [List.drop_zero] at this;exact this
theorem fq {gd:Gd}{g:GF}{s:SF}{I:Nat->Sl->aa->Prop}{xs:List AV} (hg:∀ i sl st,i <= xs.length->I i sl st->ce gd st=true)
  (h:∀ i x sl st,xs[i]?=some x->I i sl st->∃ p sl2 st2,g x sl st=some p/\s p.1 p.2=some (.nx sl2 st2)/\I (i + 1) sl2 st2) {sl:Sl}{st:aa} (h0:I 0 sl st):∃ sl' st',df gd g s xs sl st=some (.nx sl' st')/\I xs.length sl' st':=by
 rcases lf (Post:=fun _ _=>False) hg (fun i x sl st hx hI=>by
  obtain ⟨p,sl2,st2,a,b,c⟩:=h i x sl st hx hI;exact ⟨p,_,a,b,.inl ⟨sl2,st2,rfl,c⟩⟩) h0 with h | ⟨_,_,_,h⟩
 ·exact h
 ·exact h.elim
theorem ng {i:Nat} (h:(d9 0 xs)[i]?=some y):∃ x,xs[i]?=some x/\y=.tup [.int ((i:Nat):Int),x]:=by
 unfold d9 at h;rw [zR] at h;obtain ⟨z,h1,rfl⟩:=zE.mp h;rw [List.getElem?_zipIdx] at h1;obtain ⟨x,h2,rfl⟩:=zE.mp h1;exact ⟨x,h2,by simp⟩
theorem lj:(d9 0 xs).length=xs.length:=by unfold d9;simp
section
variable {st:aa}{k a b c g n u w m:Nat}{rows:List AV}{S:Sh}{i j q:Nat}{x:AV}{l:List Int}{e e':L8}
theorem aq (h:q ≠ j):(st.set q e')[j]?=st[j]?:=by rw [yS];simp [h]
theorem fE (h:st[q]?=some e):(st.set q e')[q]?=some e':=by
 rw [yS];simp [(zB.mp h).1]
theorem ga (h:st[j]?=some e):(st++ys)[j]?=some e:=by
 rw [zN (zB.mp h).1];exact h
theorem gl:(st++[e])[st.length]?=some e:=by simp
theorem bx (h1:st[i]?=some e) (h2:st[j]?=some e') (h:e ≠ e'):i ≠ j:=fun z=>h (by rw [z,h2] at h1;injection h1 with h1;exact h1.symm)
theorem RowR.set (h:RowR st x l) (hq:∀ r,x=.ref r->q ≠ r):RowR (st.set q e') x l:=by
 rcases h with h | ⟨r,h1,h2⟩
 ·exact .inl h
 ·exact .inr ⟨r,h1,by rw [aq (hq r h1)];exact h2⟩
theorem RowR.app (h:RowR st x l):RowR (st++ys) x l:=by
 rcases h with h | ⟨r,h1,h2 | h2⟩
 ·exact .inl h
 ·exact .inr ⟨r,h1,.inl (ga h2)⟩
 ·exact .inr ⟨r,h1,.inr (ga h2)⟩
theorem Rep.app (R:Rep st k a b c g n u rows S):Rep (st++ys) k a b c g n u rows S :=
 ⟨ga R.hk,ga R.ha,ga R.hb,ga R.hc,ga R.hg,ga R.hn,ga R.hu,R.len,fun i x h=>(R.row i x h).app,R.ab,R.ac,R.bc,R.gn,R.gu,R.nu,R.ra⟩
theorem Rep.rowk (R:Rep st k a b c g n u rows S) {r:Nat} (h:rows[i]?=some (.ref r)):r ≠ k/\r ≠ g/\r ≠ n/\r ≠ u:=by
 have hr:=R.row i _ h;rcases hr with h | ⟨r',h1,h2⟩
 ·cases h
 ·cases h1
  rcases h2 with h2 | h2
  ·exact ⟨bx h2 R.hk (fun z=>nomatch z),bx h2 R.hg (fun z=>nomatch z),bx h2 R.hn (fun z=>nomatch z),bx h2 R.hu (fun z=>nomatch z)⟩
  ·exact ⟨bx h2 R.hk (fun z=>nomatch z),bx h2 R.hg (fun z=>nomatch z),bx h2 R.hn (fun z=>nomatch z),bx h2 R.hu (fun z=>nomatch z)⟩
theorem Rep.fields {a':Nat} (R:Rep st k a b c g n u rows S) (ha:st[a']?=some (.lst rows')) (hb:S'.hd=S.hd) (hc:S'.sd=S.sd) (hg:S'.gd=S.gd) (hn:S'.nl=S.nl) (hu:S'.tn=S.tn) (len:rows'.length=S'.ls.length)
  (row:∀ i x,rows'[i]?=some x->RowR st x (SX.row S' i)) (ab:a' ≠ b) (ac:a' ≠ c) (ra:∀ (i r:Nat),rows'[i]?=some (.ref r)->r ≠ a'/\r ≠ b/\r ≠ c):Rep (st.set k (.ins "Sheet" (cL S'.d a' b c g n u))) k a' b c g n u rows' S':=by
 have na:k ≠ a':=bx R.hk ha (fun z=>nomatch z);refine ⟨fE R.hk,by rw [aq na];exact ha,?_,?_,?_,?_,?_,len,fun i x h=>(row i x h).set fun r e=>?_,ab,ac,R.bc,R.gn,R.gu,R.nu,ra⟩
 ·rw [aq (bx R.hk R.hb (fun z=>nomatch z)),hb];exact R.hb
 ·rw [aq (bx R.hk R.hc (fun z=>nomatch z)),hc];exact R.hc
 ·rw [aq (bx R.hk R.hg (fun z=>nomatch z)),hg];exact R.hg
 ·rw [aq (bx R.hk R.hn (fun z=>nomatch z)),hn];exact R.hn
 ·rw [aq (bx R.hk R.hu (fun z=>nomatch z)),hu];exact R.hu
 ·subst e
  rcases row i _ h with z | ⟨r',h1,h2⟩
  ·cases z
  ·cases h1
   rcases h2 with h2 | h2
   ·exact bx R.hk h2 (fun z=>nomatch z)
   ·exact bx R.hk h2 (fun z=>nomatch z)
theorem Rep.heads (R:Rep st k a b c g n u rows S):Rep (st.set b (.lst (nL hd'))) k a b c g n u rows { S with hd:=hd' } :=
 ⟨by rw [aq (bx R.hb R.hk (fun z=>nomatch z))];exact R.hk,by rw [aq (Ne.symm R.ab)];exact R.ha,fE R.hb,by rw [aq R.bc];exact R.hc,by rw [aq (bx R.hb R.hg (fun z=>nomatch z))];exact R.hg,by rw [aq (bx R.hb R.hn (fun z=>nomatch z))];exact R.hn,
  by rw [aq (bx R.hb R.hu (fun z=>nomatch z))];exact R.hu,R.len,fun i x h=>(R.row i x h).set fun r e=>Ne.symm (R.ra i r (by rw [<- e];exact h)).2.1,R.ab,R.ac,R.bc,R.gn,R.gu,R.nu,R.ra⟩
theorem Rep.sides (R:Rep st k a b c g n u rows S):Rep (st.set c (.lst (nL sd'))) k a b c g n u rows { S with sd:=sd' } :=
 ⟨by rw [aq (bx R.hc R.hk (fun z=>nomatch z))];exact R.hk,by rw [aq (Ne.symm R.ac)];exact R.ha,by rw [aq (Ne.symm R.bc)];exact R.hb,fE R.hc,by rw [aq (bx R.hc R.hg (fun z=>nomatch z))];exact R.hg,by rw [aq (bx R.hc R.hn (fun z=>nomatch z))];exact R.hn,
  by rw [aq (bx R.hc R.hu (fun z=>nomatch z))];exact R.hu,R.len,fun i x h=>(R.row i x h).set fun r e=>Ne.symm (R.ra i r (by rw [<- e];exact h)).2.2,R.ab,R.ac,R.bc,R.gn,R.gu,R.nu,R.ra⟩
theorem Rep.guard (R:Rep st k a b c g n u rows S):Rep (st.set g (.dK (kL gd'))) k a b c g n u rows { S with gd:=gd' } :=
 ⟨by rw [aq (bx R.hg R.hk (fun z=>nomatch z))];exact R.hk,by rw [aq (bx R.hg R.ha (fun z=>nomatch z))];exact R.ha,by rw [aq (bx R.hg R.hb (fun z=>nomatch z))];exact R.hb,by rw [aq (bx R.hg R.hc (fun z=>nomatch z))];exact R.hc,fE R.hg,by rw [aq R.gn];exact R.hn,by rw [aq R.gu];exact R.hu,
  R.len,fun i x h=>(R.row i x h).set fun r e=>Ne.symm (R.rowk (i:=i) (by rw [<- e];exact h)).2.1,R.ab,R.ac,R.bc,R.gn,R.gu,R.nu,R.ra⟩
theorem Rep.nail (R:Rep st k a b c g n u rows S):Rep (st.set n (.dK (kL nl'))) k a b c g n u rows { S with nl:=nl' } :=
 ⟨by rw [aq (bx R.hn R.hk (fun z=>nomatch z))];exact R.hk,by rw [aq (bx R.hn R.ha (fun z=>nomatch z))];exact R.ha,by rw [aq (bx R.hn R.hb (fun z=>nomatch z))];exact R.hb,by rw [aq (bx R.hn R.hc (fun z=>nomatch z))];exact R.hc,by rw [aq (Ne.symm R.gn)];exact R.hg,fE R.hn,by rw [aq R.nu];exact R.hu,
  R.len,fun i x h=>(R.row i x h).set fun r e=>Ne.symm (R.rowk (i:=i) (by rw [<- e];exact h)).2.2.1,R.ab,R.ac,R.bc,R.gn,R.gu,R.nu,R.ra⟩
theorem Rep.turned (R:Rep st k a b c g n u rows S):Rep (st.set u (.dK (kL tn'))) k a b c g n u rows { S with tn:=tn' } :=
 ⟨by rw [aq (bx R.hu R.hk (fun z=>nomatch z))];exact R.hk,by rw [aq (bx R.hu R.ha (fun z=>nomatch z))];exact R.ha,by rw [aq (bx R.hu R.hb (fun z=>nomatch z))];exact R.hb,by rw [aq (bx R.hu R.hc (fun z=>nomatch z))];exact R.hc,by rw [aq (Ne.symm R.gu)];exact R.hg,by rw [aq (Ne.symm R.nu)];exact R.hn,fE R.hu,
  R.len,fun i x h=>(R.row i x h).set fun r e=>Ne.symm (R.rowk (i:=i) (by rw [<- e];exact h)).2.2.2,R.ab,R.ac,R.bc,R.gn,R.gu,R.nu,R.ra⟩
theorem rX {p i:Nat}:SX.row { S with ls:=S.ls.set p l } i=if i=p/\p < S.ls.length then l else SX.row S i:=by
 unfold SX.row;simp only [zD,yS];by_cases h:i=p
 ·subst h
  by_cases h2:i < S.ls.length
  ·simp [h2]
  ·simp [h2]
 ·rw [yF fun z=>h z.symm,yF fun z=>h z.1]
theorem Rep.rowset {p:Nat} (R:Rep st k a b c g n u rows S) (hx:RowR st x l) (hr:∀ r,x=.ref r->r ≠ a/\r ≠ b/\r ≠ c):Rep (st.set a (.lst (rows.set p x))) k a b c g n u (rows.set p x) { S with ls:=S.ls.set p l }:=by
 have hs:∀ i y,(rows.set p x)[i]?=some y->(i=p/\p < rows.length/\y=x)\/(i ≠ p/\rows[i]?=some y):=fun i y h=>by
  rw [yS] at h;by_cases e:p=i
  ·rw [yG e] at h
   split at h
   ·cases h;exact .inl ⟨e.symm,by assumption,rfl⟩
   ·cases h
  ·rw [yF e] at h;exact .inr ⟨fun z=>e z.symm,h⟩
 refine ⟨by rw [aq (bx R.ha R.hk (fun z=>nomatch z))];exact R.hk,fE R.ha,by rw [aq R.ab];exact R.hb,by rw [aq R.ac];exact R.hc,by rw [aq (bx R.ha R.hg (fun z=>nomatch z))];exact R.hg,by rw [aq (bx R.ha R.hn (fun z=>nomatch z))];exact R.hn,
  by rw [aq (bx R.ha R.hu (fun z=>nomatch z))];exact R.hu,by simp [R.len],fun i y h=>?_,R.ab,R.ac,R.bc,R.gn,R.gu,R.nu,fun i r h=>?_⟩
 ·rw [rX]
  rcases hs i y h with ⟨h1,h2,rfl⟩ | ⟨h1,h2⟩
  ·rw [yG ⟨h1,by rw [<- R.len];exact h2⟩];exact hx.set fun r e=>Ne.symm (hr r e).1
  ·rw [yF fun z=>h1 z.1];exact (R.row i y h2).set fun r e=>Ne.symm (R.ra i r (by rw [<- e];exact h2)).1
 ·rcases hs i _ h with ⟨h1,h2,h3⟩ | ⟨h1,h2⟩
  ·exact hr r h3.symm
  ·exact R.ra i r h2
theorem Rep.cellset {p r:Nat} (R:Rep st k a b c g n u rows S) (hp:rows[p]?=some (.ref r)) (ho:∀ i,i ≠ p->rows[i]? ≠ some (.ref r)):Rep (st.set r (.lst (iL l))) k a b c g n u rows { S with ls:=S.ls.set p l }:=by
 obtain ⟨n1,n2,n3⟩:=R.ra p r hp;obtain ⟨n4,n5,n6,n7⟩:=R.rowk hp;have hlt:p < S.ls.length:=by rw [<- R.len];exact (zB.mp hp).1
 refine ⟨by rw [aq n4];exact R.hk,by rw [aq n1];exact R.ha,by rw [aq n2];exact R.hb,by rw [aq n3];exact R.hc,by rw [aq n5];exact R.hg,by rw [aq n6];exact R.hn,by rw [aq n7];exact R.hu,by simp [R.len],fun i y h=>?_,R.ab,R.ac,R.bc,R.gn,R.gu,R.nu,R.ra⟩;rw [rX];by_cases e:i=p
 ·subst e
  rw [yG ⟨rfl,hlt⟩];rw [hp] at h;cases h;rcases R.row i _ hp with z | ⟨r',h1,h2⟩
  ·cases z
  ·cases h1
   rcases h2 with h2 | h2
   ·exact .inr ⟨r,rfl,.inl (fE h2)⟩
   ·exact .inr ⟨r,rfl,.inl (fE h2)⟩
 ·rw [yF fun z=>e z.1]
  exact (R.row i y h).set fun r' e' z=>ho i e (by rw [z,<- e'];exact h)
theorem Rep.freeze {r:Nat} (R:Rep st k a b c g n u rows S) (hp:rows[i]?=some (.ref r)) (hr:st[r]?=some (.lst (iL l))):Rep (st.set r (.al (.fz (iL l)))) k a b c g n u rows S:=by
 obtain ⟨n1,n2,n3⟩:=R.ra i r hp;obtain ⟨n4,n5,n6,n7⟩:=R.rowk hp;refine ⟨by rw [aq n4];exact R.hk,by rw [aq n1];exact R.ha,by rw [aq n2];exact R.hb,by rw [aq n3];exact R.hc,by rw [aq n5];exact R.hg,by rw [aq n6];exact R.hn,by rw [aq n7];exact R.hu,R.len,fun j y h=>?_,R.ab,R.ac,R.bc,R.gn,R.gu,R.nu,R.ra⟩;rcases R.row j y h with z | ⟨r',h1,h2⟩
 ·exact .inl z
 ·by_cases e:r=r'
  ·subst e
   refine .inr ⟨r,h1,.inr ?_⟩;rw [fE hr];rcases h2 with h2 | h2
   ·rw [hr] at h2;injection h2 with h2;injection h2 with h2;rw [h2]
   ·rw [hr] at h2;cases h2
  ·exact .inr ⟨r',h1,by rw [aq e];exact h2⟩
theorem RowR.it (h:RowR st x l):∃ gd,mS st x=some ⟨iL l,gd⟩/\ce gd st=true:=by
 rcases h with rfl | ⟨r,rfl,h | h⟩
 ·exact ⟨[],rfl,rfl⟩
 ·exact ⟨_,og h,fY h⟩
 ·refine ⟨[],?_,rfl⟩
  have:g7 st (.ref r)=none:=by unfold g7 dr;simp only [h]
  unfold mS;dsimp only;rw [this];unfold hU dr;simp only [h]
end
theorem ED {gd:Gd}{g:GF}{t:TF}{f:EF}{sl:Sl}{J:Nat->aa->Prop}{F:Nat->AV}{xs:List AV} (hg:∀ i st,i <= xs.length->J i st->ce gd st=true)
  (h:∀ i x st,xs[i]?=some x->J i st->∃ sl1 st1,g x sl st=some (sl1,st)/\t sl1 st=some (true,st)/\f sl1 st=some (F i,st1)/\J (i + 1) st1) {st:aa} (h0:J 0 st):∃ st',fm gd g t f sl xs st=some ((List.range xs.length).map F,st')/\J xs.length st':=by
 have go:∀ (r j:Nat) {st:aa},j + r=xs.length->J j st->∃ st',fm gd g t f sl (xs.drop j) st=some ((List.range' j r).map F,st')/\J xs.length st':=fun r=>by
  induction r with
  | zero =>
   intro j st hj hJ;rw [List.drop_of_length_le oM];refine ⟨st,?_,by rw [show xs.length=j by omega];exact hJ⟩;show (if ce gd st=true then _ else _)=_;rw [yG (hg j st oM hJ)];rfl
  | succ r ih =>
   intro j st hj hJ;have hl:j < xs.length:=by omega
   obtain ⟨sl1,st1,h1,h2,h3,h4⟩:=h j xs[j] st (zF hl) hJ;obtain ⟨st',e,hJ'⟩:=ih (j + 1) oM h4;refine ⟨st',?_,hJ'⟩;rw [List.drop_eq_getElem_cons hl];show (if ce gd st=true then (g xs[j] sl st).bind _ else none)=_;rw [yG (hg j st oM hJ),h1,bind_some];dsimp only;rw [h2,bind_some,yG rfl];dsimp only;rw [h3,bind_some];dsimp only;rw [e];rfl
 obtain ⟨st',e,hJ⟩:=go xs.length 0 oM h0;rw [List.drop_zero] at e;rw [<- List.range_eq_range'] at e;exact ⟨st',e,hJ⟩
@[simp] theorem ka:(iL l).length=l.length:=by unfold iL;simp
@[simp] theorem mL:(nL l).length=l.length:=by unfold nL;simp
@[simp] theorem dJ:rfs (iL l)=true:=wV
@[simp] theorem c4:rfs (nL l)=true:=g9
theorem gA {q:Nat}{x:Int}:(iL l).set q (.int x)=iL (l.set q x):=by unfold iL;rw [List.map_set]
theorem vQ {q x:Nat}:(nL l).set q (.int (x:Int))=nL (l.set q x):=by unfold nL;rw [List.map_set]
theorem qv {α:Type}{em:α->AV}{F:α->Int}{xs:List α} (hg:ce gd st=true) (h:∀ x ∈ xs,∃ sl1,g (em x) sl st=some (sl1,st)/\t sl1 st=some (true,st)/\f sl1 st=some (.int (F x),st)):fm gd g t f sl (xs.map em) st=some (iL (xs.map F),st):=by
 rw [c7 (B:=fun _=>true) (F:=fun x=>.int (F x)) hg fun x hx=>by obtain ⟨s,a,b,c⟩:=h x hx;exact ⟨s,a,b,fun _=>c⟩];unfold iL;rw [List.map_map,List.filter_eq_self.mpr fun _ _=>rfl];rfl
theorem k9 (hg:ce gd st=true) (h:∀ x ∈ l,∃ sl1,g (.int x) sl st=some (sl1,st)/\t sl1 st=some (true,st)/\f sl1 st=some (.int (F x),st)):fm gd g t f sl (iL l) st=some (iL (l.map F),st):=qv hg h
theorem dS {k q:Nat} (h:st[k]?=some (.lst xs)) (hq:q < xs.length):jt st (.ref k) (.int (q:Int)) x=some (st.set k (.lst (xs.set q x))):=by
 unfold jt;simp only [h];have:j7 xs.length (q:Int)=some q:=by unfold j7;rw [yG oM,yG oM];simp
 rw [this];rfl
theorem oe {k q:Nat} (h:st[k]?=some (.dK (kL l))) (hl:l.length <= 1000):jt st (.ref k) (.int (q:Int)) (.bl true)=some (st.set k (.dK (kL (if q ∈ l then l else l++[q])))):=by
 unfold jt;simp only [h,jv,bind_some];rw [yG (bG (by unfold kL;rw [zH];exact hl))];congr 2;unfold lY kL;by_cases hq:q ∈ l
 ·rw [yG hq,yG (by simp only [List.any_map,List.any_eq_true];exact ⟨q,hq,by simp⟩),List.map_map]
  congr 1;refine List.map_congr_left fun x hx=>?_
  show (if _ then _ else _)=_;split
  ·rfl
  ·rfl
 ·rw [yF hq,yF (by
   simp only [List.any_map,List.any_eq_true,Function.comp];rintro ⟨x,hx,e⟩;have:x=q:=by have:((x:Nat):Int)=((q:Nat):Int):=(by simpa using e);omega
   exact hq (this ▸ hx)),List.map_append]
  rfl
theorem ak (h:cG ks s sl st=some (.nx sl' st')) (h2:(ai ks ss sl' st').bind aF=r):(ai ks (.cons s ss) sl st).bind aF=r:=by
 rw [pK,h,bind_some,vP];exact h2
theorem aR (h:cG ks s sl st=some (.nx sl' st')) (h2:ai ks ss sl' st'=r):ai ks (.cons s ss) sl st=r:=by
 rw [pK,h,bind_some,vP];exact h2
theorem cq (h:cG ks s sl st=some (.rt v st')):(ai ks (.cons s ss) sl st).bind aF=some (v,st'):=by
 rw [pK,h,bind_some,DX];rfl
theorem bW (h:rfs args=true) (h1:fn args []=some (v,st')) (h2:dQ st' v=some t):pm fn args st=some (t,st):=by
 unfold pm;rw [yG h,h1,bind_some];dsimp only;rw [h2];rfl
section
variable {d:Int}{a b c g n u:Nat}
theorem xm {d':Int}:iu "below" (.int d') (cL d a b c g n u)=cL d' a b c g n u:=rfl
theorem xk {a':Nat}:iu "lines" (.ref a') (cL d a b c g n u)=cL d a' b c g n u:=rfl
theorem gU {k:Nat} (h1:ev ks e sl st=some (v,st')) (h2:ev ks o sl st'=some (.ref k,st')) (h3:iP st' cn (.ref k)=some fs) (h4:Nat.ble fs.length 900=true):cG ks (.fl cn f o e) sl st=some (.nx sl (st'.set k (.ins cn (iu f v fs)))):=by
 show vk cn f (ev ks o) (ev ks e) sl st=_;unfold vk;rw [h1,bind_some];dsimp only;rw [h2,bind_some];dsimp only;rw [h3,bind_some,yG h4]
end
theorem nT (h:t sl st=some (false,st')):dG t s 1 sl st=some (.nx sl st'):=by
 show (t sl st).bind _=_;rw [h,bind_some,yF (by simp)]
theorem ms (h:t sl st=some (true,st')) (h2:s sl st'=some (.rt v st2)):dG t s 1 sl st=some (.rt v st2):=by
 show (t sl st).bind _=_;rw [h,bind_some,yG rfl];dsimp only;rw [h2];rfl
theorem nU {n:Nat} (h:t sl st=some (true,st')) (h2:s sl st'=some (.nx sl2 st2)) (h3:dG t s n sl2 st2=some o):dG t s (n + 1) sl st=some o:=by
 show (t sl st).bind _=_;rw [h,bind_some,yG rfl];dsimp only;rw [h2];exact h3
theorem bM {ks:List Fn}{s:Sx}{ss:Mc}{sl sl':Sl}{st st':aa}{Q:AV × aa->Prop} (h:cG ks s sl st=some (.nx sl' st')) (h2:∃ r,(ai ks ss sl' st').bind aF=some r/\Q r):∃ r,(ai ks (.cons s ss) sl st).bind aF=some r/\Q r:=by
 obtain ⟨r,e,q⟩:=h2;exact ⟨r,ak h e,q⟩
def aD (L:List (List Int)):List AV:=L.map fun l=>.fz (iL l)
@[simp] theorem Kg:(aD L).length=L.length:=by unfold aD;simp
@[simp] theorem KD:rfs (aD L)=true:=fT fun x hx=>by obtain ⟨l,_,rfl⟩:=yB.mp hx;rfl
theorem EZ:iL a++iL b=iL (a++b):=by unfold iL;rw [List.map_append]
theorem uv {α:Type}{em:α->AV}{F:α->List Int}{xs:List α} (hg:ce gd st=true) (h:∀ x ∈ xs,∃ sl1,g (em x) sl st=some (sl1,st)/\t sl1 st=some (true,st)/\f sl1 st=some (.fz (iL (F x)),st)):fm gd g t f sl (xs.map em) st=some (aD (xs.map F),st):=by
 rw [c7 (B:=fun _=>true) (F:=fun x=>.fz (iL (F x))) hg fun x hx=>by obtain ⟨s,a,b,c⟩:=h x hx;exact ⟨s,a,b,fun _=>c⟩];unfold aD;rw [List.map_map,List.filter_eq_self.mpr fun _ _=>rfl];rfl
theorem kz (h1:ev ks a sl st=some (x,s1)) (h2:ev ks b sl s1=some (y,s2)) (h3:bw s2 x=some (iL l)) (h4:bw s2 y=some (iL l')) (hl:l.length + l'.length <= 1000):hZ ks (.cat a b) sl st=some (iL (l++l'),s2):=by
 rw [zq];unfold uj;rw [h1,bind_some];dsimp only;rw [h2,bind_some];dsimp only;rw [h3,bind_some,h4,bind_some,yG (bG (by simpa using hl)),EZ]
theorem pv {n:Nat}:db 0 n=nL (List.range n):=by unfold db nL;simp
theorem Ga {w n:Nat}:db (w:Int) n=nL ((List.range n).map (w + ·)):=by unfold db nL;simp [List.map_map,Function.comp_def]
theorem AO {n:Nat}:bE (cO n st) (iL l)=some (iL l):=eW (f:=cO n st) (i:=AV.int) (g:=AV.int) (fun x=>by cases n <;> rfl) l
theorem rW {k:Nat} (h:st[k]?=some (.lst (iL l))):dQ st (.ref k)=some (.fz (iL l)):=by
 show cO 6 st (.ref k)=_;unfold cO;simp only [h,AO,map_some]
theorem CI {k:Nat} (h:st[k]?=some (.al t)):dQ st (.ref k)=some t:=by
 show cO 6 st (.ref k)=_;unfold cO;simp only [h]
theorem jY {fn:Fn}{rest:List AV}{st st':aa}{x v t:AV}{l:List Int} (hx:RowR st x l) (h0:rfs rest=true) (hm:bE (dQ st) rest=some rest) (hf:∀ s,mX s rest=some (rest,s)) (e1:fn (.fz (iL l)::rest) []=some (v,st')) (e2:dQ st' v=some t) (ht:dg t=false) :
  ∃ st1,pm fn (x::rest) st=some (t,st1)/\(st1=st\/∃ r,x=.ref r/\st[r]?=some (.lst (iL l))/\st1=st.set r (.al (.fz (iL l)))):=by
 have aF:∀ r st1,x=.ref r->dQ st (.ref r)=some (.fz (iL l))->oR st (.ref r)=some (.fz (iL l),st1)->pm fn (x::rest) st=some (t,st1):=fun r st1 ex h1 h2=>by
  subst ex;have m:bE (dQ st) (.ref r::rest)=some (.fz (iL l)::rest):=by simp only [bE,h1,hm];rfl
  have f:mX st (.ref r::rest)=some (.fz (iL l)::rest,st1):=by simp only [mX,h2,bind_some,hf];rfl
  unfold pm;rw [yF (by simp [rf]),m,bind_some,e1,bind_some];dsimp only;rw [e2,bind_some,yF (by rw [ht];simp),f,bind_some];dsimp only;rw [e1,bind_some];dsimp only;rw [e2];rfl
 rcases hx with rfl | ⟨r,rfl,h | h⟩
 ·exact ⟨st,bW (by simp [h0]) e1 e2,.inl rfl⟩
 ·exact ⟨_,aF r (st.set r (.al (.fz (iL l)))) rfl (rW h) (by unfold oR;simp [rf,h]),.inr ⟨r,rfl,h,rfl⟩⟩
 ·exact ⟨_,aF r st rfl (CI h) (by unfold oR;simp [rf,h]),.inl rfl⟩
theorem eU:(st++[x]).set st.length y=st++[y]:=by simp
end R
namespace LW
open PySem L2 R
def top (i:Nat):Stmt:=PySem.Challenge.pw_telltight_k84_whole_safes_keep_locks.main.body.getD i (.Pass ⟨0,0,0,0⟩)
def Hr (s:Stmt):List Stmt:=match s with
 | .ClassDef _ _ _ b _ _ _ _ _ _ _=>b
 | _=>[]
def fX (i j:Nat):Stmt:=(Hr (top i)).getD j (.Pass ⟨0,0,0,0⟩)
def f9:Mc:=(.cons (.iff (.cmp .Lt (.v 1) (.bi .len (.cons (.v 0) .nil)))
 (.cons (.rt (.ix (.v 0) (.v 1)))
 .nil)
 .nil)
 (.cons (.rt (.i 0))
 .nil))
def jm:FE:=⟨.f "_law_cell_at" 2,"_law_cell_at",top 68,["_law_script","_law_k"],[],3,[],f9⟩
def im:Mc:=(.cons (.as (.nw true (.li .nil)) (.nm 3))
 (.cons (.as (.v 0) (.nm 4))
 (.cons (.fo (.r1 (.v 1)) (.nm 5)
 (.cons (.iff (.an (.cmp .GtE (.bi .abs (.cons (.v 0) .nil)) (.bin .Pow (.i 10) (.i 18))) (.an (.cmp .NotEq (.v 4) (.i 0)) (.cmp .NotEq (.v 4) (.un .USub (.i 1)))))
 (.cons (.ex (.mt .app (.v 3) (.cons (.bin .Mod (.v 4) (.v 2)) .nil)))
 (.cons (.as (.bin .FloorDiv (.v 4) (.v 2)) (.nm 4))
 .nil))
 (.cons (.as (.bin .Mod (.bin .Add (.bin .Mult (.bin .Add (.v 0) (.i 1009)) (.i 69621)) (.bin .Mult (.i 7919) (.v 5))) (.i 2147483629)) (.nm 6))
 (.cons (.as (.bin .Mod (.bin .Add (.bin .Add (.bin .Mult (.v 6) (.v 6)) (.bin .Mult (.i 17) (.v 5))) (.i 5)) (.i 2147483629)) (.nm 6))
 (.cons (.ex (.mt .app (.v 3) (.cons (.bin .Mod (.bin .FloorDiv (.bin .Mod (.bin .Mult (.v 6) (.v 6)) (.i 2147483587)) (.i 64)) (.v 2)) .nil)))
 .nil))))
 .nil))
 (.cons (.rt (.v 3))
 .nil))))
def kr:FE:=⟨.f "_law_draws" 3,"_law_draws",top 69,["_law_cell","_law_many","_law_base","_law_found","_law_left","_law_k","_law_number"],[],3,[],im⟩
def f8:Mc:=(.cons (.as (.ca true 0 (.cons (.v 0) (.cons (.i 12) (.cons (.i 64) .nil)))) (.nm 2))
 (.cons (.as (.nw true (.li .nil)) (.nm 3))
 (.cons (.fo (.e (.nw false (.sl (.v 2) (.so (.i 2)) (.so (.bin .Add (.i 2) (.bin .Mod (.ix (.v 2) (.i 0)) (.i 11))))))) (.nm 4)
 (.cons (.as (.bin .Mult (.i 2) (.bin .Mod (.v 4) (.bin .LShift (.i 1) (.bin .Sub (.v 1) (.i 1))))) (.nm 5))
 (.cons (.iff (.or (.cmp .Gt (.v 5) (.i 0)) (.cmp .Eq (.bin .Mod (.ix (.v 2) (.i 1)) (.i 8)) (.i 3)))
 (.cons (.ex (.mt .app (.v 3) (.cons (.v 5) .nil)))
 .nil)
 .nil)
 .nil)))
 (.cons (.rt (.v 3))
 .nil))))
def jl:FE:=⟨.f "_law_openers" 2,"_law_openers",top 70,["_law_cell","_law_n","_law_digits","_law_openers_here","_law_digit","_law_g"],[1],6,[],f8⟩
def lQ:Mc:=(.cons (.rt (.bin .Sub (.bin .LShift (.i 1) (.v 0)) (.i 1)))
 .nil)
def lK:FE:=⟨.f "all_names" 1,"all_names",top 6,["n"],[],3,[],lQ⟩
def kE:Mc:=(.cons (.rt (.nw false (.lr3 (.i 0) (.ca true 0 (.cons (.v 0) .nil)) (.i 2))))
 .nil)
def ki:FE:=⟨.f "key_groups" 1,"key_groups",top 56,["n"],[3],6,[],kE⟩
def ow:Mc:=(.cons (.rt (.bi .any (.cons (.nw false (.lc 1 (.e (.v 0)) (.nm 2) .no (.cmp .Eq (.bin .BitAnd (.v 2) (.un .Invert (.v 1))) (.i 0)))) .nil)))
 .nil)
def tq:FE:=⟨.f "opens" 2,"opens",top 57,["openers","group"],[],3,[],ow⟩
def nN:Mc:=(.cons (.rt (.bi .any (.cons (.nw false (.lc 1 (.e (.v 0)) (.nm 2) .no (.an (.cmp .NotEq (.v 2) (.v 1)) (.cmp .Eq (.bin .BitAnd (.v 2) (.un .Invert (.v 1))) (.i 0))))) .nil)))
 .nil)
def ny:FE:=⟨.f "has_less" 2,"has_less",top 63,["groups","group"],[],3,[],nN⟩
def nM:Mc:=(.cons (.rt (.nw false (.lc 1 (.e (.v 0)) (.nm 1) (.so (.no (.va (.ca true 0 (.cons (.v 0) (.cons (.v 1) .nil)))))) (.v 1))))
 .nil)
def nv:FE:=⟨.f "least_of" 1,"least_of",top 64,["groups"],[6],6,[],nM⟩
def fK:Mc:=(.cons (.rt (.ca true 2 (.cons (.nw false (.lc 1 (.e (.ca true 0 (.cons (.v 0) .nil))) (.nm 2) (.so (.va (.ca true 1 (.cons (.v 1) (.cons (.v 2) .nil))))) (.v 2))) .nil)))
 .nil)
def iC:FE:=⟨.f "least_openers" 2,"least_openers",top 65,["n","openers"],[4,5,7],9,[],fK⟩
def nJ:Mc:=(.cons (.rt (.nw true (.lc 1 (.r1 (.v 0)) (.nm 2) (.so (.cmp .NotEq (.bin .BitAnd (.v 1) (.bin .LShift (.i 1) (.v 2))) (.i 0))) (.v 2))))
 .nil)
def nk:FE:=⟨.f "names_in" 2,"names_in",top 21,["n","group"],[],3,[],nJ⟩
def iK:Mc:=(.cons (.as (.ca true 0 (.cons (.v 0) (.cons (.v 1) .nil))) (.nm 2))
 (.cons (.as (.nw true (.lc 1 (.r2 (.i 1) (.v 0)) (.nm 11) .no (.nw true (.li .nil)))) (.nm 3))
 (.cons (.iff (.cmp .Eq (.v 2) (.nw false (.li (.cons (.i 0) .nil))))
 (.cons (.rt (.tu (.cons (.i 0) (.cons (.nw false (.cat (.nw false (.li (.cons (.nw false (.li (.cons (.nw false (.li .nil)) .nil))) .nil))) (.v 3))) .nil))))
 .nil)
 .nil)
 (.cons (.as (.i 1) (.nm 4))
 (.cons (.as (.nw true (.cat (.nw false (.li (.cons (.nw false (.li (.cons (.nw false (.li (.cons (.i 0) .nil))) .nil))) .nil))) (.v 3))) (.nm 5))
 (.cons (.fo (.e (.v 2)) (.nm 6)
 (.cons (.as (.ca false 1 (.cons (.v 0) (.cons (.v 6) .nil))) (.nm 7))
 (.cons (.as (.nw false (.lr2 (.v 4) (.bin .Sub (.bin .Add (.v 4) (.bi .len (.cons (.v 7) .nil))) (.i 1)))) (.nm 8))
 (.cons (.fo (.zi (.v 7) (.v 8)) (.tu 2 (.cons (.nm 9) (.cons (.nm 10) .nil)))
 (.cons (.ex (.mt .app (.ix (.v 5) (.v 9)) (.cons (.nw false (.li (.cons (.v 10) .nil))) .nil)))
 .nil))
 (.cons (.ex (.mt .app (.ix (.v 5) (.ix (.v 7) (.un .USub (.i 1)))) (.cons (.nw false (.cat (.nw false (.li (.cons (.i 0) .nil))) (.v 8))) .nil)))
 (.cons (.au 4 .Add (.bi .len (.cons (.v 8) .nil)))
 .nil))))))
 (.cons (.rt (.tu (.cons (.v 4) (.cons (.v 5) .nil))))
 .nil)))))))
def oV:FE:=⟨.f "safe_of" 2,"safe_of",top 66,["n","openers","least","keys_without","many","views","opener","keys","fresh","key","coin"],[8,9],12,[],iK⟩
def nF:Mc:=(.cons (.as (.nw true (.li .nil)) (.nm 2))
 (.cons (.fo (.e (.ca false 0 (.cons (.bi .len (.cons (.ix (.v 0) (.i 1)) .nil)) (.cons (.v 1) .nil)))) (.nm 3)
 (.cons (.ex (.mt .ext (.v 2) (.cons (.ix (.ix (.v 0) (.i 1)) (.v 3)) .nil)))
 .nil))
 (.cons (.rt (.v 2))
 .nil)))
def nh:FE:=⟨.f "views_of" 2,"views_of",top 27,["heap","g","found","name"],[9],6,[],nF⟩
def pe:Mc:=(.cons (.rt (.bi .sum (.cons (.nw false (.lc 1 (.e (.v 0)) (.nm 1) .no (.bin .LShift (.i 1) (.v 1)))) .nil)))
 .nil)
def oX:FE:=⟨.f "mask_of" 1,"mask_of",top 28,["view"],[],3,[],pe⟩
def kD:Mc:=(.cons (.fo (.e (.v 0)) (.tu 3 (.cons (.nm 3) (.cons (.nm 4) (.cons (.nm 5) .nil))))
 (.cons (.iff (.cmp .NotEq (.bin .BitAnd (.v 1) (.v 3)) (.i 0))
 (.cons (.as (.bin .BitXor (.v 1) (.v 4)) (.nm 1))
 (.cons (.as (.bin .BitXor (.v 2) (.v 5)) (.nm 2))
 .nil))
 .nil)
 .nil))
 (.cons (.rt (.tu (.cons (.v 1) (.cons (.v 2) .nil))))
 .nil))
def kh:FE:=⟨.f "less_lines" 3,"less_lines",top 29,["lines","mask","made","lead","other","how"],[],3,[],kD⟩
def lM:Mc:=(.cons (.as (.bin .LShift (.i 1) (.bin .Sub (.mt .bl (.v 1) .nil) (.i 1))) (.nm 3))
 (.cons (.as (.nw true (.li .nil)) (.nm 4))
 (.cons (.fo (.e (.v 0)) (.tu 3 (.cons (.nm 5) (.cons (.nm 6) (.cons (.nm 7) .nil))))
 (.cons (.iff (.cmp .NotEq (.bin .BitAnd (.v 6) (.v 3)) (.i 0))
 (.cons (.ex (.mt .app (.v 4) (.cons (.tu (.cons (.v 5) (.cons (.bin .BitXor (.v 6) (.v 1)) (.cons (.bin .BitXor (.v 7) (.v 2)) .nil)))) .nil)))
 .nil)
 (.cons (.ex (.mt .app (.v 4) (.cons (.tu (.cons (.v 5) (.cons (.v 6) (.cons (.v 7) .nil)))) .nil)))
 .nil))
 .nil))
 (.cons (.rt (.nw false (.cat (.v 4) (.nw false (.li (.cons (.tu (.cons (.v 3) (.cons (.v 1) (.cons (.v 2) .nil)))) .nil))))))
 .nil))))
def lC:FE:=⟨.f "with_line" 3,"with_line",top 30,["lines","mask","made","lead","changed","other","there","how"],[],3,[],lM⟩
def nK:Mc:=(.cons (.as (.nw false (.li .nil)) (.nm 1))
 (.cons (.fo (.en (.v 0)) (.tu 2 (.cons (.nm 2) (.cons (.nm 3) .nil)))
 (.cons (.as (.ca true 1 (.cons (.v 1) (.cons (.ca true 0 (.cons (.v 3) .nil)) (.cons (.bin .LShift (.i 1) (.v 2)) .nil)))) (.nm 4))
 (.cons (.iff (.cmp .NotEq (.ix (.v 4) (.i 0)) (.i 0))
 (.cons (.as (.ca true 2 (.cons (.v 1) (.cons (.ix (.v 4) (.i 0)) (.cons (.ix (.v 4) (.i 1)) .nil)))) (.nm 1))
 .nil)
 .nil)
 .nil)))
 (.cons (.rt (.v 1))
 .nil)))
def nq:FE:=⟨.f "lines_of" 1,"lines_of",top 31,["views","lines","place","view","left"],[12,13,14],6,[],nK⟩
def pb:Mc:=(.cons (.rt (.bi .len (.cons (.ca true 0 (.cons (.v 0) .nil)) .nil)))
 .nil)
def oW:FE:=⟨.f "rank_of" 1,"rank_of",top 32,["views"],[15],9,[],pb⟩
def kF:Mc:=(.cons (.rt (.nw false (.lc 1 (.r2 (.i 1) (.bin .Add (.ca true 0 (.cons (.bi .len (.cons (.ix (.v 0) (.i 1)) .nil)) .nil)) (.i 1))) (.nm 1) .no (.ca true 2 (.cons (.ca true 1 (.cons (.v 0) (.cons (.v 1) .nil))) .nil)))))
 .nil)
def km:FE:=⟨.f "coin_table" 1,"coin_table",top 33,["heap"],[3,11,16],12,[],kF⟩
def jn:Mc:=(.cons (.as (.nw true (.rep (.cons (.i 0) .nil) (.ca true 0 (.cons (.v 0) .nil)))) (.nm 2))
 (.cons (.fo (.e (.v 1)) (.tu 2 (.cons (.nm 3) (.cons (.nm 4) .nil)))
 (.cons (.iff (.cmp .NotEq (.v 3) (.i 0))
 (.cons (.aus .Add (.v 2) (.bin .Sub (.v 3) (.i 1)) (.v 4))
 .nil)
 .nil)
 .nil))
 (.cons (.rt (.v 2))
 .nil)))
def jg:FE:=⟨.f "row_of_terms" 2,"row_of_terms",top 11,["n","terms","row","group","number"],[3],6,[],jn⟩
def jT:Mc:=(.cons (.iff (.or (.cmp .Lt (.v 0) (.i 1)) (.cmp .Gt (.v 0) (.g "MOST_NAMES" (.int 4))))
 (.cons .dead
 .nil)
 .nil)
 .nil)
def jP:FE:=⟨.f "check_count" 1,"check_count",top 7,["n"],[],3,[],jT⟩
def jS:Mc:=(.cons (.iff (.or (.cmp .Lt (.v 1) (.i 1)) (.cmp .Gt (.v 1) (.ca true 0 (.cons (.v 0) .nil))))
 (.cons .dead
 .nil)
 .nil)
 .nil)
def jO:FE:=⟨.f "check_group" 2,"check_group",top 8,["n","group"],[3],6,[],jS⟩
def jR:Mc:=(.cons (.iff (.cmp .NotEq (.v 1) (.i 0))
 (.cons (.ex (.ca true 0 (.cons (.v 0) (.cons (.v 1) .nil))))
 .nil)
 .nil)
 .nil)
def jN:FE:=⟨.f "check_known" 2,"check_known",top 9,["n","group"],[20],9,[],jR⟩
def nH:Mc:=(.cons (.rt (.ca true 0 (.cons (.v 0) (.cons (.nw false (.li (.cons (.tu (.cons (.bin .BitOr (.v 1) (.v 2)) (.cons (.i 1) .nil))) (.cons (.tu (.cons (.v 2) (.cons (.un .USub (.i 1)) .nil))) .nil)))) .nil))))
 .nil)
def nj:FE:=⟨.f "rest_row" 3,"rest_row",top 12,["n","a","b"],[18],9,[],nH⟩
def tD:Mc:=(.cons (.ex (.ca true 0 (.cons (.v 0) .nil)))
 (.cons (.ex (.ca true 1 (.cons (.v 0) (.cons (.v 1) .nil))))
 (.cons (.ex (.ca true 2 (.cons (.v 0) (.cons (.v 2) .nil))))
 (.cons (.rt (.tu (.cons (.ca true 3 (.cons (.v 0) (.cons (.v 2) (.cons (.v 1) .nil)))) (.cons (.s "=") (.cons (.i 0) .nil)))))
 .nil))))
def tj:FE:=⟨.f "tells" 3,"tells",top 52,["n","a","b"],[19,21,20,22],12,[],tD⟩
def jo:Mc:=(.cons (.ex (.ca true 0 (.cons (.v 0) .nil)))
 (.cons (.ex (.ca true 1 (.cons (.v 0) (.cons (.v 1) .nil))))
 (.cons (.ex (.ca true 1 (.cons (.v 0) (.cons (.v 2) .nil))))
 (.cons (.ex (.ca true 2 (.cons (.v 0) (.cons (.v 3) .nil))))
 .nil))))
def jj:FE:=⟨.f "check_shared" 4,"check_shared",top 10,["n","a","b","c"],[19,20,21],12,[],jo⟩
def kC:Mc:=(.cons (.rt (.ca true 0 (.cons (.v 0) (.cons (.nw false (.li (.cons (.tu (.cons (.bin .BitOr (.v 1) (.v 3)) (.cons (.i 1) .nil))) (.cons (.tu (.cons (.bin .BitOr (.v 2) (.v 3)) (.cons (.i 1) .nil))) (.cons (.tu (.cons (.bin .BitOr (.bin .BitOr (.v 1) (.v 2)) (.v 3)) (.cons (.un .USub (.i 1)) .nil))) (.cons (.tu (.cons (.v 3) (.cons (.un .USub (.i 1)) .nil))) .nil)))))) .nil))))
 .nil)
def kg:FE:=⟨.f "shared_row" 4,"shared_row",top 13,["n","a","b","c"],[18],9,[],kC⟩
def rc:Mc:=(.cons (.ex (.ca true 0 (.cons (.v 0) (.cons (.v 1) (.cons (.v 2) (.cons (.v 3) .nil))))))
 (.cons (.rt (.tu (.cons (.ca true 1 (.cons (.v 0) (.cons (.v 1) (.cons (.v 2) (.cons (.v 3) .nil))))) (.cons (.s "=") (.cons (.i 0) .nil)))))
 .nil))
def qM:FE:=⟨.f "silent" 4,"silent",top 53,["n","a","b","c"],[24,25],15,[],rc⟩
def gH:Mc:=(.cons (.as (.nw true (.li (.cons (.tu (.cons (.ca true 0 (.cons (.v 0) (.cons (.nw false (.li (.cons (.tu (.cons (.g "LOCK" (.int 1)) (.cons (.i 1) .nil))) .nil))) .nil))) (.cons (.s "=") (.cons (.i 1) .nil)))) .nil))) (.nm 2))
 (.cons (.fo (.e (.ca true 1 (.cons (.v 0) .nil))) (.nm 3)
 (.cons (.iff (.va (.ca true 2 (.cons (.v 1) (.cons (.v 3) .nil))))
 (.cons (.ex (.mt .app (.v 2) (.cons (.ca true 3 (.cons (.v 0) (.cons (.v 3) (.cons (.g "LOCK" (.int 1)) .nil)))) .nil)))
 .nil)
 (.cons (.iff (.cmp .NotEq (.v 3) (.i 0))
 (.cons (.ex (.mt .app (.v 2) (.cons (.ca true 4 (.cons (.v 0) (.cons (.g "LOCK" (.int 1)) (.cons (.v 3) (.cons (.i 0) .nil))))) .nil)))
 .nil)
 .nil)
 .nil))
 .nil))
 (.cons (.rt (.v 2))
 .nil)))
def jL:FE:=⟨.f "lock_givens" 2,"lock_givens",top 58,["n","openers","givens","group"],[18,4,5,23,26],18,[],gH⟩
def tB:Mc:=(.cons (.rt (.bi .sum (.cons (.nw false (.lc 2 (.zi (.v 0) (.v 1)) (.tu 2 (.cons (.nm 2) (.cons (.nm 3) .nil))) .no (.bin .Mult (.v 2) (.v 3)))) .nil)))
 .nil)
def tf:FE:=⟨.f "value" 2,"value",top 14,["row","table"],[],3,[],tB⟩
def eI:Mc:=(.cons (.as (.ca true 1 (.cons (.ca true 0 (.cons (.v 0) (.cons (.g "LOCK" (.int 1)) (.cons (.v 3) (.cons (.i 0) .nil))))) (.cons (.v 2) .nil))) (.nm 4))
 (.cons (.rt (.cmp .Eq (.v 4) (.ife (.va (.ca true 2 (.cons (.v 1) (.cons (.v 3) .nil)))) (.ix (.v 2) (.bin .Sub (.g "LOCK" (.int 1)) (.i 1))) (.i 0))))
 .nil))
def gQ:FE:=⟨.f "is_told_rightly" 4,"is_told_rightly",top 60,["n","openers","table","group","told"],[25,28,5],12,[],eI⟩
def iU:Mc:=(.cons (.rt (.nw false (.lc 1 (.e (.ca true 0 (.cons (.v 0) .nil))) (.nm 3) (.so (.no (.va (.ca true 1 (.cons (.v 0) (.cons (.v 1) (.cons (.v 2) (.cons (.v 3) .nil)))))))) (.v 3))))
 .nil)
def lH:FE:=⟨.f "lock_told" 3,"lock_told",top 61,["n","openers","table"],[4,29],15,[],iU⟩
def kG:Mc:=(.cons (.as (.bi .sum (.cons (.nw false (.lc 2 (.zi (.ix (.v 0) (.i 0)) (.v 1)) (.tu 2 (.cons (.nm 3) (.cons (.nm 4) .nil))) .no (.bin .Mult (.v 3) (.v 4)))) .nil)) (.nm 2))
 (.cons (.iff (.cmp .Eq (.ix (.v 0) (.i 1)) (.s "="))
 (.cons (.rt (.cmp .Eq (.v 2) (.ix (.v 0) (.i 2))))
 .nil)
 .nil)
 (.cons (.rt (.cmp .GtE (.v 2) (.ix (.v 0) (.i 2))))
 .nil)))
def kq:FE:=⟨.f "_law_keeps" 2,"_law_keeps",top 74,["_law_given","_law_table","_law_number"],[],3,[],kG⟩
def gE:Mc:=(.cons (.as (.bin .BitOr (.bin .LShift (.i 1) (.v 1)) (.bin .LShift (.i 1) (.v 2))) (.nm 3))
 (.cons (.rt (.nw false (.lc 1 (.r1 (.bin .Add (.ca true 0 (.cons (.v 0) .nil)) (.i 1))) (.nm 4) (.so (.cmp .Eq (.bin .BitAnd (.v 4) (.v 3)) (.i 0))) (.tu (.cons (.s "pair") (.cons (.v 1) (.cons (.v 2) (.cons (.v 4) .nil))))))))
 .nil))
def gB:FE:=⟨.f "pairs_with_known" 3,"pairs_with_known",top 16,["n","i","j","both"],[3],6,[],gE⟩
def tE:Mc:=(.cons (.as (.nw true (.lc 1 (.r1 (.v 0)) (.nm 4) .no (.tu (.cons (.s "last") (.cons (.v 4) .nil))))) (.nm 1))
 (.cons (.fo (.r1 (.v 0)) (.nm 2)
 (.cons (.fo (.r2 (.bin .Add (.v 2) (.i 1)) (.v 0)) (.nm 3)
 (.cons (.ex (.mt .ext (.v 1) (.cons (.ca true 0 (.cons (.v 0) (.cons (.v 2) (.cons (.v 3) .nil)))) .nil)))
 .nil))
 .nil))
 (.cons (.rt (.v 1))
 .nil)))
def tm:FE:=⟨.f "rules" 1,"rules",top 17,["n","found","i","j"],[32],9,[],tE⟩
def nG:Mc:=(.cons (.as (.bin .LShift (.i 1) (.ix (.v 1) (.i 1))) (.nm 2))
 (.cons (.iff (.cmp .Eq (.ix (.v 1) (.i 0)) (.s "last"))
 (.cons (.rt (.ca true 1 (.cons (.v 0) (.cons (.v 2) (.cons (.bin .Sub (.ca true 0 (.cons (.v 0) .nil)) (.v 2)) .nil)))))
 .nil)
 .nil)
 (.cons (.rt (.ca true 2 (.cons (.v 0) (.cons (.v 2) (.cons (.bin .LShift (.i 1) (.ix (.v 1) (.i 2))) (.cons (.ix (.v 1) (.i 3)) .nil))))))
 .nil)))
def ni:FE:=⟨.f "rule_row" 2,"rule_row",top 18,["n","rule","one"],[3,22,25],12,[],nG⟩
def lN:Mc:=(.cons (.rt (.nw false (.lc 1 (.e (.ca true 0 (.cons (.v 0) .nil))) (.nm 1) .no (.ca true 1 (.cons (.v 0) (.cons (.v 1) .nil))))))
 .nil)
def lF:FE:=⟨.f "rule_rows" 1,"rule_rows",top 19,["n"],[33,34],15,[],lN⟩
def fg:Mc:=(.cons (.fl "Sheet" "below" (.v 0) (.i 1))
 (.cons (.fl "Sheet" "lines" (.v 0) (.nw true (.lc 1 (.e (.v 2)) (.nm 3) .no (.nw false (.lof (.v 3))))))
 (.cons (.fl "Sheet" "heads" (.v 0) (.nw true (.lr1 (.v 1))))
 (.cons (.fl "Sheet" "sides" (.v 0) (.nw true (.lr2 (.v 1) (.bin .Add (.v 1) (.bi .len (.cons (.v 2) .nil))))))
 (.cons (.fl "Sheet" "guarded" (.v 0) .dn)
 (.cons (.fl "Sheet" "nailed" (.v 0) .dn)
 (.cons (.fl "Sheet" "turned" (.v 0) .dn)
 .nil)))))))
def ii:FE:=⟨.k "Sheet" 3,"Sheet.__init__",fX 36 0,["self","width","lines"],[],3,[],fg⟩
def gK:Mc:=(.cons (.as (.b true) (.su (.fd "Sheet" "guarded" (.v 0)) (.v 1)))
 .nil)
def jQ:FE:=⟨.m "Sheet" "guard" 2,"Sheet.guard",fX 36 1,["self","quantity"],[],3,[],gK⟩
def fJ:Mc:=(.cons (.as (.nw true (.lc 1 (.e (.ca true 0 (.cons (.v 0) .nil))) (.nm 7) .no (.nw false (.cat (.v 7) (.nw false (.li (.cons (.i 0) .nil))))))) (.nm 3))
 (.cons (.as (.bin .Add (.ca true 1 (.cons (.v 0) .nil)) (.bi .len (.cons (.v 3) .nil))) (.nm 4))
 (.cons (.ex (.mt .ext (.v 3) (.cons (.nw false (.lc 3 (.e (.v 1)) (.tu 3 (.cons (.nm 7) (.cons (.nm 8) (.cons (.nm 9) .nil)))) .no (.nw false (.cat (.nw false (.lof (.v 7))) (.nw false (.li (.cons (.un .USub (.v 9)) .nil))))))) .nil)))
 (.cons (.ex (.mt .app (.v 3) (.cons (.nw false (.cat (.nw false (.lc 1 (.e (.v 2)) (.nm 7) .no (.un .USub (.v 7)))) (.nw false (.li (.cons (.i 0) .nil))))) .nil)))
 (.cons (.as (.ne "Sheet" 2 (.cons (.ca true 1 (.cons (.v 0) .nil)) (.cons (.v 3) .nil))) (.nm 5))
 (.cons (.fo (.r1 (.v 4)) (.nm 6)
 (.cons (.ex (.me "Sheet" "guard" 3 (.v 5) (.cons (.v 6) .nil)))
 .nil))
 (.cons (.rt (.v 5))
 .nil)))))))
def iB:FE:=⟨.f "opening_sheet" 3,"opening_sheet",top 42,["n","givens","goal","lines","guarded","sheet","quantity"],[35,3,36,37],18,[],fJ⟩
def eJ:Mc:=(.cons (.as (.nw false (.lc 1 (.e (.ix (.fd "Sheet" "lines" (.v 0)) (.v 1))) (.nm 2) .no (.un .USub (.v 2)))) (.su (.fd "Sheet" "lines" (.v 0)) (.v 1)))
 (.cons (.as (.b true) (.su (.fd "Sheet" "turned" (.v 0)) (.ix (.fd "Sheet" "sides" (.v 0)) (.v 1))))
 .nil))
def gT:FE:=⟨.m "Sheet" "turn_line" 2,"Sheet.turn_line",fX 36 3,["self","place"],[],3,[],eJ⟩
def dA:Mc:=(.cons (.rt (.nw false (.lc 2 (.en (.fd "Sheet" "heads" (.v 0))) (.tu 2 (.cons (.nm 1) (.cons (.nm 2) .nil))) (.so (.cmp .NotIn (.v 2) (.fd "Sheet" "nailed" (.v 0)))) (.v 1))))
 .nil)
def fv:FE:=⟨.m "Sheet" "loose_columns" 1,"Sheet.loose_columns",fX 36 5,["self"],[],3,[],dA⟩
def di:Mc:=(.cons (.as (.ix (.fd "Sheet" "lines" (.v 0)) (.v 1)) (.nm 2))
 (.cons (.as (.nw false (.lc 1 (.e (.me "Sheet" "loose_columns" 0 (.v 0) .nil)) (.nm 4) (.so (.cmp .Gt (.ix (.v 2) (.v 4)) (.i 0))) (.v 4))) (.nm 3))
 (.cons (.rt (.mnk (.v 3) (.ix (.fd "Sheet" "heads" (.v 0)) (.v 4))))
 .nil)))
def eO:FE:=⟨.m "Sheet" "raising_column" 2,"Sheet.raising_column",fX 36 6,["self","place","line","found"],[40],6,[⟨164,30,164,63⟩],di⟩
def d4:Mc:=(.cons (.as (.bin .Mult (.ix (.ix (.fd "Sheet" "lines" (.v 0)) (.v 1)) (.un .USub (.i 1))) (.un .USub (.ix (.ix (.fd "Sheet" "lines" (.v 0)) (.v 2)) (.v 3)))) (.nm 4))
 (.cons (.as (.bin .Mult (.ix (.ix (.fd "Sheet" "lines" (.v 0)) (.v 2)) (.un .USub (.i 1))) (.un .USub (.ix (.ix (.fd "Sheet" "lines" (.v 0)) (.v 1)) (.v 3)))) (.nm 5))
 (.cons (.rt (.or (.cmp .Lt (.v 4) (.v 5)) (.an (.cmp .Eq (.v 4) (.v 5)) (.cmp .Lt (.ix (.fd "Sheet" "sides" (.v 0)) (.v 1)) (.ix (.fd "Sheet" "sides" (.v 0)) (.v 2))))))
 .nil)))
def gD:FE:=⟨.m "Sheet" "is_tighter" 4,"Sheet.is_tighter",fX 36 8,["self","one","other","column","ahead","behind"],[],3,[],d4⟩
def dh:Mc:=(.cons (.as .n (.nm 2))
 (.cons (.fo (.en (.fd "Sheet" "lines" (.v 0))) (.tu 2 (.cons (.nm 3) (.cons (.nm 4) .nil)))
 (.cons (.iff (.an (.cmp .Lt (.ix (.v 4) (.v 1)) (.i 0)) (.cmp .In (.ix (.fd "Sheet" "sides" (.v 0)) (.v 3)) (.fd "Sheet" "guarded" (.v 0))))
 (.cons (.iff (.or (.cmp .Is (.v 2) .n) (.va (.me "Sheet" "is_tighter" 0 (.v 0) (.cons (.v 3) (.cons (.v 2) (.cons (.v 1) .nil))))))
 (.cons (.as (.v 3) (.nm 2))
 .nil)
 .nil)
 .nil)
 .nil)
 .nil))
 (.cons (.rt (.v 2))
 .nil)))
def eN:FE:=⟨.m "Sheet" "tightest_place" 2,"Sheet.tightest_place",fX 36 9,["self","column","best","place","line"],[42],6,[],dh⟩
def dX:Mc:=(.cons (.as (.bin .Mult (.ix (.ix (.fd "Sheet" "lines" (.v 0)) (.v 1)) (.un .USub (.i 1))) (.ix (.ix (.fd "Sheet" "lines" (.v 0)) (.v 2)) (.v 3))) (.nm 4))
 (.cons (.rt (.cmp .LtE (.v 4) (.bin .Mult (.ix (.ix (.fd "Sheet" "lines" (.v 0)) (.v 2)) (.un .USub (.i 1))) (.ix (.ix (.fd "Sheet" "lines" (.v 0)) (.v 1)) (.v 3)))))
 .nil))
def fQ:FE:=⟨.m "Sheet" "is_up_first" 4,"Sheet.is_up_first",fX 36 10,["self","place","tight","column","up"],[],3,[],dX⟩
def dy:Mc:=(.cons (.as (.ix (.v 1) (.v 2)) (.nm 5))
 (.cons (.as (.ix (.v 0) (.v 2)) (.nm 6))
 (.cons (.iff (.cmp .Eq (.v 6) (.i 0))
 (.cons (.rt (.ife (.cmp .Eq (.v 5) (.v 4)) (.v 0) (.nw false (.lc 1 (.e (.v 0)) (.nm 8) .no (.bin .FloorDiv (.bin .Mult (.v 8) (.v 5)) (.v 4))))))
 .nil)
 .nil)
 (.cons (.as (.nw true (.lc 2 (.zi (.v 0) (.v 1)) (.tu 2 (.cons (.nm 8) (.cons (.nm 9) .nil))) .no (.bin .FloorDiv (.bin .Sub (.bin .Mult (.v 8) (.v 5)) (.bin .Mult (.v 6) (.v 9))) (.v 4)))) (.nm 7))
 (.cons (.as (.bin .Mult (.v 3) (.v 6)) (.su (.v 7) (.v 2)))
 (.cons (.rt (.v 7))
 .nil))))))
def jk:FE:=⟨.f "changed_line" 5,"changed_line",top 35,["line","pivot_line","column","sign","below","pivot","factor","changed"],[],3,[],dy⟩
def fe:Mc:=(.cons (.as (.ife (.cmp .Lt (.ix (.ix (.fd "Sheet" "lines" (.v 0)) (.v 1)) (.v 2)) (.i 0)) (.un .USub (.i 1)) (.i 1)) (.nm 3))
 (.cons (.as (.nw false (.lc 1 (.e (.ix (.fd "Sheet" "lines" (.v 0)) (.v 1))) (.nm 7) .no (.bin .Mult (.v 3) (.v 7)))) (.nm 4))
 (.cons (.as (.fd "Sheet" "below" (.v 0)) (.nm 5))
 (.cons (.fl "Sheet" "lines" (.v 0) (.nw true (.lc 1 (.e (.fd "Sheet" "lines" (.v 0))) (.nm 7) .no (.ca true 0 (.cons (.v 7) (.cons (.v 4) (.cons (.v 2) (.cons (.v 3) (.cons (.v 5) .nil)))))))))
 (.cons (.as (.nw true (.lc 1 (.e (.v 4)) (.nm 7) .no (.un .USub (.v 7)))) (.su (.fd "Sheet" "lines" (.v 0)) (.v 1)))
 (.cons (.as (.bin .Mult (.v 3) (.v 5)) (.su (.ix (.fd "Sheet" "lines" (.v 0)) (.v 1)) (.v 2)))
 (.cons (.fl "Sheet" "below" (.v 0) (.ix (.v 4) (.v 2)))
 (.cons (.as (.ix (.fd "Sheet" "sides" (.v 0)) (.v 1)) (.nm 6))
 (.cons (.as (.ix (.fd "Sheet" "heads" (.v 0)) (.v 2)) (.su (.fd "Sheet" "sides" (.v 0)) (.v 1)))
 (.cons (.as (.v 6) (.su (.fd "Sheet" "heads" (.v 0)) (.v 2)))
 .nil))))))))))
def ie:FE:=⟨.m "Sheet" "exchange" 3,"Sheet.exchange",fX 36 4,["self","place","column","sign","pivot_line","below","freed"],[45],6,[],fe⟩
def fM:Mc:=(.cons (.wh (.cmp .Lt (.ix (.ix (.fd "Sheet" "lines" (.v 0)) (.v 1)) (.un .USub (.i 1))) (.i 0))
 (.cons (.as (.me "Sheet" "raising_column" 0 (.v 0) (.cons (.v 1) .nil)) (.nm 2))
 (.cons (.iff (.cmp .Is (.v 2) .n)
 (.cons (.rt (.b false))
 .nil)
 .nil)
 (.cons (.as (.me "Sheet" "tightest_place" 1 (.v 0) (.cons (.v 2) .nil)) (.nm 3))
 (.cons (.iff (.or (.cmp .Is (.v 3) .n) (.va (.me "Sheet" "is_up_first" 2 (.v 0) (.cons (.v 1) (.cons (.v 3) (.cons (.v 2) .nil))))))
 (.cons (.ex (.me "Sheet" "exchange" 3 (.v 0) (.cons (.v 1) (.cons (.v 2) .nil))))
 (.cons (.rt (.b true))
 .nil))
 .nil)
 (.cons (.ex (.me "Sheet" "exchange" 3 (.v 0) (.cons (.v 3) (.cons (.v 2) .nil))))
 .nil))))))
 (.cons (.rt (.b true))
 .nil))
def ku:FE:=⟨.m "Sheet" "lift" 2,"Sheet.lift",fX 36 11,["self","place","column","tight"],[41,43,44,46],9,[],fM⟩
def dz:Mc:=(.cons (.as (.ix (.fd "Sheet" "lines" (.v 0)) (.v 1)) (.nm 2))
 (.cons (.rt (.mnd (.nw false (.lc 1 (.e (.me "Sheet" "loose_columns" 0 (.v 0) .nil)) (.nm 3) (.so (.cmp .NotEq (.ix (.v 2) (.v 3)) (.i 0))) (.v 3)))))
 .nil))
def fu:FE:=⟨.m "Sheet" "moving_column" 2,"Sheet.moving_column",fX 36 7,["self","place","line"],[40],6,[],dz⟩
def io:Mc:=(.cons (.as (.b true) (.su (.fd "Sheet" "nailed" (.v 0)) (.v 1)))
 .nil)
def kt:FE:=⟨.m "Sheet" "nail" 2,"Sheet.nail",fX 36 2,["self","quantity"],[],3,[],io⟩
def iV:Mc:=(.cons (.as (.ix (.fd "Sheet" "sides" (.v 0)) (.v 1)) (.nm 2))
 (.cons (.iff (.cmp .Gt (.ix (.ix (.fd "Sheet" "lines" (.v 0)) (.v 1)) (.un .USub (.i 1))) (.i 0))
 (.cons (.ex (.me "Sheet" "turn_line" 0 (.v 0) (.cons (.v 1) .nil)))
 .nil)
 .nil)
 (.cons (.iff (.cmp .Lt (.ix (.ix (.fd "Sheet" "lines" (.v 0)) (.v 1)) (.un .USub (.i 1))) (.i 0))
 (.cons (.iff (.no (.va (.me "Sheet" "lift" 1 (.v 0) (.cons (.v 1) .nil))))
 (.cons (.rt (.b false))
 .nil)
 .nil)
 .nil)
 (.cons (.as (.me "Sheet" "moving_column" 2 (.v 0) (.cons (.v 1) .nil)) (.nm 3))
 (.cons (.iff (.cmp .IsNot (.v 3) .n)
 (.cons (.ex (.me "Sheet" "exchange" 3 (.v 0) (.cons (.v 1) (.cons (.v 3) .nil))))
 .nil)
 .nil)
 .nil)))
 (.cons (.ex (.me "Sheet" "nail" 4 (.v 0) (.cons (.v 2) .nil)))
 (.cons (.rt (.b true))
 .nil)))))
def lI:FE:=⟨.f "keep_just" 2,"keep_just",top 43,["sheet","place","quantity","column"],[39,47,48,46,49],12,[],iV⟩
def d7:Mc:=(.cons (.as (.ix (.fd "Sheet" "sides" (.v 0)) (.v 1)) (.nm 2))
 (.cons (.iff (.no (.va (.me "Sheet" "lift" 0 (.v 0) (.cons (.v 1) .nil))))
 (.cons (.rt (.b false))
 .nil)
 .nil)
 (.cons (.ex (.me "Sheet" "guard" 1 (.v 0) (.cons (.v 2) .nil)))
 (.cons (.rt (.b true))
 .nil))))
def ji:FE:=⟨.f "keep_no_less" 2,"keep_no_less",top 44,["sheet","place","quantity"],[47,37],12,[],d7⟩
def lO:Mc:=(.cons (.rt (.tu (.cons (.s "pair") (.cons (.bi .min (.cons (.v 0) (.cons (.v 1) .nil))) (.cons (.bi .max (.cons (.v 0) (.cons (.v 1) .nil))) (.cons (.v 2) .nil))))))
 .nil)
def lG:FE:=⟨.f "pair_rule" 3,"pair_rule",top 22,["one","other","known"],[],3,[],lO⟩
def iN:Mc:=(.cons (.as (.nw true (.li .nil)) (.nm 3))
 (.cons (.fo (.e (.ca false 0 (.cons (.v 0) (.cons (.un .Invert (.bin .BitOr (.v 2) (.bin .LShift (.i 1) (.v 1)))) .nil)))) (.nm 4)
 (.cons (.ex (.mt .app (.v 3) (.cons (.ca true 1 (.cons (.v 1) (.cons (.v 4) (.cons (.v 2) .nil)))) .nil)))
 (.cons (.as (.bin .BitOr (.v 2) (.bin .LShift (.i 1) (.v 4))) (.nm 2))
 .nil)))
 (.cons (.ex (.mt .app (.v 3) (.cons (.tu (.cons (.s "last") (.cons (.v 1) .nil))) .nil)))
 (.cons (.rt (.v 3))
 .nil))))
def iA:FE:=⟨.f "rules_of_name" 3,"rules_of_name",top 23,["n","k","known","used","j"],[9,52],6,[],iN⟩
def iM:Mc:=(.cons (.as (.nw true (.li .nil)) (.nm 3))
 (.cons (.as (.v 2) (.nm 4))
 (.cons (.fo (.e (.ca false 0 (.cons (.v 0) (.cons (.bin .BitAnd (.v 1) (.un .Invert (.v 2))) .nil)))) (.nm 5)
 (.cons (.ex (.mt .ext (.v 3) (.cons (.ca true 1 (.cons (.v 0) (.cons (.v 5) (.cons (.v 4) .nil)))) .nil)))
 (.cons (.as (.bin .BitOr (.v 4) (.bin .LShift (.i 1) (.v 5))) (.nm 4))
 .nil)))
 (.cons (.rt (.v 3))
 .nil))))
def iz:FE:=⟨.f "rules_of_rest" 3,"rules_of_rest",top 24,["n","a","b","used","known","k"],[9,53],9,[],iM⟩
def lP:Mc:=(.cons (.rt (.nw false (.lc 1 (.e (.ca true 0 (.cons (.v 0) .nil))) (.nm 2) .no (.mt .cnt (.v 1) (.cons (.v 2) .nil)))))
 .nil)
def lJ:FE:=⟨.f "how_often" 2,"how_often",top 25,["n","used"],[33],12,[],lP⟩
def eF:Mc:=(.cons (.as (.nw true (.rep (.cons (.i 0) .nil) (.bin .Add (.bi .len (.cons (.fd "Sheet" "heads" (.v 1)) .nil)) (.bi .len (.cons (.fd "Sheet" "sides" (.v 1)) .nil))))) (.nm 3))
 (.cons (.fo (.en (.fd "Sheet" "heads" (.v 1))) (.tu 2 (.cons (.nm 4) (.cons (.nm 5) .nil)))
 (.cons (.as (.un .USub (.ix (.ix (.fd "Sheet" "lines" (.v 1)) (.v 2)) (.v 4))) (.su (.v 3) (.v 5)))
 .nil))
 (.cons (.as (.fd "Sheet" "below" (.v 1)) (.su (.v 3) (.ix (.fd "Sheet" "sides" (.v 1)) (.v 2))))
 (.cons (.fd (.fd "Sheet" "turned" (.v 1)) (.nm 5)
 (.cons (.as (.un .USub (.ix (.v 3) (.v 5))) (.su (.v 3) (.v 5)))
 .nil))
 (.cons (.as (.nw true (.sl (.v 3) (.so (.ca true 0 (.cons (.v 0) .nil))) (.so (.un .USub (.i 1))))) (.nm 6))
 (.cons (.fo (.r2 (.i 1) (.bin .Add (.ca true 0 (.cons (.v 0) .nil)) (.i 1))) (.nm 7)
 (.cons (.as (.ix (.v 3) (.bin .Sub (.v 7) (.i 1))) (.nm 8))
 (.cons (.iff (.cmp .NotEq (.v 8) (.i 0))
 (.cons (.fo (.en (.ca true 2 (.cons (.v 0) (.cons (.ca true 1 (.cons (.v 0) (.cons (.v 7) (.cons (.i 0) .nil)))) .nil)))) (.tu 2 (.cons (.nm 9) (.cons (.nm 10) .nil)))
 (.cons (.aus .Add (.v 6) (.v 9) (.bin .Mult (.v 8) (.v 10)))
 .nil))
 .nil)
 .nil)
 .nil)))
 (.cons (.rt (.v 6))
 .nil)))))))
def gN:FE:=⟨.f "weights_by_line" 3,"weights_by_line",top 45,["n","sheet","place","taken","column","quantity","weights","group","often","rule","count"],[3,54,55],15,[],eF⟩
def dM:Mc:=(.cons (.as (.i 0) (.nm 1))
 (.cons (.fo (.e (.v 0)) (.nm 2)
 (.cons (.as (.bi .abs (.cons (.v 2) .nil)) (.nm 3))
 (.cons (.wh (.cmp .NotEq (.v 3) (.i 0))
 (.cons (.as (.bin .Mod (.v 1) (.v 3)) (.nm 4))
 (.cons (.as (.v 3) (.nm 1))
 (.cons (.as (.v 4) (.nm 3))
 .nil))))
 (.cons (.iff (.cmp .Eq (.v 1) (.i 1))
 (.cons (.rt (.i 1))
 .nil)
 .nil)
 .nil))))
 (.cons (.rt (.v 1))
 .nil)))
def ic:FE:=⟨.f "common_divisor" 1,"common_divisor",top 38,["numbers","divisor","number","other","left"],[],3,[],dM⟩
def dk:Mc:=(.cons (.as (.ca true 0 (.cons (.v 0) .nil)) (.nm 1))
 (.cons (.iff (.cmp .Eq (.v 1) (.i 0))
 (.cons (.rt (.nw false (.lof (.v 0))))
 .nil)
 .nil)
 (.cons (.rt (.nw false (.lc 1 (.e (.v 0)) (.nm 2) .no (.bin .FloorDiv (.v 2) (.v 1)))))
 .nil)))
def gR:FE:=⟨.f "in_lowest_terms" 1,"in_lowest_terms",top 39,["numbers","divisor"],[57],6,[],dk⟩
def ff:Mc:=(.cons (.as (.me "Sheet" "raising_column" 0 (.v 0) (.cons (.v 1) .nil)) (.nm 2))
 (.cons (.wh (.cmp .IsNot (.v 2) .n)
 (.cons (.as (.me "Sheet" "tightest_place" 1 (.v 0) (.cons (.v 2) .nil)) (.nm 3))
 (.cons (.iff (.cmp .Is (.v 3) .n)
 (.cons (.rt (.v 2))
 .nil)
 .nil)
 (.cons (.ex (.me "Sheet" "exchange" 2 (.v 0) (.cons (.v 3) (.cons (.v 2) .nil))))
 (.cons (.as (.me "Sheet" "raising_column" 0 (.v 0) (.cons (.v 1) .nil)) (.nm 2))
 .nil)))))
 (.cons (.rt .n)
 .nil)))
def ig:FE:=⟨.m "Sheet" "drive_up" 2,"Sheet.drive_up",fX 36 12,["self","place","column","tight"],[41,43,46],9,[],ff⟩
def eG:Mc:=(.cons (.as (.ca true 0 (.cons (.nw false (.li (.cons (.v 0) (.cons (.v 1) .nil)))) .nil)) (.nm 2))
 (.cons (.rt (.tu (.cons (.ix (.v 2) (.i 0)) (.cons (.ix (.v 2) (.i 1)) .nil))))
 .nil))
def gO:FE:=⟨.f "lowest_fraction" 2,"lowest_fraction",top 40,["top","bottom","numbers"],[58],9,[],eG⟩
def d3:Mc:=(.cons (.as (.nw true (.rep (.cons (.i 0) .nil) (.ca true 0 (.cons (.v 0) .nil)))) (.nm 3))
 (.cons (.fo (.en (.fd "Sheet" "sides" (.v 1))) (.tu 2 (.cons (.nm 4) (.cons (.nm 5) .nil)))
 (.cons (.iff (.cmp .Lt (.v 5) (.bi .len (.cons (.v 3) .nil)))
 (.cons (.as (.ix (.ix (.fd "Sheet" "lines" (.v 1)) (.v 4)) (.v 2)) (.su (.v 3) (.v 5)))
 .nil)
 .nil)
 .nil))
 (.cons (.rt (.v 3))
 .nil)))
def gC:FE:=⟨.f "groups_in_column" 3,"groups_in_column",top 46,["n","sheet","column","found","place","quantity"],[3],6,[],d3⟩
def f7:Mc:=(.cons (.as (.ca true 0 (.cons (.nw false (.cat (.v 0) (.nw false (.li (.cons (.v 1) .nil))))) .nil)) (.nm 2))
 (.cons (.rt (.tu (.cons (.nw false (.sl (.v 2) .no (.so (.un .USub (.i 1))))) (.cons (.ix (.v 2) (.un .USub (.i 1))) .nil))))
 .nil))
def jh:FE:=⟨.f "lowest_table" 2,"lowest_table",top 41,["numbers","below","found"],[58],9,[],f7⟩
def fb:Mc:=(.cons (.rt (.ca true 1 (.cons (.ca false 0 (.cons (.v 0) (.cons (.v 1) (.cons (.un .USub (.i 1)) .nil)))) (.cons (.fd "Sheet" "below" (.v 1)) .nil))))
 .nil)
def ia:FE:=⟨.f "table_of_sheet" 2,"table_of_sheet",top 47,["n","sheet"],[61,62],12,[],fb⟩
def fc:Mc:=(.cons (.as (.ca true 0 (.cons (.un .USub (.ix (.ix (.fd "Sheet" "lines" (.v 1)) (.v 2)) (.un .USub (.i 1)))) (.cons (.fd "Sheet" "below" (.v 1)) .nil))) (.nm 3))
 (.cons (.as (.ca true 2 (.cons (.nw false (.cat (.ca false 1 (.cons (.v 0) (.cons (.v 1) (.cons (.v 2) .nil)))) (.nw false (.li (.cons (.fd "Sheet" "below" (.v 1)) .nil))))) .nil)) (.nm 4))
 (.cons (.rt (.tu (.cons (.s "least") (.cons (.v 3) (.cons (.ca false 3 (.cons (.v 0) (.cons (.v 1) .nil))) (.cons (.ix (.v 4) (.un .USub (.i 1))) (.cons (.nw false (.sl (.v 4) .no (.so (.un .USub (.i 1))))) .nil)))))))
 .nil)))
def ib:FE:=⟨.f "least_of_sheet" 3,"least_of_sheet",top 49,["n","sheet","place","least","weights"],[60,56,58,63],18,[],fc⟩
def gp:Mc:=(.cons (.as (.ca false 0 (.cons (.v 0) (.cons (.v 1) (.cons (.v 2) .nil)))) (.nm 3))
 (.cons (.iff (.cmp .Lt (.ix (.fd "Sheet" "heads" (.v 1)) (.v 2)) (.bi .len (.cons (.v 3) .nil)))
 (.cons (.as (.fd "Sheet" "below" (.v 1)) (.su (.v 3) (.ix (.fd "Sheet" "heads" (.v 1)) (.v 2))))
 .nil)
 .nil)
 (.cons (.rt (.ca true 1 (.cons (.v 3) .nil)))
 .nil)))
def lE:FE:=⟨.f "way_along" 3,"way_along",top 48,["n","sheet","column","way"],[61,58],9,[],gp⟩
def mo:Mc:=(.cons (.as (.ca false 0 (.cons (.v 0) (.cons (.v 1) (.cons (.v 2) .nil)))) (.nm 3))
 (.cons (.as (.bin .Sub (.bi .len (.cons (.fd "Sheet" "lines" (.v 3)) .nil)) (.i 1)) (.nm 4))
 (.cons (.fo (.es (.v 1) (.bin .Sub (.v 4) (.bi .len (.cons (.v 1) .nil)))) (.tu 2 (.cons (.nm 5) (.cons (.nm 6) .nil)))
 (.cons (.as (.ife (.cmp .Eq (.ix (.v 6) (.i 1)) (.s "=")) (.ca false 1 (.cons (.v 3) (.cons (.v 5) .nil))) (.ca false 2 (.cons (.v 3) (.cons (.v 5) .nil)))) (.nm 7))
 (.cons (.iff (.no (.va (.v 7)))
 (.cons (.rt (.tu (.cons (.s "never") (.cons (.ca true 4 (.cons (.ca false 3 (.cons (.v 0) (.cons (.v 3) (.cons (.v 5) .nil)))) .nil)) .nil))))
 .nil)
 .nil)
 .nil)))
 (.cons (.as (.me "Sheet" "drive_up" 5 (.v 3) (.cons (.v 4) .nil)) (.nm 8))
 (.cons (.iff (.cmp .Is (.v 8) .n)
 (.cons (.rt (.ca false 6 (.cons (.v 0) (.cons (.v 3) (.cons (.v 4) .nil)))))
 .nil)
 .nil)
 (.cons (.rt (.tu (.cons (.s "endless") (.cons (.ca false 7 (.cons (.v 0) (.cons (.v 3) .nil))) (.cons (.ca false 8 (.cons (.v 0) (.cons (.v 3) (.cons (.v 8) .nil)))) .nil)))))
 .nil))))))
def qN:FE:=⟨.f "answer" 3,"answer",top 50,["n","givens","goal","sheet","last","place","given","kept","column"],[38,50,51,56,58,59,64,63,65],21,[],mo⟩
def gJ:Mc:=(.cons (.as (.ca true 0 (.cons (.v 0) (.cons (.nw false (.lc 1 (.r2 (.i 1) (.v 0)) (.nm 3) .no (.tu (.cons (.bin .LShift (.i 1) (.v 3)) (.cons (.i 1) .nil))))) .nil))) (.nm 2))
 (.cons (.rt (.ca true 2 (.cons (.v 0) (.cons (.ca true 1 (.cons (.v 0) (.cons (.v 1) .nil))) (.cons (.v 2) .nil)))))
 .nil))
def jM:FE:=⟨.f "lock_answer" 2,"lock_answer",top 59,["n","openers","keys_alone"],[18,27,66],24,[],gJ⟩
def il:Mc:=(.cons (.fo (.e (.v 0)) (.nm 2)
 (.cons (.iff (.cmp .Eq (.bin .BitAnd (.v 2) (.v 1)) (.v 2))
 (.cons (.rt (.b true))
 .nil)
 .nil)
 .nil))
 (.cons (.rt (.b false))
 .nil))
def kn:FE:=⟨.f "_law_opens" 2,"_law_opens",top 71,["_law_openers_here","_law_g","_law_opener"],[],3,[],il⟩
def fL:Mc:=(.cons (.rt (.nw false (.lc 1 (.r3 (.i 0) (.bin .LShift (.i 1) (.v 0)) (.i 2)) (.nm 2) (.so (.va (.ca true 0 (.cons (.v 1) (.cons (.v 2) .nil))))) (.v 2))))
 .nil)
def iD:FE:=⟨.f "_law_openings" 2,"_law_openings",top 73,["_law_n","_law_openers_here"],[68],6,[],fL⟩
def uS:Mc:=(.cons (.fo (.r1 (.bi .max (.cons (.i 1) (.cons (.bi .min (.cons (.i 6) (.cons (.bi .len (.cons (.v 0) .nil)) .nil))) .nil)))) (.nm 1)
 (.cons (.as (.ca true 0 (.cons (.v 0) (.cons (.v 1) .nil))) (.nm 2))
 (.cons (.as (.bin .Add (.i 2) (.bin .Mod (.v 2) (.i 3))) (.nm 3))
 (.cons (.as (.nw false (.lc 1 (.e (.ca true 1 (.cons (.bin .FloorDiv (.v 2) (.i 3)) (.cons (.v 3) .nil)))) (.nm 11) (.so (.cmp .Gt (.v 11) (.i 0))) (.v 11))) (.nm 4))
 (.cons (.as (.ca true 3 (.cons (.ca true 2 (.cons (.v 3) (.cons (.nw false (.lof (.v 4))) .nil))) .nil)) (.nm 5))
 (.cons (.as (.ca true 4 (.cons (.v 3) (.cons (.nw false (.lof (.v 4))) .nil))) (.nm 6))
 (.cons (.iff (.or (.cmp .In (.b false) (.nw false (.lc 1 (.e (.v 6)) (.nm 11) .no (.ca true 6 (.cons (.v 11) (.cons (.v 5) .nil)))))) (.cmp .NotEq (.ca true 5 (.cons (.v 3) (.cons (.nw false (.lof (.v 4))) (.cons (.nw false (.lof (.v 5))) .nil)))) (.nw false (.li .nil))))
 (.cons (.rt (.b false))
 .nil)
 .nil)
 (.cons (.as (.ca true 7 (.cons (.v 3) (.cons (.nw false (.lof (.v 4))) .nil))) (.nm 7))
 (.cons (.as (.bi .sum (.cons (.nw false (.lc 1 (.r2 (.i 1) (.v 3)) (.nm 11) .no (.ix (.v 5) (.bin .Sub (.bin .LShift (.i 1) (.v 11)) (.i 1))))) .nil)) (.nm 8))
 (.cons (.iff (.or (.cmp .NotEq (.ix (.v 7) (.i 0)) (.s "least")) (.cmp .Gt (.ix (.ix (.v 7) (.i 1)) (.i 0)) (.bin .Mult (.v 8) (.ix (.ix (.v 7) (.i 1)) (.i 1)))))
 (.cons (.rt (.b false))
 .nil)
 .nil)
 (.cons (.as (.nw false (.lc 1 (.e (.ca true 1 (.cons (.bin .Add (.bin .FloorDiv (.v 2) (.i 5)) (.i 1)) (.cons (.v 3) .nil)))) (.nm 11) (.so (.cmp .Gt (.v 11) (.i 0))) (.v 11))) (.nm 9))
 (.cons (.as (.cmp .Eq (.ca true 8 (.cons (.v 3) (.cons (.v 9) .nil))) (.ca true 8 (.cons (.v 3) (.cons (.v 4) .nil)))) (.nm 10))
 (.cons (.iff (.cmp .NotEq (.cmp .Eq (.ca true 5 (.cons (.v 3) (.cons (.v 9) (.cons (.nw false (.lof (.v 5))) .nil)))) (.nw false (.li .nil))) (.v 10))
 (.cons (.rt (.b false))
 .nil)
 .nil)
 .nil)))))))))))))
 (.cons (.rt (.b true))
 .nil))
def e_law:FE:=⟨.f "law" 1,"law",top 75,["_law_script","_law_k","_law_cell","_law_n","_law_openers_here","_law_table","_law_givens","_law_found","_law_alone","_law_other","_law_alike"],[0,2,10,17,27,30,31,67,69],27,[],uS⟩
noncomputable def gs:List (Str × AV):=[("LOCK",.int 1),("MOST_NAMES",.int 4)]
noncomputable def cl:List (Str × List Str):=[("Sheet",["below","guarded","heads","lines","nailed","sides","turned"])]
noncomputable def pre:List FE:=[jm,kr,jl,lK,ki,tq,ny,nv,iC,nk,oV,nh,oX,kh,lC,nq,oW,km,jg,jP,jO,jN,nj,tj,jj,kg,qM,jL,tf,gQ,lH,kq,gB,tm,ni,lF,ii,jQ,iB,gT,fv,eO,gD,eN,fQ,jk,ie,ku,fu,kt,lI,ji,lG,iA,iz,lJ,gN,ic,gR,ig,gO,gC,jh,ia,ib,lE,qN,jM,kn,iD]
theorem B9:kx gs cl [] pre=true:=by decide +kernel
theorem Cb:e_law.chk gs cl pre=true:=by decide +kernel
instance:L7:=⟨[(272,⟨164,30,164,63⟩,("Sheet.raising_column":Str)++".<locals>."++"<lambda>")]⟩
theorem Dp {K:Frag}{h:Heap}{mg:Str->Option Value} (X:K.In h) (G:h.Ns mainGlobals mg) (Mf:nQ K "Sheet") (Nt:FactN K "Sheet") (MO:FactF K "_law_cell_at" jm) (M3:FactF K "_law_draws" kr) (MK:FactF K "_law_openers" jl) (Nc:FactF K "all_names" lK) (M2:FactF K "key_groups" ki) (Nw:FactF K "opens" tq) (Nm:FactF K "has_less" ny) (Ng:FactF K "least_of" nv) (MH:FactF K "least_openers" iC) (Ni:FactF K "names_in" nk) (Np:FactF K "safe_of" oV) (Nl:FactF K "views_of" nh) (Nn:FactF K "mask_of" oX) (MZ:FactF K "less_lines" kh) (Nf:FactF K "with_line" lC) (Nh:FactF K "lines_of" nq) (No:FactF K "rank_of" oW) (M4:FactF K "coin_table" km) (MP:FactF K "row_of_terms" jg) (MT:FactF K "check_count" jP) (MS:FactF K "check_group" jO) (MW:FactF K "check_known" jN) (Nk:FactF K "rest_row" nj) (Ny:FactF K "tells" tj) (MM:FactF K "check_shared" jj) (M6:FactF K "shared_row" kg) (Nq:FactF K "silent" qM) (MU:FactF K "lock_givens" jL) (Nv:FactF K "value" tf) (Mx:FactF K "is_told_rightly" gQ) (Na:FactF K "lock_told" lH) (M1:FactF K "_law_keeps" kq) (Mr:FactF K "pairs_with_known" gB) (Nu:FactF K "rules" tm) (Nj:FactF K "rule_row" ni) (M9:FactF K "rule_rows" lF) (MB:FactM K "Sheet" "__init__" ii) (MV:FactM K "Sheet" "guard" jQ) (MI:FactF K "opening_sheet" iB) (Mv:FactM K "Sheet" "turn_line" gT) (Mn:FactM K "Sheet" "loose_columns" fv) (Mh:FactM K "Sheet" "raising_column" eO) (Ms:FactM K "Sheet" "is_tighter" gD) (Ml:FactM K "Sheet" "tightest_place" eN) (Mp:FactM K "Sheet" "is_up_first" fQ) (ML:FactF K "changed_line" jk) (My:FactM K "Sheet" "exchange" ie) (M5:FactM K "Sheet" "lift" ku) (Mm:FactM K "Sheet" "moving_column" fu) (M0:FactM K "Sheet" "nail" kt) (Nb:FactF K "keep_just" lI) (MN:FactF K "keep_no_less" ji) (M8:FactF K "pair_rule" lG) (MJ:FactF K "rules_of_name" iA) (ME:FactF K "rules_of_rest" iz) (M7:FactF K "how_often" lJ) (Mt:FactF K "weights_by_line" gN) (MA:FactF K "common_divisor" ic) (Mu:FactF K "in_lowest_terms" gR) (MD:FactM K "Sheet" "drive_up" ig) (Mw:FactF K "lowest_fraction" gO) (Mq:FactF K "groups_in_column" gC) (MQ:FactF K "lowest_table" jh) (Mz:FactF K "table_of_sheet" ia) (MC:FactF K "least_of_sheet" ib) (Nd:FactF K "way_along" lE) (Nr:FactF K "answer" qN) (MX:FactF K "lock_answer" jM) (MY:FactF K "_law_opens" kn) (MG:FactF K "_law_openings" iD):∀ base:Heap,K.In base->iq mg base->∀ e ∈ pre,e.ok K mg base:=by
 intro base B hb e he;simp only [pre,zT,zX,or_false] at he;rcases he with rfl | rfl | rfl | rfl | rfl | rfl | rfl | rfl | rfl | rfl | rfl | rfl | rfl | rfl | rfl | rfl | rfl | rfl | rfl | rfl | rfl | rfl | rfl | rfl | rfl | rfl | rfl | rfl | rfl | rfl | rfl | rfl | rfl | rfl | rfl | rfl | rfl | rfl | rfl | rfl | rfl | rfl | rfl | rfl | rfl | rfl | rfl | rfl | rfl | rfl | rfl | rfl | rfl | rfl | rfl | rfl | rfl | rfl | rfl | rfl | rfl | rfl | rfl | rfl | rfl | rfl | rfl | rfl | rfl | rfl
 ·exact FactF.ok rfl MO X G B hb
 ·exact FactF.ok rfl M3 X G B hb
 ·exact FactF.ok rfl MK X G B hb
 ·exact FactF.ok rfl Nc X G B hb
 ·exact FactF.ok rfl M2 X G B hb
 ·exact FactF.ok rfl Nw X G B hb
 ·exact FactF.ok rfl Nm X G B hb
 ·exact FactF.ok rfl Ng X G B hb
 ·exact FactF.ok rfl MH X G B hb
 ·exact FactF.ok rfl Ni X G B hb
 ·exact FactF.ok rfl Np X G B hb
 ·exact FactF.ok rfl Nl X G B hb
 ·exact FactF.ok rfl Nn X G B hb
 ·exact FactF.ok rfl MZ X G B hb
 ·exact FactF.ok rfl Nf X G B hb
 ·exact FactF.ok rfl Nh X G B hb
 ·exact FactF.ok rfl No X G B hb
 ·exact FactF.ok rfl M4 X G B hb
 ·exact FactF.ok rfl MP X G B hb
 ·exact FactF.ok rfl MT X G B hb
 ·exact FactF.ok rfl MS X G B hb
 ·exact FactF.ok rfl MW X G B hb
 ·exact FactF.ok rfl Nk X G B hb
 ·exact FactF.ok rfl Ny X G B hb
 ·exact FactF.ok rfl MM X G B hb
 ·exact FactF.ok rfl M6 X G B hb
 ·exact FactF.ok rfl Nq X G B hb
 ·exact FactF.ok rfl MU X G B hb
 ·exact FactF.ok rfl Nv X G B hb
 ·exact FactF.ok rfl Mx X G B hb
 ·exact FactF.ok rfl Na X G B hb
 ·exact FactF.ok rfl M1 X G B hb
 ·exact FactF.ok rfl Mr X G B hb
 ·exact FactF.ok rfl Nu X G B hb
 ·exact FactF.ok rfl Nj X G B hb
 ·exact FactF.ok rfl M9 X G B hb
 ·exact FactN.ok rfl MB Nt X G B hb
 ·exact FactM.ok rfl MV Mf X G B hb
 ·exact FactF.ok rfl MI X G B hb
 ·exact FactM.ok rfl Mv Mf X G B hb
 ·exact FactM.ok rfl Mn Mf X G B hb
 ·exact FactM.ok rfl Mh Mf X G B hb
 ·exact FactM.ok rfl Ms Mf X G B hb
 ·exact FactM.ok rfl Ml Mf X G B hb
 ·exact FactM.ok rfl Mp Mf X G B hb
 ·exact FactF.ok rfl ML X G B hb
 ·exact FactM.ok rfl My Mf X G B hb
 ·exact FactM.ok rfl M5 Mf X G B hb
 ·exact FactM.ok rfl Mm Mf X G B hb
 ·exact FactM.ok rfl M0 Mf X G B hb
 ·exact FactF.ok rfl Nb X G B hb
 ·exact FactF.ok rfl MN X G B hb
 ·exact FactF.ok rfl M8 X G B hb
 ·exact FactF.ok rfl MJ X G B hb
 ·exact FactF.ok rfl ME X G B hb
 ·exact FactF.ok rfl M7 X G B hb
 ·exact FactF.ok rfl Mt X G B hb
 ·exact FactF.ok rfl MA X G B hb
 ·exact FactF.ok rfl Mu X G B hb
 ·exact FactM.ok rfl MD Mf X G B hb
 ·exact FactF.ok rfl Mw X G B hb
 ·exact FactF.ok rfl Mq X G B hb
 ·exact FactF.ok rfl MQ X G B hb
 ·exact FactF.ok rfl Mz X G B hb
 ·exact FactF.ok rfl MC X G B hb
 ·exact FactF.ok rfl Nd X G B hb
 ·exact FactF.ok rfl Nr X G B hb
 ·exact FactF.ok rfl MX X G B hb
 ·exact FactF.ok rfl MY X G B hb
 ·exact FactF.ok rfl MG X G B hb
def aU:Fn:=run 2 (ai [] f9)
def bh:Fn:=run 7 (ai [] im)
def aN:Fn:=run 6 (ai [bh] f8)
def ah:Fn:=run 1 (ai [] lQ)
def aI:Fn:=run 1 (ai [ah] kE)
def cT:Fn:=run 2 (ai [] ow)
def jI:Fn:=run 2 (ai [] nN)
def bZ:Fn:=run 1 (ai [jI] nM)
def cH:Fn:=run 2 (ai [aI,cT,bZ] fK)
def dO:Fn:=run 2 (ai [] nJ)
def cg:Fn:=run 11 (ai [cH,dO] iK)
def jE:Fn:=run 4 (ai [dO] nF)
def kQ:Fn:=run 1 (ai [] pe)
def ip:Fn:=run 6 (ai [] kD)
def iY:Fn:=run 8 (ai [] lM)
def jH:Fn:=run 5 (ai [kQ,ip,iY] nK)
def kP:Fn:=run 1 (ai [jH] pb)
def bF:Fn:=run 1 (ai [ah,jE,kP] kF)
def bT:Fn:=run 5 (ai [ah] jn)
def eT:Fn:=run 1 (ai [] jT)
def dU:Fn:=run 2 (ai [ah] jS)
def eS:Fn:=run 2 (ai [dU] jR)
def gZ:Fn:=run 3 (ai [bT] nH)
def lv:Fn:=run 3 (ai [eT,eS,dU,gZ] tD)
def gg:Fn:=run 4 (ai [eT,dU,eS] jo)
def dD:Fn:=run 4 (ai [bT] kC)
def jF:Fn:=run 4 (ai [gg,dD] rc)
def aK:Fn:=run 4 (ai [bT,aI,cT,lv,jF] gH)
def jp:Fn:=run 2 (ai [] tB)
def aQ:Fn:=run 5 (ai [dD,jp,cT] eI)
def bH:Fn:=run 3 (ai [aI,aQ] iU)
def bg:Fn:=run 3 (ai [] kG)
def d5:Fn:=run 4 (ai [ah] gE)
def lw:Fn:=run 4 (ai [d5] tE)
def jG:Fn:=run 3 (ai [ah,gZ,dD] nG)
def aL:Fn:=run 1 (ai [lw,jG] lN)
def aA:Fn:=run 3 (ai [] fg)
def aH:Fn:=run 2 (ai [] gK)
def bK:Fn:=run 7 (ai [aL,ah,aA,aH] fJ)
def bq:Fn:=run 2 (ai [] eJ)
def bL:Fn:=run 1 (ai [] dA)
def ay:Fn:=run 4 (ai [bL] di)
def bO:Fn:=run 6 (ai [] d4)
def ax:Fn:=run 5 (ai [bO] dh)
def bn:Fn:=run 5 (ai [] dX)
def bu:Fn:=run 8 (ai [] dy)
def aw:Fn:=run 7 (ai [bu] fe)
def bN:Fn:=run 4 (ai [ay,ax,bn,aw] fM)
def aO:Fn:=run 3 (ai [bL] dz)
def cp:Fn:=run 2 (ai [] io)
def bY:Fn:=run 4 (ai [bq,bN,aO,aw,cp] iV)
def bt:Fn:=run 3 (ai [bN,aH] d7)
def i4:Fn:=run 3 (ai [] lO)
def fO:Fn:=run 5 (ai [dO,i4] iN)
def cm:Fn:=run 6 (ai [dO,fO] iM)
def dj:Fn:=run 2 (ai [lw] lP)
def aJ:Fn:=run 11 (ai [ah,cm,dj] eF)
def b8:Fn:=run 5 (ai [] dM)
def aj:Fn:=run 2 (ai [b8] dk)
def bC:Fn:=run 4 (ai [ay,ax,aw] ff)
def cu:Fn:=run 3 (ai [aj] eG)
def ci:Fn:=run 6 (ai [ah] d3)
def cU:Fn:=run 3 (ai [aj] f7)
def aX:Fn:=run 2 (ai [ci,cU] fb)
def bB:Fn:=run 5 (ai [cu,aJ,aj,aX] fc)
def cj:Fn:=run 4 (ai [ci,aj] gp)
def fi:Fn:=run 9 (ai [bK,bY,bt,aJ,aj,bC,bB,aX,cj] mo)
def ba:Fn:=run 3 (ai [bT,aK,fi] gJ)
def bv:Fn:=run 3 (ai [] il)
def aM:Fn:=run 2 (ai [bv] fL)
def nR:Fn:=run 11 (ai [aU,aN,cg,bF,aK,bH,bg,ba,aM] uS)
def Fs:List Fn:=[aU,bh,aN,ah,aI,cT,jI,bZ,cH,dO,cg,jE,kQ,ip,iY,jH,kP,bF,bT,eT,dU,eS,gZ,lv,gg,dD,jF,aK,jp,aQ,bH,bg,d5,lw,jG,aL,aA,aH,bK,bq,bL,ay,bO,ax,bn,bu,aw,bN,aO,cp,bY,bt,i4,fO,cm,dj,aJ,b8,aj,bC,cu,ci,cU,aX,bB,cj,fi,ba,bv,aM]
theorem ae {fs:List Fn}{e:FE}{r:List FE}{F:Fn} (h:e.fn fs=F):iy fs (e::r)=iy (fs++[F]) r:=by rw [<- h];rfl
theorem Hf:iy [] pre=Fs:=(ae (F:=aU) rfl).trans <| (ae (F:=bh) rfl).trans <| (ae (F:=aN) rfl).trans <| (ae (F:=ah) rfl).trans <| (ae (F:=aI) rfl).trans <| (ae (F:=cT) rfl).trans <| (ae (F:=jI) rfl).trans <| (ae (F:=bZ) rfl).trans <| (ae (F:=cH) rfl).trans <| (ae (F:=dO) rfl).trans <| (ae (F:=cg) rfl).trans <| (ae (F:=jE) rfl).trans <| (ae (F:=kQ) rfl).trans <| (ae (F:=ip) rfl).trans <| (ae (F:=iY) rfl).trans <| (ae (F:=jH) rfl).trans <| (ae (F:=kP) rfl).trans <| (ae (F:=bF) rfl).trans <| (ae (F:=bT) rfl).trans <| (ae (F:=eT) rfl).trans <| (ae (F:=dU) rfl).trans <| (ae (F:=eS) rfl).trans <| (ae (F:=gZ) rfl).trans <| (ae (F:=lv) rfl).trans <| (ae (F:=gg) rfl).trans <| (ae (F:=dD) rfl).trans <| (ae (F:=jF) rfl).trans <| (ae (F:=aK) rfl).trans <| (ae (F:=jp) rfl).trans <| (ae (F:=aQ) rfl).trans <| (ae (F:=bH) rfl).trans <| (ae (F:=bg) rfl).trans <| (ae (F:=d5) rfl).trans <| (ae (F:=lw) rfl).trans <| (ae (F:=jG) rfl).trans <| (ae (F:=aL) rfl).trans <| (ae (F:=aA) rfl).trans <| (ae (F:=aH) rfl).trans <| (ae (F:=bK) rfl).trans <| (ae (F:=bq) rfl).trans <| (ae (F:=bL) rfl).trans <| (ae (F:=ay) rfl).trans <| (ae (F:=bO) rfl).trans <| (ae (F:=ax) rfl).trans <| (ae (F:=bn) rfl).trans <| (ae (F:=bu) rfl).trans <| (ae (F:=aw) rfl).trans <| (ae (F:=bN) rfl).trans <| (ae (F:=aO) rfl).trans <| (ae (F:=cp) rfl).trans <| (ae (F:=bY) rfl).trans <| (ae (F:=bt) rfl).trans <| (ae (F:=i4) rfl).trans <| (ae (F:=fO) rfl).trans <| (ae (F:=cm) rfl).trans <| (ae (F:=dj) rfl).trans <| (ae (F:=aJ) rfl).trans <| (ae (F:=b8) rfl).trans <| (ae (F:=aj) rfl).trans <| (ae (F:=bC) rfl).trans <| (ae (F:=cu) rfl).trans <| (ae (F:=ci) rfl).trans <| (ae (F:=cU) rfl).trans <| (ae (F:=aX) rfl).trans <| (ae (F:=bB) rfl).trans <| (ae (F:=cj) rfl).trans <| (ae (F:=fi) rfl).trans <| (ae (F:=ba) rfl).trans <| (ae (F:=bv) rfl).trans <| (ae (F:=aM) rfl).trans <| rfl
theorem GS:e_law.fn (iy [] pre)=nR:=by rw [Hf];rfl
def IE:Fn:=nR
end LW
namespace LW
open PySem PySem.Spec L2 R
open SX (Sh Md)
def Bd (w m:Nat) (S:Sh):Prop:=S.d.natAbs < 2 ^ 9000/\∀ i,i < m->∀ j,j < w + 1->(S.t i j).natAbs < 2 ^ 9000
section
variable {st:aa}{k a b c g n u w m:Nat}{rows:List AV}{S:Sh}
theorem G3 (R:Rep st k a b c g n u rows S) (P:Md w m S) (B:Bd w m S) {i r q:Nat} (hi:i < m) (hr:r < m) (hq:q < w) :
  bO [.ref k,.int i,.int r,.int q] st=some (.bl (decide (S.t i w * - S.t r q < S.t r w * - S.t i q) || (decide (S.t i w * - S.t r q=S.t r w * - S.t i q) && decide (S.s i < S.s r))),st):=by
 have m1:cP (S.t i w) (- S.t r q)=true:=eK (B.2 i hi w oM) (by rw [Int.natAbs_neg];exact B.2 r hr q oM);have m2:cP (S.t r w) (- S.t i q)=true:=eK (B.2 r hr w oM) (by rw [Int.natAbs_neg];exact B.2 i hi q oM);simp [bO,aG,d4,R.ins,R.line P hi,R.line P hr,R.last P hi,R.last P hr,R.cell P hi (show q < w + 1 by omega),R.cell P hr (show q < w + 1 by omega),c5 m1,c5 m2,R.side P hi,R.side P hr];by_cases h1:S.t i w * -S.t r q < S.t r w * -S.t i q <;> by_cases h2:S.t i w * -S.t r q=S.t r w * -S.t i q <;> simp [h1,h2]
theorem FW (R:Rep st k a b c g n u rows S) (P:Md w m S) (B:Bd w m S) {i r q:Nat} (hi:i < m) (hr:r < m) (hq:q < w) :
  bn [.ref k,.int i,.int r,.int q] st=some (.bl (decide (S.t i w * S.t r q <= S.t r w * S.t i q)),st):=by
 have m1:cP (S.t i w) (S.t r q)=true:=eK (B.2 i hi w oM) (B.2 r hr q oM);have m2:cP (S.t r w) (S.t i q)=true:=eK (B.2 r hr w oM) (B.2 i hi q oM);simp [bn,aG,dX,R.ins,R.line P hi,R.line P hr,R.last P hi,R.last P hr,R.cell P hi (show q < w + 1 by omega),R.cell P hr (show q < w + 1 by omega),c5 m1,c5 m2]
theorem sK (R:Rep st k a b c g n u rows S) (P:Md w m S) (hw:w <= 100):bL [.ref k] st=some (.fz (nL (bU S)),st):=by
 have he:nL (bU S)=(S.hd.zipIdx.filter fun z=>!decide (z.1 ∈ S.nl)).map fun z=>(AV.int ((z.2:Nat):Int)):=by unfold nL bU;rw [List.map_map];rfl
 have hf:=g9 (l:=bU S);rw [he] at hf ⊢;simp [bL,aG,dA,R.ins,jd R.hb,Ho,bG (show S.hd.length <= 1000 by rw [P.hd];omega)];rw [c7 (B:=fun z=>!decide (z.1 ∈ S.nl)) (F:=fun z=>.int ((z.2:Nat):Int)) (fY R.hb) fun z _=>⟨_,rfl,by simp [R.ins,R.nin],fun _=>rfl⟩];simp [hf]
end
end LW
namespace LW
open PySem PySem.Spec L2 R
open SX (Sh Md gI chLine pvl sgn)
theorem Ci:((iL l).zip (iL P)).map (fun z=>AV.tup [z.1,z.2])=(l.zip P).map fun z=>.tup [.int z.1,.int z.2]:=by
 unfold iL;rw [List.zip_map,List.map_map];rfl
section
variable {l P:List Int}{q w:Nat}{sg d:Int}
theorem Ag {M:Nat} (h:∀ x ∈ l,x.natAbs < M) (hM:0 < M) (j:Nat):(gI l j).natAbs < M:=by
 unfold gI;rw [zD];cases e:l[j]? with
 | none=>exact hM
 | some x=>exact h x (zW e)
theorem JT (hl:l.length=w + 1) (hP:P.length=w + 1) (hq:q < w + 1) (hw:w <= 100) (bl:∀ x ∈ l,x.natAbs < 2 ^ 9000) (bP:∀ x ∈ P,x.natAbs < 2 ^ 9000) (hd:d ≠ 0) (bd:d.natAbs < 2 ^ 9000) (bs:sg.natAbs < 2 ^ 9000) :
  ∃ v st',bu [.fz (iL l),.fz (iL P),.int q,.int sg,.int d] []=some (v,st')/\dQ st' v=some (.fz (iL (chLine l P q sg d))):=by
 have hM:(0:Nat) < 2 ^ 9000:=Nat.two_pow_pos _;have x1:∀ st:aa,cE st (.fz (iL P)) (.int (q:Int))=some (.int (gI P q)):=fun st=>by rw [cR d6,cD,cb oM]
 have x2:∀ st:aa,cE st (.fz (iL l)) (.int (q:Int))=some (.int (gI l q)):=fun st=>by rw [cR d6,cD,cb oM]
 have bp:=Ag bP hM q;have bf:=Ag bl hM q;have dv:=qO hd bd;unfold chLine;by_cases h1:gI l q=0
 ·by_cases h2:gI P q=d
  ·refine ⟨.fz (iL l),[],?_,by rw [yG h1,yG h2];rfl⟩
   simp [bu,aG,dy,x1,x2,h1,h2]
  ·refine ⟨.fz (iL (l.map fun x=>SX.fdvS (x * gI P q) d)),[],?_,by rw [yG h1,yF h2];rfl⟩
   simp [bu,aG,dy,x1,x2,h1,h2,bG (show l.length <= 1000 by omega)];rw [k9 (F:=fun x=>SX.fdvS (x * gI P q) d) cF fun x hx=>⟨_,rfl,rfl,by simp [c5 (eK (bl x hx) bp),jB dv];rfl⟩];simp
 ·refine ⟨.ref 0,[.lst (iL (((l.zip P).map fun z=>SX.fdvS (z.1 * gI P q - gI l q * z.2) d).set q (sg * gI l q)))],?_,by rw [yF h1];exact rW rfl⟩
  have ml:=eK bs bf;have hz:((l.zip P).length) <= 1000:=by rw [List.length_zip];omega
  simp [bu,aG,dy,x1,x2,h1,iZ,Ci];rw [yG (bG oM),qv (F:=fun z=>SX.fdvS (z.1 * gI P q - gI l q * z.2) d) cF fun z hz=>⟨_,rfl,rfl,by
   have:=List.of_mem_zip hz
   simp [c5 (eK (bl _ this.1) bp),c5 (eK bf (bP _ this.2)),jB dv];rfl⟩]
  simp [c5 ml];rw [dS (xs:=iL ((l.zip P).map fun z=>SX.fdvS (z.1 * gI P q - gI l q * z.2) d)) rfl (by simp;omega),gA];simp
theorem Hq (hx:RowR st x l) (hl:l.length=w + 1) (hP:P.length=w + 1) (hq:q < w + 1) (hw:w <= 100) (bl:∀ x ∈ l,x.natAbs < 2 ^ 9000) (bP:∀ x ∈ P,x.natAbs < 2 ^ 9000) (hd:d ≠ 0) (bd:d.natAbs < 2 ^ 9000) (bs:sg.natAbs < 2 ^ 9000) :
  ∃ st1,pm bu [x,.fz (iL P),.int q,.int sg,.int d] st=some (.fz (iL (chLine l P q sg d)),st1)/\(st1=st\/∃ r,x=.ref r/\st[r]?=some (.lst (iL l))/\st1=st.set r (.al (.fz (iL l)))):=by
 obtain ⟨v,st',e1,e2⟩:=JT hl hP hq hw bl bP hd bd bs;exact jY (rest:=[.fz (iL P),.int q,.int sg,.int d]) hx (by simp) rfl (fun s=>by simp [mX,oR,rf]) e1 e2 (by simp [dg])
end
section
variable {st:aa}{k a b c g n u w m:Nat}{rows:List AV}{S:Sh}
theorem Bd.row (B:Bd w m S) (P:Md w m S) {i:Nat} (hi:i < m):∀ x ∈ SX.row S i,x.natAbs < 2 ^ 9000:=fun x hx=>by
 obtain ⟨j,hj⟩:=z7 hx;have hl:=(zB.mp hj).1;rw [P.rl hi] at hl
 have:=B.2 i hi j hl
 have e:S.t i j=x:=by show (SX.row S i).getD j 0=x;rw [zD,hj];rfl
 rw [e] at this;exact this
theorem kb (R:Rep st k a b c g n u rows S) (P:Md w m S) (B:Bd w m S) (hd:S.d ≠ 0) (hw:w <= 100) (hm:m <= 1000) {p q:Nat} (hp:p < m) (hq:q < w) :
  ∃ st' a' rows',aw [.ref k,.int p,.int q] st=some (.non,st')/\Rep st' k a' b c g n u rows' (SX.Mj S p q):=by
 have rl:rows.length=m:=by rw [R.len,P.ls]
 obtain ⟨sg,hsg⟩:∃ x,x=sgn (S.t p q):=⟨_,rfl⟩;obtain ⟨pl,hpl⟩:∃ x,x=pvl S p q:=⟨_,rfl⟩;have hpl':pl=(SX.row S p).map fun x=>sg * x:=by rw [hpl,hsg];rfl
 have lp:pl.length=w + 1:=by rw [hpl',zH];exact P.rl hp
 have sa:sg.natAbs=1:=by rw [hsg];unfold sgn;split <;> rfl
 have bs:sg.natAbs < 2 ^ 9000:=by rw [sa];exact Nat.one_lt_two_pow oM
 have bP:∀ x ∈ pl,x.natAbs < 2 ^ 9000:=fun x hx=>by
  rw [hpl'] at hx;obtain ⟨y,hy,rfl⟩:=yB.mp hx;rw [Int.natAbs_mul,sa,Nat.one_mul];exact B.row P hp y hy
 have s1:∃ st1,fm [(a,.lst rows)] (bQ [bu] (.nm 7)) (eM [bu] .no) (ev [bu] (.ca true 0 (.cons (.v 7) (.cons (.v 4) (.cons (.v 2) (.cons (.v 3) (.cons (.v 5) .nil))))))) [some (.ref k),some (.int p),some (.int q),some (.int sg),some (.fz (iL pl)),some (.int S.d),none,none] rows st
   = some ((List.range rows.length).map fun i=>.fz (iL (chLine (SX.row S i) pl q sg S.d)),st1)/\Rep st1 k a b c g n u rows S:=by
  refine ED (J:=fun _ s=>Rep s k a b c g n u rows S) (fun _ s _ R'=>fY R'.ha) (fun i x s hx R'=>?_) R;have hi:i < m:=by rw [<- rl];exact (zB.mp hx).1
  obtain ⟨s1,e1,h1⟩:=Hq (R'.row i x hx) (P.rl hi) lp (show q < w + 1 by omega) hw (B.row P hi) bP hd B.1 bs;refine ⟨_,s1,rfl,rfl,by simp [e1],?_⟩;rcases h1 with rfl | ⟨r,rfl,h2,rfl⟩
  ·exact R'
  ·exact R'.freeze hx h2
 obtain ⟨st1,e1,R1⟩:=s1;obtain ⟨rows2,hr2⟩:∃ x,x=(List.range rows.length).map fun i=>AV.fz (iL (chLine (SX.row S i) pl q sg S.d)):=⟨_,rfl⟩
 rw [<- hr2] at e1;have fz2:∀ i x,rows2[i]?=some x->i < m/\x=.fz (iL (chLine (SX.row S i) pl q sg S.d)):=fun i x h=>by
  rw [hr2,zR] at h;obtain ⟨j,h1,rfl⟩:=zE.mp h;have hl:=(zB.mp h1).1;rw [List.length_range] at hl;rw [List.getElem?_range hl] at h1;cases h1;exact ⟨by omega,rfl⟩
 have l2:rows2.length=m:=by rw [hr2,zH,List.length_range,rl]
 have lt:∀ {s:aa}{i:Nat}{x:L8},s[i]?=some x->i < s.length:=fun h=>(zB.mp h).1
 -- the new lines
 have R2:Rep ((st1++[L8.lst rows2]).set k (.ins "Sheet" (cL S.d st1.length b c g n u))) k st1.length b c g n u rows2 { S with ls:=S.ls.map fun l=>chLine l pl q sg S.d }:=by
  refine Rep.fields (S':={ S with ls:=S.ls.map fun l=>chLine l pl q sg S.d }) (R1.app (ys:=[L8.lst rows2])) gl rfl rfl rfl rfl rfl (by simp [l2,P.ls]) (fun i x h=>?_) (Nat.ne_of_gt (lt R1.hb)) (Nat.ne_of_gt (lt R1.hc)) fun i r h=>?_
  ·obtain ⟨hi,rfl⟩:=fz2 i x h
   left;unfold SX.row;simp [zD,zF (show i < S.ls.length by rw [P.ls];exact hi)]
  ·have:=(fz2 i _ h).2;cases this
 obtain ⟨t2,ht2⟩:∃ x,x=(st1++[L8.lst rows2]).set k (.ins "Sheet" (cL S.d st1.length b c g n u)):=⟨_,rfl⟩;rw [<- ht2] at R2;obtain ⟨a',ha'⟩:∃ x,x=st1.length:=⟨_,rfl⟩;rw [<- ha'] at R2 ht2;have R3:=Rep.rowset (p:=p) (x:=.ref t2.length) (l:=pl.map fun x=>- x) (R2.app (ys:=[L8.lst (iL (pl.map fun x=>- x))])) (.inr ⟨t2.length,rfl,.inl gl⟩) fun r e=>by cases e;exact ⟨Nat.ne_of_gt (lt R2.ha),Nat.ne_of_gt (lt R2.hb),Nat.ne_of_gt (lt R2.hc)⟩
 obtain ⟨t3,ht3⟩:∃ x,x=(t2++[L8.lst (iL (pl.map fun x=>- x))]).set a' (.lst (rows2.set p (.ref t2.length))):=⟨_,rfl⟩;rw [<- ht3] at R3;have g3:t3[t2.length]?=some (.lst (iL (pl.map fun x=>- x))):=by rw [ht3,aq (zU (lt R2.ha))];exact gl
 have p3:(rows2.set p (.ref t2.length))[p]?=some (.ref t2.length):=by simp [l2,hp]
 have R4:=Rep.cellset (l:=(pl.map fun x=>- x).set q (sg * S.d)) R3 p3 fun i ne h=>by
  rw [yS,yF (fun z=>ne z.symm)] at h
  have:=(fz2 i _ h).2;cases this
 obtain ⟨t4,ht4⟩:∃ x,x=t3.set t2.length (.lst (iL ((pl.map fun x=>- x).set q (sg * S.d)))):=⟨_,rfl⟩;rw [<- ht4] at R4;have R5:=Rep.fields (S':={ d:=gI pl q,ls:=_,hd:=S.hd,sd:=S.sd,gd:=S.gd,nl:=S.nl,tn:=S.tn }) R4 R4.ha rfl rfl rfl rfl rfl R4.len R4.row R4.ab R4.ac R4.ra;obtain ⟨t5,ht5⟩:∃ x,x=t4.set k (.ins "Sheet" (cL (gI pl q) a' b c g n u)):=⟨_,rfl⟩;have R5:=ht5 ▸ R5;have R6:=Rep.sides (sd':=S.sd.set p (S.h q)) R5;obtain ⟨t6,ht6⟩:∃ x,x=t5.set c (.lst (nL (S.sd.set p (S.h q)))):=⟨_,rfl⟩;rw [<- ht6] at R6;have R7:=Rep.heads (hd':=S.hd.set q (S.s p)) R6;obtain ⟨t7,ht7⟩:∃ x,x=t6.set b (.lst (nL (S.hd.set q (S.s p)))):=⟨_,rfl⟩;rw [<- ht7] at R7;refine ⟨t7,a',rows2.set p (.ref t2.length),?_,?_⟩
 rotate_left
 ·have e:SX.Mj S p q={ d:=gI pl q,ls:=((S.ls.map fun l=>chLine l pl q sg S.d).set p (pl.map fun x=>- x)).set p ((pl.map fun x=>- x).set q (sg * S.d)),hd:=S.hd.set q (S.s p),sd:=S.sd.set p (S.h q),gd:=S.gd,nl:=S.nl,tn:=S.tn }:=by
   unfold SX.Mj;rw [List.set_set,hpl,hsg]
  rw [e];exact R7
 rw [aw,aG];unfold fe;refine ak (sl':=[some (.ref k),some (.int p),some (.int q),some (.int sg),none,none,none]) (st':=st) ?_ ?_
 ·by_cases h:S.t p q < 0
  ·simp [R.ins,R.line P hp,R.cell P hp (show q < w + 1 by omega),h,hsg,sgn]
  ·simp [R.ins,R.line P hp,R.cell P hp (show q < w + 1 by omega),h,hsg,sgn]
 refine ak (sl':=[some (.ref k),some (.int p),some (.int q),some (.int sg),some (.fz (iL pl)),none,none]) (st':=st) ?_ ?_
 ·obtain ⟨gd,i1,i2⟩:=(R.row p _ (R.rx P hp)).it
  simp [R.ins,R.line P hp,i1,bG (show (SX.row S p).length <= 1000 by rw [P.rl hp];omega)];rw [k9 (F:=fun x=>sg * x) i2 fun x hx=>⟨_,rfl,rfl,by simp [c5 (eK bs (B.row P hp x hx))]⟩];simp [hpl']
 refine ak (sl':=[some (.ref k),some (.int p),some (.int q),some (.int sg),some (.fz (iL pl)),some (.int S.d),none]) (st':=st) (by simp [R.ins]) ?_;refine ak (sl':=[some (.ref k),some (.int p),some (.int q),some (.int sg),some (.fz (iL pl)),some (.int S.d),none]) (st':=t2) ?_ ?_
 ·rw [gU (v:=.ref a') (st':=st1++[.lst rows2]) (k:=k) (by simp [R.ins,og R.ha,rl,bG hm,e1,ha']) (by simp) R1.app.ins rfl,xk,ht2]
 refine ak (sl':=[some (.ref k),some (.int p),some (.int q),some (.int sg),some (.fz (iL pl)),some (.int S.d),none]) (st':=t3) ?_ ?_
 ·simp [bG (show pl.length <= 1000 by omega)]
  rw [k9 (F:=fun x=>- x) cF fun x hx=>⟨_,rfl,rfl,by simp⟩];simp [R2.app.ins,dS (R2.app (ys:=[L8.lst (iL (pl.map fun x=>- x))])).ha (show p < rows2.length by omega),ht3]
 have P4:Md w m { S with ls:=((S.ls.map fun l=>chLine l pl q sg S.d).set p (pl.map fun x=>- x)).set p ((pl.map fun x=>- x).set q (sg * S.d)) }:=by
  have:=SX.exch_shp (c:=q) P hp
  refine ⟨by simp [P.ls],fun l hl=>this.row l ?_,P.hd,P.sd⟩;show l ∈ (S.ls.map fun l=>chLine l (pvl S p q) q (sgn (S.t p q)) S.d).set p _;rw [<- hpl,<- hsg];rw [List.set_set] at hl;exact hl
 have rx:jW (rows2.set p (.ref t2.length)) p=.ref t2.length:=by unfold jW;rw [zD,p3];rfl
 refine ak (sl':=[some (.ref k),some (.int p),some (.int q),some (.int sg),some (.fz (iL pl)),some (.int S.d),none]) (st':=t4) ?_ ?_
 ·have li:cE t3 (.ref a') (.int (p:Int))=some (.ref t2.length):=by rw [cR (ck R3.ha),cD];exact p3
  simp [c5 (eK bs B.1),R3.ins,li,dS g3 (show q < (iL (pl.map fun x=>- x)).length by simp;omega),gA,ht4]
 refine ak (sl':=[some (.ref k),some (.int p),some (.int q),some (.int sg),some (.fz (iL pl)),some (.int S.d),none]) (st':=t5) ?_ ?_
 ·have xi:cE t4 (.fz (iL pl)) (.int (q:Int))=some (.int (gI pl q)):=by rw [cR d6,cD,cb oM]
  rw [gU (v:=.int (gI pl q)) (st':=t4) (k:=k) (by simp [xi]) (by simp) R4.ins rfl,xm,ht5]
 have P5:Md w m { S with d:=gI pl q,ls:=((S.ls.map fun l=>chLine l pl q sg S.d).set p (pl.map fun x=>- x)).set p ((pl.map fun x=>- x).set q (sg * S.d)) }:=⟨P4.ls,P4.row,P4.hd,P4.sd⟩;refine ak (sl':=[some (.ref k),some (.int p),some (.int q),some (.int sg),some (.fz (iL pl)),some (.int S.d),some (.int (S.s p:Int))]) (st':=t5) ?_ ?_
 ·have:=R5.side P5 hp
  simp [R5.ins,this];rfl
 refine ak (sl':=[some (.ref k),some (.int p),some (.int q),some (.int sg),some (.fz (iL pl)),some (.int S.d),some (.int (S.s p:Int))]) (st':=t6) ?_ ?_
 ·have:=R5.head P5 hq
  simp [R5.ins,this,dS R5.hc (show p < (nL S.sd).length by simp [P.sd,hp]),ht6];rw [<- vQ];rfl
 refine ak (sl':=[some (.ref k),some (.int p),some (.int q),some (.int sg),some (.fz (iL pl)),some (.int S.d),some (.int (S.s p:Int))]) (st':=t7) ?_ rfl;simp [R6.ins,dS R6.hb (show q < (nL S.hd).length by simp [P.hd,hq]),ht7,vQ]
end
end LW
namespace LW
open PySem PySem.Spec L2 R
open SX (Sh Md Me Mj)
noncomputable def ins (l:List Nat) (q:Nat):List Nat:=if q ∈ l then l else l++[q]
section
variable {st:aa}{k a b c g n u w m:Nat}{rows:List AV}{S:Sh}{p q:Nat}
theorem sX (R:Rep st k a b c g n u rows S) (hl:S.gd.length <= 1000):∃ st',aH [.ref k,.int q] st=some (.non,st')/\Rep st' k a b c g n u rows { S with gd:=ins S.gd q }:=by
 refine ⟨_,?_,R.guard⟩;simp [aH,aG,gK,R.ins,oe R.hg hl,ins]
theorem Ea (R:Rep st k a b c g n u rows S) (hl:S.nl.length <= 1000):∃ st',cp [.ref k,.int q] st=some (.non,st')/\Rep st' k a b c g n u rows { S with nl:=ins S.nl q }:=by
 refine ⟨_,?_,R.nail⟩;simp [cp,aG,io,R.ins,oe R.hn hl,ins]
theorem Cn (R:Rep st k a b c g n u rows S) (P:Md w m S) (hw:w <= 100) (hp:p < m) (hl:S.tn.length <= 1000):∃ st' rows',bq [.ref k,.int p] st=some (.non,st')/\Rep st' k a b c g n u rows' (SX.trn S p):=by
 have R1:=Rep.rowset (p:=p) (x:=.fz (iL ((SX.row S p).map fun x=>- x))) (l:=(SX.row S p).map fun x=>- x) R (.inl rfl) fun r e=>nomatch e
 have R2:=Rep.turned (tn':=if S.s p ∈ S.tn then S.tn else S.tn++[S.s p]) R1;refine ⟨_,_,?_,R2⟩;obtain ⟨gd,i1,i2⟩:=(R.row p _ (R.rx P hp)).it;have P1:Md w m { S with ls:=S.ls.set p ((SX.row S p).map fun x=>- x) }:=⟨(SX.trn_shp P hp).ls,(SX.trn_shp P hp).row,P.hd,P.sd⟩;rw [bq,aG];unfold eJ;refine ak (sl':=[some (.ref k),some (.int p)]) (st':=st.set a (.lst (rows.set p (.fz (iL ((SX.row S p).map fun x=>- x)))))) ?_ ?_
 ·simp [R.ins,R.line P hp,i1,bG (show (SX.row S p).length <= 1000 by rw [P.rl hp];omega)]
  rw [k9 (F:=fun x=>- x) i2 fun x hx=>⟨_,rfl,rfl,by simp⟩];simp [R.ins,dS R.ha (show p < rows.length by rw [R.len,P.ls];exact hp)]
 ·have:=R1.side P1 hp
  simp [R1.ins,this];rw [oe R1.hu hl];rfl
end
end LW
namespace LW
open PySem PySem.Spec L2 R
open SX (Sh Md openS)
structure Gv where
 row:List Int
 eq:Bool
 num:Int
def Gv.av (x:Gv):AV:=.tup [.fz (iL x.row),.str (if x.eq then "=" else ">"),.int x.num]
def aS (RR:List (List Int)) (gv:List Gv) (goal:List Int):List (List Int):=RR.map (·++[0])++gv.map (fun x=>x.row++[-x.num])++[goal.map (fun x=>- x)++[0]]
section
variable {w:Nat}{L RR:List (List Int)}{gv:List Gv}{goal:List Int}
abbrev oT:List (Str × AV):=[("below",.int 1)]
abbrev Fi:List (Str × AV):=[("below",.int 1),("lines",.ref 2)]
abbrev Fh:List (Str × AV):=[("below",.int 1),("lines",.ref 2),("heads",.ref 3)]
abbrev Fg:List (Str × AV):=[("below",.int 1),("lines",.ref 2),("heads",.ref 3),("sides",.ref 4)]
abbrev Ff:List (Str × AV):=[("below",.int 1),("lines",.ref 2),("heads",.ref 3),("sides",.ref 4),("guarded",.ref 5)]
abbrev Fe:List (Str × AV):=[("below",.int 1),("lines",.ref 2),("heads",.ref 3),("sides",.ref 4),("guarded",.ref 5),("nailed",.ref 6)]
abbrev Kp (w:Nat) (L:List (List Int)):aa:=[.lst (aD L),.ins "Sheet" (cL 1 2 3 4 5 6 7),.lst (aD L),.lst (nL (List.range w)),.lst (nL ((List.range L.length).map (w + ·))),.dK [],.dK [],.dK []]
theorem EW (hw:w <= 100) (hL:L.length <= 400):aA [.ref 1,.int w,.ref 0] [.lst (aD L),.ins "Sheet" []]=some (.non,[.lst (aD L),.ins "Sheet" (cL 1 2 3 4 5 6 7),.lst (aD L),.lst (nL (List.range w)),.lst (nL ((List.range L.length).map (w + ·))),.dK [],.dK [],.dK []]):=by
 have sm:oF (w:Int)=true:=by unfold oF;simp;omega
 have sm2:oF ((w:Int) + (L.length:Int))=true:=by unfold oF;simp;omega
 have l0:∀ X:aa,bw (.lst (aD L)::X) (.ref 0)=some (aD L):=fun X=>ck rfl
 rw [aA,aG];unfold fg;refine ak (st':=[.lst (aD L),.ins "Sheet" oT]) (gU (v:=.int 1) (st':=[.lst (aD L),.ins "Sheet" []]) (k:=1) (fs:=[]) rfl rfl rfl rfl) ?_;refine ak (st':=[.lst (aD L),.ins "Sheet" Fi,.lst (aD L)]) (gU (v:=.ref 2) (st':=[.lst (aD L),.ins "Sheet" oT,.lst (aD L)]) (k:=1) (fs:=oT) ?_ rfl rfl rfl) ?_
 ·have e:=uv (gd:=[(0,.lst (aD L))]) (g:=bQ [] (.nm 3)) (t:=eM [] .no) (f:=ev [] (.nw false (.lof (.v 3)))) (sl:=[some (.ref 1),some (.int w),some (.ref 0),none]) (st:=[.lst (aD L),.ins "Sheet" oT]) (em:=fun l=>.fz (iL l)) (F:=fun l=>l) (xs:=L) (fY rfl) fun l hl=>⟨_,rfl,rfl,by simp [l8]⟩
  rw [List.map_id'] at e;have e':fm [(0,.lst (aD L))] (bQ [] (.nm 3)) (eM [] .no) (ev [] (.nw false (.lof (.v 3)))) [some (.ref 1),some (.int w),some (.ref 0),none] (aD L) [.lst (aD L),.ins "Sheet" oT]=some (aD L,[.lst (aD L),.ins "Sheet" oT]):=e;have i0:mS [.lst (aD L),.ins "Sheet" oT] (.ref 0)=some ⟨aD L,[(0,.lst (aD L))]⟩:=og rfl;show ev [] (.nw true (.lc 1 (.e (.v 2)) (.nm 3) .no (.nw false (.lof (.v 3))))) [some (.ref 1),some (.int w),some (.ref 0)] [.lst (aD L),.ins "Sheet" oT]=_;simp [-aD,i0,bG (show L.length <= 1000 by omega),e']
 refine ak (st':=[.lst (aD L),.ins "Sheet" Fh,.lst (aD L),.lst (nL (List.range w))]) (gU (v:=.ref 3) (st':=[.lst (aD L),.ins "Sheet" Fi,.lst (aD L),.lst (nL (List.range w))]) (k:=1) (fs:=Fi) ?_ rfl rfl rfl) ?_
 ·simp [ui,sm,pv]
 refine ak (st':=[.lst (aD L),.ins "Sheet" Fg,.lst (aD L),.lst (nL (List.range w)),.lst (nL ((List.range L.length).map (w + ·)))]) (gU (v:=.ref 4) (st':=[.lst (aD L),.ins "Sheet" Fh,.lst (aD L),.lst (nL (List.range w)),.lst (nL ((List.range L.length).map (w + ·)))]) (k:=1) (fs:=Fh) ?_ rfl rfl rfl) ?_
 ·simp [uh,sm,sm2,b9,eE,l0]
  have e:((w:Int) + (L.length:Int)).toNat - w=L.length:=by omega
  rw [e,Ga,yG oM];simp
 refine ak (st':=[.lst (aD L),.ins "Sheet" Ff,.lst (aD L),.lst (nL (List.range w)),.lst (nL ((List.range L.length).map (w + ·))),.dK []]) (gU (v:=.ref 5) (st':=[.lst (aD L),.ins "Sheet" Fg,.lst (aD L),.lst (nL (List.range w)),.lst (nL ((List.range L.length).map (w + ·))),.dK []]) (k:=1) (fs:=Fg) rfl rfl rfl rfl) ?_;refine ak (st':=[.lst (aD L),.ins "Sheet" Fe,.lst (aD L),.lst (nL (List.range w)),.lst (nL ((List.range L.length).map (w + ·))),.dK [],.dK []]) (gU (v:=.ref 6) (st':=[.lst (aD L),.ins "Sheet" Ff,.lst (aD L),.lst (nL (List.range w)),.lst (nL ((List.range L.length).map (w + ·))),.dK [],.dK []]) (k:=1) (fs:=Ff) rfl rfl rfl rfl) ?_;refine ak (st':=[.lst (aD L),.ins "Sheet" (cL 1 2 3 4 5 6 7),.lst (aD L),.lst (nL (List.range w)),.lst (nL ((List.range L.length).map (w + ·))),.dK [],.dK [],.dK []]) (gU (v:=.ref 7) (st':=[.lst (aD L),.ins "Sheet" Fe,.lst (aD L),.lst (nL (List.range w)),.lst (nL ((List.range L.length).map (w + ·))),.dK [],.dK [],.dK []]) (k:=1) (fs:=Fe) rfl rfl rfl rfl) ?_;rfl
theorem Hj {k:Nat} (h1:ev ks a sl st=some (.ref k,st)) (h2:ev ks e sl st=some (y,st)) (h3:st[k]?=some (.lst xs)) (h4:bw st y=some ys) (hl:xs.length + ys.length <= 1000):ev ks (.mt .ext a (.cons e .nil)) sl st=some (.non,st.set k (.lst (xs++ys))):=by
 simp [kJ,oK,oJ,h1,oC,ck h3,h2,uu,gk,h3,h4,bG hl]
theorem HI {k:Nat} (h1:ev ks a sl st=some (.ref k,st)) (h2:ev ks e sl st=some (y,st)) (h3:st[k]?=some (.lst xs)) (hl:xs.length <= 1000):ev ks (.mt .app a (.cons e .nil)) sl st=some (.non,st.set k (.lst (xs++[y]))):=by
 simp [kJ,oK,oJ,h1,oC,ck h3,h2,ma,gk,h3,bG hl]
theorem DI {n:Int} (HR:∀ st,pm aL [.int n] st=some (.fz (aD RR),st)) (HA:∀ st,pm ah [.int n] st=some (.int w,st)) (hw:w <= 15) (hR:RR.length <= 100) (hr:∀ l ∈ RR,l.length=w) (hg:gv.length <= 100) (hgr:∀ x ∈ gv,x.row.length=w) (hgo:goal.length=w) :
  ∃ st',bK [.int n,.fz (gv.map Gv.av),.fz (iL goal)] []=some (.ref 1,st')/\Rep st' 1 2 3 4 5 6 7 (aD (aS RR gv goal)) (openS w (aS RR gv goal) (w + RR.length)):=by
 have hL:(aS RR gv goal).length=RR.length + gv.length + 1:=by simp [aS];omega
 -- the loop that guards
 have R0:Rep [.lst (aD (aS RR gv goal)),.ins "Sheet" (cL 1 2 3 4 5 6 7),.lst (aD (aS RR gv goal)),.lst (nL (List.range w)),.lst (nL ((List.range (aS RR gv goal).length).map (w + ·))),.dK [],.dK [],.dK []] 1 2 3 4 5 6 7 (aD (aS RR gv goal)) (openS w (aS RR gv goal) 0):=by
  refine ⟨rfl,rfl,rfl,rfl,rfl,rfl,rfl,by simp [openS],fun i x h=>.inl ?_,by decide,by decide,by decide,by decide,by decide,by decide,fun i r h=>?_⟩
  ·unfold aD at h
   rw [zR] at h;obtain ⟨l,h1,rfl⟩:=zE.mp h;show _=AV.fz (iL ((aS RR gv goal).getD i []));rw [zD,h1];rfl
  ·unfold aD at h
   rw [zR] at h;obtain ⟨l,h1,h2⟩:=zE.mp h;cases h2
 obtain ⟨sl',st',e,x,rfl,R'⟩:=fq (gd:=[]) (g:=bQ [aL,ah,aA,aH] (.nm 6)) (s:=ai [aL,ah,aA,aH] (.cons (.ex (.me "Sheet" "guard" 3 (.v 5) (.cons (.v 6) .nil))) .nil))
  (I:=fun i sl s=>∃ x,sl=[some (.int n),some (.fz (gv.map Gv.av)),some (.fz (iL goal)),some (.ref 0),some (.int ((w:Int) + (RR.length:Int))),some (.ref 1),x]/\Rep s 1 2 3 4 5 6 7 (aD (aS RR gv goal)) (openS w (aS RR gv goal) i)) (xs:=db 0 (w + RR.length)) (fun _ _ _ _ _=>rfl)
  (fun i y sl s hy hI=>by
   obtain ⟨x,rfl,R⟩:=hI;rw [pv] at hy;have hi:i < w + RR.length:=by have:=(zB.mp hy).1;simpa using this
   have ey:y=.int ((i:Nat):Int):=by
    rw [fV (by simpa using hi)] at hy;injection hy with hy;rw [<- hy];simp [zD,hi]
   subst ey;obtain ⟨s',e1,R1⟩:=sX (q:=i) R (by simp [openS];omega);refine ⟨_,[some (.int n),some (.fz (gv.map Gv.av)),some (.fz (iL goal)),some (.ref 0),some (.int ((w:Int) + (RR.length:Int))),some (.ref 1),some (.int ((i:Nat):Int))],s',rfl,?_,_,rfl,?_⟩
   ·simp [R.ins,e1]
   ·have:ins (List.range i) i=List.range (i + 1):=by unfold ins;rw [yF (by simp),List.range_succ]
    have h2:{ openS w (aS RR gv goal) i with gd:=ins (openS w (aS RR gv goal) i).gd i }=openS w (aS RR gv goal) (i + 1):=by show Sh.mk _ _ _ _ (ins (List.range i) i) _ _=_;rw [this];rfl
    rw [h2] at R1;exact R1) (sl:=[some (.int n),some (.fz (gv.map Gv.av)),some (.fz (iL goal)),some (.ref 0),some (.int ((w:Int) + (RR.length:Int))),some (.ref 1),none]) (st:=_) ⟨none,rfl,R0⟩
 have ll:(db 0 (w + RR.length)).length=w + RR.length:=by rw [pv];simp
 rw [ll] at R';refine ⟨st',?_,R'⟩;rw [bK,aG];unfold fJ;refine ak (sl':=[some (.int n),some (.fz (gv.map Gv.av)),some (.fz (iL goal)),some (.ref 0),none,none,none]) (st':=[.lst (aD (RR.map (·++[0])))]) ?_ ?_
 ·have lc:=uv (gd:=[]) (g:=bQ [aL,ah,aA,aH] (.nm 7)) (t:=eM [aL,ah,aA,aH] .no) (f:=ev [aL,ah,aA,aH] (.nw false (.cat (.v 7) (.nw false (.li (.cons (.i 0) .nil))))))
   (sl:=[some (.int n),some (.fz (gv.map Gv.av)),some (.fz (iL goal)),none,none,none,none,none]) (st:=[]) (em:=fun l=>.fz (iL l)) (F:=fun l=>l++[0]) (xs:=RR) rfl fun l hl=>⟨_,rfl,rfl,by
    rw [eA,kz (l:=l) (l':=[0]) (s1:=[]) (s2:=[]) (y:=.fz (iL [0])) rfl (by simp [dP,iL]) rfl rfl (by rw [hr l hl];simp;omega)];simp⟩
  have lc':fm [] (bQ [aL,ah,aA,aH] (.nm 7)) (eM [aL,ah,aA,aH] .no) (ev [aL,ah,aA,aH] (.nw false (.cat (.v 7) (.nw false (.li (.cons (.i 0) .nil)))))) [some (.int n),some (.fz (gv.map Gv.av)),some (.fz (iL goal)),none,none,none,none,none] (aD RR) []=some (aD (RR.map (·++[0])),[]):=lc;simp [HR,bG (show RR.length <= 1000 by omega),lc']
 have l0:∀ (x:List AV) (X:aa),bw (.lst x::X) (.ref 0)=some x:=fun x X=>ck rfl
 refine ak (sl':=[some (.int n),some (.fz (gv.map Gv.av)),some (.fz (iL goal)),some (.ref 0),some (.int ((w:Int) + (RR.length:Int))),none,none]) (st':=[.lst (aD (RR.map (·++[0])))]) (by simp [HA,b9,eE,l0]) ?_;refine ak (sl':=[some (.int n),some (.fz (gv.map Gv.av)),some (.fz (iL goal)),some (.ref 0),some (.int ((w:Int) + (RR.length:Int))),none,none]) (st':=[.lst (aD (RR.map (·++[0]))++aD (gv.map fun x=>x.row++[-x.num]))]) ?_ ?_
 ·rw [CH,Hj (k:=0) (xs:=aD (RR.map (·++[0]))) (ys:=aD (gv.map fun x=>x.row++[-x.num])) (y:=.fz (aD (gv.map fun x=>x.row++[-x.num]))) rfl ?_ rfl rfl (by simp;omega)]
  ·rfl
  ·have lc:=uv (gd:=[]) (g:=bQ [aL,ah,aA,aH] (.tu 3 (.cons (.nm 7) (.cons (.nm 8) (.cons (.nm 9) .nil))))) (t:=eM [aL,ah,aA,aH] .no) (f:=ev [aL,ah,aA,aH] (.nw false (.cat (.nw false (.lof (.v 7))) (.nw false (.li (.cons (.un .USub (.v 9)) .nil))))))
    (sl:=[some (.int n),some (.fz (gv.map Gv.av)),some (.fz (iL goal)),some (.ref 0),some (.int ((w:Int) + (RR.length:Int))),none,none,none,none,none]) (st:=[.lst (aD (RR.map (·++[0])))]) (em:=Gv.av) (F:=fun x=>x.row++[-x.num]) (xs:=gv) rfl fun x hx=>⟨_,rfl,rfl,by
     rw [eA,kz (l:=x.row) (l':=[-x.num]) (s1:=[.lst (aD (RR.map (·++[0])))]) (s2:=[.lst (aD (RR.map (·++[0])))]) (x:=.fz (iL x.row)) (y:=.fz (iL [-x.num])) (by simp [l8]) (by simp [dP,iL]) rfl rfl (by rw [hgr x hx];simp;omega)];simp⟩
   simp [bG (show gv.length <= 1000 by omega),lc]
 refine ak (sl':=[some (.int n),some (.fz (gv.map Gv.av)),some (.fz (iL goal)),some (.ref 0),some (.int ((w:Int) + (RR.length:Int))),none,none]) (st':=[.lst (aD (aS RR gv goal))]) ?_ ?_
 ·rw [CH,HI (k:=0) (xs:=aD (RR.map (·++[0]))++aD (gv.map fun x=>x.row++[-x.num])) (y:=.fz (iL (goal.map (fun x=>- x)++[0]))) rfl ?_ rfl (by simp;omega)]
  ·rw [bind_some]
   have:aD (RR.map (·++[0]))++aD (gv.map fun x=>x.row++[-x.num])++[AV.fz (iL (goal.map (fun x=>- x)++[0]))]=aD (aS RR gv goal):=by
    simp [aS,aD]
   show some (Out.nx _ [.lst (_++[_])])=_;rw [this]
  ·rw [eA,kz (l:=goal.map fun x=>- x) (l':=[0]) (s1:=[.lst (aD (RR.map (·++[0]))++aD (gv.map fun x=>x.row++[-x.num]))]) (s2:=[.lst (aD (RR.map (·++[0]))++aD (gv.map fun x=>x.row++[-x.num]))]) (x:=.fz (iL (goal.map fun x=>- x))) (y:=.fz (iL [0])) ?_ (by simp [dP,iL]) rfl rfl (by simp [hgo];omega)]
   ·simp
   ·simp [bG (show goal.length <= 1000 by omega)]
    rw [k9 (F:=fun x=>- x) cF fun x hx=>⟨_,rfl,rfl,by simp⟩];simp
 refine ak (sl':=[some (.int n),some (.fz (gv.map Gv.av)),some (.fz (iL goal)),some (.ref 0),some (.int ((w:Int) + (RR.length:Int))),some (.ref 1),none]) (st':=Kp w (aS RR gv goal)) ?_ ?_
 ·have:=EW (w:=w) (L:=aS RR gv goal) oM oM
  simp [wu,HA,this]
 ·refine ak (sl':=[some (.int n),some (.fz (gv.map Gv.av)),some (.fz (iL goal)),some (.ref 0),some (.int ((w:Int) + (RR.length:Int))),some (.ref 1),x]) (st':=st') ?_ (by simp)
  have rb:eV ((w:Int) + (RR.length:Int))=true:=by
   unfold eV;refine yJ ?_;have:((w:Int) + (RR.length:Int)).natAbs=w + RR.length:=by omega
   rw [this];by_cases h0:w + RR.length=0
   ·rw [h0];decide
   ·exact yU ((Nat.log2_lt h0).mpr oM)
  simp [Ae,rb];rw [show ((w:Int) + (RR.length:Int)).toNat=w + RR.length by omega];exact e
end
end LW
namespace LW
open PySem PySem.Spec L2 R
open SX (gI)
noncomputable def gL (l:List Int):Nat:=l.foldl (fun g x=>Nat.gcd g x.natAbs) 0
def aT (l:List Int):List Int:=if gL l=0 then l else l.map fun x=>x / (gL l:Int)
theorem yf {d o:Nat}:Nat.gcd o (d % o)=Nat.gcd d o:=by rw [Nat.gcd_comm,<- Nat.gcd_rec,Nat.gcd_comm]
theorem KL:∀ (o d:Nat) (y:Option AV),∃ y',cG [] (.wh (.cmp .NotEq (.v 3) (.i 0)) (.cons (.as (.bin .Mod (.v 1) (.v 3)) (.nm 4)) (.cons (.as (.v 3) (.nm 1)) (.cons (.as (.v 4) (.nm 3)) .nil)))) [l,some (.int d),x,some (.int o),y] st=some (.nx [l,some (.int (Nat.gcd d o:Nat)),x,some (.int 0),y'] st):=by
 intro o
 induction o using Nat.strongRecOn with
 | _ o ih =>
  intro d y;by_cases h:o=0
  ·subst h
   refine ⟨y,?_⟩;rw [Nat.gcd_zero_right];exact mx (n:=1) (nT (by simp))
  ·obtain ⟨y',e⟩:=ih (d % o) (Nat.mod_lt _ oM) o (some (.int ((d % o:Nat):Int)))
   obtain ⟨n,e'⟩:=vM e;refine ⟨y',?_⟩;rw [yf] at e';refine mx (n:=n + 1) (nU (st':=st) (by simp;omega) ?_ e');have h0:(o:Int) ≠ 0:=by omega
   have hm:m6 (d:Int) (o:Int)=((d % o:Nat):Int):=by unfold m6;rw [yG oM];simp
   simp [gq h0,hm]
theorem wa:gL (a++b)=b.foldl (fun g x=>Nat.gcd g x.natAbs) (gL a):=by unfold gL;rw [List.foldl_append]
theorem qH:∀ b:List Int,b.foldl (fun g x=>Nat.gcd g x.natAbs) 1=1
 | []=>rfl
 | x::b=>by rw [List.foldl_cons,Nat.gcd_one_left];exact qH b
theorem JU:∃ r,b8 [.fz (iL l)] st=some (r,st)/\r=.int (gL l:Int):=by
 have hl:=lf (gd:=[]) (g:=bQ [] (.nm 2)) (s:=ai [] (.cons (.as (.bi .abs (.cons (.v 2) .nil)) (.nm 3)) (.cons (.wh (.cmp .NotEq (.v 3) (.i 0)) (.cons (.as (.bin .Mod (.v 1) (.v 3)) (.nm 4)) (.cons (.as (.v 3) (.nm 1)) (.cons (.as (.v 4) (.nm 3)) .nil)))) (.cons (.iff (.cmp .Eq (.v 1) (.i 1)) (.cons (.rt (.i 1)) .nil) .nil) .nil))))
  (I:=fun i sl s=>s=st/\∃ x y z,sl=[some (.fz (iL l)),some (.int (gL (l.take i):Nat)),x,y,z]) (Post:=fun v s=>s=st/\v=.int (gL l:Nat)) (xs:=iL l) (fun _ _ _ _ _=>rfl)
  (fun i x sl s hx hI=>by
   obtain ⟨rfl,x1,x2,x3,rfl⟩:=hI;have hi:i < l.length:=by have:=(zB.mp hx).1;simpa using this
   rw [cb hi] at hx;injection hx with hx;subst hx;have ht:l.take (i + 1)=l.take i++[gI l i]:=by
    rw [List.take_succ,zF hi];unfold gI;rw [zD,zF hi];rfl
   have hg:gL (l.take (i + 1))=Nat.gcd (gL (l.take i)) (gI l i).natAbs:=by rw [ht,wa];rfl
   obtain ⟨y',e⟩:=KL (l:=some (.fz (iL l))) (x:=some (.int (gI l i))) (st:=s) (gI l i).natAbs (gL (l.take i)) x3;rw [<- hg] at e;have ea:jC s [.int (gI l i)]=some (.int ((gI l i).natAbs:Nat)):=by
    show some (AV.int (if gI l i < 0 then - gI l i else gI l i))=_;congr 2;split <;> omega
   have st1:cG [] (.as (.bi .abs (.cons (.v 2) .nil)) (.nm 3)) [some (.fz (iL l)),some (.int (gL (l.take i):Nat)),some (.int (gI l i)),x2,x3] s=some (.nx [some (.fz (iL l)),some (.int (gL (l.take i):Nat)),some (.int (gI l i)),some (.int ((gI l i).natAbs:Nat)),x3] s):=by
    simp [b9,ea]
   by_cases h1:gL (l.take (i + 1))=1
   ·refine ⟨_,.rt (.int 1) s,rfl,aR st1 (aR e ?_),.inr ⟨_,s,rfl,rfl,?_⟩⟩
    ·simp [h1]
    ·have:gL l=1:=by
      have:l=l.take (i + 1)++l.drop (i + 1):=(List.take_append_drop _ _).symm;rw [this,wa,h1,qH]
     rw [this];rfl
   ·refine ⟨_,.nx [some (.fz (iL l)),some (.int (gL (l.take (i + 1)):Nat)),some (.int (gI l i)),some (.int 0),y'] s,rfl,aR st1 (aR e ?_),.inl ⟨_,s,rfl,rfl,_,_,_,rfl⟩⟩
    have:¬ ((gL (l.take (i + 1)):Nat):Int)=1:=by omega
    simp [this]) (sl:=[some (.fz (iL l)),some (.int 0),none,none,none]) (st:=st) ⟨rfl,none,none,none,rfl⟩
 rcases hl with ⟨sl',st',e,rfl,x,y,z,rfl⟩ | ⟨v,st',e,rfl,rfl⟩
 ·refine ⟨_,?_,rfl⟩
  rw [ka,List.take_length] at e;simp [b8,aG,dM,e]
 ·refine ⟨_,?_,rfl⟩
  simp [b8,aG,dM,e]
theorem E4:∀ x ∈ l,gL l ∣ x.natAbs:=by
 have go:∀ (b:List Int) (g:Nat),(b.foldl (fun g x=>Nat.gcd g x.natAbs) g) ∣ g/\∀ x ∈ b,(b.foldl (fun g x=>Nat.gcd g x.natAbs) g) ∣ x.natAbs:=fun b=>by
  induction b with
  | nil=>intro g;exact ⟨Nat.dvd_refl g,fun x hx=>by cases hx⟩
  | cons y b ih =>
   intro g;obtain ⟨h1,h2⟩:=ih (Nat.gcd g y.natAbs);refine ⟨Nat.dvd_trans h1 (Nat.gcd_dvd_left _ _),fun x hx=>?_⟩;rcases zT.mp hx with rfl | hx
   ·exact Nat.dvd_trans h1 (Nat.gcd_dvd_right _ _)
   ·exact h2 x hx
 exact (go l 0).2
theorem Hc {B:Nat} (hB:0 < B) (h:∀ x ∈ l,x.natAbs < B):gL l < B:=by
 by_cases hz:∃ x ∈ l,x ≠ 0
 ·obtain ⟨x,hx,h0⟩:=hz
  exact yK (Nat.le_of_dvd oM (E4 x hx)) (h x hx)
 ·have:∀ (b:List Int),(∀ x ∈ b,x=0)->b.foldl (fun g x=>Nat.gcd g x.natAbs) 0=0:=fun b=>by
   induction b with
   | nil=>intro _;rfl
   | cons y b ih=>intro hb;rw [List.foldl_cons,hb y z6];exact ih fun x hx=>hb x (zQ _ hx)
  have e:gL l=0:=this l fun x hx=>Classical.byContradiction fun z=>hz ⟨x,hx,z⟩
  omega
theorem pB (hl:l.length <= 1000) (hb:∀ x ∈ l,x.natAbs < 2 ^ 9000):aj [.fz (iL l)] []=some (.fz (iL (aT l)),[]):=by
 obtain ⟨r,e,rfl⟩:=JU (l:=l) (st:=[]);have ep:∀ st,pm b8 [.fz (iL l)] st=some (.int (gL l:Int),st):=fun st=>bW rfl e rfl
 unfold aT;by_cases h:gL l=0
 ·rw [yG h]
  simp [aj,aG,dk,ep,h,l8]
 ·rw [yF h]
  have h':¬ ((gL l:Nat):Int)=0:=by omega
  have dv:iT ((gL l:Nat):Int)=true:=qO h' (by rw [Int.natAbs_natCast];exact Hc (Nat.two_pow_pos _) hb);simp [aj,aG,dk,ep,h,bG hl];rw [k9 (F:=fun x=>x / (gL l:Int)) cF fun x hx=>⟨_,rfl,rfl,by
   simp [jB dv];unfold sZ;rw [yG oM]⟩]
  simp
theorem qr (hl:l.length <= 1000) (hb:∀ x ∈ l,x.natAbs < 2 ^ 9000):pm aj [.fz (iL l)] st=some (.fz (iL (aT l)),st):=bW rfl (pB hl hb) rfl
theorem md:(aT l).length=l.length:=by unfold aT;split <;> simp
theorem Fb {a b:Int} (ha:a.natAbs < 2 ^ 9000) (hb:b.natAbs < 2 ^ 9000):pm cu [.int a,.int b] st=some (.tup [.int (gI (aT [a,b]) 0),.int (gI (aT [a,b]) 1)],st):=by
 have e:=qr (l:=[a,b]) (st:=[]) (by simp) (fun x hx=>by simp at hx;rcases hx with rfl | rfl <;> assumption);have h2:(aT [a,b]).length=2:=md;have x0:cE [] (.fz (iL (aT [a,b]))) (.int 0)=some (.int (gI (aT [a,b]) 0)):=by
  have:=cR (st:=[]) (x:=.fz (iL (aT [a,b]))) (i:=((0:Nat):Int)) d6;rw [cD,cb oM] at this;exact this
 have x1:cE [] (.fz (iL (aT [a,b]))) (.int 1)=some (.int (gI (aT [a,b]) 1)):=by
  have:=cR (st:=[]) (x:=.fz (iL (aT [a,b]))) (i:=((1:Nat):Int)) d6;rw [cD,cb oM] at this;exact this
 refine bW rfl (v:=.tup [.int (gI (aT [a,b]) 0),.int (gI (aT [a,b]) 1)]) (st':=[]) ?_ rfl;have e':pm aj [.fz [.int a,.int b]] []=some (.fz (iL (aT [a,b])),[]):=e;simp [cu,aG,eG,dP,e',x0,x1]
end LW
namespace LW
open PySem PySem.Spec L2 R
open SX (Sh Md gI)
structure GX (S:Sh) (w cc k:Nat) (X:List Int):Prop where
 len:X.length=w
 at_:∀ i,i < k->S.s i < w->gI X (S.s i)=S.t i cc
 no:∀ q,q < w->(∀ i,i < k->S.s i ≠ q)->gI X q=0
section
variable {st:aa}{k a b c g n u w m:Nat}{rows:List AV}{S:Sh}{v:Nat->Nat->Int}{nn:Int}
theorem zk {j:Nat} (h:ev ks e sl st=some (.int (j:Int),st)) (hj:j <= 1000):hZ ks (.rep (.cons (.i 0) .nil) e) sl st=some (iL (List.replicate j 0),st):=by
 rw [GL];unfold ug;have h1:aE ks (.cons (.i 0) .nil) sl st=some ([.int 0],st):=rfl;rw [h1,bind_some];dsimp only;rw [h,bind_some];dsimp only;have rb:eV (j:Int)=true:=by
  unfold eV;refine yJ ?_;rw [Int.natAbs_natCast];by_cases h0:j=0
  ·rw [h0];decide
  ·exact yU ((Nat.log2_lt h0).mpr (yK hj dC))
 rw [rb,bG (n:=[AV.int 0].length * ((j:Int)).toNat) (by simp;omega),bG (n:=[AV.int 0].length) (by simp)];show some _=some _;congr 2;show (List.replicate j [AV.int 0]).flatten=iL (List.replicate j 0);unfold iL
 induction j with
 | zero=>rfl
 | succ j ih=>rw [List.replicate_succ,List.flatten_cons,List.replicate_succ,zO];simp
theorem wc {j q:Nat}:gI (List.replicate j 0) q=0:=by
 unfold gI;rw [zD,List.getElem?_replicate];split <;> rfl
theorem Af (R:Rep st k a b c g n u rows S) (P:Md w m S) (Q:SX.Pm w m S.h S.s) (HA:∀ st,pm ah [.int nn] st=some (.int w,st)) (hw:w <= 100) (hm:m <= 1000) {cI:Int}{cc:Nat}
  (hx:∀ {s:aa}{a:Nat}{rows:List AV},Rep s k a b c g n u rows S->∀ i,i < m->cE s (jW rows i) (.int cI)=some (.int (S.t i cc))) :
  ∃ X,ci [.int nn,.ref k,.int cI] st=some (.ref st.length,st++[.lst (iL X)])/\GX S w cc m X:=by
 have sl:S.sd.length=m:=P.sd;obtain ⟨sl',st',e,X,x1,x2,rfl,rfl,hX⟩:=fq (gd:=[(c,.lst (nL S.sd))]) (g:=bQ [ah] (.tu 2 (.cons (.nm 4) (.cons (.nm 5) .nil)))) (s:=ai [ah] (.cons (.iff (.cmp .Lt (.v 5) (.bi .len (.cons (.v 3) .nil))) (.cons (.as (.ix (.ix (.fd "Sheet" "lines" (.v 1)) (.v 4)) (.v 2)) (.su (.v 3) (.v 5))) .nil) .nil) .nil))
  (I:=fun i sl s=>∃ X x1 x2,s=st++[.lst (iL X)]/\sl=[some (.int nn),some (.ref k),some (.int cI),some (.ref st.length),x1,x2]/\GX S w cc i X) (xs:=d9 0 (nL S.sd)) (fun i sl s _ hI=>by obtain ⟨X,_,_,rfl,_⟩:=hI;exact fY (R.app (ys:=[_])).hc)
  (fun i y sl s hy hI=>by
   obtain ⟨X,x1,x2,rfl,rfl,hX⟩:=hI;obtain ⟨x,hx',rfl⟩:=ng hy;have hi:i < m:=by have:=(zB.mp hx').1;simpa [sl] using this
   have hs0:(nL S.sd)[i]?=some (.int ((S.s i:Nat):Int)):=fV oM;rw [hs0] at hx';injection hx' with hx';subst hx';have Ra:=R.app (ys:=[L8.lst (iL X)]);have ll:bw (st++[L8.lst (iL X)]) (.ref st.length)=some (iL X):=ck gl;by_cases h:S.s i < w
   ·refine ⟨_,[some (.int nn),some (.ref k),some (.int cI),some (.ref st.length),some (.int i),some (.int (S.s i:Int))],st++[.lst (iL (X.set (S.s i) (S.t i cc)))],rfl,?_,X.set (S.s i) (S.t i cc),_,_,rfl,rfl,?_⟩
    ·have hs:=dS (x:=.int (S.t i cc)) (gl (st:=st) (e:=L8.lst (iL X))) (show S.s i < (iL X).length by simp [hX.len,h])
     rw [gA,eU] at hs;have lt':S.s i < X.length:=by rw [hX.len];exact h
     simp [b9,eE,ll,lt',Ra.ins,Ra.line P hi,hx Ra i hi,hs]
    ·refine ⟨by simp [hX.len],fun j hj hs=>?_,fun q hq hn=>?_⟩
     ·by_cases e:j=i
      ·subst e;rw [SX.gI_set_at (by rw [hX.len];exact h)]
      ·rw [SX.gI_set_ne (fun z=>e (Q.si j i oM hi z))];exact hX.at_ j oM hs
     ·rw [SX.gI_set_ne (fun z=>hn i oM z.symm)];exact hX.no q hq fun j hj=>hn j oM
   ·refine ⟨_,[some (.int nn),some (.ref k),some (.int cI),some (.ref st.length),some (.int i),some (.int (S.s i:Int))],st++[.lst (iL X)],rfl,?_,X,_,_,rfl,rfl,?_⟩
    ·have lt':¬ S.s i < X.length:=by rw [hX.len];exact h
     simp [b9,eE,ll,lt']
    ·refine ⟨hX.len,fun j hj hs=>?_,fun q hq hn=>hX.no q hq fun j hj=>hn j oM⟩
     by_cases e:j=i
     ·subst e;exact absurd hs h
     ·exact hX.at_ j oM hs) (sl:=[some (.int nn),some (.ref k),some (.int cI),some (.ref st.length),none,none]) (st:=st++[.lst (iL (List.replicate w 0))]) ⟨_,none,none,rfl,rfl,by simp,fun i hi=>by omega,fun q _ _=>wc⟩
 rw [lj,mL,sl] at hX;refine ⟨X,?_,hX⟩;rw [ci,aG];unfold d3;refine ak (sl':=[some (.int nn),some (.ref k),some (.int cI),some (.ref st.length),none,none]) (st':=st++[.lst (iL (List.replicate w 0))]) ?_ ?_
 ·rw [eC,Ck,zk (j:=w) (by simp [HA]) oM];rfl
 refine ak (sl':=[some (.int nn),some (.ref k),some (.int cI),some (.ref st.length),x1,x2]) (st':=st++[.lst (iL X)]) ?_ (by simp);have Ra:=R.app (ys:=[L8.lst (iL (List.replicate w 0))]);simp [Ra.ins,jd Ra.hc];exact e
theorem sU {n:Nat}:(iL l).take n=iL (l.take n):=by unfold iL;rw [List.map_take]
theorem BY {n:Nat}:(iL l).drop n=iL (l.drop n):=by unfold iL;rw [List.map_drop]
theorem qQ {n:Nat} (hl:l.length=n + 1):cut (iL l) none (some (-1))=iL (l.take n):=by
 unfold cut;rw [ka,hl,HT.sIx_none,List.drop_zero];have:HT.MR (n + 1) (n + 1) (some (-1))=n:=by
  show (if (-1:Int) < 0 then ((-1:Int) + ((n + 1:Nat):Int)).toNat else min (-1:Int).toNat (n + 1))=n;rw [yG dC];omega
 rw [this,Nat.sub_zero,sU]
theorem B6 {w m:Nat} (hl:l.length=w + (m + 1)):cut (iL l) (some (w:Int)) (some (-1))=iL ((l.drop w).take m):=by
 unfold cut;rw [ka,hl,HT.sIx_nat];have:HT.MR (w + (m + 1)) (w + (m + 1)) (some (-1))=w + m:=by
  show (if (-1:Int) < 0 then ((-1:Int) + ((w + (m + 1):Nat):Int)).toNat else min (-1:Int).toNat (w + (m + 1)))=w + m;rw [yG dC];omega
 rw [this,Nat.min_eq_left oM,BY,sU,show w + m - w=m by omega]
theorem Eu {d:Int} (hl:X.length <= 100) (hb:∀ x ∈ X,x.natAbs < 2 ^ 9000) (hd:d.natAbs < 2 ^ 9000):cU [.fz (iL X),.int d] []=some (.tup [.fz (iL ((aT (X++[d])).take X.length)),.int (gI (aT (X++[d])) X.length)],[]):=by
 have ll:(aT (X++[d])).length=X.length + 1:=by rw [md];simp
 have e:=qr (l:=X++[d]) (st:=[]) (by simp;omega) fun x hx=>by
  rcases zZ.mp hx with h | h
  ·exact hb x h
  ·rw [zM.mp h];exact hd
 have xl:cE [] (.fz (iL (aT (X++[d])))) (.int (-1))=some (.int (gI (aT (X++[d])) X.length)):=by
  rw [cR d6,ox (n:=X.length) (by simp [ll]),cb oM]
 rw [cU,aG];unfold f7;refine ak (sl':=[some (.fz (iL X)),some (.int d),some (.fz (iL (aT (X++[d]))))]) (st':=[]) ?_ ?_
 ·have c:=kz (ks:=[aj]) (a:=.v 0) (b:=.nw false (.li (.cons (.v 1) .nil))) (sl:=[some (.fz (iL X)),some (.int d),none]) (st:=[]) (s1:=[]) (s2:=[]) (x:=.fz (iL X)) (y:=.fz (iL [d])) (l:=X) (l':=[d]) rfl (by simp [dP,iL]) rfl rfl (by simp;omega)
  simp [-zq,c,e]
 ·simp [qg,qc,qQ ll,xl]
theorem za (R:Rep st k a b c g n u rows S) (P:Md w m S) (Q:SX.Pm w m S.h S.s) (B:Bd w m S) (HA:∀ st,pm ah [.int nn] st=some (.int w,st)) (hw:w <= 100) (hm:m <= 1000) :
  ∃ X T st1,aX [.int nn,.ref k] st=some (.tup [.fz (iL T),.int (gI (aT (X++[S.d])) w)],st1)/\T=(aT (X++[S.d])).take w/\GX S w w m X/\Rep st1 k a b c g n u rows S:=by
 obtain ⟨X,e,hX⟩:=Af (cI:=-1) (cc:=w) R P Q HA hw hm fun R' i hi=>R'.last P hi
 have hb:∀ x ∈ X,x.natAbs < 2 ^ 9000:=fun x hx=>by
  obtain ⟨q,hq⟩:=z7 hx;have hl:=(zB.mp hq).1;rw [hX.len] at hl;have eg:gI X q=x:=by unfold gI;rw [zD,hq];rfl
  by_cases h:∃ i,i < m/\S.s i=q
  ·obtain ⟨i,hi,rfl⟩:=h
   rw [<- eg,hX.at_ i hi hl];exact B.2 i hi w oM
  ·rw [<- eg,hX.no q hl fun i hi z=>h ⟨i,hi,z⟩];exact Nat.two_pow_pos _
 obtain ⟨st1,e1,h1⟩:=jY (fn:=cU) (rest:=[.int S.d]) (x:=.ref st.length) (l:=X) (.inr ⟨_,rfl,.inl (gl (st:=st) (e:=.lst (iL X)))⟩) rfl rfl (fun s=>by simp [mX,oR]) (Eu (by rw [hX.len];omega) hb B.1) rfl (by simp [dg,m7]);refine ⟨X,_,st1,?_,rfl,hX,?_⟩
 ·have Ra:=R.app (ys:=[L8.lst (iL X)])
  rw [hX.len] at e1;simp [aX,aG,fb,e,Ra.ins,e1]
 ·rcases h1 with rfl | ⟨r,hr,_,rfl⟩
  ·exact R.app
  ·cases hr;rw [eU];exact R.app
theorem FU (R:Rep st k a b c g n u rows S) (P:Md w m S) (Q:SX.Pm w m S.h S.s) (B:Bd w m S) (HA:∀ st,pm ah [.int nn] st=some (.int w,st)) (hw:w <= 100) (hm:m <= 1000) {q:Nat} (hq:q < w) :
  ∃ X st1,cj [.int nn,.ref k,.int q] st=some (.fz (iL (aT (if S.h q < w then X.set (S.h q) S.d else X))),st1)/\GX S w q m X:=by
 obtain ⟨X,e,hX⟩:=Af (cI:=q) (cc:=q) R P Q HA hw hm fun R' i hi=>R'.cell P hi oM
 have hb:∀ x ∈ X,x.natAbs < 2 ^ 9000:=fun x hx=>by
  obtain ⟨j,hj⟩:=z7 hx;have hl:=(zB.mp hj).1;rw [hX.len] at hl;have eg:gI X j=x:=by unfold gI;rw [zD,hj];rfl
  by_cases h:∃ i,i < m/\S.s i=j
  ·obtain ⟨i,hi,rfl⟩:=h
   rw [<- eg,hX.at_ i hi hl];exact B.2 i hi q oM
  ·rw [<- eg,hX.no j hl fun i hi z=>h ⟨i,hi,z⟩];exact Nat.two_pow_pos _
 have Ra:=R.app (ys:=[L8.lst (iL X)]);have ll:bw (st++[L8.lst (iL X)]) (.ref st.length)=some (iL X):=ck gl;by_cases h:S.h q < w
 ·have hb2:∀ x ∈ X.set (S.h q) S.d,x.natAbs < 2 ^ 9000:=fun x hx=>by
   rcases List.mem_or_eq_of_mem_set hx with h | h
   ·exact hb x h
   ·rw [h];exact B.1
  obtain ⟨st1,e1,h1⟩:=jY (fn:=aj) (rest:=[]) (st:=st++[.lst (iL (X.set (S.h q) S.d))]) (x:=.ref st.length) (l:=X.set (S.h q) S.d) (.inr ⟨_,rfl,.inl gl⟩) rfl rfl (fun s=>rfl) (pB (by simp [hX.len];omega) hb2) rfl (by simp [dg]);refine ⟨X,st1,?_,hX⟩;rw [yG h];have hs:=dS (x:=.int S.d) (gl (st:=st) (e:=L8.lst (iL X))) (show S.h q < (iL X).length by simp [hX.len,h]);rw [gA,eU] at hs;have lt':S.h q < X.length:=by rw [hX.len];exact h
  simp [cj,aG,gp,e,Ra.ins,Ra.head P hq,b9,eE,ll,lt',hs,e1]
 ·obtain ⟨st1,e1,h1⟩:=jY (fn:=aj) (rest:=[]) (st:=st++[.lst (iL X)]) (x:=.ref st.length) (l:=X) (.inr ⟨_,rfl,.inl gl⟩) rfl rfl (fun s=>rfl) (pB (by simp [hX.len];omega) hb) rfl (by simp [dg])
  refine ⟨X,st1,?_,hX⟩;rw [yF h];have lt':¬ S.h q < X.length:=by rw [hX.len];exact h
  simp [cj,aG,gp,e,Ra.ins,Ra.head P hq,b9,eE,ll,lt',e1]
end
end LW
namespace LW
open PySem PySem.Spec L2 R
open SX (Sh Md gI Mo)
structure TK (S:Sh) (w m p:Nat) (T:List Int):Prop where
 len:T.length=w + m
 hd:∀ j,j < w->gI T (S.h j)=if S.h j ∈ S.tn then S.t p j else - S.t p j
 sd:gI T (S.s p)=if S.s p ∈ S.tn then - S.d else S.d
 no:∀ q,q < w + m->(∀ j,j < w->S.h j ≠ q)->q ≠ S.s p->gI T q=0
def wt (T:List Int) (HO:Nat->List Int) (w j k:Nat):Int:=gI T (w + k) + Mo j fun x=>gI T x * gI (HO (x + 1)) k
section
variable {st:aa}{k a b c g n u w m p:Nat}{rows:List AV}{S:Sh}{nn:Int}{HO:Nat->List Int}
abbrev KW:List Fn:=[ah,cm,dj]
theorem qC {q x:Nat}{y:Int} (h:q < T.length):gI (T.set q y) x=if x=q then y else gI T x:=by
 by_cases e:x=q
 ·subst e;rw [yG rfl,SX.gI_set_at h]
 ·rw [yF e,SX.gI_set_ne e]
theorem AH (R:Rep st k a b c g n u rows S) (P:Md w m S) (Q:SX.Pm w m S.h S.s) (hp:p < m) (nt:S.tn.Nodup) (ht:∀ q ∈ S.tn,q < w + m) (hw:w <= 100) (hm:m <= 800) {ss:Mc}{r:AV × aa->Prop}
  (h:∀ T x1 x2,TK S w m p T->∃ z,(ai KW ss [some (.int nn),some (.ref k),some (.int p),some (.ref st.length),x1,x2,none,none,none,none,none] (st++[L8.lst (iL T)])).bind aF=some z/\r z) :
  ∃ z,(ai KW (.cons (.as (.nw true (.rep (.cons (.i 0) .nil) (.bin .Add (.bi .len (.cons (.fd "Sheet" "heads" (.v 1)) .nil)) (.bi .len (.cons (.fd "Sheet" "sides" (.v 1)) .nil))))) (.nm 3))
   (.cons (.fo (.en (.fd "Sheet" "heads" (.v 1))) (.tu 2 (.cons (.nm 4) (.cons (.nm 5) .nil))) (.cons (.as (.un .USub (.ix (.ix (.fd "Sheet" "lines" (.v 1)) (.v 2)) (.v 4))) (.su (.v 3) (.v 5))) .nil))
   (.cons (.as (.fd "Sheet" "below" (.v 1)) (.su (.v 3) (.ix (.fd "Sheet" "sides" (.v 1)) (.v 2))))
   (.cons (.fd (.fd "Sheet" "turned" (.v 1)) (.nm 5) (.cons (.as (.un .USub (.ix (.v 3) (.v 5))) (.su (.v 3) (.v 5))) .nil)) ss)))) [some (.int nn),some (.ref k),some (.int p),none,none,none,none,none,none,none,none] st).bind aF=some z/\r z:=by
 have lh:bw st (.ref b)=some (nL S.hd):=ck R.hb;have lsd:bw st (.ref c)=some (nL S.sd):=ck R.hc;refine bM (sl':=[some (.int nn),some (.ref k),some (.int p),some (.ref st.length),none,none,none,none,none,none,none]) (st':=st++[L8.lst (iL (List.replicate (w + m) 0))]) ?_ ?_
 ·rw [eC,Ck,zk (j:=w + m) ?_ oM]
  ·rfl
  ·simp [R.ins,b9,eE,lh,lsd,P.hd,P.sd]
 -- the heads
 obtain ⟨sl',st',e,T,x1,x2,rfl,rfl,hl,h1,h2⟩:=fq (gd:=[(b,.lst (nL S.hd))]) (g:=bQ KW (.tu 2 (.cons (.nm 4) (.cons (.nm 5) .nil)))) (s:=ai KW (.cons (.as (.un .USub (.ix (.ix (.fd "Sheet" "lines" (.v 1)) (.v 2)) (.v 4))) (.su (.v 3) (.v 5))) .nil))
  (I:=fun i sl s=>∃ T x1 x2,s=st++[L8.lst (iL T)]/\sl=[some (.int nn),some (.ref k),some (.int p),some (.ref st.length),x1,x2,none,none,none,none,none]/\T.length=w + m/\(∀ j,j < i->gI T (S.h j)=- S.t p j)/\∀ q,(∀ j,j < i->S.h j ≠ q)->gI T q=0) (xs:=d9 0 (nL S.hd)) (fun i sl s _ hI=>by obtain ⟨X,_,_,rfl,_⟩:=hI;exact fY (R.app (ys:=[_])).hb)
  (fun i y sl s hy hI=>by
   obtain ⟨T,x1,x2,rfl,rfl,hl,h1,h2⟩:=hI;obtain ⟨x,hx',rfl⟩:=ng hy;have hi:i < w:=by have:=(zB.mp hx').1;simpa [P.hd] using this
   have hs0:(nL S.hd)[i]?=some (.int ((S.h i:Nat):Int)):=fV (by rw [P.hd];exact hi);rw [hs0] at hx';injection hx' with hx';subst hx';have Ra:=R.app (ys:=[L8.lst (iL T)]);have hb:=Q.hl i hi;have hs:=dS (x:=.int (- S.t p i)) (gl (st:=st) (e:=L8.lst (iL T))) (show S.h i < (iL T).length by simp [hl,hb]);rw [gA,eU] at hs;refine ⟨_,[some (.int nn),some (.ref k),some (.int p),some (.ref st.length),some (.int i),some (.int (S.h i:Int)),none,none,none,none,none],st++[L8.lst (iL (T.set (S.h i) (- S.t p i)))],rfl,?_,T.set (S.h i) (- S.t p i),_,_,rfl,rfl,by simp [hl],fun j hj=>?_,fun q hq=>?_⟩
   ·simp [Ra.ins,Ra.line P hp,Ra.cell P hp (show i < w + 1 by omega),hs]
   ·rw [qC (by rw [hl];exact hb)]
    by_cases e:j=i
    ·subst e;rw [yG rfl]
    ·rw [yF fun z=>e (Q.hi j i oM hi z)];exact h1 j oM
   ·rw [qC (by rw [hl];exact hb),yF fun z=>hq i oM z.symm];exact h2 q fun j hj=>hq j oM) (sl:=[some (.int nn),some (.ref k),some (.int p),some (.ref st.length),none,none,none,none,none,none,none]) (st:=st++[L8.lst (iL (List.replicate (w + m) 0))]) ⟨_,none,none,rfl,rfl,by simp,fun j hj=>by omega,fun q _=>wc⟩
 rw [lj,mL,P.hd] at h1 h2;refine bM (sl':=[some (.int nn),some (.ref k),some (.int p),some (.ref st.length),x1,x2,none,none,none,none,none]) (st':=st++[L8.lst (iL T)]) ?_ ?_
 ·have Ra:=R.app (ys:=[L8.lst (iL (List.replicate (w + m) 0))])
  simp [Ra.ins,jd Ra.hb];exact e
 have Ra:=R.app (ys:=[L8.lst (iL T)]);have sb:=Q.sl p hp;have hs:=dS (x:=.int S.d) (gl (st:=st) (e:=L8.lst (iL T))) (show S.s p < (iL T).length by simp [hl,sb]);rw [gA,eU] at hs;refine bM (sl':=[some (.int nn),some (.ref k),some (.int p),some (.ref st.length),x1,x2,none,none,none,none,none]) (st':=st++[L8.lst (iL (T.set (S.s p) S.d))]) (by simp [Ra.ins,Ra.side P hp,hs]) ?_;have l2:(T.set (S.s p) S.d).length=w + m:=by simp [hl]
 obtain ⟨T2,hT2⟩:∃ x,x=T.set (S.s p) S.d:=⟨_,rfl⟩;rw [<- hT2] at l2 ⊢
 -- the turned
 have Ru:=(R.app (ys:=[L8.lst (iL T2)])).hu;have ult:u < st.length:=(zB.mp R.hu).1;obtain ⟨sl',st',e,T3,x2,rfl,rfl,l3,h3⟩:=fq (gd:=[]) (g:=bQ KW (.nm 5)) (s:=ai KW (.cons (.as (.un .USub (.ix (.v 3) (.v 5))) (.su (.v 3) (.v 5))) .nil))
  (I:=fun i sl s=>∃ T3 x2,s=(st++[L8.lst (iL T3)]).set u (.wk (kL S.tn))/\sl=[some (.int nn),some (.ref k),some (.int p),some (.ref st.length),x1,x2,none,none,none,none,none]/\T3.length=w + m/\∀ q,gI T3 q=if q ∈ S.tn.take i then - gI T2 q else gI T2 q) (xs:=nL S.tn) (fun _ _ _ _ _=>rfl)
  (fun i y sl s hy hI=>by
   obtain ⟨T3,x2,rfl,rfl,l3,h3⟩:=hI;have hi:i < S.tn.length:=by have:=(zB.mp hy).1;simpa using this
   rw [fV hi] at hy;injection hy with hy;subst hy;obtain ⟨q,hq⟩:∃ q,q=S.tn.getD i 0:=⟨_,rfl⟩;rw [<- hq];have qi:S.tn[i]=q:=by rw [hq,zD,zF hi];rfl
   have qm:q ∈ S.tn:=by rw [<- qi];exact List.getElem_mem hi
   have ql:=ht q qm;have tk:S.tn.take (i + 1)=S.tn.take i++[q]:=by rw [List.take_succ,zF hi,qi];rfl
   have qn:q ∉ S.tn.take i:=fun z=>by
    have:=nt.sublist (List.take_sublist (i + 1) S.tn)
    rw [tk,List.nodup_append] at this;exact this.2.2 q z q (by simp) rfl
   have gc:((st++[L8.lst (iL T3)]).set u (.wk (kL S.tn)))[st.length]?=some (.lst (iL T3)):=by rw [aq (zU ult)];exact gl
   have hs:=dS (x:=.int (- gI T3 q)) gc (show q < (iL T3).length by simp [l3,ql]);have sc:((st++[L8.lst (iL T3)]).set u (.wk (kL S.tn))).set st.length (.lst (iL (T3.set q (- gI T3 q))))=(st++[L8.lst (iL (T3.set q (- gI T3 q)))]).set u (.wk (kL S.tn)):=by
    rw [List.set_comm _ _ (zU ult),eU]
   rw [gA,sc] at hs;have xi:cE ((st++[L8.lst (iL T3)]).set u (.wk (kL S.tn))) (.ref st.length) (.int (q:Int))=some (.int (gI T3 q)):=by rw [cR (ck gc),cD,cb oM]
   refine ⟨_,[some (.int nn),some (.ref k),some (.int p),some (.ref st.length),x1,some (.int q),none,none,none,none,none],(st++[L8.lst (iL (T3.set q (- gI T3 q)))]).set u (.wk (kL S.tn)),rfl,?_,_,_,rfl,rfl,by simp [l3],fun x=>?_⟩
   ·simp [xi,hs]
   ·rw [qC oM,tk]
    by_cases e:x=q
    ·subst e;rw [yG rfl,yG (by simp),h3 x,yF qn]
    ·rw [yF e,h3 x];simp [e]) (sl:=[some (.int nn),some (.ref k),some (.int p),some (.ref st.length),x1,x2,none,none,none,none,none]) (st:=(st++[L8.lst (iL T2)]).set u (.wk (kL S.tn))) ⟨T2,x2,rfl,rfl,l2,fun q=>by simp⟩
 rw [mL,List.take_length] at h3;refine bM (sl':=[some (.int nn),some (.ref k),some (.int p),some (.ref st.length),x1,x2,none,none,none,none,none]) (st':=st++[L8.lst (iL T3)]) ?_ (h T3 x1 x2 ?_)
 ·have Rb:=R.app (ys:=[L8.lst (iL T2)])
  have ky:(kL S.tn).map (fun q=>mQ q.1)=nL S.tn:=by unfold kL nL;rw [List.map_map];rfl
  have f1:(((st++[L8.lst (iL T3)]).set u (.wk (kL S.tn))))[u]?=some (.wk (kL S.tn)):=fE (R.app (ys:=[L8.lst (iL T3)])).hu;have f2:((st++[L8.lst (iL T3)]).set u (.wk (kL S.tn))).set u (.dK (kL S.tn))=st++[L8.lst (iL T3)]:=by
   rw [List.set_set]
   have:=(R.app (ys:=[L8.lst (iL T3)])).hu
   obtain ⟨hlt,hget⟩:=zB.mp this;rw [<- hget,List.set_getElem_self]
  simp [tY,Rb.ins,Rb.hu];rw [show (kL S.tn).map ((fun q=>mQ q.1))=nL S.tn from ky] at *;rw [e];simp [yZ,f1,f2]
 ·have e2:∀ q,gI T2 q=if q=S.s p then S.d else gI T q:=fun q=>by rw [hT2,qC (by rw [hl];exact sb)]
  refine ⟨l3,fun j hj=>?_,?_,fun q hq hn hns=>?_⟩
  ·rw [h3,e2,yF (Q.hs j p hj hp),h1 j hj];split <;> omega
  ·rw [h3,e2,yG rfl]
  ·rw [h3,e2,yF hns,h2 q hn];split <;> rfl
end
structure HOk (nn:Int) (w nr:Nat) (HO:Nat->List Int):Prop where
 ex:∀ grp:Nat,1 <= grp->grp <= w->∃ rr,(∀ st,pm cm [.int nn,.int grp,.int 0] st=some (rr,st))/\∀ st,pm dj [.int nn,rr] st=some (.fz (iL (HO grp)),st)
 len:∀ grp:Nat,1 <= grp->grp <= w->(HO grp).length=nr
 bd:∀ (grp:Nat),1 <= grp->grp <= w->∀ x ∈ HO grp,x.natAbs <= 15
section
variable {st:aa}{k a b c g n u w m p nr:Nat}{rows:List AV}{S:Sh}{nn:Int}{HO:Nat->List Int}
theorem HH {r q:Nat}{x:Int} (h1:ev ks ea sl s=some (.ref r,s)) (h2:ev ks eb sl s=some (.int (q:Int),s)) (h3:ev ks ec sl s=some (.int x,s)) (hr:s[r]?=some (.lst (iL l))) (hq:q < l.length):cG ks (.aus .Add ea eb ec) sl s=some (.nx sl (s.set r (.lst (iL (l.set q (gI l q + x)))))):=by
 rw [F9];unfold tZ;rw [h1,bind_some];dsimp only;rw [h2,bind_some];dsimp only;rw [ck hr,bind_some,cD,cb hq,bind_some,h3,bind_some];dsimp only;have:re .Add s (.int (gI l q)) (.int x)=some (.int (gI l q + x)):=rfl;rw [this,bind_some,dS hr (by simp [hq]),gA,bind_some]
theorem yx (R:Rep st k a b c g n u rows S) (P:Md w (m + 1) S) (Q:SX.Pm w (m + 1) S.h S.s) (hp:p < m + 1) (nt:S.tn.Nodup) (ht:∀ q ∈ S.tn,q < w + (m + 1)) (hw:w <= 100) (hm:m + 1 <= 800) (HA:∀ st,pm ah [.int nn] st=some (.int w,st)) (H:HOk nn w nr HO) (hnr:nr <= m) :
  ∃ z,aJ [.int nn,.ref k,.int p] st=some z/\∃ T W,TK S w (m + 1) p T/\W.length=m/\(∀ x,x < m->gI W x=wt T HO w w x)/\z.1=.ref (st.length + 1)/\z.2=st++[L8.lst (iL T)]++[L8.lst (iL W)]:=by
 rw [aJ];simp only [aG];unfold eF;refine AH R P Q hp nt ht hw hm fun T x1 x2 hT=>?_
 have sT:(st++[L8.lst (iL T)])[st.length]?=some (.lst (iL T)):=gl;refine bM (sl':=[some (.int nn),some (.ref k),some (.int p),some (.ref st.length),x1,x2,some (.ref (st.length + 1)),none,none,none,none]) (st':=st++[L8.lst (iL T)]++[L8.lst (iL ((T.drop w).take m))]) ?_ ?_
 ·simp [qg,qc,HA,ck sT,B6 hT.len]
 have ll:(st++[L8.lst (iL T)]).length=st.length + 1:=by simp
 have sT2:∀ W:List Int,(st++[L8.lst (iL T)]++[L8.lst (iL W)])[st.length]?=some (.lst (iL T)):=fun W=>ga sT
 have sW:∀ W:List Int,(st++[L8.lst (iL T)]++[L8.lst (iL W)])[st.length + 1]?=some (.lst (iL W)):=fun W=>by rw [<- ll];exact gl
 have sSet:∀ W W':List Int,(st++[L8.lst (iL T)]++[L8.lst (iL W)]).set (st.length + 1) (.lst (iL W'))=st++[L8.lst (iL T)]++[L8.lst (iL W')]:=fun W W'=>by rw [<- ll];exact eU
 have hW0:∀ x,x < m->gI ((T.drop w).take m) x=wt T HO w 0 x:=fun x hx=>by
  unfold wt gI;rw [zD,List.getElem?_take_of_lt hx,List.getElem?_drop,zD];simp [Mo]
 obtain ⟨sl',st',e,W,y1,y2,y3,y4,rfl,rfl,hl,hW⟩:=fq (gd:=[]) (g:=bQ KW (.nm 7)) (s:=ai KW (.cons (.as (.ix (.v 3) (.bin .Sub (.v 7) (.i 1))) (.nm 8)) (.cons (.iff (.cmp .NotEq (.v 8) (.i 0))
   (.cons (.fo (.en (.ca true 2 (.cons (.v 0) (.cons (.ca true 1 (.cons (.v 0) (.cons (.v 7) (.cons (.i 0) .nil)))) .nil)))) (.tu 2 (.cons (.nm 9) (.cons (.nm 10) .nil))) (.cons (.aus .Add (.v 6) (.v 9) (.bin .Mult (.v 8) (.v 10))) .nil)) .nil) .nil) .nil)))
  (I:=fun i sl s=>∃ W y1 y2 y3 y4,s=st++[L8.lst (iL T)]++[L8.lst (iL W)]/\sl=[some (.int nn),some (.ref k),some (.int p),some (.ref st.length),x1,x2,some (.ref (st.length + 1)),y1,y2,y3,y4]/\W.length=m/\∀ x,x < m->gI W x=wt T HO w i x) (xs:=db 1 w) (fun _ _ _ _ _=>rfl)
  (fun i y sl s hy hI=>by
   obtain ⟨W,y1,y2,y3,y4,rfl,rfl,hl,hW⟩:=hI;have hi:i < w:=by have:=(zB.mp hy).1;unfold db at this;simpa using this
   have ey:y=.int (((i + 1:Nat)):Int):=by
    unfold db at hy;rw [zR,List.getElem?_range hi] at hy;injection hy with hy;rw [<- hy];show AV.int (1 + (i:Int))=_;congr 1;omega
   subst ey;have xi:cE (st++[L8.lst (iL T)]++[L8.lst (iL W)]) (.ref st.length) (.int (i:Int))=some (.int (gI T i)):=by rw [cR (ck (sT2 W)),cD,cb (by rw [hT.len];omega)]
   have st1:cG KW (.as (.ix (.v 3) (.bin .Sub (.v 7) (.i 1))) (.nm 8)) [some (.int nn),some (.ref k),some (.int p),some (.ref st.length),x1,x2,some (.ref (st.length + 1)),some (.int ((i + 1:Nat):Int)),y2,y3,y4] (st++[L8.lst (iL T)]++[L8.lst (iL W)])=some (.nx [some (.int nn),some (.ref k),some (.int p),some (.ref st.length),x1,x2,some (.ref (st.length + 1)),some (.int ((i + 1:Nat):Int)),some (.int (gI T i)),y3,y4] (st++[L8.lst (iL T)]++[L8.lst (iL W)])):=by
    have e0:((i + 1:Nat):Int) - 1=(i:Int):=by omega
    have hb:dL .Sub (st++[L8.lst (iL T)]++[L8.lst (iL W)]) (.int ((i + 1:Nat):Int)) (.int 1)=some (.int (i:Int)):=by rw [uR,e0]
    simp only [eC,iO,gh,dF,fP,cZ,cY,bind_some,hb,map_some,xi];rfl
   by_cases h0:gI T i=0
   ·refine ⟨_,_,_,rfl,aR st1 ?_,W,some (.int ((i + 1:Nat):Int)),some (.int (gI T i)),y3,y4,rfl,rfl,hl,fun x hx=>?_⟩
    ·simp [h0]
    ·rw [hW x hx];unfold wt;simp only [Mo,h0];omega
   ·obtain ⟨rr,r1,r2⟩:=H.ex (i + 1) oM oM
    have hlen:=H.len (i + 1) oM oM;obtain ⟨sl',st',e,W',z3,z4,rfl,rfl,hl',hW'⟩:=fq (gd:=[]) (g:=bQ KW (.tu 2 (.cons (.nm 9) (.cons (.nm 10) .nil)))) (s:=ai KW (.cons (.aus .Add (.v 6) (.v 9) (.bin .Mult (.v 8) (.v 10))) .nil))
     (I:=fun j sl s=>∃ W' z3 z4,s=st++[L8.lst (iL T)]++[L8.lst (iL W')]/\sl=[some (.int nn),some (.ref k),some (.int p),some (.ref st.length),x1,x2,some (.ref (st.length + 1)),some (.int ((i + 1:Nat):Int)),some (.int (gI T i)),z3,z4]/\W'.length=m/\∀ x,x < m->gI W' x=gI W x + if x < j then gI T i * gI (HO (i + 1)) x else 0) (xs:=d9 0 (iL (HO (i + 1)))) (fun _ _ _ _ _=>rfl)
     (fun j y sl s hy hI=>by
      obtain ⟨W',z3,z4,rfl,rfl,hl',hW'⟩:=hI;obtain ⟨x,hx',rfl⟩:=ng hy;have hj:j < nr:=by have:=(zB.mp hx').1;simpa [hlen] using this
      rw [cb oM] at hx';injection hx' with hx';subst hx';have hc:(gI (HO (i + 1)) j).natAbs <= 15:=by
       refine H.bd (i + 1) oM oM _ ?_;unfold gI;exact SX.getD_mem oM
      have mb:cP (gI T i) (gI (HO (i + 1)) j)=true:=by
       unfold cP;have:Nat.ble (gI (HO (i + 1)) j).natAbs.log2 62=true:=yJ (by
        by_cases hz:(gI (HO (i + 1)) j).natAbs=0
        ·rw [hz];decide
        ·exact yU ((Nat.log2_lt hz).mpr (yK hc dC)))
       rw [this];simp
      refine ⟨_,_,_,rfl,aR (HH (r:=st.length + 1) (q:=j) (l:=W') (x:=gI T i * gI (HO (i + 1)) j) rfl rfl (by simp [c5 mb]) (sW W') oM) rfl,W'.set j (gI W' j + gI T i * gI (HO (i + 1)) j),_,_,sSet _ _,rfl,by simp [hl'],fun x hx=>?_⟩;rw [qC oM];by_cases e:x=j
      ·subst e;rw [yG rfl,hW' x hx,yF oM,yG oM];omega
      ·rw [yF e,hW' x hx]
       by_cases e2:x < j
       ·rw [yG e2,yG oM]
       ·rw [yF e2,yF oM]) (sl:=[some (.int nn),some (.ref k),some (.int p),some (.ref st.length),x1,x2,some (.ref (st.length + 1)),some (.int ((i + 1:Nat):Int)),some (.int (gI T i)),y3,y4]) (st:=st++[L8.lst (iL T)]++[L8.lst (iL W)]) ⟨W,y3,y4,rfl,rfl,hl,fun x hx=>by simp⟩
    rw [lj,ka,hlen] at hW';refine ⟨_,_,_,rfl,aR st1 (aR (sl':=[some (.int nn),some (.ref k),some (.int p),some (.ref st.length),x1,x2,some (.ref (st.length + 1)),some (.int ((i + 1:Nat):Int)),some (.int (gI T i)),z3,z4]) (st':=st++[L8.lst (iL T)]++[L8.lst (iL W')]) ?_ rfl),W',some (.int ((i + 1:Nat):Int)),some (.int (gI T i)),z3,z4,rfl,rfl,hl',fun x hx=>?_⟩
    ·have r1':=r1 (st++[L8.lst (iL T)]++[L8.lst (iL W)])
     have r2':=r2 (st++[L8.lst (iL T)]++[L8.lst (iL W)]);simp only [kT,eQ,dF,fP,cZ,cY,bind_some,JX,map_some,z8 h0,Bool.not_false,ite_true];refine aR (sl':=[some (.int nn),some (.ref k),some (.int p),some (.ref st.length),x1,x2,some (.ref (st.length + 1)),some (.int ((i + 1:Nat):Int)),some (.int (gI T i)),z3,z4]) (st':=st++[L8.lst (iL T)]++[L8.lst (iL W')]) ?_ rfl;rw [pR,JL];simp only [eB,bV,cw,dF,fP,cZ,cY,bind_some,eR,eZ,eY];rw [r1'];simp only [bind_some];rw [r2'];simp only [bind_some,EQ,map_some];exact e
    ·rw [hW' x hx,hW x hx]
     unfold wt;simp only [Mo];by_cases e:x < nr
     ·rw [yG e];omega
     ·rw [yF e]
      have:gI (HO (i + 1)) x=0:=by unfold gI;rw [zD,List.getElem?_eq_none oM];rfl
      rw [this,Int.mul_zero];omega) (sl:=[some (.int nn),some (.ref k),some (.int p),some (.ref st.length),x1,x2,some (.ref (st.length + 1)),none,none,none,none]) (st:=st++[L8.lst (iL T)]++[L8.lst (iL ((T.drop w).take m))]) ⟨_,none,none,none,none,rfl,rfl,by simp [hT.len],hW0⟩
 have rl:(db 1 w).length=w:=by unfold db;simp
 rw [rl] at hW;refine ⟨(.ref (st.length + 1),st++[L8.lst (iL T)]++[L8.lst (iL W)]),?_,T,W,hT,hl,hW,rfl,rfl⟩;refine ak (sl':=[some (.int nn),some (.ref k),some (.int p),some (.ref st.length),x1,x2,some (.ref (st.length + 1)),y1,y2,y3,y4]) (st':=st++[L8.lst (iL T)]++[L8.lst (iL W)]) ?_ (by simp);have rb1:eV 1=true:=by decide
 have rb2:eV ((w:Int) + 1)=true:=by
  unfold eV;refine yJ ?_;rw [show ((w:Int) + 1).natAbs=w + 1 by omega];exact yU ((Nat.log2_lt oM).mpr oM)
 rw [pR];have ei:eL KW (.r2 (.i 1) (.bin .Add (.ca true 0 (.cons (.v 0) .nil)) (.i 1))) [some (.int nn),some (.ref k),some (.int p),some (.ref st.length),x1,x2,some (.ref (st.length + 1)),none,none,none,none] (st++[L8.lst (iL T)]++[L8.lst (iL ((T.drop w).take m))])=some (⟨db 1 w,[]⟩,st++[L8.lst (iL T)]++[L8.lst (iL ((T.drop w).take m))]):=by
  have e2:((w:Int) + 1 - 1).toNat=w:=by omega
  simp [-List.append_assoc,Ad,HA,rb1,rb2]
 rw [ei,bind_some];exact e
end
section
variable {st:aa}{k a b c g n u w m p nr:Nat}{rows:List AV}{S:Sh}{nn:Int}{HO:Nat->List Int}{v:Nat->Nat->Int}
theorem TK.bd (hT:TK S w m p T) (hp:p < m) (Q:SX.Pm w m S.h S.s) (B:S.d.natAbs < 2 ^ 8900/\∀ i,i < m->∀ j,j < w + 1->(S.t i j).natAbs < 2 ^ 8900) (q:Nat):(gI T q).natAbs < 2 ^ 8900:=by
 by_cases hq:q < w + m
 ·by_cases h1:∃ j,j < w/\S.h j=q
  ·obtain ⟨j,hj,rfl⟩:=h1
   rw [hT.hd j hj]
   have:=B.2 p hp j oM
   split
   ·exact this
   ·rw [Int.natAbs_neg];exact this
  ·by_cases h2:q=S.s p
   ·rw [h2,hT.sd]
    split
    ·rw [Int.natAbs_neg];exact B.1
    ·exact B.1
   ·rw [hT.no q hq (fun j hj z=>h1 ⟨j,hj,z⟩) h2];exact Nat.two_pow_pos _
 ·have:gI T q=0:=by unfold gI;rw [zD,List.getElem?_eq_none (by rw [hT.len];omega)];rfl
  rw [this];exact Nat.two_pow_pos _
theorem FS (hb:∀ q,(gI T q).natAbs < 2 ^ 8900) (H:HOk nn w nr HO) (hw:w <= 15) (x:Nat):(wt T HO w w x).natAbs < 2 ^ 9000:=by
 unfold wt;have h1:=SX.abs_sum (n:=w) (f:=fun y=>gI T y * gI (HO (y + 1)) x) (M:=2 ^ 8900 * 15) fun i hi=>by
  rw [Int.natAbs_mul];refine Nat.mul_le_mul (yU (hb i)) ?_;unfold gI;rw [zD];cases e:(HO (i + 1))[x]? with
  | none=>simp
  | some z=>exact H.bd (i + 1) oM oM z (zW e)
 have h2:=hb (w + x);have h3:=Int.natAbs_add_le (gI T (w + x)) (Mo w fun y=>gI T y * gI (HO (y + 1)) x);have h4:w * (2 ^ 8900 * 15) <= 15 * (2 ^ 8900 * 15):=Nat.mul_le_mul_right _ hw;have h5:(2:Nat) ^ 9000=2 ^ 8900 * 2 ^ 100:=by rw [<- Nat.pow_add]
 have h6:(2:Nat) ^ 100=1267650600228229401496703205376:=by decide
 rw [h5,h6];generalize (2:Nat) ^ 8900=B at *;omega
end
end LW
namespace LW
open PySem PySem.Spec L2 R
open SX (Sh Md gI Mo Me)
section
variable {w nr i:Nat}{RR:List (List Int)}{gv:List Gv}{goal:List Int}{S:Sh}{Y:Nat->Int}{e:Int}
theorem HM:(aS RR gv goal).length=RR.length + gv.length + 1:=by simp [aS];omega
end
section
variable {w:Nat}{RR:List (List Int)}{gv:List Gv}{goal:List Int}{nn:Int}{HO:Nat->List Int}
theorem B1 {n0:Nat}{i:Nat} (h:(d9 n0 xs)[i]?=some y):∃ x,xs[i]?=some x/\y=.tup [.int ((n0 + i:Nat):Int),x]:=by
 unfold d9 at h;rw [zR] at h;obtain ⟨z,h1,rfl⟩:=zE.mp h;rw [List.getElem?_zipIdx] at h1;obtain ⟨x,h2,rfl⟩:=zE.mp h1;exact ⟨x,h2,rfl⟩
theorem Hn:cC .Eq s (.str "=") (.str "=")=some true:=by kernel_rfl
theorem G9:cC .Eq s (.str ">") (.str "=")=some false:=by kernel_rfl
end
end LW
namespace LW
open PySem PySem.Spec L2 R
open SX (Sh Md Mj)
noncomputable def iG (key:Nat->Nat):Nat->Nat->List Nat->Nat
 | x,_,[]=>x
 | x,k,y::l=>if key y < k then iG key y (key y) l else iG key x k l
def uO (key:Nat->Nat):List Nat->Option Nat
 | []=>none
 | x::l=>some (iG key x (key x) l)
def gV (S:Sh) (p:Nat):Option Nat:=uO S.h ((bU S).filter fun j=>decide (0 < S.t p j))
def i6 (w:Nat) (S:Sh) (q:Nat) (o:Option Nat) (i:Nat):Option Nat:=(if S.t i q < 0/\S.s i ∈ S.gd then (match o with | none=>some i | some r=>if S.t i w * - S.t r q < S.t r w * - S.t i q\/(S.t i w * - S.t r q=S.t r w * - S.t i q/\S.s i < S.s r) then some i else some r) else o)
def gr (w m:Nat) (S:Sh) (q:Nat):Option Nat:=(List.range m).foldl (i6 w S q) none
theorem pO {w i:Nat}{S:Sh}{q:Nat}:gr w (i + 1) S q=i6 w S q (gr w i S q) i:=by
 unfold gr;rw [List.range_succ,List.foldl_append];rfl
noncomputable def qZ (S:Sh):Bool:=decide (S.d.natAbs < 1000000000) && !(S.d == 0) && S.ls.all fun l=>l.all fun x=>decide (x.natAbs < 1000000000)
def iw (w m p:Nat):Nat->Sh->Option (Bool × Sh)
 | 0,_=>none
 | n + 1,S=>if qZ S=true then (if S.t p w < 0 then (match gV S p with
  | none=>some (false,S)
  | some q=>(match gr w m S q with
   | none=>some (true,Mj S p q)
   | some r=>if S.t p w * S.t r q <= S.t r w * S.t p q then some (true,Mj S p q) else iw w m p n (Mj S r q))) else some (true,S)) else none
def ik (w m p:Nat):Nat->Sh->Option (Option Nat × Sh)
 | 0,_=>none
 | n + 1,S=>if qZ S=true then (match gV S p with
  | none=>some (none,S)
  | some q=>(match gr w m S q with
   | none=>some (some q,S)
   | some r=>ik w m p n (Mj S r q))) else none
theorem wq {key:Nat->Nat}{l:List Nat}:oz ((l.map fun q=>((q:Nat):Int)).zip (l.map fun q=>((key q:Nat):Int)))=oN (uO key l):=by
 cases l with
 | nil=>rfl
 | cons x l =>
  have go:∀ (l:List Nat) (x k:Nat),iW (x:Int) (k:Int) ((l.map fun q=>((q:Nat):Int)).zip (l.map fun q=>((key q:Nat):Int)))=((iG key x k l:Nat):Int):=by
   intro l
   induction l with
   | nil=>intro x k;rfl
   | cons y l ih =>
    intro x k;simp only [zO,List.zip_cons_cons,iW,iG];by_cases h:key y < k
    ·rw [yG oM,yG h];exact ih y (key y)
    ·rw [yF oM,yF h];exact ih x k
  exact congrArg AV.int (go l x (key x))
section
variable {st:aa}{k a b c g n u w m:Nat}{rows:List AV}{S:Sh}{p:Nat}
theorem uQ (P:Md w m S) (h:qZ S=true):Bd w m S/\S.d ≠ 0:=by
 unfold qZ at h;rw [zC,zC,yA,yN] at h;obtain ⟨⟨h1,h2⟩,h3⟩:=h;have big:1000000000 < 2 ^ 9000:=zJ (show 1000000000 < 2 ^ 30 by decide) (Nat.pow_le_pow_right dC dC);refine ⟨⟨Nat.lt_trans h1 big,fun i hi j hj=>?_⟩,by simpa using h2⟩;have hl:S.ls[i]?=some (SX.row S i):=by
  have:i < S.ls.length:=by rw [P.ls];exact hi
  unfold SX.row;rw [zD,zF this];rfl
 have:=h3 _ (zW hl)
 rw [yN] at this;have hlen:j < (SX.row S i).length:=by rw [P.rl hi];exact hj
 have hm:S.t i j ∈ SX.row S i:=by
  show (SX.row S i).getD j 0 ∈ _;rw [zD,zF hlen];exact List.getElem_mem hlen
 exact Nat.lt_trans (of_decide_eq_true (this _ hm)) big
theorem yq {key:Nat->Nat}{l:List Nat}{x:Nat} (h:uO key l=some x):x ∈ l:=by
 have go:∀ (l:List Nat) (x k:Nat),iG key x k l ∈ x::l:=by
  intro l
  induction l with
  | nil=>intro x k;simp [iG]
  | cons y l ih =>
   intro x k;simp only [iG];split
   ·exact zQ _ (ih y (key y))
   ·rcases zT.mp (ih x k) with e | e
    ·rw [e];exact z6 ..
    ·exact zQ _ (zQ _ e)
 cases l with
 | nil=>cases h
 | cons y l=>cases h;exact go l y (key y)
theorem rY (P:Md w m S) {q:Nat} (h:gV S p=some q):q < w:=by
 have:=List.mem_filter.mp (yq h)
 exact ((gy P).mp this.1).1
theorem pN {q r:Nat}:∀ {m:Nat},gr w m S q=some r->r < m:=by
 intro m
 induction m with
 | zero=>intro h;cases h
 | succ m ih =>
  rw [pO];unfold i6;intro h;split at h
  ·split at h
   ·cases h;omega
   ·rename_i e
    split at h
    ·cases h;omega
    ·cases h;have:=ih e;omega
  ·have:=ih h;omega
theorem pX (R:Rep st k a b c g n u rows S) (P:Md w m S) (hw:w <= 100) {p:Nat} (hp:p < m):ay [.ref k,.int p] st=some (oN (gV S p),st):=by
 have ll:(bU S).length <= 1000:=by
  unfold bU;rw [zH]
  have:=List.length_filter_le (fun z:Nat × Nat=>!decide (z.1 ∈ S.nl)) S.hd.zipIdx
  rw [List.length_zipIdx,P.hd] at this;omega
 have inl:∀ j,j ∈ (bU S).filter (fun j=>decide (0 < S.t p j)) ↔ (j < w/\S.h j ∉ S.nl)/\0 < S.t p j:=fun j=>by rw [List.mem_filter,gy P];simp
 have ho:=wq (key:=S.h) (l:=(bU S).filter fun j=>decide (0 < S.t p j));simp [ay,aG,di,R.ins,R.line P hp,sK R P hw,nL,bG ll];rw [c7 (B:=fun j=>decide (0 < S.t p j)) (F:=fun j:Nat=>.int (j:Int)) cF fun j hj=>⟨_,rfl,by simp [R.cell P hp (show j < w + 1 by have:=(gy P).mp hj;omega)],fun _=>rfl⟩];have hf:rfs (((bU S).filter fun j=>decide (0 < S.t p j)).map fun j:Nat=>(AV.int (j:Int)))=true:=g9;have hi:=sQ (l:=(bU S).filter fun j=>decide (0 < S.t p j));unfold nL at hi;simp [hf,pG,lsI,hi];rw [Er (f:=S.h) fun q hq=>by simp [R.ins,R.head P ((inl q).mp hq).1.1]];simp [ho,gV]
theorem rQ (R:Rep st k a b c g n u rows S) (P:Md w m S) (B:Bd w m S) {q:Nat} (hq:q < w):ax [.ref k,.int q] st=some (oN (gr w m S q),st):=by
 have rl:rows.length=m:=by rw [R.len,P.ls]
 obtain ⟨sl',st',e,rfl,o,x,y,rfl,T,To⟩:=fq (gd:=[(a,.lst rows)]) (g:=bQ [bO] (.tu 2 (.cons (.nm 3) (.cons (.nm 4) .nil)))) (s:=ai [bO] (.cons (.iff (.an (.cmp .Lt (.ix (.v 4) (.v 1)) (.i 0)) (.cmp .In (.ix (.fd "Sheet" "sides" (.v 0)) (.v 3)) (.fd "Sheet" "guarded" (.v 0))))
   (.cons (.iff (.or (.cmp .Is (.v 2) .n) (.va (.me "Sheet" "is_tighter" 0 (.v 0) (.cons (.v 3) (.cons (.v 2) (.cons (.v 1) .nil)))))) (.cons (.as (.v 3) (.nm 2)) .nil) .nil) .nil) .nil) .nil))
  (I:=fun i sl s=>s=st/\∃ o x y,sl=[some (.ref k),some (.int q),some (oN o),x,y]/\SX.Me S w q i o/\o=gr w i S q) (xs:=d9 0 rows) (fun i sl s _ hI=>by rw [hI.1];exact fY R.ha)
  (fun i y sl s hy hI=>by
   obtain ⟨rfl,o,x1,x2,rfl,T,To⟩:=hI;obtain ⟨x,hx,rfl⟩:=ng hy;have hi:i < m:=by rw [<- rl];exact (zB.mp hx).1
   have ex:x=jW rows i:=by have:=R.rx P hi;rw [hx] at this;injection this
   subst ex;refine ⟨_,[some (.ref k),some (.int q),some (oN (i6 w S q o i)),some (.int i),some (jW rows i)],s,rfl,?_,rfl,_,_,_,rfl,?_,by rw [pO,<- To]⟩
   ·unfold i6
    by_cases h1:S.t i q < 0
    ·by_cases h2:S.s i ∈ S.gd
     ·cases o with
      | none=>simp [R.cell P hi (show q < w + 1 by omega),h1,R.side P hi,R.ins,R.ing,h2,oN]
      | some r =>
       have hr:=(T.2 r rfl).1
       have:=G3 R P B hi (show r < m by omega) hq
       simp [R.cell P hi (show q < w + 1 by omega),h1,R.side P hi,R.ins,R.ing,h2,oN,this,dH,bw,dr];split <;> rfl
     ·simp [R.cell P hi (show q < w + 1 by omega),h1,R.side P hi,R.ins,R.ing,h2]
    ·simp [R.cell P hi (show q < w + 1 by omega),h1]
   ·unfold i6
    by_cases h1:S.t i q < 0/\S.s i ∈ S.gd
    ·rw [yG h1]
     cases o with
     | none=>exact SX.tt_first h1.1 h1.2 T
     | some r =>
      dsimp only;split
      ·rename_i h2;exact SX.tt_new h1.1 h1.2 h2 T
      ·rename_i h2;exact SX.tt_old h1.1 h2 T
    ·rw [yF h1];exact SX.tt_skip h1 T) (sl:=[some (.ref k),some (.int q),some .non,none,none]) (st:=st) ⟨rfl,none,none,none,rfl,SX.tt_zero,rfl⟩
 rw [lj,rl] at To;rw [<- To];simp [ax,aG,dh,R.ins,jd R.ha];rw [e];simp
end
section
variable {k b c g n u w m:Nat}{p:Nat}
theorem xU (hw:w <= 100) (hm:m <= 1000) (hp:p < m):∀ (N:Nat) (S:Sh) {bb:Bool}{S':Sh}{st:aa}{a:Nat}{rows:List AV} (x y:Option AV),iw w m p N S=some (bb,S')->Md w m S->Rep st k a b c g n u rows S ->
  ∃ o st' a' rows',dG (tv [ay,ax,bn,aw] (.cmp .Lt (.ix (.ix (.fd "Sheet" "lines" (.v 0)) (.v 1)) (.un .USub (.i 1))) (.i 0)))
   (ai [ay,ax,bn,aw] (.cons (.as (.me "Sheet" "raising_column" 0 (.v 0) (.cons (.v 1) .nil)) (.nm 2))
    (.cons (.iff (.cmp .Is (.v 2) .n) (.cons (.rt (.b false)) .nil) .nil)
    (.cons (.as (.me "Sheet" "tightest_place" 1 (.v 0) (.cons (.v 2) .nil)) (.nm 3))
    (.cons (.iff (.or (.cmp .Is (.v 3) .n) (.va (.me "Sheet" "is_up_first" 2 (.v 0) (.cons (.v 1) (.cons (.v 3) (.cons (.v 2) .nil)))))) (.cons (.ex (.me "Sheet" "exchange" 3 (.v 0) (.cons (.v 1) (.cons (.v 2) .nil)))) (.cons (.rt (.b true)) .nil)) .nil)
    (.cons (.ex (.me "Sheet" "exchange" 3 (.v 0) (.cons (.v 3) (.cons (.v 2) .nil)))) .nil)))))) N [some (.ref k),some (.int p),x,y] st=some o/\Rep st' k a' b c g n u rows' S'/\Md w m S'/\(o=.rt (.bl bb) st'\/(bb=true/\∃ sl,o=.nx sl st')):=by
 intro N
 induction N with
 | zero=>intro S bb S' st a rows x y h;cases h
 | succ N ih =>
  intro S bb S' st a rows x y h P R;simp only [iw] at h;split at h
  ·rename_i hb
   obtain ⟨B,d0⟩:=uQ P hb;have ht:tv [ay,ax,bn,aw] (.cmp .Lt (.ix (.ix (.fd "Sheet" "lines" (.v 0)) (.v 1)) (.un .USub (.i 1))) (.i 0)) [some (.ref k),some (.int p),x,y] st=some (decide (S.t p w < 0),st):=by
    simp [R.ins,R.line P hp,R.last P hp]
   split at h
   ·rename_i low
    rw [yR low] at ht;have e1:=pX R P hw hp;split at h
    ·rename_i hr
     cases h;rw [hr] at e1;refine ⟨_,st,a,rows,dE (show 1 <= N + 1 by omega) (ms (v:=.bl false) (st2:=st) ht ?_),R,P,.inl rfl⟩;simp [R.ins,e1,oN]
    ·rename_i q hr
     rw [hr] at e1;have q1:=rY P hr;have e2:=rQ R P B q1;split at h
     ·rename_i hti
      cases h;rw [hti] at e2;obtain ⟨st',a2,rows2,e3,R2⟩:=kb R P B d0 hw hm hp q1;refine ⟨_,st',a2,rows2,dE (show 1 <= N + 1 by omega) (ms (v:=.bl true) (st2:=st') ht ?_),R2,SX.exch_shp P hp,.inl rfl⟩;simp [R.ins,e1,e2,e3,oN]
     ·rename_i r hti
      rw [hti] at e2;have r1:=pN hti;have e4:=FW R P B hp r1 q1;split at h
      ·rename_i hu
       cases h;rw [yR hu] at e4;obtain ⟨st',a2,rows2,e3,R2⟩:=kb R P B d0 hw hm hp q1;refine ⟨_,st',a2,rows2,dE (show 1 <= N + 1 by omega) (ms (v:=.bl true) (st2:=st') ht ?_),R2,SX.exch_shp P hp,.inl rfl⟩;simp [R.ins,e1,e2,e3,e4,oN,dH,bw,dr]
      ·rename_i hu
       rw [z8 hu] at e4;obtain ⟨st',a2,rows2,e3,R2⟩:=kb R P B d0 hw hm r1 q1;obtain ⟨o,st2,a3,rows3,e5,R3,P3,h3⟩:=ih (Mj S r q) (some (.int q)) (some (.int r)) h (SX.exch_shp P r1) R2;refine ⟨o,st2,a3,rows3,nU (st':=st) (sl2:=[some (.ref k),some (.int p),some (.int q),some (.int r)]) (st2:=st') ht ?_ e5,R3,P3,h3⟩;simp [R.ins,e1,e2,e3,e4,oN,dH,bw,dr]
   ·rename_i low
    cases h;rw [z8 low] at ht;exact ⟨_,st,a,rows,dE (show 1 <= N + 1 by omega) (nT ht),R,P,.inr ⟨rfl,_,rfl⟩⟩
  ·cases h
theorem vU (hw:w <= 100) (hm:m <= 1000) (hp:p < m) {N:Nat}{S S':Sh}{bb:Bool}{st:aa}{a:Nat}{rows:List AV} (h:iw w m p N S=some (bb,S')) (P:Md w m S) (R:Rep st k a b c g n u rows S) :
  ∃ st' a' rows',bN [.ref k,.int p] st=some (.bl bb,st')/\Rep st' k a' b c g n u rows' S'/\Md w m S':=by
 obtain ⟨o,st',a',rows',e,R',P',h'⟩:=xU hw hm hp N S none none h P R;have e:=mx e;refine ⟨st',a',rows',?_,R',P'⟩;rcases h' with rfl | ⟨rfl,sl,rfl⟩
 ·simp [bN,aG,fM,e]
 ·simp [bN,aG,fM,e]
theorem wf (hw:w <= 100) (hm:m <= 1000) (hp:p < m):∀ (N:Nat) (S:Sh) {oq:Option Nat}{S':Sh}{st:aa}{a:Nat}{rows:List AV} (x:Option AV),ik w m p N S=some (oq,S')->Md w m S->Rep st k a b c g n u rows S ->
  ∃ o st' a' rows',dG (tv [ay,ax,aw] (.cmp .IsNot (.v 2) .n)) (ai [ay,ax,aw] (.cons (.as (.me "Sheet" "tightest_place" 1 (.v 0) (.cons (.v 2) .nil)) (.nm 3)) (.cons (.iff (.cmp .Is (.v 3) .n) (.cons (.rt (.v 2)) .nil) .nil) (.cons (.ex (.me "Sheet" "exchange" 2 (.v 0) (.cons (.v 3) (.cons (.v 2) .nil)))) (.cons (.as (.me "Sheet" "raising_column" 0 (.v 0) (.cons (.v 1) .nil)) (.nm 2)) .nil))))) N [some (.ref k),some (.int p),some (oN (gV S p)),x] st=some o/\Rep st' k a' b c g n u rows' S'/\Md w m S'/\((oq=none/\∃ sl,o=.nx sl st')\/∃ q,oq=some q/\q < w/\o=.rt (.int ((q:Nat):Int)) st'):=by
 intro N
 induction N with
 | zero=>intro S oq S' st a rows x h;cases h
 | succ N ih =>
  intro S oq S' st a rows x h P R;simp only [ik] at h;split at h
  ·rename_i hb
   obtain ⟨B,d0⟩:=uQ P hb;split at h
   ·rename_i hr
    cases h;rw [hr];exact ⟨_,st,a,rows,dE (show 1 <= N + 1 by omega) (nT (by simp [oN])),R,P,.inl ⟨rfl,_,rfl⟩⟩
   ·rename_i q hr
    rw [hr];have q1:=rY P hr;have e2:=rQ R P B q1;split at h
    ·rename_i hti
     cases h;rw [hti] at e2;refine ⟨_,st,a,rows,dE (show 1 <= N + 1 by omega) (ms (v:=.int q) (st':=st) (st2:=st) (by simp [oN]) ?_),R,P,.inr ⟨q,rfl,q1,rfl⟩⟩;simp [R.ins,oN,e2]
    ·rename_i r hti
     rw [hti] at e2;have r1:=pN hti;obtain ⟨st',a2,rows2,e3,R2⟩:=kb R P B d0 hw hm r1 q1;have P2:=SX.exch_shp (c:=q) P r1;have e4:=pX R2 P2 hw hp;obtain ⟨o,st2,a3,rows3,e5,R3,P3,h3⟩:=ih (Mj S r q) (some (.int r)) h P2 R2;refine ⟨o,st2,a3,rows3,nU (st':=st) (sl2:=[some (.ref k),some (.int p),some (oN (gV (Mj S r q) p)),some (.int r)]) (st2:=st') (by simp [oN]) ?_ e5,R3,P3,h3⟩;refine aR (sl':=[some (.ref k),some (.int p),some (.int q),some (.int r)]) (st':=st) (by simp [R.ins,oN,e2]) (aR (sl':=[some (.ref k),some (.int p),some (.int q),some (.int r)]) (st':=st) (by simp) (aR (sl':=[some (.ref k),some (.int p),some (.int q),some (.int r)]) (st':=st') (by simp [R.ins,e3]) (aR (sl':=[some (.ref k),some (.int p),some (oN (gV (Mj S r q) p)),some (.int r)]) (st':=st') (by simp [R2.ins,e4]) rfl)))
  ·cases h
theorem B2 (hw:w <= 100) (hm:m <= 1000) (hp:p < m) {N:Nat}{S S':Sh}{oq:Option Nat}{st:aa}{a:Nat}{rows:List AV} (h:ik w m p N S=some (oq,S')) (P:Md w m S) (R:Rep st k a b c g n u rows S) :
  ∃ st' a' rows',bC [.ref k,.int p] st=some (oN oq,st')/\Rep st' k a' b c g n u rows' S'/\Md w m S'/\∀ q,oq=some q->q < w:=by
 have e1:=pX R P hw hp;obtain ⟨o,st',a',rows',e,R',P',h'⟩:=wf hw hm hp N S none h P R;have e:=mx e;refine ⟨st',a',rows',?_,R',P',fun q hq=>?_⟩
 ·rw [bC,aG]
  show (ai [ay,ax,aw] ff [some (.ref k),some (.int p),none,none] st).bind aF=_;refine ak (sl':=[some (.ref k),some (.int p),some (oN (gV S p)),none]) (st':=st) (by simp [R.ins,e1]) ?_;rcases h' with ⟨rfl,sl,rfl⟩ | ⟨q,rfl,_,rfl⟩
  ·exact ak e (cq rfl)
  ·exact cq e
 ·rcases h' with ⟨rfl,_⟩ | ⟨q',rfl,h,_⟩
  ·cases hq
  ·cases hq;exact h
end
noncomputable def xM:List Nat->Option Nat
 | []=>none
 | x::l=>some (l.foldl (fun a b=>if b < a then b else a) x)
def qj (S:Sh) (p:Nat):Option Nat:=xM ((bU S).filter fun j=>!decide (S.t p j=0))
def uy (w m p N:Nat) (S:Sh):Option (Bool × Sh):=if Nat.ble S.gd.length 1000=true then (iw w m p N S).map fun r=>if r.1=true then (true,{ r.2 with gd:=ins r.2.gd (S.s p) }) else r else none
def lb (w p:Nat) (S:Sh):Sh:=if 0 < S.t p w then SX.trn S p else S
def Ab (w m p N:Nat) (S:Sh):Option (Bool × Sh):=if S.t p w < 0 then iw w m p N S else if qZ S=true then some (true,match qj S p with | none=>S | some q=>Mj S p q) else none
def uz (w m p N:Nat) (S:Sh):Option (Bool × Sh):=if Nat.ble S.nl.length 1000 && Nat.ble S.tn.length 1000 then (Ab w m p N (lb w p S)).map fun r=>if r.1=true then (true,{ r.2 with nl:=ins r.2.nl (S.s p) }) else r else none
section
variable {st:aa}{k a b c g n u w m:Nat}{rows:List AV}{S:Sh}{p:Nat}
theorem Em {l:List Nat}:xN (l.map fun j=>((j:Nat):Int))=oN (xM l):=by
 cases l with
 | nil=>rfl
 | cons x l =>
  have go:∀ (l:List Nat) (x:Nat),(l.map fun j=>((j:Nat):Int)).foldl (fun a b=>if b < a then b else a) (x:Int)=((l.foldl (fun a b=>if b < a then b else a) x:Nat):Int):=by
   intro l
   induction l with
   | nil=>intro x;rfl
   | cons y l ih =>
    intro x;rw [zO,List.foldl_cons,List.foldl_cons];by_cases h:y < x
    ·rw [yG oM,yG h];exact ih y
    ·rw [yF oM,yF h];exact ih x
  exact congrArg AV.int (go l x)
theorem xL {l:List Nat}{x:Nat} (h:xM l=some x):x ∈ l:=by
 have go:∀ (l:List Nat) (x:Nat),l.foldl (fun a b=>if b < a then b else a) x ∈ x::l:=by
  intro l
  induction l with
  | nil=>intro x;simp
  | cons y l ih =>
   intro x;rw [List.foldl_cons];rcases zT.mp (ih (if y < x then y else x)) with e | e
   ·rw [e];split <;> simp
   ·exact zQ _ (zQ _ e)
 cases l with
 | nil=>cases h
 | cons y l=>cases h;exact go l y
theorem GN (R:Rep st k a b c g n u rows S) (P:Md w m S) (hw:w <= 100) (hp:p < m):aO [.ref k,.int p] st=some (oN (qj S p),st):=by
 have ll:(bU S).length <= 1000:=by
  unfold bU;rw [zH]
  have:=List.length_filter_le (fun z:Nat × Nat=>!decide (z.1 ∈ S.nl)) S.hd.zipIdx
  rw [List.length_zipIdx,P.hd] at this;omega
 have ho:=Em (l:=(bU S).filter fun j=>!decide (S.t p j=0));simp [aO,aG,dz,R.ins,R.line P hp,sK R P hw,nL,bG ll];rw [c7 (B:=fun j=>!decide (S.t p j=0)) (F:=fun j:Nat=>.int (j:Int)) cF fun j hj=>⟨_,rfl,by simp [R.cell P hp (show j < w + 1 by have:=(gy P).mp hj;omega)],fun _=>rfl⟩];have hf:rfs (((bU S).filter fun j=>!decide (S.t p j=0)).map fun j:Nat=>(AV.int (j:Int)))=true:=g9;have hi:=sQ (l:=(bU S).filter fun j=>!decide (S.t p j=0));unfold nL at hi;simp [hf,b9,mN,lsI,hi,ho,qj]
theorem Ei (P:Md w m S) {q:Nat} (h:qj S p=some q):q < w:=by
 have:=List.mem_filter.mp (xL h)
 exact ((gy P).mp this.1).1
theorem CD {S:Sh}{l:List Nat} (P:Md w m S):Md w m { S with gd:=l }:=⟨P.ls,P.row,P.hd,P.sd⟩
theorem CC {S:Sh}{l:List Nat} (P:Md w m S):Md w m { S with nl:=l }:=⟨P.ls,P.row,P.hd,P.sd⟩
theorem sM (hb:True):∀ (N:Nat) (S:Sh) {bb:Bool}{S':Sh},iw w m p N S=some (bb,S')->S'.gd=S.gd/\S'.nl=S.nl/\S'.tn=S.tn:=by
 intro N
 induction N with
 | zero=>intro S bb S' h;cases h
 | succ N ih =>
  intro S bb S' h;simp only [iw] at h;split at h
  ·split at h
   ·split at h
    ·cases h;exact ⟨rfl,rfl,rfl⟩
    ·split at h
     ·cases h;exact ⟨rfl,rfl,rfl⟩
     ·split at h
      ·cases h;exact ⟨rfl,rfl,rfl⟩
      ·obtain ⟨a,b,c⟩:=ih _ h;exact ⟨a,b,c⟩
   ·cases h;exact ⟨rfl,rfl,rfl⟩
  ·cases h
theorem GU (hw:w <= 100) (hm:m <= 1000) (hp:p < m) {N:Nat}{S':Sh}{bb:Bool} (h:uy w m p N S=some (bb,S')) (P:Md w m S) (R:Rep st k a b c g n u rows S) :
  ∃ st' a' rows',bt [.ref k,.int p] st=some (.bl bb,st')/\Rep st' k a' b c g n u rows' S'/\Md w m S':=by
 unfold uy at h;split at h
 ·rename_i hl
  have hl:=zS hl;obtain ⟨⟨b1,S1⟩,h1,h2⟩:=zE.mp h;obtain ⟨st1,a1,rows1,e1,R1,P1⟩:=vU hw hm hp h1 P R;dsimp only at h2;cases b1 with
  | false =>
   rw [yF (by simp)] at h2;cases h2;refine ⟨st1,a1,rows1,?_,R1,P1⟩;simp [bt,aG,d7,R.ins,R.side P hp,e1,dH,bw,dr]
  | true =>
   rw [yG rfl] at h2;cases h2;have g1:=(sM trivial N S h1).1;obtain ⟨st2,e2,R2⟩:=sX (q:=S.s p) R1 (by rw [g1];exact hl);refine ⟨st2,a1,rows1,?_,R2,CD P1⟩;simp [bt,aG,d7,R.ins,R.side P hp,e1,dH,bw,dr,R1.ins,e2]
 ·cases h
theorem GV (hw:w <= 100) (hm:m <= 1000) (hp:p < m) {N:Nat}{S':Sh}{bb:Bool} (h:uz w m p N S=some (bb,S')) (P:Md w m S) (R:Rep st k a b c g n u rows S) :
  ∃ st' a' rows',bY [.ref k,.int p] st=some (.bl bb,st')/\Rep st' k a' b c g n u rows' S'/\Md w m S':=by
 unfold uz at h;split at h
 ·rename_i hl
  rw [zC] at hl;have hl1:=zS hl.1;have hl2:=zS hl.2;obtain ⟨⟨b1,S2⟩,h1,h2⟩:=zE.mp h;dsimp only at h2;have s1:∃ (st1:aa) (rows1:List AV),cG [bq,bN,aO,aw,cp] (.iff (.cmp .Gt (.ix (.ix (.fd "Sheet" "lines" (.v 0)) (.v 1)) (.un .USub (.i 1))) (.i 0)) (.cons (.ex (.me "Sheet" "turn_line" 0 (.v 0) (.cons (.v 1) .nil))) .nil) .nil) [some (.ref k),some (.int p),some (.int (S.s p:Int)),none] st=some (.nx [some (.ref k),some (.int p),some (.int (S.s p:Int)),none] st1) /\
    Rep st1 k a b c g n u rows1 (lb w p S)/\Md w m (lb w p S)/\(lb w p S).nl=S.nl:=by
   unfold lb;by_cases h:0 < S.t p w
   ·rw [yG h]
    obtain ⟨st1,rows1,e1,R1⟩:=Cn R P hw hp hl2;refine ⟨st1,rows1,?_,R1,SX.trn_shp P hp,rfl⟩;simp [R.ins,R.line P hp,R.last P hp,h,e1]
   ·rw [yF h]
    refine ⟨st,rows,?_,R,P,rfl⟩;simp [R.ins,R.line P hp,R.last P hp,h]
  obtain ⟨st1,rows1,e1,R1,P1,n1⟩:=s1;obtain ⟨S1,hS1⟩:∃ S1,S1=lb w p S:=⟨_,rfl⟩;rw [<- hS1] at h1 R1 P1 n1;have e0:cG [bq,bN,aO,aw,cp] (.as (.ix (.fd "Sheet" "sides" (.v 0)) (.v 1)) (.nm 2)) [some (.ref k),some (.int p),none,none] st=some (.nx [some (.ref k),some (.int p),some (.int (S.s p:Int)),none] st):=by simp [R.ins,R.side P hp]
  have mid:∃ (st2:aa) (a2:Nat) (rows2:List AV),Rep st2 k a2 b c g n u rows2 S2/\Md w m S2/\S2.nl=S.nl/\∃ y3,cG [bq,bN,aO,aw,cp] (.iff (.cmp .Lt (.ix (.ix (.fd "Sheet" "lines" (.v 0)) (.v 1)) (.un .USub (.i 1))) (.i 0)) (.cons (.iff (.no (.va (.me "Sheet" "lift" 1 (.v 0) (.cons (.v 1) .nil)))) (.cons (.rt (.b false)) .nil) .nil) .nil) (.cons (.as (.me "Sheet" "moving_column" 2 (.v 0) (.cons (.v 1) .nil)) (.nm 3)) (.cons (.iff (.cmp .IsNot (.v 3) .n) (.cons (.ex (.me "Sheet" "exchange" 3 (.v 0) (.cons (.v 1) (.cons (.v 3) .nil)))) .nil) .nil) .nil))) [some (.ref k),some (.int p),some (.int (S.s p:Int)),none] st1=some (if b1=true then .nx [some (.ref k),some (.int p),some (.int (S.s p:Int)),y3] st2 else .rt (.bl false) st2):=by
   unfold Ab at h1;split at h1
   ·rename_i low
    obtain ⟨st2,a2,rows2,e2,R2,P2⟩:=vU hw hm hp h1 P1 R1;refine ⟨st2,a2,rows2,R2,P2,by rw [(sM trivial N S1 h1).2.1,n1],none,?_⟩;cases b1 <;> simp [R1.ins,R1.line P1 hp,R1.last P1 hp,low,e2,dH,bw,dr]
   ·rename_i low
    split at h1
    ·rename_i hb
     obtain ⟨B,d0⟩:=uQ P1 hb;have e2:=GN R1 P1 hw hp;cases hmv:qj S1 p with
     | none =>
      rw [hmv] at h1 e2;cases h1;refine ⟨st1,a,rows1,R1,P1,n1,some .non,?_⟩;simp [R1.ins,R1.line P1 hp,R1.last P1 hp,low,e2,oN]
     | some q =>
      rw [hmv] at h1 e2;cases h1;obtain ⟨st2,a2,rows2,e3,R2⟩:=kb R1 P1 B d0 hw hm hp (Ei P1 hmv);refine ⟨st2,a2,rows2,R2,SX.exch_shp P1 hp,n1,some (.int q),?_⟩;simp [R1.ins,R1.line P1 hp,R1.last P1 hp,low,e2,oN,e3]
    ·cases h1
  obtain ⟨st2,a2,rows2,R2,P2,n2,y3,e2⟩:=mid;have go:bY [.ref k,.int p] st=(ai [bq,bN,aO,aw,cp] iV [some (.ref k),some (.int p),none,none] st).bind aF:=by rw [bY,aG];rfl
  cases b1 with
  | false =>
   rw [yF (by simp)] at h2;cases h2;refine ⟨st2,a2,rows2,?_,R2,P2⟩;rw [go];exact ak e0 (ak e1 (cq e2))
  | true =>
   rw [yG rfl] at h2;cases h2;obtain ⟨st3,e3,R3⟩:=Ea (q:=S.s p) R2 (by rw [n2];exact hl1);refine ⟨st3,a2,rows2,?_,R3,CC P2⟩;rw [go];exact ak e0 (ak e1 (ak e2 (ak (sl':=[some (.ref k),some (.int p),some (.int (S.s p:Int)),y3]) (st':=st3) (by simp [R2.ins,e3]) (cq rfl))))
 ·cases h
end
end LW
namespace LW
open PySem PySem.Spec L2 R
open SX (Sh Md Mj gI Mo)
noncomputable def qe:List Nat->Bool
 | []=>true
 | x::l=>!decide (x ∈ l) && qe l
def vL (w m:Nat) (S:Sh):Bool:=qZ S && qe (S.hd++S.sd) && qe S.tn && (S.hd++S.sd++S.tn).all (fun q=>Nat.blt q (w + m)) && (List.range (w + m)).all fun q=>decide (q ∈ S.hd++S.sd)
def mV (S:Sh) (w m cc:Nat):List Int:=(List.range w).map fun q=>match (List.range m).find? fun i=>S.s i == q with
 | some i=>S.t i cc
 | none=>0
def yY (S:Sh) (w m p:Nat):List Int:=(List.range (w + m)).map fun q=>match (List.range w).find? fun j=>S.h j == q with
 | some j=>if q ∈ S.tn then S.t p j else - S.t p j
 | none=>if q=S.s p then (if q ∈ S.tn then - S.d else S.d) else 0
def mr (S:Sh) (w m p:Nat) (HO:Nat->List Int):List Int:=(List.range m).map fun x=>wt (yY S w (m + 1) p) HO w w x
def qx (w m p N:Nat) (z:Gv) (S:Sh):Option (Bool × Sh):=if z.eq=true then uz w m p N S else uy w m p N S
def uG (w m N:Nat):Nat->List Gv->Sh->Option (Option Nat × Sh)
 | _,[],S=>some (none,S)
 | p,z::l,S=>match qx w m p N z S with
  | none=>none
  | some (true,S')=>uG w m N (p + 1) l S'
  | some (false,S')=>some (some p,S')
def qf (w m:Nat) (HO:Nat->List Int) (p:Nat) (S:Sh):Option AV:=if vL w (m + 1) S=true then some (.tup [.str "never",.fz (iL (aT (mr S w m p HO)))]) else none
def mf (w m:Nat) (HO:Nat->List Int) (S:Sh):Option AV:=if vL w (m + 1) S=true then some (.tup [.str "least",.tup [.int (gI (aT [- S.t m w,S.d]) 0),.int (gI (aT [- S.t m w,S.d]) 1)],.tup [.fz (iL ((aT (mV S w (m + 1) w++[S.d])).take w)),.int (gI (aT (mV S w (m + 1) w++[S.d])) w)],.int (gI (aT (mr S w m m HO++[S.d])) m),.fz (iL ((aT (mr S w m m HO++[S.d])).take m))]) else none
def mm (w m:Nat) (q:Nat) (S:Sh):Option AV:=if vL w (m + 1) S=true then some (.tup [.str "endless",.tup [.fz (iL ((aT (mV S w (m + 1) w++[S.d])).take w)),.int (gI (aT (mV S w (m + 1) w++[S.d])) w)],.fz (iL (aT (if S.h q < w then (mV S w (m + 1) q).set (S.h q) S.d else mV S w (m + 1) q)))]) else none
def JR (w m N:Nat) (HO:Nat->List Int):Option Nat × Sh->Option AV
 | (some p,S)=>qf w m HO p S
 | (none,S)=>(ik w (m + 1) m N S).bind fun r=>match r with
  | (none,S')=>mf w m HO S'
  | (some q,S')=>mm w m q S'
def rh (w:Nat) (RR:List (List Int)) (HO:Nat->List Int) (gv:List Gv) (goal:List Int) (N:Nat):Option AV :=
 (uG w (RR.length + gv.length + 1) N RR.length gv (SX.openS w (aS RR gv goal) (w + RR.length))).bind (JR w (RR.length + gv.length) N HO)
section
variable {w m:Nat}{S:Sh}{st:aa}{k a b c g n u p:Nat}{rows:List AV}{HO:Nat->List Int}
theorem n9:∀ {l:List Nat},qe l=true->l.Nodup
 | [],_=>List.nodup_nil
 | x::l,h=>by
  unfold qe at h;rw [zC] at h;exact List.nodup_cons.mpr ⟨by simpa using h.1,n9 h.2⟩
structure OkS (w m:Nat) (S:Sh):Prop where
 pm:SX.Pm w m S.h S.s
 bd:S.d.natAbs < 1000000000/\∀ i,i < m->∀ j,j < w + 1->(S.t i j).natAbs < 1000000000
 nt:S.tn.Nodup
 ht:∀ q ∈ S.tn,q < w + m
theorem qb (P:Md w m S) (h:vL w m S=true):OkS w m S:=by
 unfold vL at h;simp only [zC,yN] at h;obtain ⟨⟨⟨⟨h1,h2⟩,h3⟩,h4⟩,h5⟩:=h;have h2:=n9 h2;have h4:∀ q ∈ S.hd++S.sd++S.tn,q < w + m:=fun q hq=>by simpa using h4 q hq
 have hh:∀ j,j < w->S.hd[j]?=some (S.h j):=fun j hj=>by
  show S.hd[j]?=some (S.hd.getD j 0);rw [zD,zF (by rw [P.hd];exact hj)];rfl
 have hs:∀ j,j < m->S.sd[j]?=some (S.s j):=fun j hj=>by
  show S.sd[j]?=some (S.sd.getD j 0);rw [zD,zF (by rw [P.sd];exact hj)];rfl
 rw [List.nodup_append] at h2;obtain ⟨n1,n2,n3⟩:=h2;have inj:∀ {l:List Nat}{i j x:Nat},l.Nodup->l[i]?=some x->l[j]?=some x->i=j:=fun {l i j x} hn e1 e2=>by
  obtain ⟨a1,a2⟩:=zB.mp e1;obtain ⟨b1,b2⟩:=zB.mp e2;have hp:=List.pairwise_iff_getElem.mp hn;rcases Nat.lt_trichotomy i j with h | h | h
  ·exact absurd (a2.trans b2.symm) (hp i j a1 b1 h)
  ·exact h
  ·exact absurd (b2.trans a2.symm) (hp j i b1 a1 h)
 refine ⟨⟨fun j hj=>h4 _ ?_,fun j hj=>h4 _ ?_,fun i j hi hj e=>inj n1 (hh i hi) (by rw [e];exact hh j hj),fun i j hi hj e=>inj n2 (hs i hi) (by rw [e];exact hs j hj),fun j i hj hi=>n3 _ (zW (hh j hj)) _ (zW (hs i hi)),fun q hq=>?_⟩,?_,n9 h3,fun q hq=>h4 q (zK _ hq)⟩
 ·exact zL _ (zL _ (zW (hh j hj)))
 ·exact zL _ (zK _ (zW (hs j hj)))
 ·have:=h5 q (List.mem_range.mpr hq)
  rw [yA,zZ] at this;rcases this with h | h
  ·obtain ⟨j,hj⟩:=z7 h
   have hl:=(zB.mp hj).1;rw [P.hd] at hl;rw [hh j hl] at hj;exact .inr ⟨j,hl,yC hj⟩
  ·obtain ⟨j,hj⟩:=z7 h
   have hl:=(zB.mp hj).1;rw [P.sd] at hl;rw [hs j hl] at hj;exact .inl ⟨j,hl,yC hj⟩
 ·unfold qZ at h1
  rw [zC,zC,yA,yN] at h1;obtain ⟨⟨h1,_⟩,h3⟩:=h1;refine ⟨h1,fun i hi j hj=>?_⟩;have hl:S.ls[i]?=some (SX.row S i):=by
   show S.ls[i]?=some (S.ls.getD i []);rw [zD,zF (by rw [P.ls];exact hi)];rfl
  have:=h3 _ (zW hl)
  rw [yN] at this;show (gI (SX.row S i) j).natAbs < _;unfold gI;rw [zD];cases e:(SX.row S i)[j]? with
  | none=>decide
  | some x=>simpa using this x (zW e)
theorem OkS.b89 (O:OkS w m S):S.d.natAbs < 2 ^ 8900/\∀ i,i < m->∀ j,j < w + 1->(S.t i j).natAbs < 2 ^ 8900:=by
 have big:1000000000 < 2 ^ 8900:=zJ (show 1000000000 < 2 ^ 30 by decide) (Nat.pow_le_pow_right dC dC);exact ⟨Nat.lt_trans O.bd.1 big,fun i hi j hj=>Nat.lt_trans (O.bd.2 i hi j hj) big⟩
theorem OkS.b90 (O:OkS w m S):Bd w m S:=by
 have big:1000000000 < 2 ^ 9000:=zJ (show 1000000000 < 2 ^ 30 by decide) (Nat.pow_le_pow_right dC dC);exact ⟨Nat.lt_trans O.bd.1 big,fun i hi j hj=>Nat.lt_trans (O.bd.2 i hi j hj) big⟩
theorem qJ {l l':List Int} (h1:l.length=l'.length) (h2:∀ q,q < l.length->gI l q=gI l' q):l=l':=by
 refine List.ext_getElem h1 fun q h h'=>?_
 have:=h2 q h
 unfold gI at this;rw [zD,zD,zF h,zF h'] at this;exact this
theorem qF {f:Nat->Int}{N q:Nat} (h:q < N):gI ((List.range N).map f) q=f q:=by
 unfold gI;rw [zD,zR,List.getElem?_range h];rfl
theorem uF {cc:Nat}{X:List Int} (h:GX S w cc m X):X=mV S w m cc:=by
 refine qJ (by simp [mV,h.len]) fun q hq=>?_
 rw [h.len] at hq;unfold mV;rw [qF hq];split
 ·rename_i i hi
  have h1:=List.find?_some hi;have h2:=List.mem_range.mp (List.mem_of_find?_eq_some hi);rw [beq_iff_eq] at h1;subst h1;exact h.at_ i h2 hq
 ·rename_i hi
  exact h.no q hq fun i hi' e=>by
   have:=List.find?_eq_none.mp hi i (List.mem_range.mpr hi')
   simp [e] at this
theorem FX {T:List Int} (h:TK S w m p T):T=yY S w m p:=by
 refine qJ (by simp [yY,h.len]) fun q hq=>?_
 rw [h.len] at hq;unfold yY;rw [qF hq];split
 ·rename_i i hi
  have h1:=List.find?_some hi;have h2:=List.mem_range.mp (List.mem_of_find?_eq_some hi);rw [beq_iff_eq] at h1;subst h1;exact h.hd i h2
 ·rename_i hi
  by_cases e:q=S.s p
  ·rw [yG e];subst e;exact h.sd
  ·rw [yF e]
   exact h.no q hq (fun i hi' e=>by
    have:=List.find?_eq_none.mp hi i (List.mem_range.mpr hi')
    simp [e] at this) e
theorem tK {T W:List Int} (h:TK S w (m + 1) p T) (hl:W.length=m) (hW:∀ x,x < m->gI W x=wt T HO w w x):W=mr S w m p HO:=by
 refine qJ (by simp [mr,hl]) fun q hq=>?_
 rw [hl] at hq;unfold mr;rw [qF hq,hW q hq,FX h]
end
structure IR (nn:Int) (w:Nat) (RR:List (List Int)) (HO:Nat->List Int) (gv:List Gv) (goal:List Int):Prop where
 HR:∀ st,pm aL [.int nn] st=some (.fz (aD RR),st)
 HA:∀ st,pm ah [.int nn] st=some (.int w,st)
 H:HOk nn w RR.length HO
 r:∀ l ∈ RR,l.length=w
 g:∀ z ∈ gv,z.row.length=w
 o:goal.length=w
 hw:w <= 15
 hR:RR.length <= 100
 hg:gv.length <= 100
section
variable {w m:Nat}{RR:List (List Int)}{gv:List Gv}{goal:List Int}{nn:Int}{HO:Nat->List Int}{S:Sh}{st:aa}{k a b c g n u p nr:Nat}{rows:List AV}
theorem yy (O:OkS w (m + 1) S) (hp:p < m + 1) (H:HOk nn w nr HO) (hw:w <= 15) {T W:List Int} (hT:TK S w (m + 1) p T) (hl:W.length=m) (hW:∀ x,x < m->gI W x=wt T HO w w x):∀ x ∈ W,x.natAbs < 2 ^ 9000:=fun x hx=>by
 obtain ⟨j,hj⟩:=z7 hx;have hjl:=(zB.mp hj).1;have eg:gI W j=x:=by unfold gI;rw [zD,hj];rfl
 rw [<- eg,hW j oM];exact FS (hT.bd hp O.pm O.b89) H hw j
theorem BE (R:Rep st k a b c g n u rows S) (P:Md w (m + 1) S) (hp:p < m + 1) (HA:∀ st,pm ah [.int nn] st=some (.int w,st)) (H:HOk nn w nr HO) (hnr:nr <= m) (hw:w <= 15) (hm:m + 1 <= 400) (h:qf w m HO p S=some t) :
  ∃ st1 st2,aJ [.int nn,.ref k,.int p] st=some (.ref (st.length + 1),st1)/\pm aj [.ref (st.length + 1)] st1=some (.fz (iL (aT (mr S w m p HO))),st2)/\t=.tup [.str "never",.fz (iL (aT (mr S w m p HO)))]:=by
 unfold qf at h;split at h
 ·rename_i ok
  cases h;have O:=qb P ok;obtain ⟨z,e1,T,W,hT,hl,hW,hz1,hz2⟩:=yx R P O.pm hp O.nt O.ht oM oM HA H hnr;obtain ⟨z1,z2⟩:=z;dsimp only at hz1 hz2;subst hz1;subst hz2;have gW:(st++[L8.lst (iL T)]++[L8.lst (iL W)])[st.length + 1]?=some (.lst (iL W)):=by
   have:(st++[L8.lst (iL T)]).length=st.length + 1:=by simp
   rw [<- this];exact gl
  obtain ⟨st2,e2,_⟩:=jY (fn:=aj) (rest:=[]) (st:=st++[L8.lst (iL T)]++[L8.lst (iL W)]) (x:=.ref (st.length + 1)) (l:=W) (.inr ⟨_,rfl,.inl gW⟩) rfl rfl (fun s=>rfl) (pB oM (yy O hp H hw hT hl hW)) rfl (by simp [dg]);rw [tK hT hl hW] at e2;exact ⟨_,st2,e1,by rw [tK hT hl hW];exact e2,rfl⟩
 ·cases h
theorem xV (R:Rep st k a b c g n u rows S) (P:Md w (m + 1) S) (HA:∀ st,pm ah [.int nn] st=some (.int w,st)) (H:HOk nn w nr HO) (hnr:nr <= m) (hw:w <= 15) (hm:m + 1 <= 400) (h:mf w m HO S=some t) :
  ∃ st2,bB [.int nn,.ref k,.int m] st=some (t,st2)/\dQ st2 t=some t:=by
 unfold mf at h;split at h
 ·rename_i ok
  cases h;have O:=qb P ok;have B:=O.b90;have hp:m < m + 1:=by omega
  obtain ⟨z,e1,T,W,hT,hl,hW,hz1,hz2⟩:=yx R P O.pm hp O.nt O.ht oM oM HA H hnr;obtain ⟨z1,z2⟩:=z;dsimp only at hz1 hz2;subst hz1;subst hz2;have R2:=(R.app (ys:=[L8.lst (iL T)])).app (ys:=[L8.lst (iL W)]);have wb:∀ x ∈ W++[S.d],x.natAbs < 2 ^ 9000:=fun x hx=>by
   rcases zZ.mp hx with h | h
   ·exact yy O hp H hw hT hl hW x h
   ·rw [zM.mp h];exact B.1
  have e2:=qr (l:=W++[S.d]) (st:=st++[L8.lst (iL T)]++[L8.lst (iL W)]) (by simp [hl];omega) wb;obtain ⟨X,T',st3,e3,rfl,hX,R3⟩:=za R2 P O.pm B HA oM oM;have fr:=Fb (a:=- S.t m w) (b:=S.d) (st:=st) (by rw [Int.natAbs_neg];exact B.2 m hp w oM) B.1;rw [<- uF hX,<- tK hT hl hW];refine ⟨st3,?_,rfl⟩;have ll:(aT (W++[S.d])).length=m + 1:=by rw [md];simp [hl]
  rw [bB,aG];unfold fc;refine ak (sl':=[some (.int nn),some (.ref k),some (.int m),some (.tup [.int (gI (aT [- S.t m w,S.d]) 0),.int (gI (aT [- S.t m w,S.d]) 1)]),none]) (st':=st) (by simp [R.ins,R.line P hp,R.last P hp,fr]) ?_;refine ak (sl':=[some (.int nn),some (.ref k),some (.int m),some (.tup [.int (gI (aT [- S.t m w,S.d]) 0),.int (gI (aT [- S.t m w,S.d]) 1)]),some (.fz (iL (aT (W++[S.d]))))]) (st':=st++[L8.lst (iL T)]++[L8.lst (iL W)]) ?_ ?_
  ·have gW:(st++[L8.lst (iL T)]++[L8.lst (iL W)])[st.length + 1]?=some (.lst (iL W)):=by
    have:(st++[L8.lst (iL T)]).length=st.length + 1:=by simp
    rw [<- this];exact gl
   have c:=kz (ks:=[cu,aJ,aj,aX]) (a:=.ca false 1 (.cons (.v 0) (.cons (.v 1) (.cons (.v 2) .nil)))) (b:=.nw false (.li (.cons (.fd "Sheet" "below" (.v 1)) .nil)))
    (sl:=[some (.int nn),some (.ref k),some (.int m),some (.tup [.int (gI (aT [- S.t m w,S.d]) 0),.int (gI (aT [- S.t m w,S.d]) 1)]),none]) (st:=st) (s1:=st++[L8.lst (iL T)]++[L8.lst (iL W)]) (s2:=st++[L8.lst (iL T)]++[L8.lst (iL W)]) (x:=.ref (st.length + 1)) (y:=.fz [AV.int S.d]) (l:=W) (l':=[S.d])
    (by simp only [eB,bV,cw,dF,cZ,cY,bind_some,t9,eZ,eY];exact e1) (by simp [-List.append_assoc,dP,R2.ins]) (ck gW) rfl (by simp [hl];omega)
   simp only [eC,eB,bV,cw,eA,c,bind_some,dJ,ite_true,eR,eZ,eY,e2,iR];rfl
  ·have xl:cE st3 (.fz (iL (aT (W++[S.d])))) (.int (-1))=some (.int (gI (aT (W++[S.d])) m)):=by rw [cR d6,ox (n:=m) (by simp [ll]),cb oM]
   simp [-List.append_assoc,e3,qg,qc,qQ ll,xl]
 ·cases h
theorem JI (hw:w <= 100) (hm:m <= 1000) (hp:p < m) {N:Nat}{z:Gv}{S':Sh}{bb:Bool} (h:qx w m p N z S=some (bb,S')) (P:Md w m S) (R:Rep st k a b c g n u rows S) :
  ∃ st' a' rows',(if z.eq=true then bY else bt) [.ref k,.int p] st=some (.bl bb,st')/\Rep st' k a' b c g n u rows' S'/\Md w m S':=by
 unfold qx at h;by_cases e:z.eq=true
 ·rw [yG e] at h ⊢;exact GV hw hm hp h P R
 ·rw [yF e] at h ⊢;exact GU hw hm hp h P R
end
section
variable {w m:Nat}{RR:List (List Int)}{gv:List Gv}{goal:List Int}{nn:Int}{HO:Nat->List Int}
theorem yr (q:IR nn w RR HO gv goal) {N:Nat}{t:AV} (h:rh w RR HO gv goal N=some t):∃ z,fi [.int nn,.fz (gv.map Gv.av),.fz (iL goal)] []=some z/\dQ z.2 z.1=some t:=by
 obtain ⟨m,hm⟩:∃ m,m=RR.length + gv.length:=⟨_,rfl⟩;have hLl:(aS RR gv goal).length=m + 1:=by rw [HM,hm]
 obtain ⟨st1,e1,R1⟩:=DI (gv:=gv) (goal:=goal) q.HR q.HA q.hw q.hR q.r q.hg q.g q.o;have P1:Md w (m + 1) (SX.openS w (aS RR gv goal) (w + RR.length)):=by
  have hLen:∀ l ∈ aS RR gv goal,l.length=w + 1:=fun l hl=>by
   unfold aS at hl;simp only [zZ,yB,zM] at hl;rcases hl with (⟨r,hr,rfl⟩ | ⟨z,hz,rfl⟩) | rfl
   ·simp [q.r r hr]
   ·simp [q.g z hz]
   ·simp [q.o]
  exact ⟨hLl,hLen,by simp [SX.openS],by simp [SX.openS,hLl]⟩
 unfold rh at h;rw [<- hm] at h;obtain ⟨rr,h1,h2⟩:=zA h;have sm:=q.hg;have sm2:=q.hR;have sm3:=q.hw;rw [fi];simp only [aG];unfold mo;refine bM (sl':=[some (.int nn),some (.fz (gv.map Gv.av)),some (.fz (iL goal)),some (.ref 1),none,none,none,none,none]) (st':=st1) (by simp [e1]) ?_;have l2:bw st1 (.ref 2)=some (aD (aS RR gv goal)):=ck R1.ha;refine bM (sl':=[some (.int nn),some (.fz (gv.map Gv.av)),some (.fz (iL goal)),some (.ref 1),some (.int (m:Int)),none,none,none,none]) (st':=st1) (by simp [R1.ins,b9,eE,l2,hLl]) ?_;have loop:=lf (gd:=[]) (g:=bQ [bK,bY,bt,aJ,aj,bC,bB,aX,cj] (.tu 2 (.cons (.nm 5) (.cons (.nm 6) .nil))))
  (s:=ai [bK,bY,bt,aJ,aj,bC,bB,aX,cj] (.cons (.as (.ife (.cmp .Eq (.ix (.v 6) (.i 1)) (.s "=")) (.ca false 1 (.cons (.v 3) (.cons (.v 5) .nil))) (.ca false 2 (.cons (.v 3) (.cons (.v 5) .nil)))) (.nm 7))
   (.cons (.iff (.no (.va (.v 7))) (.cons (.rt (.tu (.cons (.s "never") (.cons (.ca true 4 (.cons (.ca false 3 (.cons (.v 0) (.cons (.v 3) (.cons (.v 5) .nil)))) .nil)) .nil)))) .nil) .nil) .nil)))
  (I:=fun i sl s=>∃ a rows S x5 x6 x7,sl=[some (.int nn),some (.fz (gv.map Gv.av)),some (.fz (iL goal)),some (.ref 1),some (.int (m:Int)),x5,x6,x7,none]/\Rep s 1 a 3 4 5 6 7 rows S/\Md w (m + 1) S/\uG w (m + 1) N (RR.length + i) (gv.drop i) S=some rr)
  (Post:=fun v s=>dQ s v=some t) (xs:=d9 RR.length (gv.map Gv.av)) (fun _ _ _ _ _=>rfl)
  (fun i y sl s hy hI=>by
   obtain ⟨a,rows,S,x5,x6,x7,rfl,R,P,hv⟩:=hI;obtain ⟨x,hx,rfl⟩:=B1 hy;rw [zR] at hx;obtain ⟨z,hz,rfl⟩:=zE.mp hx;have hi:=(zB.mp hz).1;have hp:RR.length + i < m + 1:=by omega
   have hd:gv.drop i=z::gv.drop (i + 1):=by rw [List.drop_eq_getElem_cons hi,(zB.mp hz).2]
   rw [hd] at hv;unfold uG at hv;cases hk:qx w (m + 1) (RR.length + i) N z S with
   | none=>rw [hk] at hv;cases hv
   | some rk =>
    rw [hk] at hv;obtain ⟨bb,S'⟩:=rk;obtain ⟨s2,a2,rows2,e2,R2,P2⟩:=JI oM oM hp hk P R;have es:cG [bK,bY,bt,aJ,aj,bC,bB,aX,cj] (.as (.ife (.cmp .Eq (.ix (.v 6) (.i 1)) (.s "=")) (.ca false 1 (.cons (.v 3) (.cons (.v 5) .nil))) (.ca false 2 (.cons (.v 3) (.cons (.v 5) .nil)))) (.nm 7)) [some (.int nn),some (.fz (gv.map Gv.av)),some (.fz (iL goal)),some (.ref 1),some (.int (m:Int)),some (.int ((RR.length + i:Nat):Int)),some z.av,x7,none] s
      = some (.nx [some (.int nn),some (.fz (gv.map Gv.av)),some (.fz (iL goal)),some (.ref 1),some (.int (m:Int)),some (.int ((RR.length + i:Nat):Int)),some z.av,some (.bl bb),none] s2):=by
     cases hze:z.eq with
     | true =>
      rw [hze,yG rfl] at e2;have xi:cE s z.av (.int 1)=some (.str "="):=by
       have:z.av=.tup [.fz (iL z.row),.str "=",.int z.num]:=by unfold Gv.av;rw [hze];rfl
       rw [this];rfl
      simp only [eC,yW,eQ,iO,dF,fP,u5,cZ,cY,bind_some,xi,map_some,Hn,ite_true,eB,bV,cw,t9,eZ,eY,e2,iR];rfl
     | false =>
      rw [hze,yF (by simp)] at e2;have xi:cE s z.av (.int 1)=some (.str ">"):=by
       have:z.av=.tup [.fz (iL z.row),.str ">",.int z.num]:=by unfold Gv.av;rw [hze];rfl
       rw [this];rfl
      simp only [eC,yW,eQ,iO,dF,fP,u5,cZ,cY,bind_some,xi,map_some,G9,z9,ite_false,eB,bV,cw,t9,eZ,eY,e2,iR];rfl
    cases bb with
    | true =>
     refine ⟨_,.nx [some (.int nn),some (.fz (gv.map Gv.av)),some (.fz (iL goal)),some (.ref 1),some (.int (m:Int)),some (.int ((RR.length + i:Nat):Int)),some z.av,some (.bl true),none] s2,rfl,aR es ?_,.inl ⟨_,s2,rfl,a2,rows2,S',_,_,_,rfl,R2,P2,hv⟩⟩;simp [dH,bw,dr]
    | false =>
     cases hv;obtain ⟨s3,s4,e3,e4,rfl⟩:=BE R2 P2 hp q.HA q.H oM q.hw oM h2;refine ⟨_,.rt (.tup [.str "never",.fz (iL (aT (mr S' w m (RR.length + i) HO)))]) s4,rfl,aR es ?_,.inr ⟨_,s4,rfl,rfl⟩⟩;rw [Int.natCast_add] at e3;simp [dH,bw,dr,e3,e4]) (sl:=[some (.int nn),some (.fz (gv.map Gv.av)),some (.fz (iL goal)),some (.ref 1),some (.int (m:Int)),none,none,none,none]) (st:=st1) ⟨2,_,_,none,none,none,rfl,R1,P1,h1⟩
 have ei:eL [bK,bY,bt,aJ,aj,bC,bB,aX,cj] (.es (.v 1) (.bin .Sub (.v 4) (.bi .len (.cons (.v 1) .nil)))) [some (.int nn),some (.fz (gv.map Gv.av)),some (.fz (iL goal)),some (.ref 1),some (.int (m:Int)),none,none,none,none] st1=some (⟨d9 RR.length (gv.map Gv.av),[]⟩,st1):=by
  have h1:(m:Int) - (gv.length:Int)=(RR.length:Int):=by omega
  have h2:Nat.ble RR.length 1000000=true:=yJ oM;simp [uD,b9,eE,h1];omega
 rcases loop with ⟨sl',st2,e2,a,rows,S,x5,x6,x7,rfl,R,P,hv⟩ | ⟨v,st2,e2,ht⟩
 ·rw [show (d9 RR.length (gv.map Gv.av)).length=gv.length by unfold d9;simp,List.drop_length] at hv
  cases hv;refine bM (sl':=[some (.int nn),some (.fz (gv.map Gv.av)),some (.fz (iL goal)),some (.ref 1),some (.int (m:Int)),x5,x6,x7,none]) (st':=st2) (by rw [pR,ei,bind_some];exact e2) ?_;have h2:((ik w (m + 1) m N S).bind fun r=>match r with
   | (none,S')=>mf w m HO S'
   | (some q,S')=>mm w m q S')=some t:=h2
  obtain ⟨⟨oq,S2⟩,h3,h4⟩:=zA h2;obtain ⟨st3,a3,rows3,e3,R3,P3,hq⟩:=B2 oM oM oM h3 P R;cases oq with
  | none =>
   obtain ⟨st4,e4,h5⟩:=xV R3 P3 q.HA q.H oM q.hw oM h4;refine bM (sl':=[some (.int nn),some (.fz (gv.map Gv.av)),some (.fz (iL goal)),some (.ref 1),some (.int (m:Int)),x5,x6,x7,some .non]) (st':=st3) (by simp [R.ins,e3,oN]) ?_;exact ⟨(t,st4),by simp [e4],h5⟩
  | some qq =>
   have q1:=hq qq rfl;refine bM (sl':=[some (.int nn),some (.fz (gv.map Gv.av)),some (.fz (iL goal)),some (.ref 1),some (.int (m:Int)),x5,x6,x7,some (.int (qq:Int))]) (st':=st3) (by simp [R.ins,e3,oN]) ?_;have h4:mm w m qq S2=some t:=h4;unfold mm at h4;split at h4
   ·rename_i ok
    have O:=qb P3 ok;obtain ⟨X,T,st4,e4,rfl,hX,R4⟩:=za R3 P3 O.pm O.b90 q.HA oM oM;obtain ⟨X2,st5,e5,hX2⟩:=FU R4 P3 O.pm O.b90 q.HA oM oM q1;rw [<- uF hX,<- uF hX2] at h4;cases h4;exact ⟨(_,st5),by simp [e4,e5];rfl,rfl⟩
   ·cases h4
 ·exact ⟨(v,st2),cq (by rw [pR,ei,bind_some];exact e2),ht⟩
end
end LW
namespace LW
open PySem PySem.Spec L2 R
open SX (gI Mo)
noncomputable def RR2:List (List Int):=[[0,-1,1],[-1,0,1],[1,1,-1]]
noncomputable def IY:Nat->List Int
 | 1=>[1,0,1]
 | 2=>[0,1,1]
 | _=>[1,1,1]
noncomputable def RR3:List (List Int):=[[0,0,0,0,0,-1,1],[0,0,0,0,-1,0,1],[0,0,-1,0,0,0,1],[1,1,-1,0,0,0,0],[0,0,0,-1,1,1,-1],[1,0,0,1,-1,0,0],[0,-1,1,0,0,1,-1],[0,1,0,1,0,-1,0],[-1,0,1,0,1,0,-1]]
noncomputable def IX:Nat->List Int
 | 1=>[1,0,0,1,0,0,1,0,0]
 | 2=>[0,1,0,1,0,0,0,0,1]
 | 3=>[1,1,0,1,0,0,1,0,1]
 | 4=>[0,0,1,0,0,1,0,0,1]
 | 5=>[1,0,1,1,0,0,1,0,1]
 | 6=>[0,1,1,1,0,0,1,0,1]
 | _=>[1,1,1,1,0,0,1,0,1]
theorem bj (hr:rfs args=true) (h:((fn args []).bind fun p=>dQ p.2 p.1)=some t):pm fn args st=some (t,st):=by
 obtain ⟨p,h1,h2⟩:=zA h;exact bW hr h1 h2
theorem uE {nn:Int}{grp:Nat} (h:(((cm [.int nn,.int grp,.int 0] []).bind fun p=>dQ p.2 p.1).bind fun rr=>if rf rr=true then (dj [.int nn,rr] []).bind fun p=>dQ p.2 p.1 else none)=some (.fz (iL l))) :
  ∃ rr,(∀ st,pm cm [.int nn,.int grp,.int 0] st=some (rr,st))/\∀ st,pm dj [.int nn,rr] st=some (.fz (iL l),st):=by
 obtain ⟨rr,h1,h2⟩:=zA h;split at h2
 ·rename_i hr
  exact ⟨rr,fun st=>bj rfl h1,fun st=>bj (by simp [hr]) h2⟩
 ·cases h2
theorem La:∀ st,pm ah [.int 2] st=some (.int ((3:Nat):Int),st):=fun st=>bj rfl (by kernel_rfl)
theorem K9:∀ st,pm ah [.int 3] st=some (.int ((7:Nat):Int),st):=fun st=>bj rfl (by kernel_rfl)
theorem K4:∀ st,pm aL [.int 2] st=some (.fz (aD RR2),st):=fun st=>bj rfl (by kernel_rfl)
theorem K3:∀ st,pm aL [.int 3] st=some (.fz (aD RR3),st):=fun st=>bj rfl (by kernel_rfl)
theorem K7:HOk 2 3 RR2.length IY:=by
 refine ⟨fun grp h1 h2=>?_,fun grp h1 h2=>?_,fun grp h1 h2=>?_⟩
 ·have:grp=1\/grp=2\/grp=3:=by omega
  rcases this with rfl | rfl | rfl <;> exact uE (by kernel_rfl)
 ·have:grp=1\/grp=2\/grp=3:=by omega
  rcases this with rfl | rfl | rfl <;> rfl
 ·have:grp=1\/grp=2\/grp=3:=by omega
  rcases this with rfl | rfl | rfl <;> decide
theorem K6:HOk 3 7 RR3.length IX:=by
 refine ⟨fun grp h1 h2=>?_,fun grp h1 h2=>?_,fun grp h1 h2=>?_⟩
 ·have:grp=1\/grp=2\/grp=3\/grp=4\/grp=5\/grp=6\/grp=7:=by omega
  rcases this with rfl | rfl | rfl | rfl | rfl | rfl | rfl <;> exact uE (by kernel_rfl)
 ·have:grp=1\/grp=2\/grp=3\/grp=4\/grp=5\/grp=6\/grp=7:=by omega
  rcases this with rfl | rfl | rfl | rfl | rfl | rfl | rfl <;> rfl
 ·have:grp=1\/grp=2\/grp=3\/grp=4\/grp=5\/grp=6\/grp=7:=by omega
  rcases this with rfl | rfl | rfl | rfl | rfl | rfl | rfl <;> decide
noncomputable def RR4:List (List Int):=[[0,0,0,0,0,0,0,0,0,0,0,0,0,-1,1],[0,0,0,0,0,0,0,0,0,0,0,0,-1,0,1],[0,0,0,0,0,0,0,0,0,0,-1,0,0,0,1],[0,0,0,0,0,0,-1,0,0,0,0,0,0,0,1],[1,1,-1,0,0,0,0,0,0,0,0,0,0,0,0],[0,0,0,-1,1,1,-1,0,0,0,0,0,0,0,0],[0,0,0,0,0,0,0,-1,1,1,-1,0,0,0,0],[0,0,0,0,0,0,0,0,0,0,0,-1,1,1,-1],[1,0,0,1,-1,0,0,0,0,0,0,0,0,0,0],[0,-1,1,0,0,1,-1,0,0,0,0,0,0,0,0],[0,0,0,0,0,0,0,-1,1,0,0,1,-1,0,0],[0,0,0,0,0,0,0,0,0,-1,1,0,0,1,-1],[1,0,0,0,0,0,0,1,-1,0,0,0,0,0,0],[0,-1,1,0,0,0,0,0,0,1,-1,0,0,0,0],[0,0,0,-1,1,0,0,0,0,0,0,1,-1,0,0],[0,0,0,0,0,-1,1,0,0,0,0,0,0,1,-1],[0,1,0,1,0,-1,0,0,0,0,0,0,0,0,0],[-1,0,1,0,1,0,-1,0,0,0,0,0,0,0,0],[0,0,0,0,0,0,0,-1,0,1,0,1,0,-1,0],[0,0,0,0,0,0,0,0,-1,0,1,0,1,0,-1],[0,1,0,0,0,0,0,1,0,-1,0,0,0,0,0],[-1,0,1,0,0,0,0,0,1,0,-1,0,0,0,0],[0,0,0,-1,0,1,0,0,0,0,0,1,0,-1,0],[0,0,0,0,-1,0,1,0,0,0,0,0,1,0,-1],[0,0,0,1,0,0,0,1,0,0,0,-1,0,0,0],[-1,0,0,0,1,0,0,0,1,0,0,0,-1,0,0],[0,-1,0,0,0,1,0,0,0,1,0,0,0,-1,0],[0,0,-1,0,0,0,1,0,0,0,1,0,0,0,-1]]
noncomputable def IW:Nat->List Int
 | 1=>[1,0,0,0,1,0,0,0,0,1,0,0,0,0,0,1,0,0,0,0,0,0,0,0,0,0,0,0]
 | 2=>[0,1,0,0,1,0,0,0,0,0,0,0,0,0,0,0,0,1,0,0,0,0,0,1,0,0,0,0]
 | 3=>[1,1,0,0,1,0,0,0,0,1,0,0,0,0,0,1,0,1,0,0,0,0,0,1,0,0,0,0]
 | 4=>[0,0,1,0,0,0,0,0,1,0,0,0,0,0,0,0,0,1,0,0,0,0,0,0,0,0,0,1]
 | 5=>[1,0,1,0,1,0,0,0,0,1,0,0,0,0,0,1,0,1,0,0,0,0,0,0,0,0,0,1]
 | 6=>[0,1,1,0,1,0,0,0,0,1,0,0,0,0,0,0,0,1,0,0,0,0,0,1,0,0,0,1]
 | 7=>[1,1,1,0,1,0,0,0,0,1,0,0,0,0,0,1,0,1,0,0,0,0,0,1,0,0,0,1]
 | 8=>[0,0,0,1,0,0,0,0,0,0,0,0,1,0,0,0,0,0,0,0,0,1,0,0,0,0,0,1]
 | 9=>[1,0,0,1,1,0,0,0,0,1,0,0,0,0,0,1,0,0,0,0,0,1,0,0,0,0,0,1]
 | 10=>[0,1,0,1,1,0,0,0,0,0,0,0,0,1,0,0,0,1,0,0,0,0,0,1,0,0,0,1]
 | 11=>[1,1,0,1,1,0,0,0,0,1,0,0,0,0,0,1,0,1,0,0,0,0,0,1,0,0,0,1]
 | 12=>[0,0,1,1,0,0,0,0,1,0,0,0,0,0,1,0,0,1,0,0,0,0,0,1,0,0,0,1]
 | 13=>[1,0,1,1,1,0,0,0,0,1,0,0,0,0,0,1,0,1,0,0,0,0,0,1,0,0,0,1]
 | 14=>[0,1,1,1,1,0,0,0,0,1,0,0,0,0,0,1,0,1,0,0,0,0,0,1,0,0,0,1]
 | _=>[1,1,1,1,1,0,0,0,0,1,0,0,0,0,0,1,0,1,0,0,0,0,0,1,0,0,0,1]
theorem K8:∀ st,pm ah [.int 4] st=some (.int ((15:Nat):Int),st):=fun st=>bj rfl (by kernel_rfl)
theorem K2:∀ st,pm aL [.int 4] st=some (.fz (aD RR4),st):=fun st=>bj rfl (by kernel_rfl)
theorem K5:HOk 4 15 RR4.length IW:=by
 refine ⟨fun grp h1 h2=>?_,fun grp h1 h2=>?_,fun grp h1 h2=>?_⟩ <;> have:grp=1\/grp=2\/grp=3\/grp=4\/grp=5\/grp=6\/grp=7\/grp=8\/grp=9\/grp=10\/grp=11\/grp=12\/grp=13\/grp=14\/grp=15:=by omega
 ·rcases this with rfl | rfl | rfl | rfl | rfl | rfl | rfl | rfl | rfl | rfl | rfl | rfl | rfl | rfl | rfl <;> exact uE (by kernel_rfl)
 ·rcases this with rfl | rfl | rfl | rfl | rfl | rfl | rfl | rfl | rfl | rfl | rfl | rfl | rfl | rfl | rfl <;> rfl
 ·rcases this with rfl | rfl | rfl | rfl | rfl | rfl | rfl | rfl | rfl | rfl | rfl | rfl | rfl | rfl | rfl <;> decide
end LW
namespace LW
open PySem PySem.Spec L2 R
section
variable {ks:List Fn}{sl:Sl}{st:aa}{ss:Mc}{P:AV × aa->Prop}
theorem lX {s:Sx}{v:AV}{st':aa} (h:cG ks s sl st=some (.rt v st')) (hp:P (v,st')):∃ r,(ai ks (.cons s ss) sl st).bind aF=some r/\P r:=⟨_,cq h,hp⟩
theorem my {α:Type}{em:α->AV}{it:Ix}{t:Tg}{b:Mc}{xs:List α}{gd:Gd}{st0:aa} (I:Nat->Sl->aa->Prop) (hi:eL ks it sl st=some (⟨xs.map em,gd⟩,st0)) (hg:∀ i sl st,I i sl st->ce gd st=true) (h0:I 0 sl st0)
  (h:∀ i x sl st,xs[i]?=some x->I i sl st->∃ p sl2 st2,bQ ks t (em x) sl st=some p/\ai ks b p.1 p.2=some (.nx sl2 st2)/\I (i + 1) sl2 st2)
  (hr:∀ sl' st',I xs.length sl' st'->∃ r,(ai ks ss sl' st').bind aF=some r/\P r):∃ r,(ai ks (.cons (.fo it t b) ss) sl st).bind aF=some r/\P r:=by
 obtain ⟨sl',st',e,hI⟩:=fq (gd:=gd) (g:=bQ ks t) (s:=ai ks b) (I:=I) (xs:=xs.map em) (fun i sl st _ hI=>hg i sl st hI) (fun i y sl st hy hI=>by
  rw [zR] at hy;obtain ⟨x,hx,rfl⟩:=zE.mp hy;exact h i x sl st hx hI) h0
 rw [zH] at hI;obtain ⟨r,e2,hp⟩:=hr sl' st' hI;exact ⟨r,ak (by rw [pR,hi,bind_some];exact e) e2,hp⟩
theorem cJ {s:Sx}{sl':Sl}{st':aa}{Q:Out->Prop} (h:cG ks s sl st=some (.nx sl' st')) (h2:∃ r,ai ks ss sl' st'=some r/\Q r):∃ r,ai ks (.cons s ss) sl st=some r/\Q r:=by
 obtain ⟨r,e,q⟩:=h2;exact ⟨r,aR h e,q⟩
end
section
variable {ks:List Fn}{sl:Sl}{st:aa}{ss:Mc}{P:AV × aa->Prop}
theorem wT {α β:Type}{em:β->AV}{it:Ix}{t:Tg}{b:Mc}{xs:List β}{gd:Gd}{st0:aa} (I:Nat->α->Sl->aa->Prop) (f:α->β->α) (a:α) (hi:eL ks it sl st=some (⟨xs.map em,gd⟩,st0)) (h0:I 0 a sl st0) (hg:∀ i a sl st,I i a sl st->ce gd st=true)
  (h:∀ i a x sl st,xs[i]?=some x->I i a sl st->∃ p sl2 st2,bQ ks t (em x) sl st=some p/\ai ks b p.1 p.2=some (.nx sl2 st2)/\I (i + 1) (f a x) sl2 st2)
  (hr:∀ sl' st',I xs.length (xs.foldl f a) sl' st'->∃ r,(ai ks ss sl' st').bind aF=some r/\P r):∃ r,(ai ks (.cons (.fo it t b) ss) sl st).bind aF=some r/\P r:=by
 refine my (fun i=>I i ((xs.take i).foldl f a)) hi (fun i=>hg _ _) h0 (fun i x sl st hx hI=>?_) fun sl' st' hI=>hr sl' st' (by rwa [List.take_length] at hI)
 obtain ⟨p,sl2,st2,h1,h2,h3⟩:=h i _ x sl st hx hI;refine ⟨p,sl2,st2,h1,h2,?_⟩;rw [List.take_add_one,hx,Option.toList_some,List.foldl_append];exact h3
end
noncomputable def am (os:List Nat) (g:Nat):Bool:=os.any fun o=>o &&& g == o
section
variable {st:aa}{os:List Nat}{g:Nat}
theorem HJ {α:Type}{f:α->Bool}:∀ {l:List α},b9 rg [.fz (l.map fun x=>AV.bl (f x))] st=some (.bl (l.any f),st):=by
 intro l;have h:bE vd (l.map fun x=>AV.bl (f x))=some (l.map f):=by
  induction l with
  | nil=>rfl
  | cons x l ih=>simp [bE,vd,ih]
 show (((bE vd (l.map fun x=>AV.bl (f x))).map fun bs=>AV.bl (bs.any id)).map fun z=>(z,st))=_;rw [h];show some (AV.bl ((l.map f).any id),st)=_;rw [List.any_map];rfl
theorem BW {x y:Nat}{z:Option AV} (hx:x < 16) (hy:y < 16):ev [] (Ex.cmp CmpOp.Eq (Ex.bin Operator.BitAnd (Ex.v 2) (Ex.un UnaryOp.Invert (Ex.v 1))) (Ex.i 0)) [z,some (.int (y:Int)),some (.int (x:Int))] []=some (.bl (x &&& y == x),[]):=by
 have t:∀ x:Nat,x < 16->∀ y:Nat,y < 16->(match ev [] (Ex.cmp CmpOp.Eq (Ex.bin Operator.BitAnd (Ex.v 2) (Ex.un UnaryOp.Invert (Ex.v 1))) (Ex.i 0)) [none,some (.int (y:Int)),some (.int (x:Int))] [] with
  | some (.bl b,[])=>b == (x &&& y == x)
  | _=>false)=true:=by decide +kernel
 have t:=t x hx y hy;split at t
 ·rename_i b e
  rw [yI t] at e;exact e
 ·cases t
theorem nZ (ho:∀ o ∈ os,o < 16) (hl:os.length <= 1000) (hg:g < 16):pm cT [.fz (nL os),.int (g:Int)] st=some (.bl (am os g),st):=by
 refine bW (by simp [rfs,rf,c4]) (v:=.bl (am os g)) (st':=[]) ?_ rfl;rw [cT,aG];unfold ow nL;refine cq ?_;simp [-tL];rw [c7 (B:=fun _=>true) (F:=fun o:Nat=>.bl (o &&& g == o)) cF fun o ho'=>⟨_,rfl,rfl,fun _=>?_⟩]
 ·rw [List.filter_eq_self.mpr (fun _ _=>rfl)]
  have hf:rfs (os.map fun o:Nat=>AV.bl (o &&& g == o))=true:=fT fun x hx=>by obtain ⟨i,_,rfl⟩:=yB.mp hx;rfl
  have h:=HJ (st:=[]) (f:=fun o:Nat=>o &&& g == o) (l:=os);simp [bG hl,hf,h,am]
 ·exact BW (ho o ho') hg
end
noncomputable def oj:Nat->List (List Nat)
 | 2=>[[],[2]]
 | 3=>[[],[2],[4],[2,4],[6]]
 | _=>[[],[2],[4],[8],[2,4],[2,8],[4,8],[2,4,8],[6],[10],[12],[6,8],[4,10],[2,12],[6,10],[6,12],[10,12],[6,10,12],[14]]
def jX (n:Nat) (os:List Nat):List Bool:=(List.range (2 ^ (n - 1))).map fun i=>am os (2 * i)
section
variable {os:List Nat}{n:Nat}
theorem cV {g h:Nat} (s:g &&& h=g) (e:am os g=true):am os h=true:=by
 unfold am at e ⊢;rw [List.any_eq_true] at e ⊢;obtain ⟨o,h1,h2⟩:=e;have h2:=yI h2;refine ⟨o,h1,?_⟩;rw [beq_iff_eq]
 calc o &&& h=(o &&& g) &&& h:=by rw [h2]
  _=o &&& g:=by rw [Nat.and_assoc,s]
  _=o:=h2
theorem xy (h:∀ o ∈ os,0 < o):am os 0=false:=by
 unfold am;rw [List.any_eq_false];intro o ho
 have:=h o ho
 simp;omega
noncomputable def je (a b:Bool):Bool:=!a || b
theorem fD {a b:Bool} (h:a=true->b=true):je a b=true:=by cases a <;> cases b <;> simp_all [je]
theorem Jq:∀ a:Bool,[false,a] ∈ (oj 2).map (jX 2):=by decide +kernel
theorem Jp:∀ a b c:Bool,(je a c && je b c)=true->[false,a,b,c] ∈ (oj 3).map (jX 3):=by decide +kernel
theorem Jo:∀ a b c d e f g:Bool,(je a c && je b c && je a e && je d e && je b f && je d f && je c g && je e g && je f g)=true->[false,a,b,c,d,e,f,g] ∈ (oj 4).map (jX 4):=by decide +kernel
theorem CJ (hn:n=2\/n=3\/n=4) (h:∀ o ∈ os,0 < o):jX n os ∈ (oj n).map (jX n):=by
 have z:=xy h;rcases hn with rfl | rfl | rfl
 ·have:=Jq (am os 2);rw [<- z] at this;exact this
 ·have:=Jp (am os 2) (am os 4) (am os 6) (by simp only [zC];exact ⟨fD (cV rfl),fD (cV rfl)⟩)
  rw [<- z] at this;exact this
 ·have:=Jo (am os 2) (am os 4) (am os 6) (am os 8) (am os 10) (am os 12) (am os 14) (by
   simp only [zC];exact ⟨⟨⟨⟨⟨⟨⟨⟨fD (cV rfl),fD (cV rfl)⟩,fD (cV rfl)⟩,fD (cV rfl)⟩,fD (cV rfl)⟩,fD (cV rfl)⟩,fD (cV rfl)⟩,fD (cV rfl)⟩,fD (cV rfl)⟩)
  rw [<- z] at this;exact this
theorem CK {F:List Nat} (h:jX n os=jX n F) {i:Nat} (hi:i < 2 ^ (n - 1)):am os (2 * i)=am F (2 * i):=by
 have:=congrArg (fun l=>l[i]?) h
 simpa [jX,hi] using this
theorem Fk (hn:n=2\/n=3\/n=4) (h:∀ o ∈ os,0 < o):∃ F ∈ oj n,∀ i,i < 2 ^ (n - 1)->am os (2 * i)=am F (2 * i):=by
 obtain ⟨F,hF,e⟩:=yB.mp (CJ hn h);exact ⟨F,hF,fun i hi=>CK e.symm hi⟩
end
def aE (n:Nat):List Nat:=(List.range (2 ^ (n - 1))).map (2 * ·)
def i8 (n:Nat) (ts:List (Nat × Int)):List Int:=(List.range (2 ^ n - 1)).map fun x=>(ts.filter fun t=>t.1 == x + 1).foldl (fun a t=>a + t.2) 0
def HP (n g:Nat):Gv:=⟨i8 n [(g + 1,1),(g,-1)],true,0⟩
def H0 (n g:Nat):Gv:=⟨i8 n [(1,1),(g,1),(g + 1,-1)],true,0⟩
def ir (n g:Nat) (b:Bool):List Gv:=if b=true then [HP n g] else if g=0 then [] else [H0 n g]
def cM (n:Nat) (B:Nat->Bool):List Gv:=(aE n).foldl (fun a g=>a++ir n g (B g)) [⟨i8 n [(1,1)],true,1⟩]
def c8 (n:Nat):Prop:=n=2\/n=3\/n=4
section
variable {st:aa}{os:List Nat}{n g:Nat}
theorem xZ (hn:c8 n):pm aI [.int n] st=some (.fz (nL (aE n)),st):=by
 rcases hn with rfl | rfl | rfl <;> exact bj rfl (by kernel_rfl)
theorem pF (hn:c8 n) (h:g ∈ aE n):(n=2/\(g=0\/g=2))\/(n=3/\(g=0\/g=2\/g=4\/g=6))\/(n=4/\(g=0\/g=2\/g=4\/g=6\/g=8\/g=10\/g=12\/g=14)):=by
 obtain ⟨i,hi,rfl⟩:=yB.mp h;have hi:=List.mem_range.mp hi;rcases hn with rfl | rfl | rfl
 ·have:i < 2:=hi;omega
 ·have:i < 4:=hi;omega
 ·have:i < 8:=hi;omega
theorem pE (hn:c8 n) (h:g ∈ aE n):g < 16:=by have:=pF hn h;omega
theorem AG (hn:c8 n) (h:g ∈ aE n):pm lv [.int n,.int g,.int 1] st=some ((HP n g).av,st):=by
 rcases pF hn h with ⟨rfl,rfl | rfl⟩ | ⟨rfl,rfl | rfl | rfl | rfl⟩ | ⟨rfl,rfl | rfl | rfl | rfl | rfl | rfl | rfl | rfl⟩ <;> exact bj rfl (by kernel_rfl)
theorem wQ (hn:c8 n) (h:g ∈ aE n) (h0:g ≠ 0):pm jF [.int n,.int 1,.int g,.int 0] st=some ((H0 n g).av,st):=by
 rcases pF hn h with ⟨rfl,rfl | rfl⟩ | ⟨rfl,rfl | rfl | rfl | rfl⟩ | ⟨rfl,rfl | rfl | rfl | rfl | rfl | rfl | rfl | rfl⟩ <;> first | exact absurd rfl h0 | exact bj rfl (by kernel_rfl)
theorem GI (hn:c8 n):pm bT [.int n,.fz [.tup [.int 1,.int 1]]] st=some (.fz (iL (i8 n [(1,1)])),st):=by
 rcases hn with rfl | rfl | rfl <;> exact bj rfl (by kernel_rfl)
end
section
variable {st:aa}{os:List Nat}{n g:Nat}
theorem HG:∀ l:List Gv,rfs (l.map Gv.av)=true:=fun l=>fT fun x hx=>by
 obtain ⟨z,_,rfl⟩:=yB.mp hx;simp [Gv.av,rf,rfs,dJ]
theorem hV {α β:Type} (f:β->List α):∀ (l:List β) (a:List α),l.foldl (fun a g=>a++f g) a=a++l.flatMap f
 | [],a=>by simp
 | x::l,a=>by rw [List.foldl_cons,hV f l,List.flatMap_cons,yL]
theorem sL (hn:c8 n) {B:Nat->Bool}:(cM n B).length <= 100:=by
 have st1:∀ g,(ir n g (B g)).length <= 1:=fun g=>by unfold ir;split <;> (try split) <;> simp
 have:∀ l:List Nat,(l.flatMap fun g=>ir n g (B g)).length <= l.length:=fun l=>by
  induction l with
  | nil=>simp
  | cons x l ih=>have:=st1 x;rw [List.flatMap_cons,zV,yT];omega
 unfold cM;rw [hV,zV]
 have:=this (aE n)
 have h2:(aE n).length <= 8:=by rcases hn with rfl | rfl | rfl <;> simp [aE]
 rw [List.length_singleton];omega
theorem qD (hn:c8 n) (ho:∀ o ∈ os,o < 16) (hl:os.length <= 1000):pm aK [.int n,.fz (nL os)] st=some (.fz ((cM n (am os)).map Gv.av),st):=by
 have key:∃ r,aK [.int n,.fz (nL os)] []=some r/\dQ r.2 r.1=some (.fz ((cM n (am os)).map Gv.av)):=by
  rw [aK];simp only [aG];unfold gH;refine bM (sl':=[some (.int n),some (.fz (nL os)),some (.ref 0),none]) (st':=[.lst ([(⟨i8 n [(1,1)],true,1⟩:Gv)].map Gv.av)]) ?_ ?_
  ·simp [GI hn,Gv.av,dP,rfs,rf,dJ]
  ·refine wT (em:=fun g:Nat=>.int (g:Int)) (xs:=aE n) (gd:=[]) (st0:=[.lst ([(⟨i8 n [(1,1)],true,1⟩:Gv)].map Gv.av)]) (I:=fun i (a:List Gv) sl s=>a.length <= i + 1/\i <= 8/\s=[.lst (a.map Gv.av)]/\∃ x,sl=[some (.int n),some (.fz (nL os)),some (.ref 0),x]) (fun a g=>a++ir n g (am os g)) [⟨i8 n [(1,1)],true,1⟩] ?_ ⟨by simp,by omega,rfl,_,rfl⟩ (fun _ _ _ _ _=>rfl) ?_ ?_
   ·simp [xZ hn,nL]
   ·rintro i a g sl s hg ⟨ha,hi,rfl,x,rfl⟩
    have hm:=zW hg;have h16:=pE hn hm;have hi8:i < 8:=by
     have:=(zB.mp hg).1
     have h2:(aE n).length <= 8:=by rcases hn with rfl | rfl | rfl <;> simp [aE]
     omega
    have op:=nZ (st:=[L8.lst (a.map Gv.av)]) ho hl h16;refine ⟨([some (.int n),some (.fz (nL os)),some (.ref 0),some (.int (g:Int))],[.lst (a.map Gv.av)]),[some (.int n),some (.fz (nL os)),some (.ref 0),some (.int (g:Int))],[.lst ((a++ir n g (am os g)).map Gv.av)],rfl,?_,?_,by omega,rfl,_,rfl⟩
    ·cases hb:am os g with
     | true =>
      rw [hb] at op;simp [op,dH,dr,AG hn hm,kJ,oK,oJ,oC,ma,gk,ir,bw,bG (show a.length <= 1000 by omega)]
     | false =>
      rw [hb] at op;by_cases h0:g=0
      ·subst h0
       simp at op;simp [op,dH,dr,ir,bw]
      ·simp [op,dH,dr,wQ hn hm h0,kJ,oK,oJ,oC,ma,gk,ir,bw,h0,bG (show a.length <= 1000 by omega)]
    ·have:(ir n g (am os g)).length <= 1:=by unfold ir;split <;> (try split) <;> simp
     rw [zV];omega
   ·rintro sl s ⟨_,_,rfl,x,rfl⟩
    refine ⟨(.ref 0,[.lst ((cM n (am os)).map Gv.av)]),rfl,?_⟩;show cO 6 [.lst ((cM n (am os)).map Gv.av)] (.ref 0)=_;unfold cO;have:bE (cO 5 [.lst ((cM n (am os)).map Gv.av)]) ((cM n (am os)).map Gv.av)=some ((cM n (am os)).map Gv.av):=eW (f:=cO 5 [.lst ((cM n (am os)).map Gv.av)]) (i:=Gv.av) (g:=Gv.av) (fun x=>rfl) _;simp only [List.getElem?_cons_zero,this,map_some]
 obtain ⟨r,h1,h2⟩:=key;exact bW (by simp [rfs,rf,c4]) h1 h2
end
end LW
namespace LW
open PySem PySem.Spec L2 R
open SX (gI)
def IQ (n:Nat):List (List Int):=if n=2 then RR2 else if n=3 then RR3 else RR4
def IV (n:Nat):Nat->List Int:=if n=2 then IY else if n=3 then IX else IW
def sN (n:Nat):List Int:=i8 n ((List.range (n - 1)).map fun k=>(2 ^ (k + 1),1))
def FD (n:Nat) (F:List Nat):Option AV:=rh (2 ^ n - 1) (IQ n) (IV n) (cM n (am F)) (sN n) 200
def EC:Option AV->Int->Bool
 | some (.tup [.str s,.tup [.int a,.int b],_,_,_]),c=>s == ("least":Str) && decide (a <= c * b)
 | _,_=>false
section
variable {st:aa}{os F:List Nat}{n g:Nat}
theorem Aa (h:∀ g ∈ aE n,am os g=am F g):cM n (am os)=cM n (am F):=by
 unfold cM;rw [hV,hV];have:∀ l:List Nat,(∀ g ∈ l,am os g=am F g)->(l.flatMap fun g=>ir n g (am os g))=l.flatMap fun g=>ir n g (am F g):=fun l=>by
  induction l with
  | nil=>intro _;rfl
  | cons x l ih=>intro h;rw [List.flatMap_cons,List.flatMap_cons,h x z6,ih fun g hg=>h g (zQ _ hg)]
 rw [this _ h]
theorem kU {ts}:(i8 n ts).length=2 ^ n - 1:=by simp [i8]
theorem EA {B:Nat->Bool}:∀ z ∈ cM n B,z.row.length=2 ^ n - 1:=fun z hz=>by
 unfold cM at hz;rw [hV,zZ,zM,List.mem_flatMap] at hz;rcases hz with rfl | ⟨g,_,hg⟩
 ·exact kU
 ·unfold ir at hg
  split at hg
  ·rw [zM.mp hg];exact kU
  ·split at hg
   ·cases hg
   ·rw [zM.mp hg];exact kU
theorem Kt (hn:c8 n):IR n (2 ^ n - 1) (IQ n) (IV n) (cM n (am F)) (sN n):=by
 have hl:=sL hn (B:=am F);have hr:=EA (n:=n) (B:=am F);have ho:(sN n).length=2 ^ n - 1:=kU;rcases hn with rfl | rfl | rfl
 ·exact ⟨K4,La,K7,by decide,hr,ho,by decide,by decide,hl⟩
 ·exact ⟨K3,K9,K6,by decide,hr,ho,by decide,by decide,hl⟩
 ·exact ⟨K2,K8,K5,by decide,hr,ho,by decide,by decide,hl⟩
theorem GW (hn:c8 n):∃ y,ev [bT,aK,fi] (.nw false (.lc 1 (.r2 (.i 1) (.v 0)) (.nm 3) .no (.tu (.cons (.bin .LShift (.i 1) (.v 3)) (.cons (.i 1) .nil))))) [some (.int n),some (.fz (nL os)),none] []=some (y,[])/\pm bT [.int n,y] []=some (.fz (iL (sN n)),[]):=by
 rcases hn with rfl | rfl | rfl
 ·exact ⟨.fz [.tup [.int 2,.int 1]],rfl,bj rfl (by kernel_rfl)⟩
 ·exact ⟨.fz [.tup [.int 2,.int 1],.tup [.int 4,.int 1]],rfl,bj rfl (by kernel_rfl)⟩
 ·exact ⟨.fz [.tup [.int 2,.int 1],.tup [.int 4,.int 1],.tup [.int 8,.int 1]],rfl,bj rfl (by kernel_rfl)⟩
theorem Cf {w:Nat}{RR:List (List Int)}{HO:Nat->List Int}{gv:List Gv}{goal:List Int}{N:Nat}{t:AV} (h:rh w RR HO gv goal N=some t):dQ st t=some t:=by
 unfold rh at h;obtain ⟨⟨o,S⟩,_,h2⟩:=zA h;cases o with
 | some p =>
  have h2:qf w _ HO p S=some t:=h2;unfold qf at h2;split at h2
  ·cases h2;rfl
  ·cases h2
 | none =>
  have h2:((ik w _ _ N S).bind fun r=>match r with
   | (none,S')=>mf w _ HO S'
   | (some q,S')=>mm w _ q S')=some t:=h2
  obtain ⟨⟨oq,S2⟩,_,h4⟩:=zA h2;cases oq with
  | none =>
   have h4:mf w _ HO S2=some t:=h4;unfold mf at h4;split at h4
   ·cases h4;rfl
   ·cases h4
  | some q =>
   have h4:mm w _ q S2=some t:=h4;unfold mm at h4;split at h4
   ·cases h4;rfl
   ·cases h4
theorem EG (hn:c8 n) (ho:∀ o ∈ os,o < 16) (hl:os.length <= 1000) (h:∀ g ∈ aE n,am os g=am F g) {t:AV} (ht:FD n F=some t):pm ba [.int n,.fz (nL os)] st=some (t,st):=by
 obtain ⟨y,e1,e2⟩:=GW hn (os:=os);obtain ⟨z,e4,e5⟩:=yr (Kt hn) ht;have e3:=qD (st:=[]) hn ho hl;rw [Aa h] at e3;have e6:pm fi [.int n,.fz ((cM n (am F)).map Gv.av),.fz (iL (sN n))] []=some (t,[]):=bW (by simp [rfs,rf,HG,dJ]) e4 e5;refine bW (by simp [rfs,rf,c4]) (v:=t) (st':=[]) ?_ (Cf ht);rw [ba,aG];unfold gJ;refine ak (sl':=[some (.int n),some (.fz (nL os)),some (.fz (iL (sN n)))]) (st':=[]) ?_ (cq ?_)
 ·simp [-eA,e1,e2]
 ·simp [e3,e6]
end
end LW
namespace LW
open PySem PySem.Spec L2 R
section
variable {st:aa}{os F:List Nat}{n g:Nat}
theorem BN (hn:c8 n) (ho:∀ o ∈ os,o < 16) (hl:os.length <= 1000) (h:∀ g ∈ aE n,am os g=am F g) {l:List Nat} (hk:pm bZ [.fz (nL ((aE n).filter (am F)))] []=some (.fz (nL l),[])):pm cH [.int n,.fz (nL os)] st=some (.fz (nL l),st):=by
 refine bW (by simp [rfs,rf,c4]) (v:=.fz (nL l)) (st':=[]) ?_ rfl;rw [cH,aG];unfold fK;refine cq ?_;have h2:(aE n).length <= 8:=by rcases hn with rfl | rfl | rfl <;> simp [aE]
 have e:fm [] (bQ [aI,cT,bZ] (.nm 2)) (eM [aI,cT,bZ] (.so (.va (.ca true 1 (.cons (.v 1) (.cons (.v 2) .nil)))))) (ev [aI,cT,bZ] (.v 2)) [some (.int n),some (.fz (nL os)),none] (nL (aE n)) []=some (nL ((aE n).filter (am F)),[]):=by
  have e1:=c7 (gd:=[]) (st:=[]) (g:=bQ [aI,cT,bZ] (.nm 2)) (t:=eM [aI,cT,bZ] (.so (.va (.ca true 1 (.cons (.v 1) (.cons (.v 2) .nil)))))) (f:=ev [aI,cT,bZ] (.v 2)) (sl:=[some (.int n),some (.fz (nL os)),none]) (em:=fun x:Nat=>AV.int (x:Int)) (B:=am F) (F:=fun x:Nat=>.int (x:Int)) cF (xs:=aE n) fun x hx=>⟨_,rfl,by
   have op:=nZ (st:=[]) ho hl (pE hn hx);rw [h x hx] at op;simp [op,dH,dr,bw],fun _=>rfl⟩
  exact e1
 have hf:rfs (nL ((aE n).filter (am F)))=true:=c4;simp [xZ hn,e,bG (show (aE n).length <= 1000 by omega),hf,hk]
end
def FY:Mc->Mc
 | .cons _ r=>r
 | s=>s
def tX (n:Nat) (x:AV) (l:List Nat):Option AV:=((ai [cH,dO] (FY iK) [some (.int n),some x,some (.fz (nL l)),none,none,none,none,none,none,none,none] []).bind aF).bind fun p=>dQ p.2 p.1
section
variable {st:aa}{os F:List Nat}{n g:Nat}
theorem CG (hn:c8 n) (ho:∀ o ∈ os,o < 16) (hl:os.length <= 1000) (h:∀ g ∈ aE n,am os g=am F g) {l:List Nat} (hk:pm bZ [.fz (nL ((aE n).filter (am F)))] []=some (.fz (nL l),[])) {v:AV} (hs:∀ x,tX n x l=some v):pm cg [.int n,.fz (nL os)] st=some (v,st):=by
 obtain ⟨p,e1,e2⟩:=zA (hs (.fz (nL os)));refine bW (by simp [rfs,rf,c4]) (v:=p.1) (st':=p.2) ?_ e2;rw [cg,aG];unfold iK;refine ak (sl':=[some (.int n),some (.fz (nL os)),some (.fz (nL l)),none,none,none,none,none,none,none,none]) (st':=[]) ?_ e1;simp [BN hn ho hl h hk]
end
example:∀ x,tX 4 x [6]=some (.tup [.int 2,.fz [.fz [.fz [.int 0]],.fz [.fz [.int 1]],.fz [.fz [.int 0,.int 1]],.fz []]]):=fun x=>by kernel_rfl
noncomputable def bz:Nat->List (List Nat × List Int)
 | 2=>[([],[1,0,1]),([2],[1,1,1])]
 | 3=>[([],[1,0,1,0,1,0,1]),([2],[1,1,1,0,1,1,1]),([4],[1,0,1,1,1,1,1]),([2,4],[1,1,1,1,1,1,1]),([6],[1,1,2,1,2,2,2])]
 | _=>[([],[1,0,1,0,1,0,1,0,1,0,1,0,1,0,1]),([2],[1,1,1,0,1,1,1,0,1,1,1,0,1,1,1]),([4],[1,0,1,1,1,1,1,0,1,0,1,1,1,1,1]),([8],[1,0,1,0,1,0,1,1,1,1,1,1,1,1,1]),([2,4],[1,1,1,1,1,1,1,0,1,1,1,1,1,1,1]),([2,8],[1,1,1,0,1,1,1,1,1,1,1,1,1,1,1]),([4,8],[1,0,1,1,1,1,1,1,1,1,1,1,1,1,1]),([2,4,8],[1,1,1,1,1,1,1,1,1,1,1,1,1,1,1]),([6],[1,1,2,1,2,2,2,0,1,1,2,1,2,2,2]),([10],[1,1,2,0,1,1,2,1,2,2,2,1,2,2,2]),([12],[1,0,1,1,2,1,2,1,2,1,2,2,2,2,2]),([6,8],[1,1,2,1,2,2,2,1,1,2,2,2,2,2,2]),([4,10],[1,1,2,1,1,2,2,1,2,2,2,2,2,2,2]),([2,12],[1,1,1,1,2,2,2,1,2,2,2,2,2,2,2]),([6,10],[1,2,3,1,2,3,3,1,2,3,3,2,3,3,3]),([6,12],[1,1,2,2,3,3,3,1,2,2,3,3,3,3,3]),([10,12],[1,1,2,1,2,2,3,2,3,3,3,3,3,3,3]),([6,10,12],[1,2,3,2,3,4,4,2,3,4,4,4,4,4,4]),([14],[1,1,2,1,2,2,3,1,2,2,3,2,3,3,3])]
theorem Fl {n:Nat} (hn:c8 n):(bz n).map (·.1)=oj n:=by rcases hn with rfl | rfl | rfl <;> rfl
def sv (n:Nat) (F:List Nat):AV:=(tX n .non F).getD .non
structure FT (n:Nat) (d:List Nat × List Int):Prop where
 le:pm bZ [.fz (nL ((aE n).filter (am d.1)))] []=some (.fz (nL d.1),[])
 sa:∀ x,tX n x d.1=some (sv n d.1)
 ta:∀ st,pm bF [sv n d.1] st=some (.fz (iL d.2),st)
theorem KI:∀ d ∈ bz 2,FT 2 d:=by
 intro d hd;simp only [bz,zT,zX,or_false] at hd;rcases hd with rfl | rfl <;> exact ⟨bj rfl (by kernel_rfl),fun x=>by kernel_rfl,fun st=>bj (by kernel_rfl) (by kernel_rfl)⟩
theorem KH:∀ d ∈ bz 3,FT 3 d:=by
 intro d hd;simp only [bz,zT,zX,or_false] at hd;rcases hd with rfl | rfl | rfl | rfl | rfl <;> exact ⟨bj rfl (by kernel_rfl),fun x=>by kernel_rfl,fun st=>bj (by kernel_rfl) (by kernel_rfl)⟩
theorem KF:∀ d ∈ bz 4,FT 4 d:=by
 intro d hd;simp only [bz,zT,zX,or_false] at hd;rcases hd with rfl | rfl | rfl | rfl | rfl | rfl | rfl | rfl | rfl | rfl | rfl | rfl | rfl | rfl | rfl | rfl | rfl | rfl | rfl <;> exact ⟨bj rfl (by kernel_rfl),fun x=>by kernel_rfl,fun st=>bj (by kernel_rfl) (by kernel_rfl)⟩
def rP (n:Nat) (d:List Nat × List Int) (g:Nat):Bool:=match (jp [.fz (iL (i8 n [(1,1),(g,1),(g + 1,-1)])),.fz (iL d.2)] []).bind fun p=>dQ p.2 p.1 with
 | some (.int c)=>c == (if am d.1 g=true then 1 else 0) && SX.gI d.2 0 == 1
 | _=>false
theorem Km:(bz 2).all (fun d=>(aE 2).all (rP 2 d))=true:=by kernel_rfl
theorem Kl:(bz 3).all (fun d=>(aE 3).all (rP 3 d))=true:=by kernel_rfl
theorem Kk:(bz 4).all (fun d=>(aE 4).all (rP 4 d))=true:=by kernel_rfl
section
variable {st:aa}{os F:List Nat}{n g:Nat}{d:List Nat × List Int}
theorem F8 (hn:c8 n) (h:g ∈ aE n):pm dD [.int n,.int 1,.int g,.int 0] st=some (.fz (iL (i8 n [(1,1),(g,1),(g + 1,-1)])),st):=by
 rcases pF hn h with ⟨rfl,rfl | rfl⟩ | ⟨rfl,rfl | rfl | rfl | rfl⟩ | ⟨rfl,rfl | rfl | rfl | rfl | rfl | rfl | rfl | rfl⟩ <;> exact bj rfl (by kernel_rfl)
theorem FV (hn:c8 n) (hd:d ∈ bz n) (h:g ∈ aE n):SX.gI d.2 0=1/\∀ st,pm jp [.fz (iL (i8 n [(1,1),(g,1),(g + 1,-1)])),.fz (iL d.2)] st=some (.int (if am d.1 g=true then 1 else 0),st):=by
 have t:rP n d g=true:=by
  have:(bz n).all (fun d=>(aE n).all (rP n d))=true:=by
   rcases hn with rfl | rfl | rfl
   ·exact Km
   ·exact Kl
   ·exact Kk
  exact yN.mp (yN.mp this d hd) g h
 unfold rP at t;split at t
 ·rename_i c e
  rw [zC] at t;refine ⟨yI t.2,fun st=>?_⟩;rw [yI t.1] at e;exact bj (by simp [rfs,rf,dJ]) e
 ·cases t
theorem Cq (hn:c8 n) (ho:∀ o ∈ os,o < 16) (hl:os.length <= 1000) (hd:d ∈ bz n) (h:g ∈ aE n):pm aQ [.int n,.fz (nL os),.fz (iL d.2),.int g] st=some (.bl (am d.1 g == am os g),st):=by
 obtain ⟨t0,hv⟩:=FV hn hd h;have l0:0 < d.2.length:=by
  rcases Nat.eq_zero_or_pos d.2.length with e | e
  ·rw [List.length_eq_zero_iff.mp e] at t0;exact absurd t0 dC
  ·exact e
 have xi:cE ([]:aa) (.fz (iL d.2)) (.int 0)=some (.int 1):=by
  rw [cR d6,show (0:Int)=((0:Nat):Int) from rfl,cD,cb l0,t0]
 have op:=nZ (st:=[]) ho hl (pE hn h);refine bW (by simp [rfs,rf,c4,dJ]) (v:=.bl (am d.1 g == am os g)) (st':=[]) ?_ rfl;rw [aQ,aG];unfold eI;refine ak (sl':=[some (.int n),some (.fz (nL os)),some (.fz (iL d.2)),some (.int g),some (.int (if am d.1 g=true then 1 else 0))]) (st':=[]) ?_ (cq ?_)
 ·simp [F8 hn h,hv]
 ·cases am d.1 g <;> cases hb:am os g <;> rw [hb] at op <;> simp [op,dH,dr,bw,xi]
end
section
variable {st:aa}{os F:List Nat}{n g:Nat}{d:List Nat × List Int}
theorem fZ (hn:c8 n):(aE n).length <= 8:=by rcases hn with rfl | rfl | rfl <;> simp [aE]
theorem sJ (hn:c8 n) (ho:∀ o ∈ os,o < 16) (hl:os.length <= 1000) (hd:d ∈ bz n):pm bH [.int n,.fz (nL os),.fz (iL d.2)] st=some (.fz (nL ((aE n).filter fun g=>!(am d.1 g == am os g))),st):=by
 refine bW (by simp [rfs,rf,c4,dJ]) (v:=.fz (nL ((aE n).filter fun g=>!(am d.1 g == am os g)))) (st':=[]) ?_ rfl;rw [bH,aG];unfold iU;refine cq ?_;have e:=c7 (gd:=[]) (st:=[]) (g:=bQ [aI,aQ] (.nm 3)) (t:=eM [aI,aQ] (.so (.no (.va (.ca true 1 (.cons (.v 0) (.cons (.v 1) (.cons (.v 2) (.cons (.v 3) .nil))))))))) (f:=ev [aI,aQ] (.v 3)) (sl:=[some (.int n),some (.fz (nL os)),some (.fz (iL d.2)),none]) (em:=fun x:Nat=>AV.int (x:Int)) (B:=fun g=>!(am d.1 g == am os g)) (F:=fun x:Nat=>.int (x:Int)) cF (xs:=aE n) fun x hx=>⟨_,rfl,by
  have op:=Cq (st:=[]) hn ho hl hd hx;simp [op,dH,dr,bw],fun _=>rfl⟩
 have e:fm [] (bQ [aI,aQ] (.nm 3)) (eM [aI,aQ] (.so (.no (.va (.ca true 1 (.cons (.v 0) (.cons (.v 1) (.cons (.v 2) (.cons (.v 3) .nil))))))))) (ev [aI,aQ] (.v 3)) [some (.int n),some (.fz (nL os)),some (.fz (iL d.2)),none] (nL (aE n)) []=some (nL ((aE n).filter fun g=>!(am d.1 g == am os g)),[]):=e;have hf:rfs (nL ((aE n).filter fun g=>!(am d.1 g == am os g)))=true:=c4
 have:=fZ hn
 simp [xZ hn,e,bG (show (aE n).length <= 1000 by omega),hf]
theorem FF {x y:Nat}{z:Option AV} (hx:x < 16) (hy:y < 16):tv [] (.cmp .Eq (.bin .BitAnd (.v 2) (.v 1)) (.v 2)) [z,some (.int (y:Int)),some (.int (x:Int))] []=some (x &&& y == x,[]):=by
 have t:∀ x:Nat,x < 16->∀ y:Nat,y < 16->(match tv [] (.cmp .Eq (.bin .BitAnd (.v 2) (.v 1)) (.v 2)) [none,some (.int (y:Int)),some (.int (x:Int))] [] with
  | some (b,[])=>b == (x &&& y == x)
  | _=>false)=true:=by decide +kernel
 have t:=t x hx y hy;split at t
 ·rename_i b e
  rw [yI t] at e;exact e
 ·cases t
theorem xR (ho:∀ o ∈ os,o < 16) (hg:g < 16):pm bv [.fz (nL os),.int g] st=some (.bl (am os g),st):=by
 refine bW (by simp [rfs,rf,c4]) (v:=.bl (am os g)) (st':=[]) ?_ rfl;rw [bv,aG];unfold il;have loop:=lf (gd:=[]) (g:=bQ [] (.nm 2)) (s:=ai [] (.cons (.iff (.cmp .Eq (.bin .BitAnd (.v 2) (.v 1)) (.v 2)) (.cons (.rt (.b true)) .nil) .nil) .nil))
  (I:=fun i sl s=>s=[]/\(∃ x,sl=[some (.fz (nL os)),some (.int g),x])/\am (os.take i) g=false) (Post:=fun v s=>s=[]/\v=.bl true/\am os g=true) (xs:=nL os) (fun _ _ _ _ _=>rfl)
  (fun i y sl s hy hI=>by
   obtain ⟨rfl,⟨x,rfl⟩,h0⟩:=hI;unfold nL at hy;rw [zR] at hy;obtain ⟨o,ho1,rfl⟩:=zE.mp hy;have hm:=zW ho1;have ev:=FF (z:=some (.fz (nL os))) (ho o hm) hg;by_cases hb:(o &&& g == o)=true
   ·refine ⟨_,.rt (.bl true) [],rfl,?_,.inr ⟨_,_,rfl,rfl,rfl,?_⟩⟩
    ·rw [hb] at ev;simp [-eQ,ev]
    ·unfold am;exact List.any_eq_true.mpr ⟨o,hm,hb⟩
   ·have hb:=Bool.not_eq_true _ ▸ hb
    refine ⟨_,.nx [some (.fz (nL os)),some (.int g),some (.int o)] [],rfl,?_,.inl ⟨_,_,rfl,rfl,⟨_,rfl⟩,?_⟩⟩
    ·rw [hb] at ev;simp [-eQ,ev]
    ·unfold am at h0 ⊢
     rw [List.take_add_one,ho1,Option.toList_some,List.any_append,h0];simpa using hb) (sl:=[some (.fz (nL os)),some (.int g),none]) (st:=[]) ⟨rfl,⟨_,rfl⟩,rfl⟩
 rcases loop with ⟨sl',st',e,rfl,⟨x,rfl⟩,h0⟩ | ⟨v,st',e,rfl,rfl,h0⟩
 ·rw [show (nL os).length=os.length by simp [nL],List.take_length] at h0
  rw [h0];refine ak (sl':=[some (.fz (nL os)),some (.int g),x]) (st':=[]) ?_ (cq rfl);simp;exact e
 ·rw [h0]
  refine cq ?_;simp;exact e
theorem ly (hn:c8 n) (ho:∀ o ∈ os,o < 16):pm aM [.int n,.fz (nL os)] st=some (.fz (nL ((aE n).filter (am os))),st):=by
 refine bW (by simp [rfs,rf,c4]) (v:=.fz (nL ((aE n).filter (am os)))) (st':=[]) ?_ rfl;rw [aM,aG];unfold fL;refine cq ?_;have ei:eL [bv] (.r3 (.i 0) (.bin .LShift (.i 1) (.v 0)) (.i 2)) [some (.int n),some (.fz (nL os))] []=some (⟨nL (aE n),[]⟩,[]):=by rcases hn with rfl | rfl | rfl <;> rfl
 have e:=c7 (gd:=[]) (st:=[]) (g:=bQ [bv] (.nm 2)) (t:=eM [bv] (.so (.va (.ca true 0 (.cons (.v 1) (.cons (.v 2) .nil)))))) (f:=ev [bv] (.v 2)) (sl:=[some (.int n),some (.fz (nL os)),none]) (em:=fun x:Nat=>AV.int (x:Int)) (B:=am os) (F:=fun x:Nat=>.int (x:Int)) cF (xs:=aE n) fun x hx=>⟨_,rfl,by
  have op:=xR (st:=[]) ho (pE hn hx);simp [op,dH,dr,bw],fun _=>rfl⟩
 have e:fm [] (bQ [bv] (.nm 2)) (eM [bv] (.so (.va (.ca true 0 (.cons (.v 1) (.cons (.v 2) .nil)))))) (ev [bv] (.v 2)) [some (.int n),some (.fz (nL os)),none] (nL (aE n)) []=some (nL ((aE n).filter (am os)),[]):=e;have hf:rfs (nL ((aE n).filter (am os)))=true:=c4
 have:=fZ hn
 show cG [bv] (.rt (.nw false (.lc 1 (.r3 (.i 0) (.bin .LShift (.i 1) (.v 0)) (.i 2)) (.nm 2) (.so (.va (.ca true 0 (.cons (.v 1) (.cons (.v 2) .nil))))) (.v 2)))) [some (.int n),some (.fz (nL os))] []=_;simp [-JK,ei,e,bG (show (aE n).length <= 1000 by omega),hf]
end
def Ac (n:Nat) (d:List Nat × List Int):Bool:=(cM n (am d.1)).all fun z=>match (bg [z.av,.fz (iL d.2)] []).bind fun p=>dQ p.2 p.1 with
 | some (.bl b)=>b
 | _=>false
theorem EI:(bz 2).all (Ac 2)=true:=by kernel_rfl
theorem KA:(bz 3).all (Ac 3)=true:=by kernel_rfl
theorem Kz:(bz 4).all (Ac 4)=true:=by kernel_rfl
section
variable {st:aa}{n:Nat}{d:List Nat × List Int}{z:Gv}
theorem EN (hn:c8 n) (hd:d ∈ bz n) (hz:z ∈ cM n (am d.1)):pm bg [z.av,.fz (iL d.2)] st=some (.bl true,st):=by
 have t:Ac n d=true:=by
  rcases hn with rfl | rfl | rfl
  ·exact yN.mp EI d hd
  ·exact yN.mp KA d hd
  ·exact yN.mp Kz d hd
 have t:=yN.mp t z hz;split at t
 ·rename_i b e
  subst t;exact bj (by simp [rfs,rf,dJ,Gv.av]) e
 ·cases t
end
def kH (n:Nat) (T:List Int):Int:=((List.range (n - 1)).map fun k=>SX.gI T (2 ^ (k + 1) - 1)).foldl (· + ·) 0
def nO (n:Nat) (d:List Nat × List Int):Bool:=EC (FD n d.1) (kH n d.2)
theorem KU:(bz 2).all (nO 2)=true:=by kernel_rfl
theorem KR:(bz 3).all (nO 3)=true:=by kernel_rfl
theorem J6:((bz 4).take 4).all (nO 4)=true:=by kernel_rfl
theorem J5:(((bz 4).drop 4).take 4).all (nO 4)=true:=by kernel_rfl
theorem J4:(((bz 4).drop 8).take 4).all (nO 4)=true:=by kernel_rfl
theorem J1:(((bz 4).drop 12).take 4).all (nO 4)=true:=by kernel_rfl
theorem JZ:((bz 4).drop 16).all (nO 4)=true:=by kernel_rfl
theorem HK {n:Nat} (hn:c8 n) {d:List Nat × List Int} (hd:d ∈ bz n):nO n d=true:=by
 rcases hn with rfl | rfl | rfl
 ·exact yN.mp KU d hd
 ·exact yN.mp KR d hd
 ·have:(bz 4).all (nO 4)=true:=by
   rw [<- List.take_append_drop 4 (bz 4),List.all_append,J6,<- List.take_append_drop 4 ((bz 4).drop 4),List.all_append,J5,List.drop_drop,<- List.take_append_drop 4 ((bz 4).drop (4 + 4)),List.all_append,List.drop_drop,<- List.take_append_drop 4 ((bz 4).drop (4 + 4 + 4)),List.all_append,List.drop_drop];show (true && (true && (_ && (_ && _))))=true;rw [show ((bz 4).drop (4 + 4)).take 4=((bz 4).drop 8).take 4 from rfl,J4,show ((bz 4).drop (4 + 4 + 4)).take 4=((bz 4).drop 12).take 4 from rfl,J1];exact JZ
  exact yN.mp this d hd
section
variable {st:aa}
theorem zh {ks:List Fn}{a:Ex}{sl:Sl}{n:Nat} (h:ev ks a sl st=some (.int (n:Int),st)) (hn:n <= 1000):eL ks (.r1 a) sl st=some (⟨(List.range n).map fun q:Nat=>AV.int (q:Int),[]⟩,st):=by
 show (ev ks a sl st).bind _=_;rw [h,bind_some];dsimp only;have:eV (n:Int)=true:=by
  unfold eV;refine yJ ?_;rw [Int.natAbs_natCast];by_cases hz:n=0
  ·subst hz;decide
  ·exact yU ((Nat.log2_lt hz).mpr (yK hn dC))
 rw [yG this,Int.toNat_natCast,pv];rfl
theorem Fq {ns:List Int}{k:Nat}:pm aU [.fz (iL ns),.int (k:Int)] st=some (.int (SX.gI ns k),st):=by
 refine bW (by simp [rfs,rf,dJ]) (v:=.int (SX.gI ns k)) (st':=[]) ?_ rfl;rw [aU,aG];show (ai [] f9 [some (.fz (iL ns)),some (.int (k:Int))] []).bind aF=_;by_cases h:k < ns.length
 ·refine cq (s:=.iff _ _ _) ?_
  have hl:decide ((k:Int) < ((ns.length:Nat):Int))=true:=yR oM;have xi:cE ([]:aa) (.fz (iL ns)) (.int (k:Int))=some (.int (SX.gI ns k)):=by rw [cR d6,cD,cb h]
  simp [b9,eE,h,xi,sD]
 ·have hg:SX.gI ns k=0:=by unfold SX.gI;rw [zD,List.getElem?_eq_none oM];rfl
  refine ak (sl':=[some (.fz (iL ns)),some (.int (k:Int))]) (st':=[]) ?_ (cq (by rw [hg];rfl));simp [b9,eE,h]
theorem uV {ks:List Fn}{a e:Ex}{sl:Sl}{y:AV}{xs:List AV}{k:Nat} (h1:ev ks a sl st=some (.ref k,st)) (h2:ev ks e sl st=some (y,st)) (h3:st[k]?=some (.lst xs)) (hl:xs.length <= 1000):cG ks (.ex (.mt .app a (.cons e .nil))) sl st=some (.nx sl (st.set k (.lst (xs++[y])))):=by
 simp [kJ,oK,oJ,h1,oC,ck h3,h2,ma,gk,h3,bG hl]
theorem k6 {a b:Int} (h:a.natAbs < 2 ^ 62):cP a b=true:=by
 unfold cP;have:Nat.ble a.natAbs.log2 62=true:=yJ (by
  by_cases hz:a.natAbs=0
  ·rw [hz];decide
  ·exact yU ((Nat.log2_lt hz).mpr h))
 rw [this];simp
theorem GM {a b:Int} (h:b.natAbs < 2 ^ 62):cP a b=true:=by
 unfold cP;have:Nat.ble b.natAbs.log2 62=true:=yJ (by
  by_cases hz:b.natAbs=0
  ·rw [hz];decide
  ·exact yU ((Nat.log2_lt hz).mpr h))
 rw [this];simp
theorem jz {a b:Int} (h:0 < b):m6 a b=a % b:=yG h
theorem pD {a b:Int} (h:0 < b):sZ a b=a / b:=yG h
theorem jc {a:Int}{b:Nat} (h:0 < b):∃ r:Nat,a % (b:Int)=(r:Int)/\r < b:=by
 have h1:=Int.emod_nonneg a (b:=(b:Int)) oM;have h2:=Int.emod_lt_of_pos a (b:=(b:Int)) oM;exact ⟨(a % (b:Int)).toNat,by omega,by omega⟩
theorem zg {k:Nat}{l:List Nat} (h:st[k]?=some (.lst (nL l))):dQ st (.ref k)=some (.fz (nL l)):=by
 show cO 6 st (.ref k)=_;unfold cO;have:bE (cO 5 st) (nL l)=some (nL l):=eW (f:=cO 5 st) (i:=fun q:Nat=>AV.int (q:Int)) (g:=fun q:Nat=>AV.int (q:Int)) (fun x=>rfl) l;simp only [h,this,map_some]
theorem pA:dL .Pow st (.int 10) (.int 18)=some (.int 1000000000000000000):=by kernel_rfl
theorem B3 {c:Int}{many base:Nat} (hm:many <= 100) (h0:0 < base) (hbs:base < 2 ^ 62):∃ D:List Nat,pm bh [.int c,.int (many:Int),.int (base:Int)] st=some (.fz (nL D),st)/\D.length=many/\∀ x ∈ D,x < base:=by
 have b0:(base:Int) ≠ 0:=by omega
 have bp:(0:Int) < (base:Int):=by omega
 have bdv:iT (base:Int)=true:=qO b0 (zJ (by rw [Int.natAbs_natCast];exact hbs) (Nat.pow_le_pow_right dC dC));have key:∃ r,bh [.int c,.int (many:Int),.int (base:Int)] []=some r/\∃ D:List Nat,r=(.ref 0,[.lst (nL D)])/\D.length=many/\∀ x ∈ D,x < base:=by
  rw [bh,aG];show ∃ r,(ai [] im [some (.int c),some (.int (many:Int)),some (.int (base:Int)),none,none,none,none] []).bind aF=some r/\_;refine bM (sl':=[some (.int c),some (.int (many:Int)),some (.int (base:Int)),some (.ref 0),none,none,none]) (st':=[.lst []]) rfl ?_;refine bM (sl':=[some (.int c),some (.int (many:Int)),some (.int (base:Int)),some (.ref 0),some (.int c),none,none]) (st':=[.lst []]) rfl ?_;refine my (xs:=List.range many) (em:=fun q:Nat=>AV.int (q:Int)) (fun i sl st=>∃ l y5 y6 D,sl=[some (.int c),some (.int (many:Int)),some (.int (base:Int)),some (.ref 0),some (.int l),y5,y6]/\st=[.lst (nL D)]/\D.length=i/\∀ x ∈ D,x < base) (zh (n:=many) rfl oM) (fun _ _ _ _=>rfl) ⟨c,none,none,[],rfl,rfl,rfl,by simp⟩ (fun i x sl st hx hI=>?_) fun sl' st' hI=>?_
  ·obtain ⟨l,y5,y6,D,rfl,rfl,hD,hb⟩:=hI
   have hi:i < many:=by have:=(zB.mp hx).1;simpa using this
   have ex:x=i:=by have:=(zB.mp hx).2;simpa using this.symm
   subst ex;by_cases hc:1000000000000000000 <= (if c < 0 then -c else c)/\l ≠ 0/\l ≠ -1
   ·obtain ⟨r,hr,hr2⟩:=jc (a:=l) (b:=base) h0
    refine ⟨_,[some (.int c),some (.int (many:Int)),some (.int (base:Int)),some (.ref 0),some (.int (l / (base:Int))),some (.int (x:Int)),y6],[.lst (nL (D++[r]))],rfl,?_,_,_,_,_,rfl,rfl,by simp [hD],fun z hz=>?_⟩
    ·refine aR (sl':=[some (.int c),some (.int (many:Int)),some (.int (base:Int)),some (.ref 0),some (.int (l / (base:Int))),some (.int (x:Int)),y6]) (st':=[.lst (nL (D++[r]))]) ?_ rfl
     have t0:tv [] (.an (.cmp .GtE (.bi .abs (.cons (.v 0) .nil)) (.bin .Pow (.i 10) (.i 18))) (.an (.cmp .NotEq (.v 4) (.i 0)) (.cmp .NotEq (.v 4) (.un .USub (.i 1))))) [some (.int c),some (.int (many:Int)),some (.int (base:Int)),some (.ref 0),some (.int l),some (.int (x:Int)),y6] [.lst (nL D)]=some (true,[.lst (nL D)]):=by
      simp [b9,jC,pA,hc.1,hc.2.1,hc.2.2,lx]
     show (Option.bind (tv [] _ [some (.int c),some (.int (many:Int)),some (.int (base:Int)),some (.ref 0),some (.int l),some (.int (x:Int)),y6] [.lst (nL D)]) _)=_;rw [t0,bind_some];dsimp only;rw [yG rfl];refine aR (uV (k:=0) (xs:=nL D) (y:=.int (r:Int)) rfl (by simp [gq b0,jz bp];exact hr) rfl (by simp;omega)) ?_;refine aR (sl':=[some (.int c),some (.int (many:Int)),some (.int (base:Int)),some (.ref 0),some (.int (l / (base:Int))),some (.int (x:Int)),y6]) (st':=[.lst (nL (D++[r]))]) ?_ rfl;have e1:nL D++[AV.int (r:Int)]=nL (D++[r]):=by unfold nL;simp
     simp [jB bdv,pD bp,e1]
    ·rcases zZ.mp hz with h | h
     ·exact hb z h
     ·rw [zM.mp h];exact hr2
   ·obtain ⟨a,ha,ha2⟩:=jc (a:=(c + 1009) * 69621 + 7919 * (x:Int)) (b:=2147483629) dC
    obtain ⟨b,hb',hb2⟩:=jc (a:=(a:Int) * (a:Int) + 17 * (x:Int) + 5) (b:=2147483629) dC;obtain ⟨d,hd,hd2⟩:=jc (a:=(b:Int) * (b:Int)) (b:=2147483587) dC;obtain ⟨r,hr,hr2⟩:=jc (a:=(d:Int) / 64) (b:=base) h0;have two:(2:Nat) ^ 62=4611686018427387904:=by decide
    refine ⟨_,[some (.int c),some (.int (many:Int)),some (.int (base:Int)),some (.ref 0),some (.int l),some (.int (x:Int)),some (.int (b:Int))],[.lst (nL (D++[r]))],rfl,?_,_,_,_,_,rfl,rfl,by simp [hD],fun z hz=>?_⟩
    ·refine aR (sl':=[some (.int c),some (.int (many:Int)),some (.int (base:Int)),some (.ref 0),some (.int l),some (.int (x:Int)),some (.int (b:Int))]) (st':=[.lst (nL (D++[r]))]) ?_ rfl
     have t0:tv [] (.an (.cmp .GtE (.bi .abs (.cons (.v 0) .nil)) (.bin .Pow (.i 10) (.i 18))) (.an (.cmp .NotEq (.v 4) (.i 0)) (.cmp .NotEq (.v 4) (.un .USub (.i 1))))) [some (.int c),some (.int (many:Int)),some (.int (base:Int)),some (.ref 0),some (.int l),some (.int (x:Int)),y6] [.lst (nL D)]=some (false,[.lst (nL D)]):=by
      by_cases h1:1000000000000000000 <= (if c < 0 then -c else c)
      ·by_cases h2:l=0
       ·simp [b9,jC,pA,h1,h2,lx]
       ·have h3:l=-1:=Classical.byContradiction fun h3=>hc ⟨h1,h2,h3⟩
        simp [b9,jC,pA,h1,h3,lx]
      ·simp [b9,jC,pA,h1,lx]
     show (Option.bind (tv [] _ [some (.int c),some (.int (many:Int)),some (.int (base:Int)),some (.ref 0),some (.int l),some (.int (x:Int)),y6] [.lst (nL D)]) _)=_;rw [t0,bind_some];dsimp only;rw [yF dC];have m1:cP (c + 1009) 69621=true:=GM dC;have m2:cP 7919 (x:Int)=true:=k6 dC;have m3:cP (a:Int) (a:Int)=true:=k6 oM;have m4:cP 17 (x:Int)=true:=k6 dC;have m5:cP (b:Int) (b:Int)=true:=k6 oM;have ha:((c + 1009) * 69621 + 7919 * (x:Int)) % 2147483629=(a:Int):=ha;have hb':((a:Int) * (a:Int) + 17 * (x:Int) + 5) % 2147483629=(b:Int):=hb';have hd:((b:Int) * (b:Int)) % 2147483587=(d:Int):=hd;have hr:((d:Int) / 64) % (base:Int)=(r:Int):=hr;have n1:(2147483629:Int) ≠ 0:=by decide
     have n2:(2147483587:Int) ≠ 0:=by decide
     have n3:=b0;have p1:(0:Int) < 2147483629:=by decide
     have p2:(0:Int) < 2147483587:=by decide
     have p3:=bp;have dv:iT 64=true:=by decide
     refine aR (sl':=[some (.int c),some (.int (many:Int)),some (.int (base:Int)),some (.ref 0),some (.int l),some (.int (x:Int)),some (.int (a:Int))]) (st':=[.lst (nL D)]) (by simp [c5 m1,c5 m2,gq n1,jz p1,ha]) ?_;refine aR (sl':=[some (.int c),some (.int (many:Int)),some (.int (base:Int)),some (.ref 0),some (.int l),some (.int (x:Int)),some (.int (b:Int))]) (st':=[.lst (nL D)]) (by simp [c5 m3,c5 m4,gq n1,jz p1,hb']) ?_;refine (aR (uV (k:=0) (xs:=nL D) (y:=.int (r:Int)) rfl (by simp [c5 m5,gq n2,gq n3,jz p2,jz p3,hd,jB dv,pD (show (0:Int) < 64 by decide),hr]) rfl (by simp;omega)) rfl).trans ?_;have e1:nL D++[AV.int (r:Int)]=nL (D++[r]):=by unfold nL;simp
     rw [e1];rfl
    ·rcases zZ.mp hz with h | h
     ·exact hb z h
     ·rw [zM.mp h];exact hr2
  ·obtain ⟨l,y5,y6,D,rfl,rfl,hD,hb⟩:=hI
   refine lX (v:=.ref 0) (st':=[.lst (nL D)]) rfl ⟨D,rfl,by simpa using hD,hb⟩
 obtain ⟨r,e,D,rfl,h1,h2⟩:=key;refine ⟨D,bW rfl e (zg rfl),h1,h2⟩
end
section
variable {st:aa}{n:Nat}
theorem B8 {α:Type}{f:α->AV}{l:List α}{a b:Option Int}:cut (l.map f) a b=(cut l a b).map f:=by
 unfold cut;rw [zH,List.map_take,List.map_drop]
theorem tx {α:Type}{l:List α}{a b:Option Int}:(cut l a b).length <= l.length:=by
 unfold cut;simp only [List.length_take,List.length_drop];omega
theorem B7 {α:Type}{l:List α}{a b:Option Int}{x:α} (h:x ∈ cut l a b):x ∈ l:=by
 unfold cut at h;exact List.mem_of_mem_drop (List.mem_of_mem_take h)
theorem zt {D:List Nat}{j:Nat} (h:j < D.length):cE st (.fz (nL D)) (.int (j:Int))=some (.int ((D.getD j 0:Nat):Int)):=by
 rw [cR d6,cD,fV h]
theorem oG {c:Int} (hn:c8 n):∃ os:List Nat,pm aN [.int c,.int n] st=some (.fz (nL os),st)/\os.length <= 12/\∀ o ∈ os,o < 16:=by
 obtain ⟨D,hD,lD,bD⟩:=B3 (st:=[]) (c:=c) (many:=12) (base:=64) dC dC dC;have key:∃ r,aN [.int c,.int n] []=some r/\∃ os:List Nat,r=(.ref 0,[.lst (nL os)])/\os.length <= 12/\∀ o ∈ os,o < 16:=by
  rw [aN,aG];show ∃ r,(ai [bh] f8 [some (.int c),some (.int (n:Int)),none,none,none,none] []).bind aF=some r/\_;refine bM (sl':=[some (.int c),some (.int (n:Int)),some (.fz (nL D)),none,none,none]) (st':=[]) (by
   show (ev [bh] (.ca true 0 (.cons (.v 0) (.cons (.i 12) (.cons (.i 64) .nil)))) [some (.int c),some (.int (n:Int)),none,none,none,none] []).bind _=_;rw [show ev [bh] (.ca true 0 (.cons (.v 0) (.cons (.i 12) (.cons (.i 64) .nil)))) [some (.int c),some (.int (n:Int)),none,none,none,none] []=some (.fz (nL D),[]) from hD];rfl) ?_
  refine bM (sl':=[some (.int c),some (.int (n:Int)),some (.fz (nL D)),some (.ref 0),none,none]) (st':=[.lst []]) rfl ?_;obtain ⟨y,hy⟩:∃ y:Int,m8 [bh] (.so (.bin .Add (.i 2) (.bin .Mod (.ix (.v 2) (.i 0)) (.i 11)))) [some (.int c),some (.int (n:Int)),some (.fz (nL D)),some (.ref 0),none,none] [.lst []]=some (some y,[.lst []]):=by
   refine ⟨2 + m6 ((D.getD 0 0:Nat):Int) 11,?_⟩;have x0:=zt (st:=[L8.lst []]) (D:=D) (j:=0) oM;rw [Jx];unfold qc;simp only [gh,iO,fP,dF,cZ,cY,bind_some,show (0:Int)=((0:Nat):Int) from rfl,x0,map_some,gq (show (11:Int) ≠ 0 by decide),uT]
  have hi:eL [bh] (.e (.nw false (.sl (.v 2) (.so (.i 2)) (.so (.bin .Add (.i 2) (.bin .Mod (.ix (.v 2) (.i 0)) (.i 11))))))) [some (.int c),some (.int (n:Int)),some (.fz (nL D)),some (.ref 0),none,none] [.lst []]=some (⟨(cut D (some 2) (some y)).map fun q:Nat=>AV.int (q:Int),[]⟩,[.lst []]):=by
   rw [EX,eA,Jz];unfold qg;rw [dF,show aV 2 [some (AV.int c),some (.int (n:Int)),some (.fz (nL D)),some (.ref 0),none,none] [L8.lst []]=some (.fz (nL D),[.lst []]) from rfl,bind_some];dsimp only;rw [show m8 [bh] (.so (.i 2)) [some (AV.int c),some (.int (n:Int)),some (.fz (nL D)),some (.ref 0),none,none] [L8.lst []]=some (some 2,[.lst []]) from rfl,bind_some];dsimp only;rw [hy,bind_some];dsimp only;rw [d6,map_some,bind_some];dsimp only;rw [show nL D=D.map fun q:Nat=>AV.int (q:Int) from rfl,B8,yG (show rfs ((cut D (some 2) (some y)).map fun q:Nat=>AV.int (q:Int))=true from g9 (l:=cut D (some 2) (some y))),bind_some,qA];rfl
  refine my (xs:=cut D (some 2) (some y)) (em:=fun q:Nat=>AV.int (q:Int)) (gd:=[]) (fun i sl st=>∃ y4 y5,∃ os:List Nat,sl=[some (.int c),some (.int (n:Int)),some (.fz (nL D)),some (.ref 0),y4,y5]/\st=[.lst (nL os)]/\os.length <= i/\∀ x ∈ os,x < 16) hi (fun _ _ _ _=>rfl) ⟨none,none,[],rfl,rfl,zP _,by simp⟩ (fun i x sl st hx hI=>?_) fun sl' st' hI=>?_
  ·obtain ⟨y4,y5,os,rfl,rfl,lo,bo⟩:=hI
   have hx64:=bD x (B7 (zW hx));have hi:i < 12:=by have:=(zB.mp hx).1;have:=tx (l:=D) (a:=some 2) (b:=some y);omega
   obtain ⟨q,hq⟩:∃ q,q=2 * (x % 2 ^ (n - 1)):=⟨_,rfl⟩;have q16:q < 16:=by rcases hn with rfl | rfl | rfl <;> simp only [Nat.add_one_sub_one] at hq <;> omega
   have e1:dL .LShift [L8.lst (nL os)] (.int 1) (.int ((n:Int) - 1))=some (.int ((2 ^ (n - 1):Nat):Int)):=by rcases hn with rfl | rfl | rfl <;> rfl
   have p0:0 < 2 ^ (n - 1):=Nat.two_pow_pos _;have e2:dL .Mod [L8.lst (nL os)] (.int (x:Int)) (.int ((2 ^ (n - 1):Nat):Int))=some (.int ((x % 2 ^ (n - 1):Nat):Int)):=by rw [gq oM,jz oM];rfl
   have e3:dL .Mult [L8.lst (nL os)] (.int 2) (.int ((x % 2 ^ (n - 1):Nat):Int))=some (.int (q:Int)):=by rw [c5 (k6 dC),hq];congr 2
   have x1:=zt (st:=[L8.lst (nL os)]) (D:=D) (j:=1) oM;obtain ⟨b,hb⟩:∃ b:Bool,tv [bh] (.or (.cmp .Gt (.v 5) (.i 0)) (.cmp .Eq (.bin .Mod (.ix (.v 2) (.i 1)) (.i 8)) (.i 3))) [some (.int c),some (.int (n:Int)),some (.fz (nL D)),some (.ref 0),some (.int (x:Int)),some (.int (q:Int))] [.lst (nL os)]=some (b,[.lst (nL os)]):=by
    by_cases h0:(0:Int) < (q:Int)
    ·exact ⟨true,by simp only [tQ,eQ,dF,fP,cZ,cY,bind_some,uN,map_some,yR h0,_root_.if_true]⟩
    ·refine ⟨decide (m6 ((D.getD 1 0:Nat):Int) 8=3),?_⟩
     have x1:cE [L8.lst (nL os)] (.fz (nL D)) (.int 1)=some (.int ((D.getD 1 0:Nat):Int)):=x1;simp only [tQ,eQ,dF,fP,cZ,cY,bind_some,uN,map_some,z8 h0,gh,iO,x1,gq (show (8:Int) ≠ 0 by decide),JY];rfl
   have s1:cG [bh] (.as (.bin .Mult (.i 2) (.bin .Mod (.v 4) (.bin .LShift (.i 1) (.bin .Sub (.v 1) (.i 1))))) (.nm 5)) [some (.int c),some (.int (n:Int)),some (.fz (nL D)),some (.ref 0),some (.int (x:Int)),y5] [.lst (nL os)]=some (.nx [some (.int c),some (.int (n:Int)),some (.fz (nL D)),some (.ref 0),some (.int (x:Int)),some (.int (q:Int))] [.lst (nL os)]):=by
    simp only [eC,gh,dF,fP,cZ,cY,bind_some,uR,map_some,e1,e2,e3,iR];rfl
   cases b with
   | true =>
    refine ⟨_,[some (.int c),some (.int (n:Int)),some (.fz (nL D)),some (.ref 0),some (.int (x:Int)),some (.int (q:Int))],[.lst (nL (os++[q]))],rfl,aR s1 (aR (sl':=[some (.int c),some (.int (n:Int)),some (.fz (nL D)),some (.ref 0),some (.int (x:Int)),some (.int (q:Int))]) (st':=[.lst (nL (os++[q]))]) ?_ rfl),_,_,_,rfl,rfl,by simp;omega,fun z hz=>?_⟩
    ·rw [kT,hb,bind_some]
     dsimp only;rw [yG rfl];refine (aR (uV (k:=0) (xs:=nL os) (y:=.int (q:Int)) rfl rfl rfl (by simp;omega)) rfl).trans ?_;have e1:nL os++[AV.int (q:Int)]=nL (os++[q]):=by unfold nL;simp
     rw [e1];rfl
    ·rcases zZ.mp hz with h | h
     ·exact bo z h
     ·rw [zM.mp h];exact q16
   | false =>
    refine ⟨_,[some (.int c),some (.int (n:Int)),some (.fz (nL D)),some (.ref 0),some (.int (x:Int)),some (.int (q:Int))],[.lst (nL os)],rfl,aR s1 (aR (sl':=[some (.int c),some (.int (n:Int)),some (.fz (nL D)),some (.ref 0),some (.int (x:Int)),some (.int (q:Int))]) (st':=[.lst (nL os)]) ?_ rfl),_,_,_,rfl,rfl,by omega,bo⟩;rw [kT,hb];rfl
  ·obtain ⟨y4,y5,os,rfl,rfl,lo,bo⟩:=hI
   have:=tx (l:=D) (a:=some 2) (b:=some y)
   exact lX (v:=.ref 0) (st':=[.lst (nL os)]) rfl ⟨os,rfl,by omega,bo⟩
 obtain ⟨r,e,os,rfl,h1,h2⟩:=key;exact ⟨os,bW rfl e (zg rfl),h1,h2⟩
end
section
variable {ks:List Fn}{sl:Sl}{st:aa}
theorem Fm:∀ {a b:List Nat},PyData.eqv (.list (a.map fun q:Nat=>PyData.int (q:Int))) (.list (b.map fun q:Nat=>PyData.int (q:Int)))=decide (a=b):=by
 intro a
 induction a with
 | nil=>intro b;cases b <;> simp [PyData.eqv,PyData.eqvAll]
 | cons x a ih =>
  intro b;cases b with
  | nil=>simp [PyData.eqv,PyData.eqvAll]
  | cons y b =>
   have ih:=ih (b:=b);simp only [PyData.eqv] at ih;simp only [zO,PyData.eqv,PyData.eqvAll,ih];rw [Bool.eq_iff_iff];simp;omega
theorem EB (l:List Nat):(PyData.list (l.map fun q:Nat=>PyData.int (q:Int))).canLay0=true/\(PyData.list (l.map fun q:Nat=>PyData.int (q:Int))).depth <= 1:=by
 have:PyData.canLayAll0 (l.map fun q:Nat=>PyData.int (q:Int))=true/\PyData.depthAll (l.map fun q:Nat=>PyData.int (q:Int)) <= 0:=by
  induction l with
  | nil=>exact ⟨rfl,zP _⟩
  | cons x l ih=>exact ⟨by simp only [zO,PyData.canLayAll0,PyData.canLay0,ih.1,Bool.and_self],by simp only [zO,PyData.depthAll,PyData.depth];omega⟩
 exact ⟨by simp only [PyData.canLay0,this.1],by simp only [PyData.depth];omega⟩
theorem Dg {l:List Nat}:c6 9 st (.fz (nL l))=some (.list (l.map fun q:Nat=>PyData.int (q:Int))):=by
 show (bE (c6 8 st) _).map _=_;rw [show nL l=l.map fun q:Nat=>AV.int (q:Int) from rfl,eW (f:=c6 8 st) (i:=fun q:Nat=>AV.int (q:Int)) (g:=fun q:Nat=>PyData.int (q:Int)) (fun _=>rfl)];rfl
theorem qK {a b:List Nat}:m9 st (.fz (nL a)) (.fz (nL b))=some (decide (a=b)):=by
 unfold m9;obtain ⟨a1,a2⟩:=EB a;obtain ⟨b1,b2⟩:=EB b;rw [Dg,Dg,bind_some,bind_some,yG (by unfold DD.pyOk;rw [a1,b1,yR oM];rfl),Fm]
theorem Hl {a b:List Nat}:cC .Eq st (.fz (nL a)) (.fz (nL b))=some (decide (a=b)):=qK
theorem Hm {a:List Nat}:cC .Eq st (.fz (nL a)) (.fz [])=some (decide (a=[])):=qK (b:=[])
theorem GJ {a:List Nat}:cC .NotEq st (.fz (nL a)) (.fz [])=some (!decide (a=[])):=by
 change (m9 st (.fz (nL a)) (.fz (nL []))).map (fun b=>!b)=_;rw [qK];rfl
theorem GK {x:Bool}:cC .NotEq st (.bl x) (.bl x)=some false:=by cases x <;> rfl
def Ey (x:AV) (st:aa):Option (List AV × aa):=match bw st x with
 | some xs=>some (xs,st)
 | none=>(g7 st x).map fun xs=>(xs,st)
theorem mP {f:EF}:l8 f sl st=(f sl st).bind fun p=>Ey p.1 p.2:=rfl
theorem j4 {xs:List AV}:Ey (.fz xs) st=some (xs,st):=rfl
theorem Ah {e:Ex}{os:List Nat}{y0 y1 y2 y3 y4 y5 y6 y7 y8 y9 y10:Option AV} (h:ev ks e [y0,y1,y2,y3,y4,y5,y6,y7,y8,y9,y10] st=some (.fz (nL os),st)) (hl:os.length <= 1000):ev ks (.nw false (.lc 1 (.e e) (.nm 11) (.so (.cmp .Gt (.v 11) (.i 0))) (.v 11))) [y0,y1,y2,y3,y4,y5,y6,y7,y8,y9,y10] st=some (.fz (nL (os.filter fun o=>decide (0 < o))),st):=by
 rw [eA,xG,EX,h,bind_some,qA];have e:=c7 (gd:=[]) (st:=st) (g:=bQ ks (.nm 11)) (t:=eM ks (.so (.cmp .Gt (.v 11) (.i 0)))) (f:=ev ks (.v 11)) (sl:=[y0,y1,y2,y3,y4,y5,y6,y7,y8,y9,y10,none]) (em:=fun x:Nat=>AV.int (x:Int)) (B:=fun o=>decide (0 < o)) (F:=fun x:Nat=>.int (x:Int)) cF (xs:=os) fun x _=>⟨_,rfl,by
  simp only [JW,eQ,dF,fP];show ((Option.some (AV.int (x:Int),st)).bind _)=_;simp only [bind_some,uN,map_some];congr 2;exact decide_eq_decide.mpr oM,fun _=>rfl⟩
 have e:fm [] (bQ ks (.nm 11)) (eM ks (.so (.cmp .Gt (.v 11) (.i 0)))) (ev ks (.v 11)) [y0,y1,y2,y3,y4,y5,y6,y7,y8,y9,y10,none] (nL os) st=some (nL (os.filter fun o=>decide (0 < o)),st):=e;simp only [map_some,bind_some,mL,bG hl,_root_.if_true,List.replicate,List.cons_append,List.nil_append,e,c4]
theorem G4 {α:Type}{l:List α}:cC .In st (.bl false) (.fz (l.map fun _=>AV.bl true))=some false:=by
 change oQ st (.bl false) (.fz (l.map fun _=>AV.bl true))=_;have h1:c6 9 st (.fz (l.map fun _=>AV.bl true))=some (.list (l.map fun _=>PyData.bool true)):=by
  show (bE (c6 8 st) _).map _=_;rw [eW (f:=c6 8 st) (i:=fun _:α=>AV.bl true) (g:=fun _:α=>PyData.bool true) (fun _=>rfl)];rfl
 show (some (PyData.bool false)).bind (fun q=>(c6 9 st _).bind _)=_;rw [show c6 9 st (AV.bl false)=some (PyData.bool false) from rfl,h1,bind_some];change (if (l.map fun _=>PyData.bool true).all (fun r=>DD.pyOk r (PyData.bool false))=true then some ((l.map fun _=>PyData.bool true).any fun r=>r.eqv (PyData.bool false)) else none)=_;rw [yG (yN.mpr fun x hx=>by obtain ⟨_,_,rfl⟩:=yB.mp hx;rfl)];congr 1;rw [List.any_eq_false];intro x hx;obtain ⟨_,_,rfl⟩:=yB.mp hx;decide
end
section
variable {st:aa}{n:Nat}{d:List Nat × List Int}
theorem JG {y0 y1 y2 y3 y4 y5 y6 y7 y8 y9 y10:Option AV} (hn:c8 n) (hd:d ∈ bz n) (h5:y5=some (.fz (iL d.2))) (h6:y6=some (.fz ((cM n (am d.1)).map Gv.av))):tv [aU,aN,cg,bF,aK,bH,bg,ba,aM] (.cmp .In (.b false) (.nw false (.lc 1 (.e (.v 6)) (.nm 11) .no (.ca true 6 (.cons (.v 11) (.cons (.v 5) .nil)))))) [y0,y1,y2,y3,y4,y5,y6,y7,y8,y9,y10] st=some (false,st):=by
 subst h5;subst h6;have hl:=sL hn (B:=am d.1);have e:=c7 (gd:=[]) (st:=st) (g:=bQ [aU,aN,cg,bF,aK,bH,bg,ba,aM] (.nm 11)) (t:=eM [aU,aN,cg,bF,aK,bH,bg,ba,aM] .no) (f:=ev [aU,aN,cg,bF,aK,bH,bg,ba,aM] (.ca true 6 (.cons (.v 11) (.cons (.v 5) .nil)))) (sl:=[y0,y1,y2,y3,y4,some (.fz (iL d.2)),some (.fz ((cM n (am d.1)).map Gv.av)),y7,y8,y9,y10,none]) (em:=Gv.av) (B:=fun _=>true) (F:=fun _=>.bl true) cF (xs:=cM n (am d.1)) fun z hz=>⟨_,rfl,rfl,fun _=>by
  have:=EN (st:=st) hn hd hz
  simp only [eB,bV,cw];show (pm bg [z.av,.fz (iL d.2)] st)=_;exact this⟩
 rw [List.filter_eq_self.mpr fun _ _=>rfl] at e;have hf:rfs ((cM n (am d.1)).map fun _=>AV.bl true)=true:=fT fun x hx=>by obtain ⟨_,_,rfl⟩:=yB.mp hx;rfl
 simp only [eQ,Kh,eA,xG,EX,dF,cZ,cY,bind_some,qA,map_some,zH,bG (show (cM n (am d.1)).length <= 1000 by omega),_root_.if_true,List.replicate,List.cons_append,List.nil_append,e,hf,G4]
theorem qI (hn:c8 n) (hd:d ∈ bz n):d.2.length=2 ^ n - 1/\(kH n d.2).natAbs < 100:=by
 have t:(bz n).all (fun d=>decide (d.2.length=2 ^ n - 1/\(kH n d.2).natAbs < 100))=true:=by rcases hn with rfl | rfl | rfl <;> decide +kernel
 exact of_decide_eq_true (yN.mp t d hd)
theorem F7 {l:List Int}:b9 pP [.fz (iL l)] st=some (.int (l.foldl (· + ·) 0),st):=by
 have h:∀ (l:List Int) (a:Int),l.foldl (· + ·) a=a + l.sum:=fun l=>by
  induction l with
  | nil=>intro a;simp
  | cons x l ih=>intro a;rw [List.foldl_cons,ih,List.sum_cons];omega
 have e:lsI st (.fz (iL l))=some l:=by
  show (bw st (.fz (iL l))).bind _=_;rw [d6,bind_some];exact BX
 show (((lsI st (.fz (iL l))).map fun ns=>AV.int ns.sum).map _)=_;rw [e,h l 0];simp
theorem HL {ks:List Fn}{y0 y1 y2 y3 y4 y5 y6 y7 y8 y9 y10:Option AV} (hn:c8 n) (hd:d ∈ bz n) (h3:y3=some (.int n)) (h5:y5=some (.fz (iL d.2))):ev ks (.bi .sum (.cons (.nw false (.lc 1 (.r2 (.i 1) (.v 3)) (.nm 11) .no (.ix (.v 5) (.bin .Sub (.bin .LShift (.i 1) (.v 11)) (.i 1))))) .nil)) [y0,y1,y2,y3,y4,y5,y6,y7,y8,y9,y10] st=some (.int (kH n d.2),st):=by
 subst h3;subst h5;obtain ⟨hl,_⟩:=qI hn hd;have hi:eL ks (.r2 (.i 1) (.v 3)) [y0,y1,y2,some (.int n),y4,some (.fz (iL d.2)),y6,y7,y8,y9,y10] st=some (⟨(List.range (n - 1)).map fun k:Nat=>AV.int ((k + 1:Nat):Int),[]⟩,st):=by rcases hn with rfl | rfl | rfl <;> rfl
 have n4:n <= 4:=by rcases hn with rfl | rfl | rfl <;> decide
 have e:=qv (gd:=[]) (st:=st) (g:=bQ ks (.nm 11)) (t:=eM ks .no) (f:=ev ks (.ix (.v 5) (.bin .Sub (.bin .LShift (.i 1) (.v 11)) (.i 1)))) (sl:=[y0,y1,y2,some (.int n),y4,some (.fz (iL d.2)),y6,y7,y8,y9,y10,none]) (em:=fun k:Nat=>AV.int ((k + 1:Nat):Int)) (F:=fun k=>SX.gI d.2 (2 ^ (k + 1) - 1)) (xs:=List.range (n - 1)) cF fun k hk=>⟨_,rfl,rfl,by
  have hk:=List.mem_range.mp hk;have:k=0\/k=1\/k=2:=by omega
  have p:2 ^ (k + 1) - 1 < d.2.length:=by
   rw [hl];have:2 ^ (k + 1) < 2 ^ n:=Nat.pow_lt_pow_right dC oM
   have:=Nat.two_pow_pos k
   omega
  have sh:dL .LShift st (.int 1) (.int ((k + 1:Nat):Int))=some (.int ((2 ^ (k + 1):Nat):Int)):=by rcases this with rfl | rfl | rfl <;> rfl
  have p0:0 < 2 ^ (k + 1):=Nat.two_pow_pos _;have su:(((2 ^ (k + 1):Nat):Int) - 1)=((2 ^ (k + 1) - 1:Nat):Int):=by omega
  have xi:cE st (.fz (iL d.2)) (.int ((2 ^ (k + 1) - 1:Nat):Int))=some (.int (SX.gI d.2 (2 ^ (k + 1) - 1))):=by rw [cR d6,cD,cb p]
  simp only [iO,gh,fP,dF];show (Option.bind (some (AV.fz (iL d.2),st)) _)=_;simp only [bind_some];show (Option.bind (Option.bind (Option.bind (some (AV.int ((k + 1:Nat):Int),st)) _) _) _)=_;simp only [bind_some,sh,map_some,uR,su,xi]⟩
 have hz:dP ((List.range (n - 1)).map fun k:Nat=>AV.int ((k + 1:Nat):Int)).length=true:=bG (by simp;omega);rw [tM,bV,eA,xG,hi,bind_some];dsimp only;rw [yG hz];simp only [List.replicate,List.cons_append,List.nil_append];rw [e];simp only [bind_some,dJ,_root_.if_true,cw,Fw,F7,kH]
theorem BO {ks:List Fn}{y0 y1 y2 y3 y4 y5 y6 y7 y8 y9 y10:Option AV}{a b:Int}{z1 z2 z3:AV} (h7:y7=some (.tup [.str "least",.tup [.int a,.int b],z1,z2,z3])):tv ks (.cmp .NotEq (.ix (.v 7) (.i 0)) (.s "least")) [y0,y1,y2,y3,y4,y5,y6,y7,y8,y9,y10] st=some (false,st):=by
 subst h7;have:cC .NotEq st (.str "least") (.str "least")=some false:=by kernel_rfl
 simp only [eQ,iO,dF,fP,u5,cZ,cY,bind_some,show cE st (.tup [.str "least",.tup [.int a,.int b],z1,z2,z3]) (.int 0)=some (.str "least") from rfl,map_some,this]
theorem JN {ks:List Fn}{y0 y1 y2 y3 y4 y5 y6 y7 y8 y9 y10:Option AV}{a b c:Int}{z1 z2 z3:AV} (mu:cP c b=true) (hab:a <= c * b) (h7:y7=some (.tup [.str "least",.tup [.int a,.int b],z1,z2,z3])) (h8:y8=some (.int c)):tv ks (.cmp .Gt (.ix (.ix (.v 7) (.i 1)) (.i 0)) (.bin .Mult (.v 8) (.ix (.ix (.v 7) (.i 1)) (.i 1)))) [y0,y1,y2,y3,y4,y5,y6,y7,y8,y9,y10] st=some (false,st):=by
 subst h7;subst h8;simp only [eQ,iO,gh,dF,fP,cZ,cY,bind_some,show cE st (.tup [.str "least",.tup [.int a,.int b],z1,z2,z3]) (.int 1)=some (.tup [.int a,.int b]) from rfl,show cE st (.tup [.int a,.int b]) (.int 0)=some (.int a) from rfl,show cE st (.tup [.int a,.int b]) (.int 1)=some (.int b) from rfl,map_some,c5 mu,uN,z8 (show ¬ c * b < a by omega)]
theorem AC {ks:List Fn}{sl:Sl}{a b:Ex}:tv ks (.cmp .NotEq a b) sl st=(ev ks a sl st).bind fun p=>(ev ks b sl p.2).bind fun q=>(cC .NotEq q.2 p.1 q.1).map fun b=>(b,q.2):=rfl
theorem He (hn:c8 n) (hd:d ∈ bz n):FT n d:=by
 rcases hn with rfl | rfl | rfl
 ·exact KI d hd
 ·exact KH d hd
 ·exact KF d hd
theorem GQ {t:Option AV}{c:Int} (h:EC t c=true):∃ a b z1 z2 z3,t=some (.tup [.str "least",.tup [.int a,.int b],z1,z2,z3])/\a <= c * b:=by
 unfold EC at h;split at h
 ·rename_i _ s a b z1 z2 z3
  rw [zC] at h;exact ⟨a,b,z1,z2,z3,by rw [yI h.1],of_decide_eq_true h.2⟩
 ·cases h
theorem B0 {A B:Nat->Bool}{l:List Nat}:(l.filter fun g=>!(A g == B g))=[] ↔ l.filter B=l.filter A:=by
 rw [List.filter_eq_nil_iff];constructor
 ·intro h
  refine List.filter_congr fun x hx=>?_
  have:=h x hx
  revert this
  cases A x <;> cases B x <;> simp
 ·intro h x hx
  have h1:x ∈ l.filter B ↔ x ∈ l.filter A:=by rw [h]
  rw [List.mem_filter,List.mem_filter] at h1;cases hA:A x <;> cases hB:B x <;> simp_all
theorem Fu {ns:List Int}{k:Nat}{y2 y3 y4 y5 y6 y7 y8 y9 y10:Option AV}:∃ sl2 st2,ai [aU,aN,cg,bF,aK,bH,bg,ba,aM] (.cons (.as (.ca true 0 (.cons (.v 0) (.cons (.v 1) .nil))) (.nm 2)) (.cons (.as (.bin .Add (.i 2) (.bin .Mod (.v 2) (.i 3))) (.nm 3)) (.cons (.as (.nw false (.lc 1 (.e (.ca true 1 (.cons (.bin .FloorDiv (.v 2) (.i 3)) (.cons (.v 3) .nil)))) (.nm 11) (.so (.cmp .Gt (.v 11) (.i 0))) (.v 11))) (.nm 4)) (.cons (.as (.ca true 3 (.cons (.ca true 2 (.cons (.v 3) (.cons (.nw false (.lof (.v 4))) .nil))) .nil)) (.nm 5)) (.cons (.as (.ca true 4 (.cons (.v 3) (.cons (.nw false (.lof (.v 4))) .nil))) (.nm 6)) (.cons (.iff (.or (.cmp .In (.b false) (.nw false (.lc 1 (.e (.v 6)) (.nm 11) .no (.ca true 6 (.cons (.v 11) (.cons (.v 5) .nil)))))) (.cmp .NotEq (.ca true 5 (.cons (.v 3) (.cons (.nw false (.lof (.v 4))) (.cons (.nw false (.lof (.v 5))) .nil)))) (.nw false (.li .nil)))) (.cons (.rt (.b false)) .nil) .nil) (.cons (.as (.ca true 7 (.cons (.v 3) (.cons (.nw false (.lof (.v 4))) .nil))) (.nm 7)) (.cons (.as (.bi .sum (.cons (.nw false (.lc 1 (.r2 (.i 1) (.v 3)) (.nm 11) .no (.ix (.v 5) (.bin .Sub (.bin .LShift (.i 1) (.v 11)) (.i 1))))) .nil)) (.nm 8)) (.cons (.iff (.or (.cmp .NotEq (.ix (.v 7) (.i 0)) (.s "least")) (.cmp .Gt (.ix (.ix (.v 7) (.i 1)) (.i 0)) (.bin .Mult (.v 8) (.ix (.ix (.v 7) (.i 1)) (.i 1))))) (.cons (.rt (.b false)) .nil) .nil) (.cons (.as (.nw false (.lc 1 (.e (.ca true 1 (.cons (.bin .Add (.bin .FloorDiv (.v 2) (.i 5)) (.i 1)) (.cons (.v 3) .nil)))) (.nm 11) (.so (.cmp .Gt (.v 11) (.i 0))) (.v 11))) (.nm 9)) (.cons (.as (.cmp .Eq (.ca true 8 (.cons (.v 3) (.cons (.v 9) .nil))) (.ca true 8 (.cons (.v 3) (.cons (.v 4) .nil)))) (.nm 10)) (.cons (.iff (.cmp .NotEq (.cmp .Eq (.ca true 5 (.cons (.v 3) (.cons (.v 9) (.cons (.nw false (.lof (.v 5))) .nil)))) (.nw false (.li .nil))) (.v 10)) (.cons (.rt (.b false)) .nil) .nil) .nil)))))))))))) [some (.fz (iL ns)),some (.int ((k:Nat):Int)),y2,y3,y4,y5,y6,y7,y8,y9,y10] st=some (.nx sl2 st2)/\∃ y1 y2 y3 y4 y5 y6 y7 y8 y9 y10,sl2=[some (.fz (iL ns)),y1,y2,y3,y4,y5,y6,y7,y8,y9,y10]:=by
 obtain ⟨c1,hc1⟩:∃ c,c=SX.gI ns k:=⟨_,rfl⟩;obtain ⟨r1,h1,b1⟩:=jc (a:=c1) (b:=3) dC;obtain ⟨n,en⟩:∃ n,n=2 + r1:=⟨_,rfl⟩;have hn:c8 n:=by unfold c8;omega
 have e3:dL .Mod st (.int c1) (.int 3)=some (.int (r1:Int)):=by rw [gq dC,jz dC];exact congrArg (fun z=>some (AV.int z)) h1
 have e3b:(2:Int) + (r1:Int)=(n:Int):=by omega
 have f3:dL .FloorDiv st (.int c1) (.int 3)=some (.int (c1 / 3)):=by rw [jB dC,pD dC]
 have f5:dL .FloorDiv st (.int c1) (.int 5)=some (.int (c1 / 5)):=by rw [jB dC,pD dC]
 obtain ⟨oa,hoa,la1,la2⟩:=oG (st:=st) (c:=c1 / 3) hn;obtain ⟨ob,hob,lb1,lb2⟩:=oG (st:=st) (c:=c1 / 5 + 1) hn;obtain ⟨os,hos⟩:∃ os,os=oa.filter fun o=>decide (0 < o):=⟨_,rfl⟩
 obtain ⟨ot,hot⟩:∃ ot,ot=ob.filter fun o=>decide (0 < o):=⟨_,rfl⟩
 have os16:∀ o ∈ os,o < 16:=fun o ho=>by rw [hos] at ho;exact la2 o (List.mem_filter.mp ho).1
 have ot16:∀ o ∈ ot,o < 16:=fun o ho=>by rw [hot] at ho;exact lb2 o (List.mem_filter.mp ho).1
 have osl:os.length <= 1000:=by rw [hos];have:=List.length_filter_le (fun o=>decide (0 < o)) oa;omega
 have otl:ot.length <= 1000:=by rw [hot];have:=List.length_filter_le (fun o=>decide (0 < o)) ob;omega
 have os0:∀ o ∈ os,0 < o:=fun o ho=>by rw [hos] at ho;exact of_decide_eq_true (List.mem_filter.mp ho).2
 obtain ⟨F,hF,hE⟩:=Fk hn os0;rw [<- Fl hn] at hF;obtain ⟨d,hd,rfl⟩:=yB.mp hF;have hE:∀ g ∈ aE n,am os g=am d.1 g:=fun g hg=>by
  obtain ⟨i,hi,rfl⟩:=yB.mp hg;exact hE i (List.mem_range.mp hi)
 have ft:=He hn hd;have sa:=CG (st:=st) hn os16 osl hE ft.le ft.sa;have gi:=qD (st:=st) hn os16 osl;rw [Aa hE] at gi;have lt1:=sJ (st:=st) hn os16 osl hd;rw [show ((aE n).filter fun g=>!(am d.1 g == am os g))=[] from List.filter_eq_nil_iff.mpr fun g hg=>by rw [hE g hg];simp] at lt1;have lt2:=sJ (st:=st) hn ot16 otl hd;obtain ⟨a,b,z1,z2,z3,hans,hab⟩:=GQ (HK hn hd);have la:=EG (st:=st) hn os16 osl hE hans;have mu:cP (kH n d.2) b=true:=k6 (zJ (qI hn hd).2 dC);have lo1:=ly (st:=st) hn ot16;have lo2:=ly (st:=st) hn os16;have alk:decide (((aE n).filter fun g=>!(am d.1 g == am ot g))=[])=decide ((aE n).filter (am ot)=(aE n).filter (am os)):=by
  rw [List.filter_congr hE];exact decide_eq_decide.mpr B0
 have key:∃ r,ai [aU,aN,cg,bF,aK,bH,bg,ba,aM] (.cons (.as (.ca true 0 (.cons (.v 0) (.cons (.v 1) .nil))) (.nm 2)) (.cons (.as (.bin .Add (.i 2) (.bin .Mod (.v 2) (.i 3))) (.nm 3)) (.cons (.as (.nw false (.lc 1 (.e (.ca true 1 (.cons (.bin .FloorDiv (.v 2) (.i 3)) (.cons (.v 3) .nil)))) (.nm 11) (.so (.cmp .Gt (.v 11) (.i 0))) (.v 11))) (.nm 4)) (.cons (.as (.ca true 3 (.cons (.ca true 2 (.cons (.v 3) (.cons (.nw false (.lof (.v 4))) .nil))) .nil)) (.nm 5)) (.cons (.as (.ca true 4 (.cons (.v 3) (.cons (.nw false (.lof (.v 4))) .nil))) (.nm 6)) (.cons (.iff (.or (.cmp .In (.b false) (.nw false (.lc 1 (.e (.v 6)) (.nm 11) .no (.ca true 6 (.cons (.v 11) (.cons (.v 5) .nil)))))) (.cmp .NotEq (.ca true 5 (.cons (.v 3) (.cons (.nw false (.lof (.v 4))) (.cons (.nw false (.lof (.v 5))) .nil)))) (.nw false (.li .nil)))) (.cons (.rt (.b false)) .nil) .nil) (.cons (.as (.ca true 7 (.cons (.v 3) (.cons (.nw false (.lof (.v 4))) .nil))) (.nm 7)) (.cons (.as (.bi .sum (.cons (.nw false (.lc 1 (.r2 (.i 1) (.v 3)) (.nm 11) .no (.ix (.v 5) (.bin .Sub (.bin .LShift (.i 1) (.v 11)) (.i 1))))) .nil)) (.nm 8)) (.cons (.iff (.or (.cmp .NotEq (.ix (.v 7) (.i 0)) (.s "least")) (.cmp .Gt (.ix (.ix (.v 7) (.i 1)) (.i 0)) (.bin .Mult (.v 8) (.ix (.ix (.v 7) (.i 1)) (.i 1))))) (.cons (.rt (.b false)) .nil) .nil) (.cons (.as (.nw false (.lc 1 (.e (.ca true 1 (.cons (.bin .Add (.bin .FloorDiv (.v 2) (.i 5)) (.i 1)) (.cons (.v 3) .nil)))) (.nm 11) (.so (.cmp .Gt (.v 11) (.i 0))) (.v 11))) (.nm 9)) (.cons (.as (.cmp .Eq (.ca true 8 (.cons (.v 3) (.cons (.v 9) .nil))) (.ca true 8 (.cons (.v 3) (.cons (.v 4) .nil)))) (.nm 10)) (.cons (.iff (.cmp .NotEq (.cmp .Eq (.ca true 5 (.cons (.v 3) (.cons (.v 9) (.cons (.nw false (.lof (.v 5))) .nil)))) (.nw false (.li .nil))) (.v 10)) (.cons (.rt (.b false)) .nil) .nil) .nil)))))))))))) [some (.fz (iL ns)),some (.int ((k:Nat):Int)),y2,y3,y4,y5,y6,y7,y8,y9,y10] st=some r/\∃ st2,∃ y1 y2 y3 y4 y5 y6 y7 y8 y9 y10,r=.nx [some (.fz (iL ns)),y1,y2,y3,y4,y5,y6,y7,y8,y9,y10] st2:=by
  refine cJ (sl':=[some (.fz (iL ns)),some (.int ((k:Nat):Int)),some (.int c1),y3,y4,y5,y6,y7,y8,y9,y10]) (st':=st) ?_ ?_
  ·simp only [eC,eB,bV,cw,gh,iO,tM,dF,fP,u5,cZ,cY,bind_some,eR,eZ,eY,map_some,iR,Fq,<- hc1];rfl
  refine cJ (sl':=[some (.fz (iL ns)),some (.int ((k:Nat):Int)),some (.int c1),some (.int (n:Int)),y4,y5,y6,y7,y8,y9,y10]) (st':=st) ?_ ?_
  ·simp only [eC,eB,bV,cw,gh,iO,tM,dF,fP,u5,cZ,cY,bind_some,eR,eZ,eY,map_some,iR,e3,uT,e3b];rfl
  refine cJ (sl':=[some (.fz (iL ns)),some (.int ((k:Nat):Int)),some (.int c1),some (.int (n:Int)),some (.fz (nL os)),y5,y6,y7,y8,y9,y10]) (st':=st) ?_ ?_
  ·rw [eC,Ah (os:=oa) (by simp only [eB,bV,cw,gh,dF,fP,cZ,cY,bind_some,f3,map_some,eR,eZ,eY,hoa]) oM,<- hos];rfl
  refine cJ (sl':=[some (.fz (iL ns)),some (.int ((k:Nat):Int)),some (.int c1),some (.int (n:Int)),some (.fz (nL os)),some (.fz (iL d.2)),y6,y7,y8,y9,y10]) (st':=st) ?_ ?_
  ·simp only [eC,eB,bV,cw,eA,mK,mP,j4,c4,dJ,_root_.if_true,dF,cZ,cY,bind_some,eR,eZ,eY,sa,ft.ta,iR];rfl
  refine cJ (sl':=[some (.fz (iL ns)),some (.int ((k:Nat):Int)),some (.int c1),some (.int (n:Int)),some (.fz (nL os)),some (.fz (iL d.2)),some (.fz ((cM n (am d.1)).map Gv.av)),y7,y8,y9,y10]) (st':=st) ?_ ?_
  ·simp only [eC,eB,bV,cw,eA,mK,mP,j4,c4,dJ,_root_.if_true,dF,cZ,cY,bind_some,eR,eZ,eY,gi,iR];rfl
  refine cJ (sl':=[some (.fz (iL ns)),some (.int ((k:Nat):Int)),some (.int c1),some (.int (n:Int)),some (.fz (nL os)),some (.fz (iL d.2)),some (.fz ((cM n (am d.1)).map Gv.av)),y7,y8,y9,y10]) (st':=st) ?_ ?_
  ·rw [kT,tQ,JG hn hd rfl rfl,bind_some,yF (by simp)];simp only [eQ,eB,bV,cw,eA,mK,mP,j4,c4,dJ,_root_.if_true,dF,cZ,cY,bind_some,eR,eZ,eY,lt1,eA,Eb,List.length_nil,show dP 0=true from rfl,_root_.if_true,zj,GJ,map_some,decide_true,Bool.not_true,z9,if_false,yw]
  refine cJ (sl':=[some (.fz (iL ns)),some (.int ((k:Nat):Int)),some (.int c1),some (.int (n:Int)),some (.fz (nL os)),some (.fz (iL d.2)),some (.fz ((cM n (am d.1)).map Gv.av)),some (.tup [.str "least",.tup [.int a,.int b],z1,z2,z3]),y8,y9,y10]) (st':=st) ?_ ?_
  ·simp only [eC,eB,bV,cw,eA,mK,mP,j4,c4,dJ,_root_.if_true,dF,cZ,cY,bind_some,eR,eZ,eY,la,iR];rfl
  refine cJ (sl':=[some (.fz (iL ns)),some (.int ((k:Nat):Int)),some (.int c1),some (.int (n:Int)),some (.fz (nL os)),some (.fz (iL d.2)),some (.fz ((cM n (am d.1)).map Gv.av)),some (.tup [.str "least",.tup [.int a,.int b],z1,z2,z3]),some (.int (kH n d.2)),y9,y10]) (st':=st) ?_ ?_
  ·rw [eC,HL hn hd rfl rfl];rfl
  refine cJ (sl':=[some (.fz (iL ns)),some (.int ((k:Nat):Int)),some (.int c1),some (.int (n:Int)),some (.fz (nL os)),some (.fz (iL d.2)),some (.fz ((cM n (am d.1)).map Gv.av)),some (.tup [.str "least",.tup [.int a,.int b],z1,z2,z3]),some (.int (kH n d.2)),y9,y10]) (st':=st) ?_ ?_
  ·rw [kT,tQ,BO rfl,bind_some,yF (by simp),JN mu hab rfl rfl];rfl
  refine cJ (sl':=[some (.fz (iL ns)),some (.int ((k:Nat):Int)),some (.int c1),some (.int (n:Int)),some (.fz (nL os)),some (.fz (iL d.2)),some (.fz ((cM n (am d.1)).map Gv.av)),some (.tup [.str "least",.tup [.int a,.int b],z1,z2,z3]),some (.int (kH n d.2)),some (.fz (nL ot)),y10]) (st':=st) ?_ ?_
  ·rw [eC,Ah (os:=ob) (by simp only [eB,bV,cw,gh,dF,fP,cZ,cY,bind_some,f5,uT,map_some,eR,eZ,eY,hob]) oM,<- hot];rfl
  refine cJ (sl':=[some (.fz (iL ns)),some (.int ((k:Nat):Int)),some (.int c1),some (.int (n:Int)),some (.fz (nL os)),some (.fz (iL d.2)),some (.fz ((cM n (am d.1)).map Gv.av)),some (.tup [.str "least",.tup [.int a,.int b],z1,z2,z3]),some (.int (kH n d.2)),some (.fz (nL ot)),some (.bl (decide ((aE n).filter (am ot)=(aE n).filter (am os))))]) (st':=st) ?_ ?_
  ·simp only [eC,tL,eB,bV,cw,dF,cZ,cY,bind_some,eR,eZ,eY,lo1,lo2,IH,Hl,map_some,iR];rfl
  refine cJ (sl':=[some (.fz (iL ns)),some (.int ((k:Nat):Int)),some (.int c1),some (.int (n:Int)),some (.fz (nL os)),some (.fz (iL d.2)),some (.fz ((cM n (am d.1)).map Gv.av)),some (.tup [.str "least",.tup [.int a,.int b],z1,z2,z3]),some (.int (kH n d.2)),some (.fz (nL ot)),some (.bl (decide ((aE n).filter (am ot)=(aE n).filter (am os))))]) (st':=st) ?_ ?_
  ·rw [kT,AC];simp only [tL,eB,bV,cw,eA,mK,mP,j4,c4,dJ,_root_.if_true,dF,cZ,cY,bind_some,eR,eZ,eY,lt2,eA,Eb,List.length_nil,show dP 0=true from rfl,_root_.if_true,zj,IH,Hm,map_some,z9,if_false,alk,GK,yw]
  exact ⟨_,rfl,_,_,_,_,_,_,_,_,_,_,_,rfl⟩
 obtain ⟨r,e,st2,y1,y2,y3,y4,y5,y6,y7,y8,y9,y10,rfl⟩:=key;exact ⟨_,_,e,_,_,_,_,_,_,_,_,_,_,rfl⟩
theorem Gb {ns:List Int}{ks:List Fn}{sl:Sl} (h:ev ks (.v 0) sl st=some (.fz (iL ns),st)):∃ N:Nat,eL ks (.r1 (.bi .max (.cons (.i 1) (.cons (.bi .min (.cons (.i 6) (.cons (.bi .len (.cons (.v 0) .nil)) .nil))) .nil)))) sl st=some (⟨(List.range N).map fun q:Nat=>AV.int ((q:Nat):Int),[]⟩,st):=by
 obtain ⟨j,hj⟩:∃ j:Int,j=(if (if ((ns.length:Nat):Int) < 6 then ((ns.length:Nat):Int) else 6) > 1 then (if ((ns.length:Nat):Int) < 6 then ((ns.length:Nat):Int) else 6) else 1):=⟨_,rfl⟩;obtain ⟨q,q1,rfl⟩:∃ q:Nat,q <= 6/\j=(q:Int):=⟨j.toNat,by rw [hj];split <;> split <;> omega,by rw [hj];split <;> split <;> omega⟩;refine ⟨q,zh ?_ oM⟩;simp only [tM,bV,cw,fP,h,bind_some,Fz,Fx,Fy];rw [show b9 eE [AV.fz (iL ns)] st=some (.int ((iL ns).length:Int),st) from rfl,ka];simp only [bind_some];rw [hj];rfl
theorem GR {ns:List Int}:∃ st,nR [.fz (iL ns)] []=some (.bl true,st):=by
 have key:∃ r,nR [.fz (iL ns)] []=some r/\r.1=.bl true:=by
  rw [nR,aG];show ∃ r,(ai [aU,aN,cg,bF,aK,bH,bg,ba,aM] uS [some (.fz (iL ns)),none,none,none,none,none,none,none,none,none,none] []).bind aF=some r/\_;obtain ⟨N,hi⟩:=Gb (ks:=[aU,aN,cg,bF,aK,bH,bg,ba,aM]) (sl:=[some (.fz (iL ns)),none,none,none,none,none,none,none,none,none,none]) (st:=[]) (ns:=ns) rfl;refine my (gd:=[]) (xs:=List.range N) (em:=fun q:Nat=>AV.int ((q:Nat):Int)) (fun _ sl _=>∃ y1 y2 y3 y4 y5 y6 y7 y8 y9 y10,sl=[some (.fz (iL ns)),y1,y2,y3,y4,y5,y6,y7,y8,y9,y10]) hi (fun _ _ _ _=>rfl) ⟨none,none,none,none,none,none,none,none,none,none,rfl⟩ (fun i x sl st hx hI=>?_) fun sl' st' hI=>?_
  ·obtain ⟨y1,y2,y3,y4,y5,y6,y7,y8,y9,y10,rfl⟩:=hI
   obtain ⟨sl2,st2,e,h⟩:=Fu (ns:=ns) (k:=x) (st:=st) (y2:=y2) (y3:=y3) (y4:=y4) (y5:=y5) (y6:=y6) (y7:=y7) (y8:=y8) (y9:=y9) (y10:=y10);exact ⟨([some (.fz (iL ns)),some (.int ((x:Nat):Int)),y2,y3,y4,y5,y6,y7,y8,y9,y10],st),sl2,st2,rfl,e,h⟩
  ·obtain ⟨y1,y2,y3,y4,y5,y6,y7,y8,y9,y10,rfl⟩:=hI
   exact lX (v:=.bl true) (st':=st') rfl rfl
 obtain ⟨⟨v,s⟩,e,h⟩:=key;have h:v=.bl true:=h;subst h;exact ⟨s,e⟩
theorem Jr:Room e_law.d callerA:=⟨rfl,by decide,by decide,rfl⟩
theorem AI:∀ t ∈ (L7.tb:List (Addr × Pos × Str)),t.1 ∈ ([(274,272)]:List (Addr × Addr)).map (·.2):=by
 intro t ht;have:t=(272,⟨164,30,164,63⟩,("Sheet.raising_column":Str)++".<locals>."++"<lambda>"):=zM.mp ht;rw [this];exact zM.mpr rfl
theorem holds:∀ ns:List Int,ns.length <= 63->∃ st,IE [.fz (ns.map .int)] []=some (.bl true,st):=fun _ _=>GR
end
end LW
def PySem.W.Fast.tw12400704216373412927:=()
def PySem.W.Fast.tw17746246104485033024:=()
def PySem.W.Fast.tw10894749179636367700:=()
def PySem.W.Fast.tw893450584707333379:=()
def PySem.W.Fast.tw8298807869071277972:=()
def PySem.W.Fast.tw2689727804009950961:=()
def PySem.W.Fast.tw12055316499646635717:=()
def PySem.W.Fast.tw17298067319343892987:=()
def PySem.W.Fast.tw12019806458225396521:=()
def PySem.W.Fast.tw4224405330346568159:=()
def PySem.W.Fast.tw5326267108132858359:=()
def PySem.W.Fast.tw7843883131593356962:=()
def PySem.W.Fast.tw16128777106104587592:=()
def PySem.W.Fast.tw2585095723939761235:=()
def PySem.W.Fast.tw12987334023375563248:=()
def PySem.W.Fast.tw14000162532922302177:=()
def PySem.W.Fast.tw18410198742629247462:=()
def PySem.W.Fast.tw6509995990700569309:=()
def PySem.W.Fast.tw13569168615087883140:=()
def PySem.W.Fast.tw8811937302437192961:=()
def PySem.W.Fast.tw15732828237346606450:=()
def PySem.W.Fast.tw2117620223941159526:=()
def PySem.W.Fast.tw6047572400602055782:=()
def PySem.W.Fast.tw5678805525892778503:=()
def PySem.W.Fast.tw11942509909458956449:=()
def PySem.W.Fast.tw7074978518454918611:=()
def PySem.W.Fast.tw16856588324728964403:=()
def PySem.W.Fast.tw14180763605495390510:=()
def PySem.W.Fast.tw16800968876787026844:=()
def PySem.W.Fast.tw10719460026237419235:=()
def PySem.W.Fast.tw1548580998660777690:=()
def PySem.W.Fast.tw2343000377553743408:=()
def PySem.W.Fast.tw10059857831839947803:=()
def PySem.W.Fast.tw17367710212901946421:=()
def PySem.W.Fast.tw6591836797858112971:=()
def PySem.W.Fast.tw7401618498039534095:=()
def PySem.W.Fast.tw5750739612923757404:=()
def PySem.W.Fast.tw8392374586596974364:=()
def PySem.W.Fast.tw557872096230339286:=()
def PySem.W.Fast.tw17706697033861417961:=()
def PySem.W.Fast.tw7938057510131582248:=()
def PySem.W.Fast.tw10021025954788758185:=()
def PySem.W.Fast.tw2714955751932889023:=()
def PySem.W.Fast.tw8584646709401102764:=()
def PySem.W.Fast.tw12525588455552384708:=()
def PySem.W.Fast.tw2246711980066187085:=()
def PySem.W.Fast.tw10139748763440736410:=()
def PySem.W.Fast.tw15936941980970228064:=()
def PySem.W.Fast.tw7866703461690870955:=()
def PySem.W.Fast.tw7219892554918473767:=()
def PySem.W.Fast.tw11516368570896555651:=()
def PySem.W.Fast.tw8391063855859117527:=()
def PySem.W.Fast.tw10592007603585345314:=()
def PySem.W.Fast.tw14750698145369934003:=()
def PySem.W.Fast.tw16531903615425714665:=()
def PySem.W.Fast.tw10497180636916256716:=()
def PySem.W.Fast.tw4316607869633396933:=()
def PySem.W.Fast.tw7493977611718785235:=()
def PySem.W.Fast.tw9119574010782692558:=()
def PySem.W.Fast.tw17932908274168465218:=()
def PySem.W.Fast.tw15885294746746944549:=()
def PySem.W.Fast.tw5859455876538185782:=()
def PySem.W.Fast.tw6415903707029935447:=()
def PySem.W.Fast.tw798598590971084950:=()
def PySem.W.Fast.tw5007963191652810261:=()
def PySem.W.Fast.tw6634368028267244651:=()
def PySem.W.Fast.tw9353817359470576807:=()
def PySem.W.Fast.tw12296382603383460468:=()
def PySem.W.Fast.tw14733294691803402708:=()
def PySem.W.Fast.tw16537751091271094659:=()
def PySem.W.Fast.tw17313586395200557655:=()
def PySem.W.Fast.tw15068658368947284704:=()
def PySem.W.Fast.tw1923983868310763851:=()
def PySem.W.Fast.tw4353560613638784700:=()
def PySem.W.Fast.tw10170871016862173872:=()
def PySem.W.Fast.tw3649900008586879437:=()
def PySem.W.Fast.tw8775868961575005319:=()
def PySem.W.Fast.tw14039056172632895671:=()
def PySem.W.Fast.tw16632349437074597429:=()
def PySem.W.Fast.tw11000617385290603477:=()
def PySem.W.Fast.tw2234003435236784420:=()
def PySem.W.Fast.tw2336244534908017704:=()
def PySem.W.Fast.tw3028460579770270820:=()
def PySem.W.Fast.tw11073972700222701207:=()
def PySem.W.Fast.tw14082501281025115653:=()
def PySem.W.Fast.tw7767454681162709128:=()
def PySem.W.Fast.tw16299433405137499572:=()
def PySem.W.Fast.tw11729410623574234303:=()
def PySem.W.Fast.tw2802404807339072131:=()
def PySem.W.Fast.tw4572851888689006658:=()
def PySem.W.Fast.tw1935954290648303968:=()
def PySem.W.Fast.tw6778016597964684530:=()
def PySem.W.Fast.tw11844658322546823460:=()
def PySem.W.Fast.tw5110060861820553492:=()
def PySem.W.Fast.tw17666931852621218106:=()
def PySem.W.Fast.tw12623546513093167922:=()
def PySem.W.Fast.tw2760637569917066612:=()
def PySem.W.Fast.tw14937592350640786653:=()
def PySem.W.Fast.tw2713932101662469038:=()
def PySem.W.Fast.tw651222515044316153:=()
def PySem.W.Fast.tw17092932126977700190:=()
def PySem.W.Fast.tw446078791070531566:=()
def PySem.W.Fast.tw13475263036556923394:=()
def PySem.W.Fast.tw16133289494068698833:=()
def PySem.W.Fast.tw10358005035369116470:=()
def PySem.W.Fast.tw16775797536836241385:=()
def PySem.W.Fast.tw18368014740121462039:=()
def PySem.W.Fast.tw15957567452982547712:=()
def PySem.W.Fast.tw12705768833149542970:=()
def PySem.W.Fast.tw740826286259172897:=()
def PySem.W.Fast.tw14763457309255046429:=()
def PySem.W.Fast.tw11638279444491014444:=()
def PySem.W.Fast.tw15923502292505864118:=()
def PySem.W.Fast.tw14361395023014233956:=()
def PySem.W.Fast.tw14898825362515320756:=()
def PySem.W.Fast.tw15861899817421496248:=()
def PySem.W.Fast.tw4429409211614738895:=()
def PySem.W.Fast.tw79931340088910238:=()
def PySem.W.Fast.tw15829863134851498472:=()
def PySem.W.Fast.tw12671910472978544348:=()
def PySem.W.Fast.tw607288936525519075:=()
def PySem.W.Fast.tw18008546999541514928:=()
def PySem.W.Fast.tw17928411021733920823:=()
def PySem.W.Fast.tw7333814509001261194:=()
def PySem.W.Fast.tw10136649573905847642:=()
def PySem.W.Fast.tw9418763486494700967:=()
def PySem.W.Fast.tw3944459637364248738:=()
def PySem.W.Fast.tw13832326104860342981:=()
def PySem.W.Fast.tw15354226897517722939:=()
def PySem.W.Fast.tw17551727567085969080:=()
def PySem.W.Fast.tw7583114057345197298:=()
def PySem.W.Fast.tw1647388369921514170:=()
def PySem.W.Fast.tw11636841121330081124:=()
def PySem.W.Fast.tw3621536454155032127:=()
def PySem.W.Fast.tw1811976204745659726:=()
def PySem.W.Fast.tw6346511796238072316:=()
def PySem.W.Fast.tw4224925499427628050:=()
def PySem.W.Fast.tw7119897135839155454:=()
def PySem.W.Fast.tw8394561494795459192:=()
def PySem.W.Fast.tw6008005700760180233:=()
def PySem.W.Fast.tw8041683313149161631:=()
def PySem.W.Fast.tw9007847002482463343:=()
def PySem.W.Fast.tw1525763663618025727:=()
def PySem.W.Fast.tw3332558739257174658:=()
def PySem.W.Fast.tw11832170241478372780:=()
def PySem.W.Fast.tw10694174407303177613:=()
def PySem.W.Fast.tw18332015469829950923:=()
def PySem.W.Fast.tw6933842311738726265:=()
def PySem.W.Fast.tw16847452824491587165:=()
def PySem.W.Fast.tw4444127175329239694:=()
def PySem.W.Fast.tw6507716146387452018:=()
def PySem.W.Fast.tw7726284957884654684:=()
def PySem.W.Fast.tw903014990201288363:=()
def PySem.W.Fast.tw12679385230776037075:=()
def PySem.W.Fast.tw15771502610083503831:=()
def PySem.W.Fast.tw7854279408281066653:=()
def PySem.W.Fast.tw11576679877032000944:=()
def PySem.W.Fast.tw7789234648781325103:=()
def PySem.W.Fast.tw6796152221888282221:=()
def PySem.W.Fast.tw4690320836774360931:=()
def PySem.W.Fast.tw15626156202098347388:=()
def PySem.W.Fast.tw13435572449468335296:=()
def PySem.W.Fast.tw899823905899326576:=()
def PySem.W.Fast.tw6227672434132826596:=()
def PySem.W.Fast.tw15657380407469807615:=()
def PySem.W.Fast.tw8756693637910183657:=()
def PySem.W.Fast.tw17694415672591527479:=()
def PySem.W.Fast.tw11473406492675404560:=()
def PySem.W.Fast.tw12597798391165127139:=()
def PySem.W.Fast.tw6309873059127677192:=()
def PySem.W.Fast.tw15292453552568891072:=()
def PySem.W.Fast.tw4123316689919277872:=()
def PySem.W.Fast.tw14886016907450917129:=()
def PySem.W.Fast.tw5075238673010277685:=()
def PySem.W.Fast.tw8448684445045589779:=()
def PySem.W.Fast.tw3558608950224035138:=()
def PySem.W.Fast.tw265583952472596565:=()
def PySem.W.Fast.tw15753851559837130482:=()
def PySem.W.Fast.tw12882891783803598350:=()
def PySem.W.Fast.tw17385284474968992361:=()
def PySem.W.Fast.tw3291034242231231517:=()
def PySem.W.Fast.tw17399685537679746677:=()
def PySem.W.Fast.tw17067395145839555842:=()
def PySem.W.Fast.tw5059999599525816355:=()
def PySem.W.Fast.tw7745796765121890940:=()
def PySem.W.Fast.tw314130659215092680:=()
def PySem.W.Fast.tw9775066120500107146:=()
def PySem.W.Fast.tw9729729084122496374:=()
def PySem.W.Fast.tw12426595488366663005:=()
def PySem.W.Fast.tw5932457878019467110:=()
def PySem.W.Fast.tw14642615635617304558:=()
def PySem.W.Fast.tw2887517812736012820:=()
def PySem.W.Fast.tw15633171521797453208:=()
def PySem.W.Fast.tw17768733760382173939:=()
def PySem.W.Fast.tw9076639790636978562:=()
def PySem.W.Fast.tw17231829749817384525:=()
def PySem.W.Fast.tw1295544192802930346:=()
def PySem.W.Fast.tw10377578114878546690:=()
def PySem.W.Fast.tw14066116477761678525:=()
def PySem.W.Fast.tw7366605515099350821:=()
def PySem.W.Fast.tw15684347796602562965:=()
def PySem.W.Fast.tw17388075036474702313:=()
def PySem.W.Fast.tw5582371617999789691:=()
def PySem.W.Fast.tw7586126579221989436:=()
def PySem.W.Fast.tw13330300125222754696:=()
def PySem.W.Fast.tw11887881578761566208:=()
def PySem.W.Fast.tw11438425447165203934:=()
def PySem.W.Fast.tw11334656345929945410:=()
def PySem.W.Fast.tw10423853907942423896:=()
def PySem.W.Fast.tw10651003929423469986:=()
def PySem.W.Fast.tw12970473919717515380:=()
def PySem.W.Fast.tw17647270762504759428:=()
def PySem.W.Fast.tw8303863770095949275:=()
def PySem.W.Fast.tw1287090082867143122:=()
def PySem.W.Fast.tw8177208447353798749:=()
def PySem.W.Fast.tw11985549032343435982:=()
def PySem.W.Fast.tw2241733909791559703:=()
def PySem.W.Fast.tw8396849210550501559:=()
def PySem.W.Fast.tw6284199981421138812:=()
def PySem.W.Fast.tw4945838543686068102:=()
def PySem.W.Fast.tw16390051291787088820:=()
def PySem.W.Fast.tw10985759474149629814:=()
def PySem.W.Fast.tw3987797740574410488:=()
def PySem.W.Fast.tw9548261236520573779:=()
def PySem.W.Fast.tw2864124008896375819:=()
def PySem.W.Fast.tw1996513391968605781:=()
def PySem.W.Fast.tw15890551649140077961:=()
def PySem.W.Fast.tw14829057096163255459:=()
def PySem.W.Fast.tw15275152978555797792:=()
def PySem.W.Fast.tw5557656120620948262:=()
def PySem.W.Fast.tw5002108508399708969:=()
def PySem.W.Fast.tw4295037593578315391:=()
def PySem.W.Fast.tw3303614933587100094:=()
def PySem.W.Fast.tw2674405059675262987:=()
def PySem.W.Fast.tw1890981911482113405:=()
def PySem.W.Fast.tw18101371043708094819:=()
def PySem.W.Fast.tw1545430100612308501:=()
def PySem.W.Fast.tw13263355254955989376:=()
def PySem.W.Fast.tw12118438223502520859:=()
def PySem.W.Fast.tw5627485890624936957:=()
def PySem.W.Fast.tw1014057227967469199:=()
def PySem.W.Fast.tw6311520750694355922:=()
def PySem.W.Fast.tw2916496523971301947:=()
def PySem.W.Fast.tw11512124965138399003:=()
def PySem.W.Fast.tw11721446650989185152:=()
def PySem.W.Fast.tw2083929811680264729:=()
def PySem.W.Fast.tw2083658439318404037:=()
def PySem.W.Fast.tw18155536462164093856:=()
def PySem.W.Fast.tw17008236036257772755:=()
def PySem.W.Fast.tw15788484309201325430:=()
def PySem.W.Fast.tw12430114135681597193:=()
def PySem.W.Fast.tw13895396332078293605:=()
def PySem.W.Fast.tw9125673405647679589:=()
def PySem.W.Fast.tw10439649688138601425:=()
def PySem.W.Fast.tw7437310684495708302:=()
def PySem.W.Fast.tw5970353704858646450:=()
def PySem.W.Fast.tw5415502661662966866:=()
def PySem.W.Fast.tw2314182290889100949:=()
def PySem.W.Fast.tw17491704441651370889:=()
def PySem.W.Fast.tw13582891928738829686:=()
def PySem.W.Fast.tw2947954995279823481:=()
def PySem.W.Fast.tw9353709139944214407:=()
def PySem.W.Fast.tw4255477724456010147:=()
def PySem.W.Fast.tw3459799135310628382:=()
def PySem.W.Fast.tw16694368248497557451:=()
def PySem.W.Fast.tw15805251716396116855:=()
def PySem.W.Fast.tw14352852592674165783:=()
def PySem.W.Fast.tw7342880087630670256:=()
def PySem.W.Fast.tw3278421045562435258:=()
def PySem.W.Fast.tw18413509345105088468:=()
def PySem.W.Fast.tw17827600186731257553:=()
def PySem.W.Fast.tw17347040938892691002:=()
def PySem.W.Fast.tw13745404241269766586:=()
def PySem.W.Fast.tw12898017854859517014:=()
def PySem.W.Fast.tw12503903868052680250:=()
def PySem.W.Fast.tw10636459352888944427:=()
def PySem.W.Fast.tw9890962941897894611:=()
def PySem.W.Fast.tw9476306466850492413:=()
def PySem.W.Fast.tw8816846961087517760:=()
def PySem.W.Fast.tw8809207750252439569:=()
def PySem.W.Fast.tw8602674389151874109:=()
def PySem.W.Fast.tw8205349264357806284:=()
def PySem.W.Fast.tw8165436499473297253:=()
def PySem.W.Fast.tw8089683695679347208:=()
def PySem.W.Fast.tw7402352767583012809:=()
def PySem.W.Fast.tw6986238733244388317:=()
def PySem.W.Fast.tw6895484572485726549:=()
def PySem.W.Fast.tw6420244959932616287:=()
def PySem.W.Fast.tw5433103505660615033:=()
def PySem.W.Fast.tw5393248668635709564:=()
def PySem.W.Fast.tw4572929454855862614:=()
def PySem.W.Fast.tw4510838887252932522:=()
def PySem.W.Fast.tw429662737186485066:=()
def PySem.W.Fast.tw4191652902936165745:=()
def PySem.W.Fast.tw3746318115069495758:=()
def PySem.W.Fast.tw2811095999505978151:=()
def PySem.W.Fast.tw2467533756389164027:=()
def PySem.W.Fast.tw238128478912236478:=()
def PySem.W.Fast.tw1994713867615130975:=()
def PySem.W.Fast.tw17624054979726869489:=()
open PySem PySem.W PyProof.Rows
set_option maxRecDepth 100000 in
set_option maxHeartbeats 0 in
theorem PySem.Challenge.cw_telltight_k84_whole_safes_keep_locks_holds : PySem.Challenge.rw_telltight_k84_whole_safes_keep_locks.Holds := by
 w_on; o_law; k_head; (case hw => w_witness2)
 k_fill
 refine R.walk_R (l := PySem.Challenge.rw_telltight_k84_whole_safes_keep_locks) (k := LW.e_law.d) (fn := LW.IE) (tabs := [(274, 272)]) rfl rfl ?hrr (fun w h Y => ⟨km_in_of Y, fun q hq => km_tabs_of Y q.2 (by simp only [zM] at hq ⊢; rw [hq])⟩) ?hcc ?hKK ?htt LW.holds ?F
 case hrr => exact LW.Jr
 case hcc => intro w q hq; simp only [zM] at hq; rw [hq]; kernel_rfl
 case hKK => intro w; kernel_rfl
 case htt => intro t ht; exact LW.AI t ht
 case F =>
  intro w mg fa h KX G hmg;refine R.law_F (gs := LW.gs) (cl := LW.cl) (pre := LW.pre) (e := LW.e_law) KX G hmg ?nb ?gs ?cl LW.B9 LW.Cb (LW.Dp KX G ?h0 ?h1 ?h2 ?h3 ?h4 ?h5 ?h6 ?h7 ?h8 ?h9 ?h10 ?h11 ?h12 ?h13 ?h14 ?h15 ?h16 ?h17 ?h18 ?h19 ?h20 ?h21 ?h22 ?h23 ?h24 ?h25 ?h26 ?h27 ?h28 ?h29 ?h30 ?h31 ?h32 ?h33 ?h34 ?h35 ?h36 ?h37 ?h38 ?h39 ?h40 ?h41 ?h42 ?h43 ?h44 ?h45 ?h46 ?h47 ?h48 ?h49 ?h50 ?h51 ?h52 ?h53 ?h54 ?h55 ?h56 ?h57 ?h58 ?h59 ?h60 ?h61 ?h62 ?h63 ?h64 ?h65 ?h66 ?h67 ?h68 ?h69 ?h70 ?h71) ?law rfl LW.GS
  case nb => kernel_rfl
  case gs => intro p hp; simp only [LW.gs, zT, zX, or_false] at hp; rcases hp with rfl | rfl <;> exact ⟨_, by k_is⟩
  case cl => intro p hp; simp only [LW.cl, zT, zX, or_false] at hp; rcases hp with rfl <;> exact ⟨⟨_, by k_is, by kernel_rfl, by kernel_rfl, by kernel_rfl, by kernel_rfl⟩, ⟨_, by k_is, by kernel_rfl⟩⟩
  case law => exact ⟨_, _, _, _, _, _, _, _, _, _, by k_is, by k_is, by k_is, by k_is, .inl rfl⟩
  case h0 => exact ⟨_, by k_is, by kernel_rfl, by kernel_rfl, by kernel_rfl, by kernel_rfl⟩
  case h1 => exact ⟨_, by k_is, by kernel_rfl, by kernel_rfl⟩
  case h43 => exact ⟨_, _, _, _, _, _, _, _, _, _, _, by k_is, by k_is, by k_is, by k_is, by k_is, by k_is, .inr ⟨_, _, _, rfl, rfl, by kernel_rfl, rfl⟩⟩
  all_goals first | exact ⟨_, _, _, _, _, _, _, _, _, _, by k_is, by k_is, by k_is, by k_is, .inl rfl⟩ | exact ⟨_, _, _, _, _, _, _, _, _, _, _, by k_is, by k_is, by k_is, by k_is, by k_is, by k_is, .inl rfl⟩
#print axioms PySem.Challenge.cw_telltight_k84_whole_safes_keep_locks_holds
