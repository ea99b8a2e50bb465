import PyProof.Rows.All
import Wide.All
import OpenK.AllK
import Wide.FinOn
import PySem.Challenge.RW_telltight_k25_whole_a_name_more
set_option bootstrap.genMatcherCode false
set_option compiler.extract_closed false
noncomputable section
open Option (bind_some map_some)
open PySem.W (CodeHd Frag InitBack InstAt TabsAt any_some bind_fn callWith_K cellsFrom_some codeHdIn codeHd_of_K codeIn codeRec_of emptyDict findIn findObj_own fnOf get_value handedIn hasDictIn hideAll hideAll_get hideAll_none hideAll_size instObj isFn keepIn ki_setAt ki_setBack kla_callFunE kla_codeExpr kla_eval kla_fn kla_makeFunction kla_makeFunctionHit km_in_of km_tabs_of lookIn looks_clsIn looks_findIn make_core makesIn makes_of mem_of_lookupK methodCall_KW methodObj method_fn mg_none_of mg_of noTabs nsIn of_hideAll osa_open plainGet plainGet_of plainOver set_plain tabObj takerIn truthy_bytes typeIn)
theorem oM{p:Prop}(h:p:=by first|lia|omega|(refine @id (@Ne Nat _ _) ?_;omega)):p:=h
theorem dC{p:Prop}(h:p:=by decide):p:=h
set_option Elab.async false
set_option linter.all false
set_option maxRecDepth 100000
theorem zA{α β}{o:Option α}{f:α->Option β}{b}:o.bind f=some b->∃a,o=some a∧f a=some b:=Option.bind_eq_some_iff.mp
theorem zB:type_of% @List.getElem?_eq_some_iff:=@List.getElem?_eq_some_iff
theorem zC:type_of% @Bool.and_eq_true:=@Bool.and_eq_true
theorem zD:type_of% @List.getD_eq_getElem?_getD:=@List.getD_eq_getElem?_getD
theorem zE:type_of% @Option.map_eq_some_iff:=@Option.map_eq_some_iff
theorem zF:type_of% @List.getElem?_eq_getElem:=@List.getElem?_eq_getElem
theorem zG:type_of% @PySem.Heap.get?_push_of_some:=@PySem.Heap.get?_push_of_some
theorem zH:type_of% @List.length_map:=@List.length_map
theorem zI:type_of% @List.size_toArray:=@List.size_toArray
theorem zJ:type_of% @Nat.lt_of_lt_of_le:=@Nat.lt_of_lt_of_le
theorem zK:type_of% @List.mem_append_right:=@List.mem_append_right
theorem zL:type_of% @List.mem_append_left:=@List.mem_append_left
theorem zM:type_of% @List.mem_singleton:=@List.mem_singleton
theorem zN:type_of% @List.getElem?_append_left:=@List.getElem?_append_left
theorem zO:type_of% @List.map_cons:=@List.map_cons
theorem zP:type_of% @Nat.le_refl:=@Nat.le_refl
theorem zQ:type_of% @List.mem_cons_of_mem:=@List.mem_cons_of_mem
theorem zR:type_of% @List.getElem?_map:=@List.getElem?_map
theorem zS:type_of% @Nat.le_of_ble_eq_true:=@Nat.le_of_ble_eq_true
theorem zT:type_of% @List.mem_cons:=@List.mem_cons
theorem zU:type_of% @Nat.ne_of_lt:=@Nat.ne_of_lt
theorem zV:type_of% @List.length_append:=@List.length_append
theorem zW:type_of% @List.mem_of_getElem?:=@List.mem_of_getElem?
theorem zX:type_of% @List.not_mem_nil:=@List.not_mem_nil
theorem zY:type_of% @PySem.Heap.get?_push_size:=@PySem.Heap.get?_push_size
theorem zZ:type_of% @List.mem_append:=@List.mem_append
theorem z5:type_of% @Nat.le_trans:=@Nat.le_trans
theorem z6:type_of% @List.getElem?_append_right:=@List.getElem?_append_right
theorem z7:type_of% @List.mem_cons_self:=@List.mem_cons_self
theorem z9:type_of% @List.getElem?_of_mem:=@List.getElem?_of_mem
theorem yA:type_of% @decide_eq_false:=@decide_eq_false
theorem yB:type_of% @Bool.false_eq_true:=@Bool.false_eq_true
theorem yC:type_of% @decide_eq_true_eq:=@decide_eq_true_eq
theorem yD:type_of% @List.mem_map:=@List.mem_map
theorem yE:type_of% @Option.some.inj:=@Option.some.inj
theorem yF:type_of% @PySem.wpAny_bind:=@PySem.wpAny_bind
theorem yG:type_of% @PySem.wpAny_pure:=@PySem.wpAny_pure
theorem yH:type_of% @if_neg:=@if_neg
theorem yI:type_of% @if_pos:=@if_pos
theorem yJ:type_of% @PySem.Heap.lt_size:=@PySem.Heap.lt_size
theorem yK:type_of% @eq_of_beq:=@eq_of_beq
theorem yL:type_of% @Nat.ble_eq_true_of_le:=@Nat.ble_eq_true_of_le
theorem yM:type_of% @Nat.lt_of_le_of_lt:=@Nat.lt_of_le_of_lt
theorem yN:type_of% @List.append_assoc:=@List.append_assoc
theorem yO:type_of% @List.lookup_cons:=@List.lookup_cons
theorem yP:type_of% @Int.mul_zero:=@Int.mul_zero
theorem yQ:type_of% @Int.zero_mul:=@Int.zero_mul
theorem yR:type_of% @List.all_eq_true:=@List.all_eq_true
theorem yS:type_of% @PySem.wpAny_holding:=@PySem.wpAny_holding
theorem yT:type_of% @PySem.wpAny_mono:=@PySem.wpAny_mono
theorem yU:type_of% @Nat.lt_or_ge:=@Nat.lt_or_ge
theorem yV:type_of% @Int.lt_or_le:=@Int.lt_or_le
theorem yW:type_of% @decide_eq_true:=@decide_eq_true
theorem yX:type_of% @List.getElem?_set:=@List.getElem?_set
theorem yY:type_of% @List.length_cons:=@List.length_cons
theorem yZ:type_of% @Nat.le_of_lt:=@Nat.le_of_lt
theorem xA:type_of% @Int.natAbs_mul:=@Int.natAbs_mul
theorem xB:type_of% @Nat.lt_irrefl:=@Nat.lt_irrefl
namespace L2
open PySem PySem.Spec PyProof.Rows
abbrev aQ:=Sum Int Str
def gC:aQ->Value->Bool
 |.inl k,v=>Value.isInt k v
 |.inr x,v=>Value.isStrOf x v
def Jh(w:World):aQ->Int
 |.inl k=>hashInt k
 |.inr x=>hashStr w x
theorem cp:∀{k:aQ}{v:Value},gC k v=true->(∃i t,k=Sum.inl i/\v=Value.int i t)\/(∃x t,k=Sum.inr x/\v=Value.str x t)
 |.inl i,v,h=>by
  obtain⟨t,e⟩:=Value.isInt_shape (k:=i) (v:=v) h;exact .inl ⟨i,t,rfl,e⟩
 |.inr x,v,h=>by
  obtain⟨t,e⟩:=Value.isStrOf_shape (x:=x) (v:=v) h;exact .inr ⟨x,t,rfl,e⟩
theorem vQ(i:Int)(t:Tok):gC (.inl i) (.int i t)=true:=by simp[gC,Value.isInt]
theorem vO(x:Str)(t:Tok):gC (.inr x) (.str x t)=true:=by simp[gC,Value.isStrOf]
theorem EL(a b:Int):decide ((Sum.inl a:aQ)=Sum.inl b)=(a==b):=by
 by_cases e:a=b
 ·subst e;simp
 ·have h:¬(Sum.inl a:aQ)=Sum.inl b:=fun q=>e (Sum.inl.inj q)
  rw[yA h];exact(beq_eq_false_iff_ne.mpr e).symm
theorem EI(a b:Str):decide ((Sum.inr a:aQ)=Sum.inr b)=decide (a=b):=by
 by_cases e:a=b
 ·subst e;simp
 ·have h:¬(Sum.inr a:aQ)=Sum.inr b:=fun q=>e (Sum.inr.inj q)
  rw[yA h,yA e]
theorem EK(a:Int)(b:Str):decide ((Sum.inl a:aQ)=Sum.inr b)=false:=yA (fun q=>nomatch q)
theorem EJ(a:Str)(b:Int):decide ((Sum.inr a:aQ)=Sum.inl b)=false:=yA (fun q=>nomatch q)
def bK(prog:Program)(w:World):PySem.KeyKind prog w aQ where
 is:=gC
 hash:=Jh w
 inj:=fun v a b ha hb=>by
  rcases cp ha with⟨i,t,rfl,rfl⟩|⟨x,t,rfl,rfl⟩
  ·rcases cp hb with⟨j,u,rfl,e⟩|⟨y,u,rfl,e⟩
   ·injection e with e1 _;rw[e1]
   ·exact nomatch e
  ·rcases cp hb with⟨j,u,rfl,e⟩|⟨y,u,rfl,e⟩
   ·exact nomatch e
   ·injection e with e1 _;rw[e1]
 byValue:=fun k v h=>by
  rcases cp h with⟨i,t,rfl,rfl⟩|⟨x,t,rfl,rfl⟩<;>rfl
 pyHash:=fun hv h=>by
  rcases cp hv with⟨i,t,rfl,rfl⟩|⟨x,t,rfl,rfl⟩
  ·exact wpAny_pyHash_int h
  ·exact wpAny_pyHash_str h
 eqBool:=fun hu hv h=>by
  rcases cp hu with⟨i,t,rfl,rfl⟩|⟨x,t,rfl,rfl⟩
  ·rcases cp hv with⟨j,u,rfl,rfl⟩|⟨y,u,rfl,rfl⟩
   ·rw[EL]at h;exact wpAny_eqBool_int h
   ·rw[EK]at h;exact SeqAt.EqAt.int_str i t y u _ _ _ _ h
  ·rcases cp hv with⟨j,u,rfl,rfl⟩|⟨y,u,rfl,rfl⟩
   ·rw[EJ]at h;exact SeqAt.EqAt.str_int x t j u _ _ _ _ h
   ·rw[EI]at h;exact wpAny_eqBool_str h
 «strs»:=fun k x t v h=>by
  rcases cp h with⟨i,u,rfl,e⟩|⟨y,u,rfl,e⟩
  ·exact nomatch e
  ·injection e with e1 _
   subst e1;cases v<;>rfl
theorem qL(prog:Program)(w:World)(i:Int)(t:Tok):(bK prog w).is (.inl i) (.int i t)=true:=vQ i t
theorem qK(prog:Program)(w:World)(x:Str)(t:Tok):(bK prog w).is (.inr x) (.str x t)=true:=vO x t
inductive V where
 |non|bl (b:Bool)|int (i:Int)|str (x:Str)|byt (b:Array UInt8)|flt (b:UInt64)|ref (a:Addr)|ty (n:String)
 deriving DecidableEq
def RelV:V->Value->Prop
 |.non,u=>u=Value.none
 |.bl b,u=>u=Value.bool b
 |.int i,u=>∃t,u=Value.int i t
 |.str x,u=>∃t,u=Value.str x t
 |.byt b,u=>∃t,u=Value.bytes b t
 |.flt b,u=>∃t,u=Value.float b t
 |.ref a,u=>u=Value.ref a
 |.ty n,u=>u=Value.type n
abbrev Vals:List V->List Value->Prop:=Paired RelV
theorem Vals.length{xs:List V}{us:List Value}(r:Vals xs us):xs.length=us.length:=Paired.length r
theorem Vals.get:∀{xs:List V}{us:List Value}{i:Nat}{x:V},Vals xs us->xs[i]?=some x->∃u,us[i]?=some u/\RelV x u
 |_,_,_,_,.nil,e=>by simp at e
 |_,_,0,_,.cons r _,e=>by simp at e;subst e;exact⟨_,rfl,r⟩
 |_,_,i+1,x,.cons _ t,e=>by
  obtain⟨u,h1,h2⟩:=Vals.get (i:=i) (x:=x) t (by simpa using e);exact⟨u,by simpa using h1,h2⟩
theorem Vals.set{x:V}{u:Value}(r:RelV x u):∀{xs:List V}{us:List Value} (i:Nat),Vals xs us->Vals (xs.set i x) (us.set i u)
 |_,_,_,.nil=>.nil
 |_,_,0,.cons _ t=>.cons r t
 |_,_,i+1,.cons q t=>.cons q (Vals.set r i t)
theorem Vals.append:∀{xs ys:List V}{us ws:List Value},Vals xs us->Vals ys ws->Vals (xs++ys) (us++ws):=by
 intro xs ys us ws h s
 induction h with
 |nil=>exact s
 |cons r t ih=>exact .cons r ih
theorem Vals.take:∀{xs:List V}{us:List Value} (n:Nat),Vals xs us->Vals (xs.take n) (us.take n):=by
 intro xs us n h
 induction h generalizing n with
 |nil=>cases n<;>exact .nil
 |cons r t ih=>cases n with
  |zero=>exact .nil
  |succ n=>exact .cons r (ih n)
theorem Vals.drop:∀{xs:List V}{us:List Value} (n:Nat),Vals xs us->Vals (xs.drop n) (us.drop n):=by
 intro xs us n h
 induction h generalizing n with
 |nil=>cases n<;>exact .nil
 |cons r t ih=>cases n with
  |zero=>exact .cons r t
  |succ n=>exact ih n
def RelO:Option V->Option Value->Prop
 |some v,some u=>RelV v u
 |none,none=>True
 |_,_=>False
def KV{κ:Type}:List (κ×V)->List (κ×Value)->Prop:=Paired fun(p:κ×V)(q:κ×Value)=>p.1=q.1/\RelV p.2 q.2
def kV:aQ->V
 |.inl i=>.int i
 |.inr x=>.str x
inductive HO where
  |lst (xs:List V)
  |tup (xs:List V)
  |dK (LR:List (aQ×V))|dT (LR:List (List aQ×V))
  |set (S:Int->Bool) (n:Nat)
  |ins (C dx:Addr) (fs:List (Str×V))
  |own (x:Addr)
  |xd (fs:List (Str×V))
  |met (f x:Addr)
  |rng (lo hi:Int)
  |frz (o:Obj) (u:HO)
  |tbl (ps:Array Value)
  |ext (φ:Heap->Prop)
abbrev Hp:=Addr->Option HO
def ae(H:Hp)(a:Addr)(o:HO):Hp:=fun b=>if b=a then some o else H b
theorem aw{H:Hp}{a:Addr}{o:HO}:ae H a o a=some o:=by unfold ae;rw[yI rfl]
theorem ad{H:Hp}{a b:Addr}{o:HO}(h:b≠a):ae H a o b=H b:=by unfold ae;rw[yH h]
theorem tD{H:Hp}{a b:Addr}{o u:HO}(h:H a=some o)(h':H b=some u)(d:o≠u):a≠b:=by
 intro e;subst e;rw[h]at h';exact d (yE h')
theorem aT{H:Hp}{a b:Addr}{o:HO}(h:H a=some o)(h':H b=none):a≠b:=by
 intro e;subst e;rw[h]at h';cases h'
section
variable(P:Program)(w:World)
def ObjOk(H:Hp)(h:Heap)(a:Addr):HO->Prop
 |.lst xs=>xs.length<=sizeLine/\∃(LU:List Value)(n:Nat),Vals xs LU/\h.get? a=some { cls:=.type "list",data:=.seq LU.toArray n }
 |.tup xs=>xs.length<=sizeLine/\∃LU:List Value,Vals xs LU/\IsTup h a LU.toArray
 |.dK LR=>LR.length<=sizeLine/\(a==sysModules)=false/\∃vs,KV LR vs/\h.DictOf (bK P w) a vs
 |.dT LR=>LR.length<=sizeLine/\(a==sysModules)=false/\∃xs:List (List aQ×Addr×Value),
   Paired (fun(p:List aQ×V)(q:List aQ×Addr×Value)=>p.1=q.1/\H q.2.1=some (.tup (p.1.map kV))/\RelV p.2 q.2.2) LR xs /\
   ∃o es ep,h.get? a=some o/\o.ExactDict/\o.data=.dict es ep/\es.toList=xs.map (entryOfKey (tupleKind (bK P w)))/\(xs.map (·.1)).Nodup
 |.set S n=>h.SetOf (intKind P w) a S n
 |.ins C dx fs=>H dx=some (.own a)/\fs.length<=1000/\dx≠a/\h.get? a=some (instObj C dx) /\
   ∃mA,h.Ns1 dx mA/\(∀f,RelO (fs.lookup f) (mA f))/\PySem.Within mA (fs.map (·.1))
 |.own _=>∃o,h.get? a=some o
 |.xd fs=>∃mA,h.Ns1 a mA/\∀f,RelO (fs.lookup f) (mA f)
 |.rng lo hi=>∃t u v,h.get? a=some { cls:=.type "range",data:=.fields #[.int lo t,.int hi u,.int 1 v] }
 |.frz o u=>h.get? a=some o/\ObjOk H h a u
 |.tbl ps=>h.get? a=some { cls:=.none,data:=.fields ps }
 |.met f x=>h.get? a=some (methodObj (.ref f) (.ref x))
 |.ext φ=>φ h/\(∃o,h.get? a=some o)/\∀h1 h2:Heap,φ h1->(∀o,h1.get? a=some o->h2.get? a=some o)->φ h2
def HOk(H:Hp)(h:Heap):Prop:=∀a o,H a=some o->ObjOk P w H h a o
end
section
variable{P:Program}{w:World}{H H':Hp}{h h':Heap}{a:Addr}{o:HO}
theorem ObjOk.lt(x:ObjOk P w H h a o):a<h.objs.size:=by
 cases o with
 |lst xs=>obtain⟨_,_,_,_,e⟩:=x;exact yJ e
 |tup xs=>obtain⟨_,_,_,p⟩:=x;exact p.lt
 |dK LR=>obtain⟨_,_,_,_,o,_,_,e,_⟩:=x;exact yJ e
 |dT LR=>obtain⟨_,_,_,_,o,_,_,e,_⟩:=x;exact yJ e
 |set S n=>obtain⟨o,_,_,_,e,_⟩:=x;exact yJ e
 |ins C dx fs=>obtain⟨_,_,_,e,_⟩:=x;exact yJ e
 |own y=>obtain⟨_,e⟩:=x;exact yJ e
 |xd fs=>obtain⟨_,⟨_,_,_,e,_⟩,_⟩:=x;exact yJ e
 |rng lo hi=>obtain⟨_,_,_,e⟩:=x;exact yJ e
 |frz ob u=>obtain⟨e,_⟩:=x;exact yJ e
 | tbl ps=>exact yJ (show h.get? a=some _ from x)
 | met f y=>exact yJ (show h.get? a=some _ from x)
 |ext φ=>obtain⟨_,⟨_,e⟩,_⟩:=x;exact yJ e
theorem Paired.mapP{α β:Type}{F G:α->β->Prop}:∀{l₁:List α}{l₂:List β},Paired F l₁ l₂->(∀a b,F a b->G a b)->Paired G l₁ l₂:=by
 intro l₁ l₂ h f
 induction h with
 |nil=>exact .nil
 |cons r t ih=>exact .cons (f _ _ r) ih
theorem ObjOk.stay(x:ObjOk P w H h a o)(k:∀b u,(b=a\/H b=some (.own a))->h.get? b=some u->h'.get? b=some u)
  (ho:∀b,H b=some (.own a)->H' b=some (.own a)) (ht:∀b xs,H b=some (.tup xs)->H' b=some (.tup xs)):ObjOk P w H' h' a o:=by
 induction o with
 |lst xs=>obtain⟨z,LU,n,r,e⟩:=x;exact⟨z,LU,n,r,k _ _ (.inl rfl) e⟩
 |tup xs=>obtain⟨z,LU,r,ob,e,c⟩:=x;exact⟨z,LU,r,ob,k _ _ (.inl rfl) e,c⟩
 |dK LR=>obtain⟨z,y,vs,r,ob,es,ep,e,c⟩:=x;exact⟨z,y,vs,r,ob,es,ep,k _ _ (.inl rfl) e,c⟩
 |dT LR =>
  obtain⟨z,y,xs,r,ob,es,ep,e,c⟩:=x;exact⟨z,y,xs,Paired.mapP r fun p q z=>⟨z.1,ht _ _ z.2.1,z.2.2⟩,ob,es,ep,k _ _ (.inl rfl) e,c⟩
 |set S n=>obtain⟨ob,es,ep,t,e,c⟩:=x;exact⟨ob,es,ep,t,k _ _ (.inl rfl) e,c⟩
 |ins C dx fs =>
  obtain⟨d,z,ne,e,mA,⟨od,es,ep,e2,c⟩,r⟩:=x;exact⟨ho _ d,z,ne,k _ _ (.inl rfl) e,mA,⟨od,es,ep,k _ _ (.inr d) e2,c⟩,r⟩
 |own y=>obtain⟨ob,e⟩:=x;exact⟨ob,k _ _ (.inl rfl) e⟩
 |xd fs=>obtain⟨mA,⟨od,es,ep,e,c⟩,r⟩:=x;exact⟨mA,⟨od,es,ep,k _ _ (.inl rfl) e,c⟩,r⟩
 |rng lo hi=>obtain⟨t,u,v,e⟩:=x;exact⟨t,u,v,k _ _ (.inl rfl) e⟩
 |frz ob u ih=>obtain⟨e,q⟩:=x;exact⟨k _ _ (.inl rfl) e,ih q⟩
 |tbl ps =>
  have e:h.get? a=some { cls:=.none,data:=.fields ps }:=x;show h'.get? a=some { cls:=.none,data:=.fields ps };exact k a _ (.inl rfl) e
 |met f y =>
  have e:h.get? a=some (methodObj (.ref f) (.ref y)):=x;show h'.get? a=some (methodObj (.ref f) (.ref y));exact k a _ (.inl rfl) e
 |ext φ=>obtain⟨p,⟨o,e⟩,st⟩:=x;exact⟨st _ _ p fun o q=>k _ _ (.inl rfl) q,⟨o,k _ _ (.inl rfl) e⟩,st⟩
theorem HOk.lt(x:HOk P w H h)(e:H a=some o):a<h.objs.size:=(x a o e).lt
theorem HOk.fresh(x:HOk P w H h)(e:h.objs.size<=a):H a=none:=by
 cases q:H a with
 |none=>rfl
 |some u=>exact absurd (zJ (x.lt q) e) (xB _)
theorem HOk.kept(x:HOk P w H h)(k:∀b u,h.get? b=some u->h'.get? b=some u):HOk P w H h':=fun a o e =>
 (x a o e).stay (fun b u _ q=>k b u q) (fun _ q=>q) fun _ _ q=>q
theorem HOk.laid(x:HOk P w H h)(k:∀b u,h.get? b=some u->h'.get? b=some u)(hp:h.objs.size<=a)(new:ObjOk P w (ae H a o) h' a o):HOk P w (ae H a o) h':=fun b u e=>by
 have hn:=x.fresh hp;by_cases hb:b=a
 ·subst hb;rw[aw]at e;cases e;exact new
 ·rw[ad hb]at e
  exact(x b u e).stay (fun c v _ q=>k c v q) (fun c q=>by rw[ad (aT q hn)];exact q) fun c xs q=>by rw[ad (aT q hn)];exact q
end
def Rd(H:Hp)(a:Addr)(u:HO):Prop:=H a=some u\/∃o,H a=some (.frz o u)
theorem Rd.ok{P:Program}{w:World}{H:Hp}{h:Heap}{a:Addr}{u:HO}(r:Rd H a u)(x:HOk P w H h):ObjOk P w H h a u:=by
 rcases r with r|⟨o,r⟩
 ·exact x a u r
 ·obtain⟨_,q⟩:=x a _ r
  exact q
def wG:Option HO->Prop
 |some (.lst _)=>True
 |some (.dK _)=>True
 |some (.dT _)=>True
 |some (.set _ _)=>True
 |some (.ins _ _ _)=>True
 |some (.ext _)=>True
 |_=>False
section
variable{P:Program}{w:World}{H:Hp}{h h':Heap}{x e:Addr}{o':HO}
theorem HOk.write(ok:HOk P w H h)(mu:wG (H x))(he:e=x\/H e=some (.own x))(k:∀b u,b≠e->h.get? b=some u->h'.get? b=some u)(heo:∃u,h'.get? e=some u)
  (new:ObjOk P w (ae H x o') h' x o'):HOk P w (ae H x o') h':=fun b u q=>by
 have nown:∀c y,H c=some (.own y)->c≠x:=fun c y r z=>by subst z;rw[r]at mu;exact mu
 have ntup:∀c xs,H c=some (.tup xs)->c≠x:=fun c xs r z=>by subst z;rw[r]at mu;exact mu
 by_cases hb:b=x
 ·subst hb;rw[aw]at q;cases q;exact new
 ·rw[ad hb]at q
  by_cases hbe:b=e
  ·have q':H b=some (.own x):=by
    rcases he with z|z
    ·exact absurd (hbe.trans z) hb
    ·rw[hbe];exact z
   rw[q]at q';cases q';obtain⟨v,hv⟩:=heo;exact⟨v,by rw[hbe];exact hv⟩
  ·refine(ok b u q).stay (fun c v hc r=>k c v ?_ r) (fun c r=>by rw[ad (nown c b r)];exact r) fun c xs r=>by rw[ad (ntup c xs r)];exact r
   rcases hc with rfl|hc
   ·exact hbe
   ·rintro rfl
    rcases he with z|z
    ·exact nown c b hc z
    ·rw[hc]at z;cases z;exact hb rfl
end
structure Un(fs ex:List Addr)(H H':Hp)(h h':Heap):Prop where
 keep:∀b o,h.get? b=some o->H b=none->b∉fs->b∉ex->h'.get? b=some o
 slot:∀b o,h.get? b=some o->H b=none->b∈fs->b∉ex->∃sl,h'.get? b=some { o with slots:=sl }
 free:∀b o,h.get? b=some o->H b=none->b∉ex->H' b=none
 there:∀b o,h.get? b=some o->b∉ex->∃o',h'.get? b=some o'
 tups:∀b xs,H b=some (.tup xs)->H' b=some (.tup xs)
 frzs:∀b o u,H b=some (.frz o u)->H' b=some (.frz o u)
 tbls:∀b ps,H b=some (.tbl ps)->∃more,H' b=some (.tbl (ps++more))
section
variable{fs fs' ex ex':List Addr}{H H1 H2:Hp}{h h1 h2 h':Heap}{a x e:Addr}{o:HO}
theorem Un.any(u:Un fs ex H H1 h h1){b:Addr}{ob:Obj}(q:h.get? b=some ob)(n:H b=none)(hx:b∉ex):∃sl,h1.get? b=some { ob with slots:=sl }:=by
 by_cases hb:b∈fs
 ·exact u.slot b ob q n hb hx
 ·exact⟨ob.slots,u.keep b ob q n hb hx⟩
theorem Un.kept(k:∀b u,h.get? b=some u->h'.get? b=some u):Un fs ex H H h h' :=
 ⟨fun b ob q _ _ _=>k b ob q,fun b ob q _ _ _=>⟨ob.slots,k b ob q⟩,fun _ _ _ n _=>n,fun b ob q _=>⟨ob,k b ob q⟩,fun _ _ q=>q,fun _ _ _ q=>q,fun _ ps q=>⟨#[],by rw[q];simp⟩⟩
theorem Un.refl:Un fs ex H H h h:=Un.kept fun _ _ q=>q
theorem Un.laid(k:∀b u,h.get? b=some u->h'.get? b=some u)(hp:h.objs.size<=a)(hn:H a=none):Un fs ex H (ae H a o) h h' where
 keep:=fun b u q _ _ _=>k b u q
 slot:=fun b u q _ _ _=>⟨u.slots,k b u q⟩
 free:=fun b u q n _=>by rw[ad (zU (zJ (yJ q) hp))];exact n
 there:=fun b u q _=>⟨u,k b u q⟩
 tups:=fun b xs q=>by rw[ad (aT q hn)];exact q
 frzs:=fun b u xs q=>by rw[ad (aT q hn)];exact q
 tbls:=fun b ps q=>⟨#[],by rw[ad (aT q hn),q];simp⟩
theorem Un.write(mu:wG (H x))(he:e=x\/H e=some (.own x))(k:∀b u,b≠e->h.get? b=some u->h'.get? b=some u)(heo:∃u,h'.get? e=some u):Un fs ex H (ae H x o) h h':=by
 have hx:∀b,H b=none->b≠x:=fun b n z=>by subst z;rw[n]at mu;exact mu
 have hb:∀b,H b=none->b≠e:=fun b n z=>by
  subst z;rcases he with r|r
  ·exact hx b n r
  ·rw[n]at r;cases r
 have hm:∀b u,H b=some u->¬wG (some u)->b≠x:=fun b u q nm z=>by subst z;rw[q]at mu;exact nm mu
 refine⟨fun b u q n _ _=>k b u (hb b n) q,fun b u q n _ _=>⟨u.slots,k b u (hb b n) q⟩,fun b u q n _=>by rw[ad (hx b n)];exact n,fun b u q _=>?_,
  fun b xs q=>by rw[ad (hm b _ q fun z=>z)];exact q,fun b u xs q=>by rw[ad (hm b _ q fun z=>z)];exact q,fun b ps q=>⟨#[],by rw[ad (hm b _ q fun z=>z),q];simp⟩⟩
 by_cases hbe:b=e
 ·subst hbe;exact heo
 ·exact⟨u,k b u hbe q⟩
end
def zn(h:Heap)(H:Hp):List Addr:=(List.range h.objs.size).filter fun a=>(H a).isSome
def iK(h:Heap)(H:Hp):Heap:=hideAll h (zn h H)
theorem vV(h:Heap)(H:Hp):(iK h H).objs.size=h.objs.size:=hideAll_size _ _
theorem yh{h:Heap}{H:Hp}{b:Addr}{o:Obj}(e:h.get? b=some o)(n:H b=none):(iK h H).get? b=some o :=
 hideAll_get _ e fun hm=>by
  have q:(H b).isSome=true:=(List.mem_filter.mp hm).2;rw[n]at q;simp at q
theorem BX{h:Heap}{H:Hp}{b:Addr}{o:Obj}(e:(iK h H).get? b=some o):h.get? b=some o/\H b=none:=by
 have e':h.get? b=some o:=of_hideAll (zn h H) e;refine⟨e',?_⟩;cases q:H b with
 |none=>rfl
 |some x =>
  have hm:b∈zn h H:=List.mem_filter.mpr ⟨List.mem_range.mpr (yJ e'),by simp[q]⟩;have z:(iK h H).get? b=none:=hideAll_none (zn h H) hm;rw[z]at e;cases e
structure Mod(K:Frag)(mg:Str->Option Value)(base:Heap):Prop where
 kin:K.In base
 glob:base.Ns mainGlobals mg
 blt:∃mb,base.Ns builtinsNs mb/\∀x:Str,x≠"__name__"->mb x=bootBuiltins x
 nolimit:base.NoLimit
structure Cx where
 prog:Program
 w:World
 K:Frag
 mg:Str->Option Value
 base:Heap
 A:Around
 N:List Str
 s₀:Shared
 H₀:Hp
 env:Env
 outer:List Env
 stack:List Env
 ex:List Addr
 fn:Str->Bool
 calm:Bool
 pn:List (Addr×Obj)
 xe:Value->Shared->Prop
noncomputable def i5(l:List Env):List Addr:=l.filterMap (·.frame)
abbrev Cx.fs(X:Cx):List Addr:=i5 X.outer
def wD(sc:Scope)(x:Str):Prop:=sc.names.lookup x=some .local\/sc.names.lookup x=some .cell\/sc.names.lookup x=some .free
def Loc(sc:Scope)(x:Str):Prop:=sc.names.lookup x=some .local\/sc.names.lookup x=some .cell
def JA(env:Env)(h:Heap)(m:Str->Option Value)(x:Str)(u:Value):Prop :=
 (env.kindOf x=some .local/\m x=some u)\/((env.kindOf x=some .cell\/env.kindOf x=some .free)/\∃c,env.cells.lookup x=some c/\h.IsCell c (some u))
structure Cx.Ok(X:Cx):Prop where
 mod:Mod X.K X.mg X.base
 kind:X.env.scope.kind=.function
 glob:X.env.globals=mainGlobals
 blt:X.env.builtins=builtinsNs
 above:X.s₀.heap.objs.size<=X.env.locals
 inj:∀x y c,X.env.cells.lookup x=some c->X.env.cells.lookup y=some c->x=y
 has:∀x,(X.env.kindOf x=some .cell\/X.env.kindOf x=some .free)->∃c,X.env.cells.lookup x=some c
 cab:∀x c,X.fn x=true->X.env.cells.lookup x=some c->X.s₀.heap.objs.size<=c
 hd:X.calm=true->X.A.handled=none
 frames:X.A.frames=some X.stack
 stk:X.stack=X.outer\/(X.stack=X.env::X.outer/\X.env.frame=some X.env.locals)
 exf:∀b∈X.ex,b≠X.env.locals/\∀x c,X.env.cells.lookup x=some c->c≠b
 bs:∀b o,X.base.get? b=some o->X.s₀.heap.get? b=some o/\X.H₀ b=none
 bsz:X.base.objs.size<=X.s₀.heap.objs.size
 noex:∀b o,X.base.get? b=some o->b∉X.ex
 exfs:∀b∈X.ex,b∉X.fs
 funs:X.s₀.heap.FunFrames X.base X.outer
 frf:∀b∈X.fs,X.H₀ b=none
structure Inv(X:Cx)(LP:List (Addr×Obj))(σ:List (Option V))(H:Hp)(s:Shared):Prop where
 ok:X.Ok
 os:s.os=X.s₀.os
 bare:AllBare s.gens
 base:Un X.fs X.ex X.H₀ H X.s₀.heap s.heap
 loc:∃m,s.heap.Ns X.env.locals m/\∀(i:Nat)(x:Str)(v:V),X.N[i]?=some x->σ[i]?=some (some v)->wD X.env.scope x->∃u,RelV v u/\JA X.env s.heap m x u
 cell:∀x c,X.env.cells.lookup x=some c->∃v,s.heap.IsCell c v
 free:H X.env.locals=none
 freeC:∀x c,X.env.cells.lookup x=some c->H c=none
 pin:∀p∈X.pn++LP,s.heap.get? p.1=some p.2/\H p.1=none/\p.1≠X.env.locals/\p.1∉X.fs/\∀v,p.2.data≠.cell v
 LZ:HOk X.prog X.w H s.heap
 len:σ.length=X.N.length
section
variable{X:Cx}{LP:List (Addr×Obj)}{σ:List (Option V)}{H H':Hp}{s:Shared}{h':Heap}
theorem Cx.Ok.nofr(ok:X.Ok){b:Addr}{o:Obj}(e:X.base.get? b=some o):b∉X.fs:=fun hb=>by
 have:=(ok.funs.mem hb).1
 rw[e]at this;cases this
theorem Inv.bs(I:Inv X LP σ H s):∀b o,X.base.get? b=some o->s.heap.get? b=some o/\H b=none:=fun b o e =>
 ⟨I.base.keep b o (I.ok.bs b o e).1 (I.ok.bs b o e).2 (I.ok.nofr e) (I.ok.noex b o e),I.base.free b o (I.ok.bs b o e).1 (I.ok.bs b o e).2 (I.ok.noex b o e)⟩
theorem Inv.bk(I:Inv X LP σ H s):∀b o,X.base.get? b=some o->s.heap.get? b=some o:=fun b o e=>(I.bs b o e).1
theorem Inv.mod(I:Inv X LP σ H s):Mod X.K X.mg X.base:=I.ok.mod
theorem Inv.kIn(I:Inv X LP σ H s):X.K.In s.heap:=I.ok.mod.kin.keeps I.bk
theorem Inv.nolimit(I:Inv X LP σ H s):s.heap.NoLimit:=I.ok.mod.nolimit.keeps I.bk
theorem Inv.lt(I:Inv X LP σ H s):X.env.locals<s.heap.objs.size:=let⟨_,hn,_⟩:=I.loc;hn.lt
theorem Inv.sz(I:Inv X LP σ H s):X.s₀.heap.objs.size<=s.heap.objs.size:=z5 I.ok.above (yZ I.lt)
theorem Inv.nofs(I:Inv X LP σ H s){a:Addr}(h:s.heap.objs.size<=a):a∉X.fs:=fun hb=>by
 obtain⟨_,o,ho,_⟩:=I.ok.funs.mem hb;exact absurd (zJ (yJ ho) (z5 I.sz h)) (xB _)
theorem Inv.cne(I:Inv X LP σ H s):∀x c,X.env.cells.lookup x=some c->c≠X.env.locals:=fun x c e z=>by
 obtain⟨v,o,ho,hd⟩:=I.cell x c e;obtain⟨m,⟨o',es,ep,ho',hd',_⟩,_⟩:=I.loc;rw[z,ho']at ho;cases ho;rw[hd']at hd;cases hd
theorem Inv.funs(I:Inv X LP σ H s):s.heap.FunFrames X.base X.outer:=by
 have all:∀(l:List Env),(∀b∈i5 l,b∈X.fs)->X.s₀.heap.FunFrames X.base l->s.heap.FunFrames X.base l:=by
  intro l
  induction l with
  |nil=>intro _ _;trivial
  |cons env r ih =>
   intro hs hl;obtain⟨hk,⟨L,o,hf,hn,ho,hd⟩,hr⟩:=hl;have hL:L∈X.fs:=hs L (by unfold i5;rw[List.filterMap_cons,hf];exact z7);obtain⟨sl,e⟩:=I.base.slot L o ho (I.ok.frf L hL) hL fun z=>I.ok.exfs L z hL
   exact⟨hk,⟨L,_,hf,hn,e,hd⟩,ih (fun b hb=>hs b (by unfold i5;rw[List.filterMap_cons,hf];exact zQ _ hb)) hr⟩
 exact all X.outer (fun _ hb=>hb) I.ok.funs
theorem Inv.stack(I:Inv X LP σ H s):s.heap.FunFrames X.base X.stack:=by
 rcases I.ok.stk with e|⟨e,hf⟩
 ·rw[e];exact I.funs
 ·rw[e]
  obtain⟨m,hn,_⟩:=I.loc;refine .cons (by rw[I.ok.kind];decide) hf hn ?_ I.funs;exact Heap.get?_none_of_le (z5 I.ok.bsz I.ok.above)
theorem Inv.stkSub(I:Inv X LP σ H s):∀b∈i5 X.stack,b∈X.env.locals::X.fs:=fun b hb=>by
 rcases I.ok.stk with e|⟨e,hf⟩
 ·rw[e]at hb;exact zQ _ hb
 ·rw[e]at hb
  unfold i5 at hb;rw[List.filterMap_cons,hf]at hb;exact hb
theorem Inv.stkFree(I:Inv X LP σ H s):∀b∈i5 X.stack,H b=none:=fun b hb=>by
 rcases zT.mp (I.stkSub b hb) with e|hb
 ·rw[e];exact I.free
 ·obtain⟨_,o,ho,_⟩:=I.ok.funs.mem hb
  exact I.base.free b o ho (I.ok.frf b hb) fun z=>I.ok.exfs b z hb
theorem Inv.step{g':Array GenState}{t':Nat}{d':Drawn}{ch:List Addr}(I:Inv X LP σ H s)
  (hch:∀b∈ch,(b∈X.ex\/X.s₀.heap.objs.size<=b)/\b≠X.env.locals/\(∀x c,X.env.cells.lookup x=some c->c≠b)/\∀p∈X.pn++LP,p.1≠b)
  (keep:∀b o,b≠X.env.locals->b∉X.fs->b∉ch->s.heap.get? b=some o->H b=none->h'.get? b=some o)
  (slot:∀b o,b≠X.env.locals->b∈X.fs->b∉ch->s.heap.get? b=some o->H b=none->∃sl,h'.get? b=some { o with slots:=sl }) (free:∀b o,b∉ch->s.heap.get? b=some o->H b=none->H' b=none)
  (there:∀b o,b∉ch->s.heap.get? b=some o->∃o',h'.get? b=some o')
  (tups:∀b xs,H b=some (.tup xs)->H' b=some (.tup xs)) (frzs:∀b o u,H b=some (.frz o u)->H' b=some (.frz o u)) (tbls:∀b ps,H b=some (.tbl ps)->∃more,H' b=some (.tbl (ps++more)))
  (ns:∀m,s.heap.Ns X.env.locals m->h'.Ns X.env.locals m) (LZ:HOk X.prog X.w H' h') (hg:AllBare g') :
  Inv X LP σ H' { s with heap:=h',gens:=g',drawn:=d',toks:=t' }:=by
 have neL:∀b o,X.s₀.heap.get? b=some o->b≠X.env.locals:=fun b o e=>zU (zJ (yJ e) I.ok.above)
 have neC:∀b o,X.s₀.heap.get? b=some o->b∉X.ex->b∉ch:=fun b o e hx hb=>by
  rcases(hch b hb).1 with z|z
  ·exact hx z
  ·exact absurd (zJ (yJ e) z) (xB _)
 have cellK:∀x c,X.env.cells.lookup x=some c->∀v,s.heap.IsCell c v->h'.IsCell c v:=fun x c e v hq0=>by
  obtain⟨o,ho,hd⟩:=hq0;have nch:c∉ch:=fun z=>(hch c z).2.2.1 x c e rfl
  by_cases hc:c∈X.fs
  ·obtain⟨sl,q⟩:=slot c o (I.cne x c e) hc nch ho (I.freeC x c e)
   exact⟨_,q,hd⟩
  ·exact⟨o,keep c o (I.cne x c e) hc nch ho (I.freeC x c e),hd⟩
 refine⟨I.ok,I.os,hg,⟨fun b o e n hb hx=>?_,fun b o e n hb hx=>?_,fun b o e n hx=>?_,fun b o e hx=>?_,fun b xs e=>tups b xs (I.base.tups b xs e),fun b o xs e=>frzs b o xs (I.base.frzs b o xs e),fun b ps e=>?_⟩,?_,fun x c e=>?_,?_,fun x c e=>?_,fun p hp=>?_,LZ,I.len⟩
 ·exact keep b o (neL b o e) hb (neC b o e hx) (I.base.keep b o e n hb hx) (I.base.free b o e n hx)
 ·obtain⟨sl,e1⟩:=I.base.slot b o e n hb hx
  obtain⟨sl',e2⟩:=slot b _ (neL b o e) hb (neC b o e hx) e1 (I.base.free b o e n hx);exact⟨sl',e2⟩
 ·obtain⟨o',e1⟩:=I.base.there b o e hx
  exact free b o' (neC b o e hx) e1 (I.base.free b o e n hx)
 ·obtain⟨o',e1⟩:=I.base.there b o e hx
  exact there b o' (neC b o e hx) e1
 ·obtain⟨m1,e1⟩:=I.base.tbls b ps e
  obtain⟨m2,e2⟩:=tbls b _ e1;exact⟨m1++m2,by rw[e2,Array.append_assoc]⟩
 ·obtain⟨m,hn,hl⟩:=I.loc
  refine⟨m,ns m hn,fun i x v e1 e2 e3=>?_⟩;obtain⟨u,r,l⟩:=hl i x v e1 e2 e3;refine⟨u,r,?_⟩;rcases l with l|⟨k,c,e,z⟩
  ·exact .inl l
  ·exact .inr ⟨k,c,e,cellK x c e _ z⟩
 ·obtain⟨v,z⟩:=I.cell x c e
  exact⟨v,cellK x c e v z⟩
 ·obtain⟨m,⟨o,_,_,ho,_⟩,_⟩:=I.loc
  exact free _ o (fun z=>(hch _ z).2.1 rfl) ho I.free
 ·obtain⟨v,o,ho,hd⟩:=I.cell x c e
  exact free c o (fun z=>(hch c z).2.2.1 x c e rfl) ho (I.freeC x c e)
 ·obtain⟨e,n,ne,nf,d⟩:=I.pin p hp
  have nch:p.1∉ch:=fun z=>(hch p.1 z).2.2.2 p hp rfl
  exact⟨keep p.1 p.2 ne nf nch e n,free p.1 p.2 nch e n,ne,nf,d⟩
theorem Inv.un{t':Nat}(I:Inv X LP σ H s)(u:Un X.fs [] H H' s.heap h')(LZ:HOk X.prog X.w H' h'):Inv X LP σ H' { s with heap:=h',toks:=t' }:=by
 obtain⟨m,⟨o,es,ep,ho,r⟩,_⟩:=id I.loc;obtain⟨sl,hL⟩:=u.any ho I.free (by simp);exact I.step (g':=s.gens) (d':=s.drawn) (ch:=[]) (fun _ z=>nomatch z) (fun b o _ hb _ e n=>u.keep b o e n hb (by simp)) (fun b o _ hb _ e n=>u.slot b o e n hb (by simp)) (fun b o _ e n=>u.free b o e n (by simp)) (fun b o _ e=>u.there b o e (by simp)) u.tups u.frzs u.tbls (fun m' hm=>by
  obtain⟨o',es',ep',ho',r'⟩:=hm;rw[ho]at ho';cases ho';exact⟨_,es',ep',hL,r'⟩) LZ I.bare
theorem Inv.call{g':Array GenState}{t':Nat}{d':Drawn}{ch:List Addr}(I:Inv X LP σ H s)(u:Un (i5 X.stack) ch H H' s.heap h')(LZ:HOk X.prog X.w H' h')(hg:AllBare g')
  (hch:∀b∈ch,(b∈X.ex\/X.s₀.heap.objs.size<=b)/\b≠X.env.locals/\(∀x c,X.env.cells.lookup x=some c->c≠b)/\∀p∈X.pn++LP,p.1≠b) :
  Inv X LP σ H' { s with heap:=h',gens:=g',drawn:=d',toks:=t' }:=by
 obtain⟨m,⟨o,es,ep,ho,r⟩,_⟩:=id I.loc;obtain⟨sl,hL⟩:=u.any ho I.free fun z=>(hch _ z).2.1 rfl
 exact I.step (ch:=ch) hch (fun b o hL hb hc e n=>u.keep b o e n (fun z=>(zT.mp (I.stkSub b z)).elim hL hb) hc) (fun b o _ _ hc e n=>u.any e n hc) (fun b o hc e n=>u.free b o e n hc) (fun b o hc e=>u.there b o e hc) u.tups u.frzs u.tbls (fun m' hm=>by
  obtain⟨o',es',ep',ho',r'⟩:=hm;rw[ho]at ho';cases ho';exact⟨_,es',ep',hL,r'⟩) LZ hg
theorem Inv.turned{t':Nat}{it:Addr}(I:Inv X LP σ H s)(k:∀b o,b≠it->s.heap.get? b=some o->h'.get? b=some o)(hn:H it=none)(hL:it≠X.env.locals)
  (h1:it∈X.ex\/X.s₀.heap.objs.size<=it) (h2:∀x c,X.env.cells.lookup x=some c->c≠it) (h3:∀p∈X.pn++LP,p.1≠it):Inv X LP σ H { s with heap:=h',toks:=t' }:=by
 have nit:∀b u,H b=some u->b≠it:=fun b u e z=>by rw[z,hn]at e;cases e
 refine I.step (g':=s.gens) (d':=s.drawn) (ch:=[it]) (fun b hb=>?_) (fun b o _ _ hc e _=>k b o (fun z=>hc (by simp[z])) e) (fun b o _ _ hc e _=>⟨o.slots,k b o (fun z=>hc (by simp[z])) e⟩) (fun _ _ _ _ n=>n)
  (fun b o hc e=>⟨o,k b o (fun z=>hc (by simp[z])) e⟩) (fun _ _ e=>e) (fun _ _ _ e=>e) (fun b ps e=>⟨#[],by rw[e];simp⟩) (fun m hm=>?_) (fun b u e=>?_) I.bare
 ·have e:b=it:=by simpa using hb
  subst e;exact⟨h1,hL,h2,h3⟩
 ·obtain⟨o,es,ep,ho,r⟩:=hm
  exact⟨o,es,ep,k _ o (Ne.symm hL) ho,r⟩
 ·refine(I.LZ b u e).stay (fun c v hc q=>k c v ?_ q) (fun _ q=>q) fun _ _ q=>q
  rcases hc with z|z
  ·rw[z];exact nit b u e
  ·exact nit c _ z
theorem Inv.tok(I:Inv X LP σ H s)(t:Nat):Inv X LP σ H { s with toks:=t }:=I.un (h':=s.heap) (t':=t) Un.refl I.LZ
theorem Inv.kept{t':Nat}(I:Inv X LP σ H s)(k:∀b u,s.heap.get? b=some u->h'.get? b=some u):Inv X LP σ H { s with heap:=h',toks:=t' }:=I.un (Un.kept k) (I.LZ.kept k)
theorem Inv.laid{a:Addr}{o:HO}{t':Nat}(I:Inv X LP σ H s)(k:∀b u,s.heap.get? b=some u->h'.get? b=some u)(hp:s.heap.objs.size<=a)(new:ObjOk X.prog X.w (ae H a o) h' a o) :
  Inv X LP σ (ae H a o) { s with heap:=h',toks:=t' }:=I.un (Un.laid k hp (I.LZ.fresh hp)) (I.LZ.laid k hp new)
theorem Inv.write{x e:Addr}{o:HO}{t':Nat}(I:Inv X LP σ H s)(mu:wG (H x))(he:e=x\/H e=some (.own x))(k:∀b u,b≠e->s.heap.get? b=some u->h'.get? b=some u)(heo:∃u,h'.get? e=some u)
  (new:ObjOk X.prog X.w (ae H x o) h' x o):Inv X LP σ (ae H x o) { s with heap:=h',toks:=t' }:=I.un (Un.write mu he k heo) (I.LZ.write mu he k heo new)
theorem Inv.pins_of{pins':List (Addr×Obj)}(I:Inv X LP σ H s)(h:∀p∈pins',s.heap.get? p.1=some p.2/\H p.1=none/\p.1≠X.env.locals/\p.1∉X.fs/\∀v,p.2.data≠.cell v):Inv X pins' σ H s :=
 ⟨I.ok,I.os,I.bare,I.base,I.loc,I.cell,I.free,I.freeC,fun p hp=>(zZ.mp hp).elim (fun z=>I.pin p (zL _ z)) (h p),I.LZ,I.len⟩
theorem pE{N:List Str}(hN:N.Nodup){i j:Nat}{x:Str}(a:N[i]?=some x)(b:N[j]?=some x):i=j:=by
 obtain⟨h1,e1⟩:=zB.mp a;obtain⟨h2,e2⟩:=zB.mp b;exact(List.getElem_inj hN).mp (e1.trans e2.symm)
theorem n9{M:Model}{A:Around}{E:Value->Shared->Prop}{i:Nat}{x:Str}{v:V}{u:Value}{Q:Unit->Shared->Prop}(I:Inv X LP σ H s)(hN:X.N.Nodup)(hi:X.N[i]?=some x)(hx:Loc X.env.scope x)(r:RelV v u)
  (h:∀s',Inv X LP (σ.set i (some v)) H s'->(∃a,Heap.SameBut a s.heap s'.heap/\(a=X.env.locals\/X.env.cells.lookup x=some a))->Q () s') (hf:X.fn x=true\/X.env.scope.names.lookup x=some .local:=by first|exact .inl rfl|exact .inr rfl|assumption):wpAny M A (storeName X.env x u) Q E s:=by
 obtain⟨m,hn,hl⟩:=id I.loc;have hcls:(X.env.scope.kind==.class||(X.env.scope.kind==.module&&X.env.locals !=X.env.globals))=false:=by rw[I.ok.kind];rfl
 have hiσ:i<σ.length:=by rw[I.len];exact(zB.mp hi).1
 have cne:=I.cne;have tracked:∀{a:Addr}{h':Heap},(∃o,s.heap.get? a=some o/\H a=none)->Heap.SameBut a s.heap h'->HOk X.prog X.w H h':=fun {a h'} ha hs b ob e=>by
  obtain⟨_,_,hfree⟩:=ha;refine(I.LZ b ob e).stay (fun c w' hc q=>(hs.2 c ?_).trans q) (fun _ q=>q) fun _ _ q=>q
  rintro rfl;rcases hc with rfl|hc
  ·rw[hfree]at e;cases e
  ·rw[hfree]at hc;cases hc
 rcases hx with hk|hk
 ·refine wpAny_storeName_local hk hn (fun h' hn' hs=>?_) hcls
  obtain⟨oL,_,_,hoL,_⟩:=id hn;refine h _ ⟨I.ok,I.os,I.bare,⟨fun b o e n hb hx=>?_,fun b o e n hb hx=>?_,I.base.free,fun b o e hx=>?_,I.base.tups,I.base.frzs,I.base.tbls⟩,⟨_,hn',fun j y v' e1 e2 e3=>?_⟩,fun y c e=>?_,I.free,I.freeC,fun p hp=>?_,tracked ⟨oL,hoL,I.free⟩ hs,by simpa using I.len⟩ ⟨_,hs,.inl rfl⟩
  ·exact(hs.2 b (zU (zJ (yJ e) I.ok.above))).trans (I.base.keep b o e n hb hx)
  ·obtain⟨sl,e1⟩:=I.base.slot b o e n hb hx
   exact⟨sl,(hs.2 b (zU (zJ (yJ e) I.ok.above))).trans e1⟩
  ·obtain⟨o',e1⟩:=I.base.there b o e hx
   exact⟨o',(hs.2 b (zU (zJ (yJ e) I.ok.above))).trans e1⟩
  ·by_cases hj:j=i
   ·subst hj
    rw[hi]at e1;cases e1;rw[List.getElem?_set_self hiσ]at e2;cases e2;exact⟨u,r,.inl ⟨hk,by simp⟩⟩
   ·rw[List.getElem?_set_ne (Ne.symm hj)]at e2
    obtain⟨u',r',q⟩:=hl j y v' e1 e2 e3;refine⟨u',r',?_⟩;rcases q with⟨k,e⟩|⟨k,c,e,z⟩
    ·refine .inl ⟨k,?_⟩
     have:y≠x:=fun e=>hj (pE hN e1 (e▸hi))
     simp[this,e]
    ·exact .inr ⟨k,c,e,z.sameBut hs (cne y c e)⟩
  ·obtain⟨w',z⟩:=I.cell y c e
   exact⟨w',z.sameBut hs (cne y c e)⟩
  ·obtain⟨e,n,ne,nf,d⟩:=I.pin p hp
   exact⟨(hs.2 p.1 ne).trans e,n,ne,nf,d⟩
 ·have hfn:X.fn x=true:=by
   rcases hf with z|z
   ·exact z
   ·rw[z]at hk;cases hk
  obtain⟨c,hc⟩:=I.ok.has x (.inl hk);obtain⟨w',z⟩:=I.cell x c hc;refine wpAny_storeName_cell I.ok.kind hk hc z (fun h' hc' hs=>?_);obtain⟨oc,hoc,hocd⟩:=id z;refine h { s with heap:=h' } ⟨I.ok,I.os,I.bare,⟨fun b o e n hb hx=>?_,fun b o e n hb hx=>?_,I.base.free,fun b o e hx=>?_,I.base.tups,I.base.frzs,I.base.tbls⟩,⟨m,hn.sameBut hs (Ne.symm (cne x c hc)),fun j y v' e1 e2 e3=>?_⟩,fun y c' e=>?_,I.free,I.freeC,fun p hp=>?_,tracked ⟨oc,hoc,I.freeC x c hc⟩ hs,by simpa using I.len⟩ ⟨c,hs,.inr hc⟩
  ·exact(hs.2 b (zU (zJ (yJ e) (I.ok.cab x c hfn hc)))).trans (I.base.keep b o e n hb hx)
  ·obtain⟨sl,e1⟩:=I.base.slot b o e n hb hx
   exact⟨sl,(hs.2 b (zU (zJ (yJ e) (I.ok.cab x c hfn hc)))).trans e1⟩
  ·obtain⟨o',e1⟩:=I.base.there b o e hx
   exact⟨o',(hs.2 b (zU (zJ (yJ e) (I.ok.cab x c hfn hc)))).trans e1⟩
  ·by_cases hj:j=i
   ·subst hj
    rw[hi]at e1;cases e1;rw[List.getElem?_set_self hiσ]at e2;cases e2;exact⟨u,r,.inr ⟨.inl hk,c,hc,hc'⟩⟩
   ·rw[List.getElem?_set_ne (Ne.symm hj)]at e2
    obtain⟨u',r',q⟩:=hl j y v' e1 e2 e3;refine⟨u',r',?_⟩;rcases q with q|⟨k,c',e,z'⟩
    ·exact .inl q
    ·refine .inr ⟨k,c',e,z'.sameBut hs ?_⟩
     rintro rfl;exact hj (pE hN e1 (I.ok.inj _ _ _ e hc▸hi))
  ·by_cases hcc:c'=c
   ·subst hcc;exact⟨_,hc'⟩
   ·obtain⟨w2,z2⟩:=I.cell y c' e
    exact⟨w2,z2.sameBut hs hcc⟩
  ·obtain⟨e,n,ne,nf,d⟩:=I.pin p hp
   refine⟨(hs.2 p.1 ?_).trans e,n,ne,nf,d⟩;intro q;rw[q,hoc]at e;have q':oc=p.2:=yE e;exact d w' (by rw[<- q'];exact hocd)
theorem pj{M:Model}{A:Around}{E:Value->Shared->Prop}{i:Nat}{x:Str}{v:V}{u:Value}{Q:Unit->Shared->Prop}(I:Inv X LP σ H s)(hN:X.N.Nodup)(hi:X.N[i]?=some x)(hx:Loc X.env.scope x)(r:RelV v u)
  (h:∀s',Inv X LP (σ.set i (some v)) H s'->Q () s') (hf:X.fn x=true\/X.env.scope.names.lookup x=some .local:=by first|exact .inl rfl|exact .inr rfl|assumption):wpAny M A (storeName X.env x u) Q E s :=
 n9 I hN hi hx r (fun s' I' _=>h s' I') hf
theorem Inv.call'{s':Shared}{ch:List Addr}(I:Inv X LP σ H s)(ho:s'.os=s.os)(u:Un (i5 X.stack) ch H H' s.heap s'.heap)(LZ:HOk X.prog X.w H' s'.heap)(hg:AllBare s'.gens)
  (hch:∀b∈ch,(b∈X.ex\/X.s₀.heap.objs.size<=b)/\b≠X.env.locals/\(∀x c,X.env.cells.lookup x=some c->c≠b)/\∀p∈X.pn++LP,p.1≠b):Inv X LP σ H' s':=by
 obtain⟨h',g',d',t',o'⟩:=s';have e:o'=s.os:=ho;subst e;exact I.call (g':=g') (t':=t') (d':=d') u LZ hg hch
end
abbrev XK:=Value->Option Addr->Hp->Prop
abbrev St:=List (Option V)
abbrev VK:=V->Hp->Prop
abbrev TE:=St->Hp->VK->Prop
abbrev TT:=St->Hp->(Bool->Hp->Prop)->Prop
abbrev TA:=St->Hp->(List V->Hp->Prop)->Prop
structure iQ where
 nx:St->Hp->Prop
 rt:VK
 bk:St->Hp->Prop:=fun _ _=>False
 ct:St->Hp->Prop:=fun _ _=>False
abbrev TS:=iQ->St->Hp->Prop
def EP(X:Cx)(LP:List (Addr×Obj))(σ:St)(Q:VK)(u:Value)(s':Shared):Prop:=∃v H',Inv X LP σ H' s'/\RelV v u/\Q v H'
def TP(X:Cx)(LP:List (Addr×Obj))(σ:St)(Q:Bool->Hp->Prop)(b:Bool)(s':Shared):Prop:=∃H',Inv X LP σ H' s'/\Q b H'
def AP(X:Cx)(LP:List (Addr×Obj))(σ:St)(Q:List V->Hp->Prop)(us:List Value)(s':Shared):Prop:=∃vs H',Inv X LP σ H' s'/\Vals vs us/\Q vs H'
def SP(X:Cx)(LP:List (Addr×Obj))(D:iQ)(f:Flow)(s':Shared):Prop :=
 match f with
 |.next=>∃σ' H',Inv X LP σ' H' s'/\D.nx σ' H'
 |.brk=>∃σ' H',Inv X LP σ' H' s'/\D.bk σ' H'
 |.cont=>∃σ' H',Inv X LP σ' H' s'/\D.ct σ' H'
 |.ret u=>∃v σ' H',Inv X LP σ' H' s'/\RelV v u/\D.rt v H'
def PE(X:Cx)(e:Expr)(t:TE):Prop :=
 ∀(LP:List (Addr×Obj))(s:Shared)(σ:St)(H:Hp)(Q:VK),Inv X LP σ H s->t σ H Q->wpAny (model X.prog X.w) X.A (eval e X.env) (EP X LP σ Q) X.xe s
def PT(X:Cx)(e:Expr)(t:TT):Prop :=
 ∀(LP:List (Addr×Obj))(s:Shared)(σ:St)(H:Hp)(Q:Bool->Hp->Prop),Inv X LP σ H s->t σ H Q->wpAny (model X.prog X.w) X.A (isTrue e X.env (eval e X.env)) (TP X LP σ Q) X.xe s
def PW(X:Cx)(e:Expr)(t:TT):Prop :=
 ∀(whole:Sem Value)(LP:List (Addr×Obj))(s:Shared)(σ:St)(H:Hp)(Q:Bool->Hp->Prop),Inv X LP σ H s->t σ H Q->wpAny (model X.prog X.w) X.A (isTrue e X.env whole) (TP X LP σ Q) X.xe s
theorem PW.pt{X:Cx}{e:Expr}{t:TT}(h:PW X e t):PT X e t:=h _
def PA(X:Cx)(es:List Expr)(t:TA):Prop :=
 ∀(pos:Pos)(LP:List (Addr×Obj))(s:Shared)(σ:St)(H:Hp)(Q:List V->Hp->Prop),Inv X LP σ H s->t σ H Q->wpAny (model X.prog X.w) X.A (spliced (backTo pos (starEach es X.env))) (AP X LP σ Q) X.xe s
def PS(X:Cx)(st:Stmt)(t:TS):Prop :=
 ∀(LP:List (Addr×Obj))(s:Shared)(σ:St)(H:Hp)(D:iQ),Inv X LP σ H s->t D σ H->wpAny (model X.prog X.w) X.A (exec st X.env) (SP X LP D) X.xe s
def PSs(X:Cx)(st:List Stmt)(t:TS):Prop :=
 ∀(LP:List (Addr×Obj))(s:Shared)(σ:St)(H:Hp)(D:iQ),Inv X LP σ H s->t D σ H->wpAny (model X.prog X.w) X.A (execs st X.env) (SP X LP D) X.xe s
theorem aA{α:Type}{t:Sem α}{Q Q':α->Shared->Prop}{M:Model}{A:Around}{E:Value->Shared->Prop}{s:Shared}(h:wpAny M A t Q E s)(hQ:∀a s,Q a s->Q' a s):wpAny M A t Q' E s:=yT h hQ fun _ _ x=>x
section
variable{X:Cx}
theorem bin{a b:Expr}{ta tb:TE}(ha:PE X a ta)(hb:PE X b tb){LP:List (Addr×Obj)}{s:Shared}{σ:St}{H:Hp}{R:V->V->Hp->Prop}(I:Inv X LP σ H s)(h:ta σ H fun x H1=>tb σ H1 fun y H2=>R x y H2)
  {α:Type}{Q:α->Shared->Prop}{f:Value->Value->Sem α}
  (hf:∀v u s2 x y H2,Inv X LP σ H2 s2->RelV x v->RelV y u->R x y H2->wpAny (model X.prog X.w) X.A (f v u) Q X.xe s2) :
  wpAny (model X.prog X.w) X.A (eval a X.env) (fun v s₁=>wpAny (model X.prog X.w) X.A (eval b X.env) (fun u s₂=>wpAny (model X.prog X.w) X.A (f v u) Q X.xe s₂) X.xe s₁) X.xe s:=by
 refine aA (ha LP s σ H _ I h) fun v s1 hq0=>?_
 obtain⟨x,H1,I1,r1,q1⟩:=hq0;refine aA (hb LP s1 σ H1 _ I1 q1) fun u s2 hq0=>?_
 obtain⟨y,H2,I2,r2,q2⟩:=hq0;exact hf v u s2 x y H2 I2 r1 r2 q2
noncomputable def IC(i:Nat):TE:=fun σ H Q=>∃v,σ[i]?=some (some v)/\Q v H
noncomputable def tC(v:V):TE:=fun _ H Q=>Q v H
theorem DO{i:Nat}{x:Str}{pos:Pos}(hN:X.N[i]?=some x)(hv:wD X.env.scope x)(hd:(x==("__debug__":Str))=false:=by decide)(hcd:(x==("__classdict__":Str))=false:=by decide):PE X (.Name x pos) (IC i):=by
 intro LP s σ H Q I h;obtain⟨v,e,h⟩:=h;obtain⟨m,hn,hl⟩:=I.loc;obtain⟨u,r,l⟩:=hl i x v hN e hv;have ax:EP X LP σ Q u s:=⟨v,H,I,r,h⟩;rcases l with⟨hk,hm⟩|⟨hk,c,hc,hcell⟩
 ·exact wpAny_Name (wpAny_loadName_local I.ok.kind hk hn hm ax) hd
 ·rcases hk with hk|hk
  ·exact wpAny_Name (wpAny_loadName_cell I.ok.kind hk hc hcell ax) hd
  ·exact wpAny_Name (wpAny_loadName_free I.ok.kind hk hc hcell ax hcd) hd
theorem DV{i j pos}:PE X (.Constant (.int i) j pos) (tC (.int i)):=fun _ _ _ H _ I h=>wpAny_Constant_int ⟨.int i,H,I.tok _,⟨_,rfl⟩,h⟩
theorem Go{b j pos}:PE X (.Constant (.bool b) j pos) (tC (.bl b)):=fun _ _ _ H _ I h=>Constant_bool ⟨.bl b,H,I,rfl,h⟩
theorem DU{j pos}:PE X (.Constant .none j pos) (tC .non):=fun _ _ _ H _ I h=>Constant_none ⟨.non,H,I,rfl,h⟩
theorem DR{x j pos}:PE X (.Constant (.str x) j pos) (tC (.str x)):=fun _ _ _ H _ I h=>Calls.Constant_str ⟨.str x,H,I.tok _,⟨_,rfl⟩,h⟩
def Gl(X:Cx)(x:Str):Prop:=X.env.kindOf x=some .globalImplicit
theorem ka{E:Value->Shared->Prop}{LP:List (Addr×Obj)}{s:Shared}{σ:St}{H:Hp}{x:Str}{u:Value}{pos:Pos}{Q:Value->Shared->Prop}(I:Inv X LP σ H s)(hg:Gl X x)(hm:X.mg x=some u)(h:Q u s)
  (hd:(x==("__debug__":Str))=false:=by decide):wpAny (model X.prog X.w) X.A (eval (.Name x pos) X.env) Q E s :=
 Calls.Name_function_global I.ok.kind hg (Calls.loadGlobal_global (by rw[I.ok.glob];exact I.mod.glob.keeps I.bk) hm h) hd
theorem c7{E:Value->Shared->Prop}{LP:List (Addr×Obj)}{s:Shared}{σ:St}{H:Hp}{x:Str}{u:Value}{pos:Pos}{Q:Value->Shared->Prop}(I:Inv X LP σ H s)(hg:Gl X x)(hm:X.mg x=none)(hv:bootBuiltins x=some u)(h:Q u s)
  (hn:x≠"__name__":=by decide) (hd:(x==("__debug__":Str))=false:=by decide):wpAny (model X.prog X.w) X.A (eval (.Name x pos) X.env) Q E s:=by
 obtain⟨mb,h1,h2⟩:=I.mod.blt;exact Calls.Name_function_global I.ok.kind hg (Calls.loadGlobal_builtin (by rw[I.ok.glob];exact I.mod.glob.keeps I.bk) hm (by rw[I.ok.blt];exact h1.keeps I.bk) ((h2 x hn).trans hv) h) hd
theorem BT{x:Str}{v:V}{u:Value}{pos:Pos}(hg:Gl X x)(hm:X.mg x=some u)(r:RelV v u)(hd:(x==("__debug__":Str))=false:=by decide):PE X (.Name x pos) (tC v) :=
 fun _ _ _ H _ I h=>ka I hg hm ⟨v,H,I,r,h⟩ hd
variable{a b:Expr}{ta tb:TE}{pos:Pos}
theorem RelV.none_iff{x:V}{v:Value}(r:RelV x v):(v==Value.none)=decide (x=.non):=by
 cases x with
 |non=>cases r;rfl
 |bl _=>cases r;rfl
 |int _=>obtain⟨t,rfl⟩:=r;rfl
 |str _=>obtain⟨t,rfl⟩:=r;rfl
 |byt _=>obtain⟨t,rfl⟩:=r;rfl
 |flt _=>obtain⟨t,rfl⟩:=r;rfl
 |ref _=>cases r;rfl
 |ty _=>cases r;rfl
variable{tA tB':TT}{rest:List Expr}
noncomputable def IP(t u:TT):TT:=fun σ H Q=>t σ H fun c H1=>if c=true then u σ H1 Q else Q false H1
noncomputable def JT(t u:TT):TT:=fun σ H Q=>t σ H fun c H1=>if c=true then Q true H1 else u σ H1 Q
noncomputable def II(t:TT):TT:=fun σ H Q=>t σ H fun c H1=>Q (!c) H1
theorem BB(ha:PT X a tA):PW X (.BoolOp .And [a] pos) tA:=by
 intro wh LP s σ H Q I h;refine isTrue_and (aA (ha LP s σ H Q I h) fun c s1 e=>?_);cases c with
 |true=>exact isTrue_and_nil e
 |false=>exact e
theorem DA(ha:PT X a tA):PW X (.BoolOp .Or [a] pos) tA:=by
 intro wh LP s σ H Q I h;refine isTrue_or (aA (ha LP s σ H Q I h) fun c s1 e=>?_);cases c with
 |false=>exact isTrue_or_nil e
 |true=>exact e
theorem DB(ha:PT X a tA)(hb:PW X (.BoolOp .And (b::rest) pos) tB'):PW X (.BoolOp .And (a::b::rest) pos) (IP tA tB'):=by
 intro wh LP s σ H Q I h;refine isTrue_and (aA (ha LP s σ H _ I h) fun c s1 hq0=>?_);obtain⟨H1,I1,q1⟩:=hq0;cases c with
 |true=>exact hb wh LP s1 σ H1 Q I1 q1
 |false=>exact⟨H1,I1,q1⟩
theorem Gb(ha:PT X a tA)(hb:PW X (.BoolOp .Or (b::rest) pos) tB'):PW X (.BoolOp .Or (a::b::rest) pos) (JT tA tB'):=by
 intro wh LP s σ H Q I h;refine isTrue_or (aA (ha LP s σ H _ I h) fun c s1 hq0=>?_);obtain⟨H1,I1,q1⟩:=hq0;cases c with
 |true=>exact⟨H1,I1,q1⟩
 |false=>exact hb wh LP s1 σ H1 Q I1 q1
theorem DC(ha:PT X a tA):PT X (.UnaryOp .Not a pos) (II tA):=by
 intro LP s σ H Q I h;exact isTrue_not (ha LP s σ H (fun c H1=>Q (!c) H1) I h)
noncomputable def FS(ta tb:TE):TE:=fun σ H Q=>ta σ H fun x H1=>∃c,x=.bl c/\if c=true then tb σ H1 Q else Q (.bl false) H1
noncomputable def IH(ta tb:TE):TE:=fun σ H Q=>ta σ H fun x H1=>∃c,x=.bl c/\if c=true then Q (.bl true) H1 else tb σ H1 Q
noncomputable def FO(ta:TE):TE:=fun σ H Q=>ta σ H fun x H1=>∃c,x=.bl c/\Q (.bl (!c)) H1
theorem DS{op}{t:TE}(h:PE X a t):PE X (.BoolOp op [a] pos) t:=fun LP s σ H Q I hw=>BoolOp_one (h LP s σ H Q I hw)
theorem DY(ha:PE X a ta)(hb:PE X (.BoolOp .And (b::rest) pos) tb):PE X (.BoolOp .And (a::b::rest) pos) (FS ta tb):=by
 intro LP s σ H Q I h;refine BoolOp_and (aA (ha LP s σ H _ I h) fun v s1 hq0=>?_);obtain⟨x,H1,I1,r1,q1⟩:=hq0;obtain⟨c,rfl,q1⟩:=q1;cases r1;refine wpAny_truthy_bool ?_;cases c with
 |true=>exact hb LP s1 σ H1 Q I1 q1
 |false=>exact⟨.bl false,H1,I1,rfl,q1⟩
theorem Gi(ha:PE X a ta)(hb:PE X (.BoolOp .Or (b::rest) pos) tb):PE X (.BoolOp .Or (a::b::rest) pos) (IH ta tb):=by
 intro LP s σ H Q I h;refine BoolOp_or (aA (ha LP s σ H _ I h) fun v s1 hq0=>?_);obtain⟨x,H1,I1,r1,q1⟩:=hq0;obtain⟨c,rfl,q1⟩:=q1;cases r1;refine wpAny_truthy_bool ?_;cases c with
 |false=>exact hb LP s1 σ H1 Q I1 q1
 |true=>exact⟨.bl true,H1,I1,rfl,q1⟩
theorem DT(ha:PE X a ta):PE X (.UnaryOp .Not a pos) (FO ta):=by
 intro LP s σ H Q I h;refine UnaryOp_ (aA (ha LP s σ H _ I h) fun v s1 hq0=>?_);obtain⟨x,H1,I1,r1,q1⟩:=hq0;obtain⟨c,rfl,q1⟩:=q1;cases r1;exact not_of (wpAny_truthy_bool ⟨.bl (!c),H1,I1,rfl,q1⟩)
noncomputable def JU(t:TT)(ta tb:TE):TE:=fun σ H Q=>t σ H fun c H1=>if c=true then ta σ H1 Q else tb σ H1 Q
theorem xH{c:Expr}(hc:PT X c tA)(ha:PE X a ta)(hb:PE X b tb):PE X (.IfExp c a b pos) (JU tA ta tb):=by
 intro LP s σ H Q I h;refine wpAny_IfExp (aA (hc LP s σ H _ I h) fun d s1 hq0=>?_);obtain⟨H1,I1,q1⟩:=hq0;cases d with
 |true=>exact ha LP s1 σ H1 Q I1 q1
 |false=>exact hb LP s1 σ H1 Q I1 q1
end
def bB(K:Frag)(H:Hp)(a:Addr)(xs:List V):Prop :=
 Rd H a (.lst xs) \/
  ∃(o:Obj)(LU:Array Value)(n:Nat),K.lookup a=some o/\o.cls=.type "list"/\o.dict=none/\o.data=.seq LU n/\LU.size<=sizeLine/\Vals xs LU.toList
def gi(K:Frag)(H:Hp)(a:Addr)(xs:List V):Prop :=
 Rd H a (.tup xs) \/
  ∃(o:Obj)(LU:Array Value)(n:Nat),K.lookup a=some o/\o.cls=.type "tuple"/\o.data=.seq LU n/\LU.size<=sizeLine/\Vals xs LU.toList
noncomputable def Jx:Value->Option V
 |.none=>some .non
 |.bool b=>some (.bl b)
 |.int i _=>some (.int i)
 |.str x _=>some (.str x)
 |.bytes b _=>some (.byt b)
 |.float b _=>some (.flt b)
 |.ref a=>some (.ref a)
 |.type n=>some (.ty n)
 |_=>none
theorem RelV.abs{x:V}{u:Value}(r:RelV x u):Jx u=some x:=by
 cases x with
 |non=>cases r;rfl
 |bl _=>cases r;rfl
 |int _=>obtain⟨t,rfl⟩:=r;rfl
 |str _=>obtain⟨t,rfl⟩:=r;rfl
 |byt _=>obtain⟨t,rfl⟩:=r;rfl
 |flt _=>obtain⟨t,rfl⟩:=r;rfl
 |ref _=>cases r;rfl
 |ty _=>cases r;rfl
theorem RelV.inj{x y:V}{u:Value}(r:RelV x u)(q:RelV y u):x=y:=yE (r.abs.symm.trans q.abs)
theorem Vals.inj{xs ys:List V}{us:List Value}(h:Vals xs us):Vals ys us->xs=ys:=by
 induction h generalizing ys with
 |nil=>intro h';cases h';rfl
 |cons r t ih =>
  intro h';cases h' with
  |cons r' t'=>rw[r.inj r',ih t']
section
variable{X:Cx}{LP:List (Addr×Obj)}{σ:St}{H:Hp}{s:Shared}{a:Addr}{xs ys:List V}
theorem Inv.list(I:Inv X LP σ H s)(h:bB X.K H a xs):∃LU:List Value,Vals xs LU/\PlainL s.heap a LU.toArray/\xs.length<=sizeLine:=by
 rcases h with h|⟨o,LU,n,hk,hc,hd,hs,hz,r⟩
 ·obtain⟨z,LU,n,r,e⟩:=h.ok I.LZ
  exact⟨LU,r,⟨_,n,e,rfl,rfl,rfl⟩,z⟩
 ·refine⟨LU.toList,r,⟨o,n,I.kIn a o hk,hc,hd,by simpa using hs⟩,?_⟩
  have e:=r.length;simp only[Array.length_toList]at e;lia
theorem Inv.tuple(I:Inv X LP σ H s)(h:gi X.K H a xs):∃LU:List Value,Vals xs LU/\IsTup s.heap a LU.toArray/\xs.length<=sizeLine:=by
 rcases h with h|⟨o,LU,n,hk,hc,hs,hz,r⟩
 ·obtain⟨z,LU,r,p⟩:=h.ok I.LZ
  exact⟨LU,r,p,z⟩
 ·refine⟨LU.toList,r,⟨o,I.kIn a o hk,hc,n,by simpa using hs⟩,?_⟩
  have e:=r.length;simp only[Array.length_toList]at e;lia
theorem Inv.list_inj(I:Inv X LP σ H s)(h:bB X.K H a xs)(h':bB X.K H a ys):xs=ys:=by
 obtain⟨LU,r,⟨o,n,e,_,_,d⟩,_⟩:=I.list h;obtain⟨its',r',⟨o',n',e',_,_,d'⟩,_⟩:=I.list h';rw[e]at e';cases e';rw[d]at d';injection d' with d1 _;have:LU=its':=by simpa using congrArg Array.toList d1
 subst this;exact r.inj r'
theorem Inv.tuple_inj(I:Inv X LP σ H s)(h:gi X.K H a xs)(h':gi X.K H a ys):xs=ys:=by
 obtain⟨LU,r,⟨o,e,_,n,d⟩,_⟩:=I.tuple h;obtain⟨its',r',⟨o',e',_,n',d'⟩,_⟩:=I.tuple h';rw[e]at e';cases e';rw[d]at d';injection d' with d1 _;have:LU=its':=by simpa using congrArg Array.toList d1
 subst this;exact r.inj r'
end
abbrev Cx.wish(X:Cx)(E:Value->Shared->Prop):Cx:={ X with xe:=E }
abbrev Cx.nox(X:Cx):Cx:=X.wish fun _ _=>False
theorem Cx.Ok.wish{X:Cx}(ok:X.Ok)(E:Value->Shared->Prop):(X.wish E).Ok :=
 ⟨ok.mod,ok.kind,ok.glob,ok.blt,ok.above,ok.inj,ok.has,ok.cab,ok.hd,ok.frames,ok.stk,ok.exf,ok.bs,ok.bsz,ok.noex,ok.exfs,ok.funs,ok.frf⟩
theorem Cx.Ok.unwish{X:Cx}{E:Value->Shared->Prop}(ok:(X.wish E).Ok):X.Ok :=
 ⟨ok.mod,ok.kind,ok.glob,ok.blt,ok.above,ok.inj,ok.has,ok.cab,ok.hd,ok.frames,ok.stk,ok.exf,ok.bs,ok.bsz,ok.noex,ok.exfs,ok.funs,ok.frf⟩
section
variable{X:Cx}{LP:List (Addr×Obj)}{σ:St}{H:Hp}{s:Shared}{E:Value->Shared->Prop}
theorem Inv.wish(I:Inv X LP σ H s)(E:Value->Shared->Prop):Inv (X.wish E) LP σ H s:=⟨I.ok.wish E,I.os,I.bare,I.base,I.loc,I.cell,I.free,I.freeC,I.pin,I.LZ,I.len⟩
theorem Inv.unwish(I:Inv (X.wish E) LP σ H s):Inv X LP σ H s:=⟨I.ok.unwish,I.os,I.bare,I.base,I.loc,I.cell,I.free,I.freeC,I.pin,I.LZ,I.len⟩
theorem SP.unwish{D:iQ}{f:Flow}{s':Shared}(h:SP (X.wish E) LP D f s'):SP X LP D f s':=by
 cases f with
 |next=>obtain⟨σ',H',I,q⟩:=h;exact⟨σ',H',I.unwish,q⟩
 |brk=>obtain⟨σ',H',I,q⟩:=h;exact⟨σ',H',I.unwish,q⟩
 |cont=>obtain⟨σ',H',I,q⟩:=h;exact⟨σ',H',I.unwish,q⟩
 |ret u=>obtain⟨v,σ',H',I,r,q⟩:=h;exact⟨v,σ',H',I.unwish,r,q⟩
theorem PSs.nox{st:List Stmt}{t:TS}(h:PSs X.nox st t):PSs X st t:=fun LP s σ H D I hw =>
 yT (h LP s σ H D (I.wish _) hw) (fun _ _ q=>q.unwish) fun _ _ z=>False.elim z
end
section
variable{X:Cx}{st:Stmt}{rest:List Stmt}{t u:TS}{e:Expr}{te:TE}{pos:Pos}
noncomputable def FP:TS:=fun D σ H=>D.nx σ H
noncomputable def IE(t u:TS):TS:=fun D σ H=>t { D with nx:=u D } σ H
theorem BD:PSs X [] FP:=fun _ _ σ H _ I h=>wpAny_execs_nil ⟨σ,H,I,h⟩
theorem xq(h1:PS X st t)(h2:PSs X rest u):PSs X (st::rest) (IE t u):=by
 intro LP s σ H D I h;refine wpAny_execs_cons (aA (h1 LP s σ H { D with nx:=u D } I h) fun f s1 q=>?_);cases f with
 |next =>
  obtain⟨σ',H',I',q⟩:=q;exact h2 LP s1 σ' H' D I' q
 |ret v=>exact q
 |brk=>exact q
 |cont=>exact q
theorem Inv.quiet{LP:List (Addr×Obj)}{σ:St}{H:Hp}{s:Shared}(I:Inv X LP σ H s):interactive X.env=false:=by simp[interactive,I.ok.kind]
noncomputable def FQ(te:TE):TS:=fun D σ H=>te σ H fun _ H1=>D.nx σ H1
theorem BG(he:PE X e te)(hs:swapsWith e none pos.line X.env=pure false:=by rfl):PS X (.Expr e pos) (FQ te):=by
 intro LP s σ H D I h;exact wpAny_Expr_any (aA (he LP s σ H _ I h) fun v s1 ⟨x,H1,I1,r1,q1⟩=>⟨σ,H1,I1,q1⟩) I.quiet hs
noncomputable def IG(te:TE):TS:=fun D σ H=>te σ H D.rt
theorem DG(he:PE X e te):PS X (.Return (some e) pos) (IG te):=by
 intro LP s σ H D I h;exact wpAny_Return_some (aA (he LP s σ H _ I h) fun v s1 ⟨x,H1,I1,r1,q1⟩=>⟨x,σ,H1,I1,r1,q1⟩)
noncomputable def IK(c:TT)(t u:TS):TS:=fun D σ H=>c σ H fun b H1=>if b=true then t D σ H1 else u D σ H1
theorem Gc{c:Expr}{a b:List Stmt}{tc:TT}(hc:PT X c tc)(ha:PSs X a t)(hb:PSs X b u):PS X (.If c a b pos) (IK tc t u):=by
 intro LP s σ H D I h;refine wpAny_If (aA (hc LP s σ H _ I h) fun d s1 hq0=>?_);obtain⟨H1,I1,q1⟩:=hq0;cases d with
 |true=>exact ha LP s1 σ H1 D I1 q1
 |false=>exact hb LP s1 σ H1 D I1 q1
noncomputable def CS:TS:=fun _ _ _=>False
theorem xu:PS X st CS:=fun _ _ _ _ _ _ h=>h.elim
end
abbrev TG:=V->St->Hp->(St->Hp->Prop)->Prop
abbrev k6:=List V->St->Hp->(St->Hp->Prop)->Prop
def PG(X:Cx)(target:Expr)(t:TG):Prop :=
 ∀(LP:List (Addr×Obj))(s:Shared)(σ:St)(H:Hp)(v:V)(u:Value)(Q:St->Hp->Prop),Inv X LP σ H s->RelV v u->t v σ H Q ->
  wpAny (model X.prog X.w) X.A (assign target X.env u) (fun _ s'=>∃σ' H',Inv X LP σ' H' s'/\Q σ' H') X.xe s
def oJ(X:Cx)(ts:List Expr)(t:k6):Prop :=
 ∀(LP:List (Addr×Obj))(s:Shared)(σ:St)(H:Hp)(vs:List V)(us:List Value)(Q:St->Hp->Prop),Inv X LP σ H s->Vals vs us->t vs σ H Q ->
  wpAny (model X.prog X.w) X.A (assignInOrder ((assignEach ts X.env).map (·.2)) us) (fun _ s'=>∃σ' H',Inv X LP σ' H' s'/\Q σ' H') X.xe s
abbrev qE:=V->V->V->Hp->(Hp->Prop)->Prop
def ui(X:Cx)(t:qE):Prop :=
 ∀(LP:List (Addr×Obj))(s:Shared)(σ:St)(H:Hp)(o i v:V)(ov iv u:Value)(Q:Hp->Prop),Inv X LP σ H s->RelV o ov->RelV i iv->RelV v u->t o i v H Q ->
  wpAny (model X.prog X.w) X.A (setItem ov iv u) (fun _ s'=>∃H',Inv X LP σ H' s'/\Q H') X.xe s
abbrev AE:=V->V->Hp->VK->Prop
def AH(X:Cx)(op:Operator)(t:AE):Prop :=
 ∀(LP:List (Addr×Obj))(s:Shared)(σ:St)(H:Hp)(x y:V)(v u:Value)(Q:VK),Inv X LP σ H s->RelV x v->RelV y u->t x y H Q ->
  wpAny (model X.prog X.w) X.A (inplaceOp op v u) (EP X LP σ Q) X.xe s
section
variable{X:Cx}{pos:Pos}
noncomputable def my(i:Nat):TG:=fun v σ H Q=>Q (σ.set i (some v)) H
theorem BQ{i:Nat}{x:Str}(hN:X.N.Nodup)(hi:X.N[i]?=some x)(hx:Loc X.env.scope x)(hf:X.fn x=true\/X.env.scope.names.lookup x=some .local:=by first|exact .inl rfl|exact .inr rfl|assumption):PG X (.Name x pos) (my i):=by
 intro LP s σ H v u Q I r h;exact wpAny_assign_Name (pj I hN hi hx r (fun s' I'=>⟨_,H,I',h⟩) hf)
noncomputable def Jo:k6:=fun vs σ H Q=>vs=[]/\Q σ H
noncomputable def GR(t:TG)(u:k6):k6:=fun vs σ H Q=>∃v r,vs=v::r/\t v σ H fun σ' H'=>u r σ' H' Q
theorem BO:oJ X [] Jo:=by
 intro LP s σ H vs us Q I r h;obtain⟨e,h⟩:=h;subst e;cases r;exact assignInOrder_nil ⟨σ,H,I,h⟩
theorem xy{e:Expr}{es:List Expr}{t:TG}{u:k6}(h1:PG X e t)(h2:oJ X es u)
  (hs:(assignEach (e::es) X.env).map (·.2)=assign e X.env::(assignEach es X.env).map (·.2):=by rfl):oJ X (e::es) (GR t u):=by
 intro LP s σ H vs us Q I r h;obtain⟨v,vr,e1,h⟩:=h;subst e1;cases r with
 |cons r rr =>
  rw[hs];refine assignInOrder_cons (aA (h1 LP s σ H _ _ _ I r h) fun _ s1 hq0=>?_);obtain⟨σ1,H1,I1,q1⟩:=hq0;exact h2 LP s1 σ1 H1 _ _ Q I1 rr q1
noncomputable def Jm(K:Frag)(n:Nat)(t:k6):TG:=fun v σ H Q=>∃a xs,v=.ref a/\gi K H a xs/\xs.length=n/\t xs σ H Q
theorem DM{es:List Expr}{k:Nat}{t:k6}{n:Nat}(hc:X.calm=true)(h:oJ X es t)
  (hn:(assignEach es X.env).length=n:=by rfl) (hst:(assignEach es X.env).findIdx? (·.1)=none:=by rfl):PG X (.Tuple es k pos) (Jm X.K n t):=by
 intro LP s σ H v u Q I r hw;obtain⟨a,xs,e1,hq,hl,hw⟩:=hw;subst e1;cases r;obtain⟨LU,rv,ht,hz⟩:=I.tuple hq;refine assign_Tuple_tuple (I.ok.hd hc) ht (by simp[hn,<- hl,rv.length]) hst fun h' hx=>?_
 have I1:Inv X LP σ H { s with heap:=h' }:=I.kept (t':=s.toks) fun b o e=>hx b o (zU (yJ e)) e
 exact h LP _ σ H xs _ Q I1 (by simpa using rv) hw
noncomputable def Jn(to ti:TE)(t:qE):TG:=fun v σ H Q=>to σ H fun o H1=>ti σ H1 fun i H2=>t o i v H2 fun H3=>Q σ H3
theorem DN{o i:Expr}{to ti:TE}{t:qE}(ho:PE X o to)(hi:PE X i ti)(hs:ui X t)
  (ha:∀v,assign (.Subscript o i pos) X.env v=(do
   let ov <- holding [v] (eval o X.env)
   let iv <- holding [v,ov] (eval i X.env)
   standAt pos
   holding [v,ov,iv] (setItem ov iv v)
   release [v,ov,iv] []):=by intro _;rfl):PG X (.Subscript o i pos) (Jn to ti t):=by
 intro LP s σ H v u Q I r h;rw[ha];refine yF (yS (aA (ho LP s σ H _ I h) fun ov s1 hq0=>?_));obtain⟨x,H1,I1,r1,q1⟩:=hq0;refine yF (yS (aA (hi LP s1 σ H1 _ I1 q1) fun iv s2 hq0=>?_));obtain⟨y,H2,I2,r2,q2⟩:=hq0;refine yF (wpAny_standAt (yF (yS (aA (hs LP s2 σ H2 x y v ov iv u _ I2 r1 r2 r q2) fun _ s3 hq0=>?_))));obtain⟨H3,I3,q3⟩:=hq0;exact wpAny_release ⟨σ,H3,I3,q3⟩
noncomputable def sP(te:TE)(g:TG):TS:=fun D σ H=>te σ H fun x H1=>g x σ H1 D.nx
theorem DI{tg e:Expr}{te:TE}{g:TG}(he:PE X e te)(hg:PG X tg g)(hs:swapsWithSole [tg] e pos.line X.env=pure false:=by rfl)(hw:swappedStores [tg] e X.env=pure none:=by rfl)
  (h1:(assignEach [tg] X.env).map (·.2)=[assign tg X.env]:=by rfl):PS X (.Assign [tg] e pos) (sP te g):=by
 intro LP s σ H D I h;refine wpAny_Assign_stores (aA (he LP s σ H _ I h) fun v s1 hq0=>?_) hs hw;obtain⟨x,H1,I1,r1,q1⟩:=hq0;rw[h1];exact aA (hg LP s1 σ H1 x v _ I1 r1 q1) fun _ s2 q=>q
theorem DF{i:Nat}{x:Str}{e:Expr}{te:TE}{pos':Pos}(hN:X.N.Nodup)(hi:X.N[i]?=some x)(hx:Loc X.env.scope x)(he:PE X e te)(hs:swapsWith e (some (.Name x pos')) pos.line X.env=pure false:=by rfl)(hf:X.fn x=true\/X.env.scope.names.lookup x=some .local:=by first|exact .inl rfl|exact .inr rfl|assumption) :
  PS X (.Assign [.Name x pos'] e pos) (sP te (my i)):=by
 intro LP s σ H D I h;refine wpAny_Assign_Name (aA (he LP s σ H _ I h) fun v s1 hq0=>?_) hs;obtain⟨y,H1,I1,r1,q1⟩:=hq0;exact pj I1 hN hi hx r1 (fun s2 I2=>⟨_,H1,I2,q1⟩) hf
def FR(to ti te:TE)(tget:V->V->Hp->VK->Prop)(tip:AE)(tset:qE):TS:=fun D σ H=>to σ H fun o H1=>ti σ H1 fun i H2=>tget o i H2 fun x H3=>te σ H3 fun y H4=>tip x y H4 fun z H5=>tset o i z H5 fun H6=>D.nx σ H6
def zf(X:Cx)(t:V->V->Hp->VK->Prop):Prop :=
 ∀(LP:List (Addr×Obj))(s:Shared)(σ:St)(H:Hp)(o i:V)(ov iv:Value)(Q:VK),Inv X LP σ H s->RelV o ov->RelV i iv->t o i H Q ->
  wpAny (model X.prog X.w) X.A (getItem ov iv) (EP X LP σ Q) X.xe s
theorem BH{o i e:Expr}{to ti te:TE}{tget:V->V->Hp->VK->Prop}{tip:AE}{tset:qE}{op:Operator}{tpos:Pos}(ho:PE X o to)(hi:PE X i ti)(hg:zf X tget)(he:PE X e te)(hp:AH X op tip)(hs:ui X tset)
  (ha:∀ov iv new,augStore i ov iv new=(do holding [new,ov,iv] (setItem ov iv new);release [new,ov,iv] [];pure .next):=by intros;rfl):PS X (.AugAssign (.Subscript o i tpos) op e pos) (FR to ti te tget tip tset):=by
 intro LP s σ H D I h;refine wpAny_AugAssign_SubscriptAny (aA (ho LP s σ H _ I h) fun ov s1 hq0=>?_) ha;obtain⟨x1,H1,I1,r1,q1⟩:=hq0;refine aA (hi LP s1 σ H1 _ I1 q1) fun iv s2 hq0=>?_
 obtain⟨x2,H2,I2,r2,q2⟩:=hq0;refine aA (hg LP s2 σ H2 x1 x2 ov iv _ I2 r1 r2 q2) fun old s3 hq0=>?_
 obtain⟨x3,H3,I3,r3,q3⟩:=hq0;refine aA (he LP s3 σ H3 _ I3 q3) fun v s4 hq0=>?_
 obtain⟨x4,H4,I4,r4,q4⟩:=hq0;refine aA (hp LP s4 σ H4 x3 x4 old v _ I4 r3 r4 q4) fun new s5 hq0=>?_
 obtain⟨x5,H5,I5,r5,q5⟩:=hq0;exact aA (hs LP s5 σ H5 x1 x2 x5 ov iv new _ I5 r1 r2 r5 q5) fun _ s6 ⟨H6,I6,q6⟩=>⟨σ,H6,I6,q6⟩
noncomputable def HM(f:Int->Int->Int):AE:=fun x y H Q=>∃i j,x=.int i/\y=.int j/\Q (.int (f i j)) H
theorem ER:AH X .Add (HM fun i j=>i+j):=by
 intro LP s σ H x y v u Q I r1 r2 h;obtain⟨i,j,e1,e2,q⟩:=h;subst e1;subst e2;obtain⟨t,rfl⟩:=r1;obtain⟨t',rfl⟩:=r2;exact iadd_int ⟨.int _,H,I.tok _,⟨_,rfl⟩,q⟩
theorem EQ:AH X .Sub (HM fun i j=>i-j):=by
 intro LP s σ H x y v u Q I r1 r2 h;obtain⟨i,j,e1,e2,q⟩:=h;subst e1;subst e2;obtain⟨t,rfl⟩:=r1;obtain⟨t',rfl⟩:=r2;exact isub_int ⟨.int _,H,I.tok _,⟨_,rfl⟩,q⟩
end
section
variable{X:Cx}{pos:Pos}
def CP(c:TT)(tb:TS):TS:=fun D σ H=>∃W:Nat->St->Hp->Prop,(∃m,W m σ H)/\∀m σ H,W m σ H ->
 c σ H fun b H1=>if b=true then ∃N:St->Hp->Prop,(∀σ' H',N σ' H'->∃m',m'<m/\W m' σ' H')/\tb { D with nx:=N,ct:=N,bk:=D.nx } σ H1 else D.nx σ H1
theorem xt{c:Expr}{body:List Stmt}{tc:TT}{tb:TS}(hp:PassesOwn (model X.prog X.w) X.A X.env X.xe)(hc:PT X c tc)(hb:PSs X body tb):PS X (.While c body [] pos) (CP tc tb):=by
 intro LP s σ H D I h;obtain⟨W,⟨m0,w0⟩,turn⟩:=h;refine wpAny_While (codeAny_whileLoop (fun n s'=>∃σ' H',Inv X LP σ' H' s'/\W n σ' H') ?_ m0 ⟨σ,H,I,w0⟩);rintro n s1 ⟨σ1,H1,I1,w1⟩;refine wpAny_passesOwn hp (aA (hc LP s1 σ1 H1 _ I1 (turn n σ1 H1 w1)) fun b s2 hq0=>?_);obtain⟨H2,I2,q2⟩:=hq0;cases b with
 |true =>
  obtain⟨N,hN,q2⟩:=q2;rw[yI rfl];refine wpAny_passesOwn hp (aA (hb LP s2 σ1 H2 _ I2 q2) fun f s3 q3=>?_);cases f with
  |next =>
   obtain⟨σ3,H3,I3,n3⟩:=q3;obtain⟨m',hm,w3⟩:=hN σ3 H3 n3;exact⟨m',hm,σ3,H3,I3,w3⟩
  |cont =>
   obtain⟨σ3,H3,I3,n3⟩:=q3;obtain⟨m',hm,w3⟩:=hN σ3 H3 n3;exact⟨m',hm,σ3,H3,I3,w3⟩
  |brk=>exact q3
  |ret v=>exact q3
 |false =>
  rw[yH Bool.false_ne_true];exact wpAny_execs_nil ⟨σ1,H2,I2,q2⟩
end
structure It where
 go:Nat->Hp->Prop
 yld:Nat->Hp->V->Hp->Prop
 stop:Nat->Hp->Prop
def dg(X:Cx)(LP:List (Addr×Obj))(H:Hp)(b:Addr):Prop :=
 H b=none/\b≠X.env.locals/\b∉X.fs/\(b∈X.ex\/X.s₀.heap.objs.size<=b)/\(∀x c,X.env.cells.lookup x=some c->c≠b)/\∀p∈X.pn++LP,p.1≠b
theorem Inv.fpOk{X:Cx}{LP:List (Addr×Obj)}{σ:St}{H H':Hp}{s:Shared}{b:Addr}(I:Inv X LP σ H s)(hb:s.heap.objs.size<=b)(hn:H' b=none):dg X LP H' b:=by
 refine⟨hn,Nat.ne_of_gt (zJ I.lt hb),I.nofs hb,.inr (z5 I.sz hb),fun x c e z=>?_,fun p hp z=>?_⟩
 ·obtain⟨v,q⟩:=I.cell x c e
  exact absurd (zJ q.lt (by rw[z];exact hb)) (xB _)
 ·exact absurd (zJ (yJ (I.pin p hp).1) (by rw[z];exact hb)) (xB _)
structure jr(P:Program)(w:World)(K:Frag)(tg:Expr)(J:It)(fp:List Addr)(it:Addr)(tn:Nat->Heap->Prop):Prop where
 mem:it∈fp
 obj:∀i h,tn i h->∀b∈fp,∃o,h.get? b=some o/\∀v,o.data≠.cell v
 keep:∀i h h',tn i h->(∀b∈fp,∀o,h.get? b=some o->h'.get? b=some o)->tn i h'
 item:∀(X:Cx),X.prog=P->X.w=w->X.K=K->X.calm=true->∀(i:Nat)(LP:List (Addr×Obj))(s:Shared)(σ:St)(H:Hp)(E:Value->Shared->Prop),Inv X LP σ H s->(∀b∈fp,dg X LP H b)->tn i s.heap->J.go i H ->
  wpAny (model P w) X.A (pyNext (.ref it)) (fun r s1=>∃u,r=some u /\
   wpAny (model P w) X.A (letOwnedTupleGo tg (.ref it) u) (fun _ s2=>∃x H',Inv X LP σ H' s2/\RelV x u/\J.yld i H x H'/\tn (i+1) s2.heap/\∀b∈fp,H' b=none) E s1) E s
 done:∀(X:Cx),X.prog=P->X.w=w->X.K=K->X.calm=true->∀(i:Nat)(LP:List (Addr×Obj))(s:Shared)(σ:St)(H:Hp)(E:Value->Shared->Prop),Inv X LP σ H s->(∀b∈fp,dg X LP H b)->tn i s.heap->J.stop i H ->
  wpAny (model P w) X.A (pyNext (.ref it)) (fun r s1=>r=none/\Inv X LP σ H s1) E s
 self:∀(A:Around)(i:Nat)(s:Shared)(Q:Value->Shared->Prop)(E:Value->Shared->Prop),tn i s.heap->Q (.ref it) s->wpAny (model P w) A (pyIter (.ref it)) Q E s
abbrev TI:=St->Hp->(It->Hp->Prop)->Prop
def Fx(X:Cx)(LP:List (Addr×Obj))(σ:St)(tg:Expr)(R:It->Hp->Prop)(itv:Value)(s2:Shared):Prop :=
 ∃(it:Addr)(fp:List Addr)(tn:Nat->Heap->Prop)(J:It)(H':Hp),itv=.ref it/\Inv X LP σ H' s2/\jr X.prog X.w X.K tg J fp it tn/\tn 0 s2.heap/\(∀b∈fp,dg X LP H' b)/\R J H'
def PI(X:Cx)(tg iter:Expr)(wi:TI):Prop :=
 ∀(LP:List (Addr×Obj))(s:Shared)(σ:St)(H:Hp)(R:It->Hp->Prop),Inv X LP σ H s->wi σ H R ->
  wpAny (model X.prog X.w) X.A (eval iter X.env) (fun v s1=>wpAny (model X.prog X.w) X.A (pyIter v) (Fx X LP σ tg R) X.xe s1) X.xe s
theorem mw{M:Model}{A:Around}{E:Value->Shared->Prop}{s:Shared}{tg:Expr}{it:Addr}{u:Value}{o:Obj}{n:String}{vs:Array Value}{Q:Unit->Shared->Prop}(ho:s.heap.get? it=some o)(hc:o.cls=.type n)(hd:o.data=.fields vs)
  (hn:["enumerate","zip","dict_itemiterator","dict_reverseitemiterator","odict_iterator","itertools.zip_longest","itertools.pairwise"].contains n=false) (hQ:Q () s):wpAny M A (letOwnedTupleGo tg (.ref it) u) Q E s:=by
 unfold letOwnedTupleGo;cases tg<;>first
  |exact yG hQ
  | (cases u <;> first
    |exact yG hQ
    | (refine yF (wpAny_load ho ?_)
       rw[hc,hd];show wpAny M A (if(["enumerate","zip","dict_itemiterator","dict_reverseitemiterator","odict_iterator","itertools.zip_longest","itertools.pairwise"].contains n&&vs[0]?==some (rawInt _))=true then _ else _) Q E s;rw[yH (by intro h;rw[hn,Bool.false_and]at h;cases h)];exact yG hQ))
noncomputable def AM(K:Frag)(a:Addr):It :=
 ⟨fun i H=>∃xs x,bB K H a xs/\xs[i]?=some x,fun i H x H'=>H'=H/\∀xs,bB K H a xs->xs[i]?=some x,fun i H=>∃xs,bB K H a xs/\xs.length<=i⟩
noncomputable def AK(K:Frag)(a:Addr):It :=
 ⟨fun i H=>∃xs x,gi K H a xs/\xs[i]?=some x,fun i H x H'=>H'=H/\∀xs,gi K H a xs->xs[i]?=some x,fun i H=>∃xs,gi K H a xs/\xs.length<=i⟩
noncomputable def wI(lo:Int)(n:Nat):It:=⟨fun i _=>i<n,fun i H x H'=>H'=H/\x=.int (lo+i),fun i _=>n<=i⟩
theorem ux{P:Program}{w:World}{K:Frag}{tg:Expr}(a it:Addr):jr P w K tg (AM K a) [it] it (fun i h=>h.IsListIter it a i) where
 mem:=by simp
 obj:=fun i h st b hb=>by
  have e:b=it:=by simpa using hb
  subst e;obtain⟨o,e,c,d⟩:=st;exact⟨o,e,fun v z=>by rw[d]at z;cases z⟩
 keep:=fun i h h' st k=>st.at fun o e=>k it (by simp) o e
 item:=by
  intro X hP hw hK hc i LP s σ H E I hf st hg;subst hP hw hK;obtain⟨xs,x,hq,hx⟩:=hg;obtain⟨LU,rv,p,hz⟩:=I.list hq;obtain⟨u,hu,ru⟩:=rv.get hx;obtain⟨f0,f1,f2,f3,f4,f5⟩:=hf it (by simp);refine wpAny_pyNext_list_item st p.isList (x:=u) (by simpa using hu) fun h' st' sb=>?_
  have I1:Inv X LP σ H { s with heap:=h' }:=I.turned (t':=s.toks) (fun b o hb e=>(sb.2 b hb).trans e) f0 f1 f3 f4 f5;obtain⟨o,e,c,d⟩:=id st';exact⟨u,rfl,mw (s:={ s with heap:=h' }) e c d dC ⟨x,H,I1,ru,⟨rfl,fun ys hy=>by rw[I.list_inj hy hq];exact hx⟩,st',fun b hb=>(hf b hb).1⟩⟩
 done:=by
  intro X hP hw hK hc i LP s σ H E I hf st hg;subst hP hw hK;obtain⟨xs,hq,hx⟩:=hg;obtain⟨LU,rv,p,hz⟩:=I.list hq;obtain⟨f0,f1,f2,f3,f4,f5⟩:=hf it (by simp);have hl:=rv.length;exact wpAny_pyNext_list_end (I.ok.hd hc) st p.isList (by simp;lia) fun h' eb=>⟨rfl,I.turned (t':=s.toks) (fun b o hb e=>eb b o hb e) f0 f1 f3 f4 f5⟩
 self:=fun _ _ _ _ _ st h=>wpAny_pyIter_listiter st h
theorem sG{P:Program}{w:World}{K:Frag}{tg:Expr}(a it:Addr):jr P w K tg (AK K a) [it] it (fun i h=>h.IsTupleIter it a i) where
 mem:=by simp
 obj:=fun i h st b hb=>by
  have e:b=it:=by simpa using hb
  subst e;obtain⟨o,e,c,d⟩:=st;exact⟨o,e,fun v z=>by rw[d]at z;cases z⟩
 keep:=fun i h h' st k=>st.at fun o e=>k it (by simp) o e
 item:=by
  intro X hP hw hK hc i LP s σ H E I hf st hg;subst hP hw hK;obtain ⟨xs,x,hq,hx⟩:=hg;obtain ⟨LU,rv,p,hz⟩:=I.tuple hq;obtain ⟨u,hu,ru⟩:=rv.get hx;obtain ⟨f0,f1,f2,f3,f4,f5⟩:=hf it (by simp);refine wpAny_pyNext_tuple_item st (show s.heap.IsTuple a LU.toArray from p) (x:=u) (by simpa using hu) fun h' st' sb=>?_
  have I1:Inv X LP σ H { s with heap:=h' }:=I.turned (t':=s.toks) (fun b o hb e=>(sb.2 b hb).trans e) f0 f1 f3 f4 f5;obtain⟨o,e,c,d⟩:=id st';exact⟨u,rfl,mw (s:={ s with heap:=h' }) e c d dC ⟨x,H,I1,ru,⟨rfl,fun ys hy=>by rw[I.tuple_inj hy hq];exact hx⟩,st',fun b hb=>(hf b hb).1⟩⟩
 done:=by
  intro X hP hw hK hc i LP s σ H E I hf st hg;subst hP hw hK;obtain ⟨xs,hq,hx⟩:=hg;obtain ⟨LU,rv,p,hz⟩:=I.tuple hq;obtain ⟨f0,f1,f2,f3,f4,f5⟩:=hf it (by simp);have hl:=rv.length;exact wpAny_pyNext_tuple_end (I.ok.hd hc) st (show s.heap.IsTuple a LU.toArray from p) (by simp;lia) fun h' eb=>⟨rfl,I.turned (t':=s.toks) (fun b o hb e=>eb b o hb e) f0 f1 f3 f4 f5⟩
 self:=fun _ _ _ _ _ st h=>wpAny_pyIter_tupleiter st h
theorem sH{P:Program}{w:World}{K:Frag}{tg:Expr}(it:Addr)(lo:Int)(n:Nat):jr P w K tg (wI lo n) [it] it (fun i h=>IsRangeIter h it (lo+(i:Nat)*1) ((n:Int)-(i:Nat)) 1) where
 mem:=by simp
 obj:=fun i h st b hb=>by
  have e:b=it:=by simpa using hb
  subst e;exact⟨_,st,fun v z=>by
   have z':Data.fields _=Data.cell v:=z;cases z'⟩
 keep:=fun i h h' st k=>k it (by simp) _ st
 item:=by
  intro X hP hw hK hc i LP s σ H E I hf st hg;subst hP hw hK;obtain⟨f0,f1,f2,f3,f4,f5⟩:=hf it (by simp);have W:=Walks.range (prog:=X.prog) (w:=X.w) (I.ok.hd hc) it lo 1 n;refine W.item i s _ _ hg st fun v h' tk hv st' kk=>?_
  obtain⟨t,rfl⟩:=hv;have I1:Inv X LP σ H { s with heap:=h',toks:=tk }:=I.turned (fun b o hb e=>kk b o (by simpa using hb) e) f0 f1 f3 f4 f5;refine⟨_,rfl,mw (s:={ s with heap:=h',toks:=tk }) (n:="range_iterator") st' rfl rfl dC ⟨.int (lo+i),H,I1,⟨t,?_⟩,⟨rfl,rfl⟩,st',fun b hb=>(hf b hb).1⟩⟩;rw[Int.mul_one]
 done:=by
  intro X hP hw hK hc i LP s σ H E I hf st hg;subst hP hw hK;obtain⟨f0,f1,f2,f3,f4,f5⟩:=hf it (by simp);exact wpAny_pyNext_range_end (I.ok.hd hc) st (by have:n<=i:=hg;lia) fun h' eb=>⟨rfl,I.turned (t':=s.toks) (fun b o hb e=>eb b o hb e) f0 f1 f3 f4 f5⟩
 self:=fun _ _ _ _ _ st h=>wpAny_pyIter_rangeiter st h
section
variable{X:Cx}{tg:Expr}
theorem pA{LP:List (Addr×Obj)}{σ:St}{H:Hp}{s:Shared}{R:It->Hp->Prop}{E:Value->Shared->Prop}{lo hi:Int}{t u v:Tok}{tk:Nat}(I:Inv X LP σ H s)(h1:-(2^62)<=lo)(h2:lo<2^62)(h3:-(2^62)<=hi)(h4:hi<2^62)
  (q:R (wI lo (hi-lo).toNat) H):wpAny (model X.prog X.w) X.A (pyIter (.ref s.heap.objs.size)) (Fx X LP σ tg R) E { s with heap:=s.heap.push { cls:=.type "range",data:=.fields #[.int lo t,.int hi u,.int 1 v] },toks:=tk }:=by
 refine wpAny_pyIter_range (IsRange.new ..) (small_one h1 h2 h3 h4) ?_;have I1:Inv X LP σ H { s with heap:=s.heap.push { cls:=.type "range",data:=.fields #[.int lo t,.int hi u,.int 1 v] },toks:=tk }:=I.kept fun b o e=>zG _ e
 refine⟨(s.heap.push { cls:=.type "range",data:=.fields #[.int lo t,.int hi u,.int 1 v] }).objs.size,[(s.heap.push { cls:=.type "range",data:=.fields #[.int lo t,.int hi u,.int 1 v] }).objs.size],_,_,H,rfl,
  I1.kept (t':=tk) fun b o e=>zG _ e,sH _ lo (hi-lo).toNat,?_,fun b hb=>?_,q⟩
 ·have e1:lo+((0:Nat):Int)*1=lo:=by simp
  have e2:(((hi-lo).toNat:Nat):Int)-((0:Nat):Int)=Builtin.Range.rangeSize lo hi 1:=by rw[rangeSize_one];split<;>lia
  show IsRangeIter _ _ (lo+((0:Nat):Int)*1) ((((hi-lo).toNat:Nat):Int)-((0:Nat):Int)) 1;rw[e1,e2];exact zY _ rfl
 ·have e:b=(s.heap.push { cls:=.type "range",data:=.fields #[.int lo t,.int hi u,.int 1 v] }).objs.size:=by simpa using hb
  subst e;exact I1.fpOk (zP _) (I1.LZ.fresh (zP _))
def GK(ta:TA):TI:=fun σ H R=>ta σ H fun vs H1=>∃j:Int,vs=[.int j]/\-(2^62)<=j/\j<2^62/\R (wI 0 j.toNat) H1
def GJ(ta:TA):TI:=fun σ H R=>ta σ H fun vs H1=>∃i j:Int,vs=[.int i,.int j]/\(-(2^62)<=i/\i<2^62/\-(2^62)<=j/\j<2^62)/\R (wI i (j-i).toNat) H1
theorem vp{a:Expr}{ta:TA}{p pos:Pos}(hg:Gl X "range")(hm:X.mg "range"=none)(ha:PA X [a] ta)(hs:starEach [a] X.env=[(false,eval a X.env)]:=by rfl):PI X tg (.Call (.Name "range" p) [a] [] pos) (GK ta):=by
 intro LP s σ H R I h;refine Call_ (c7 I hg hm boot_range (PyProof.Rows.callWith_type1 (aA (ha pos LP s σ H _ I h) fun us s1 hq0=>?_) hs rfl));obtain⟨vs,H1,I1,r1,q1⟩:=hq0;obtain⟨j,e,q1,q2,q⟩:=q1;subst e;cases r1 with
 |cons r rr =>
  cases rr;obtain⟨t,rfl⟩:=r;exact call_range_1 (pA I1 oM oM q1 q2 (by simpa using q))
theorem vo{a b:Expr}{ta:TA}{p pos:Pos}(hg:Gl X "range")(hm:X.mg "range"=none)(ha:PA X [a,b] ta)(hs:starEach [a,b] X.env=[(false,eval a X.env),(false,eval b X.env)]:=by rfl)(hs2:starEach [b] X.env=[(false,eval b X.env)]:=by rfl) :
  PI X tg (.Call (.Name "range" p) [a,b] [] pos) (GJ ta):=by
 intro LP s σ H R I h;refine Call_ (c7 I hg hm boot_range (PyProof.Rows.callWith_type1 (aA (ha pos LP s σ H _ I h) fun us s1 ⟨vs,H1,I1,r1,q1⟩=>?_) (by rw[hs,hs2]) (by rw[hs2];rfl)));obtain⟨i,j,e,⟨q1,q2,q3,q4⟩,q⟩:=q1;subst e;cases r1 with
 |cons r rr =>
  cases rr with
  |cons r' rr =>
   cases rr;obtain⟨t,rfl⟩:=r;obtain⟨t',rfl⟩:=r';exact call_range_2 (pA I1 q1 q2 q3 q4 q)
def IL(wi:TI)(g:TG)(tb:TS):TS:=fun D σ H=>wi σ H fun J H1=>∃W:Nat->Nat->St->Hp->Prop,(∃m,W 0 m σ H1)/\∀i m σ H,W i m σ H ->
 (J.stop i H/\D.nx σ H)\/(J.go i H/\∃N:St->Hp->Prop,(∀σ' H',N σ' H'->∃m',m'<m/\W (i+1) m' σ' H')/\∀x H',J.yld i H x H'->g x σ H' fun σ2 H2=>tb { D with nx:=N,ct:=N,bk:=D.nx } σ2 H2)
noncomputable def fi(fp:List Addr)(h:Heap):List (Addr×Obj):=fp.filterMap fun b=>(h.get? b).map fun o=>(b,o)
theorem cR{fp:List Addr}{h:Heap}{b:Addr}{o:Obj}(hb:b∈fp)(e:h.get? b=some o):(b,o)∈fi fp h:=List.mem_filterMap.mpr ⟨b,hb,by rw[e];rfl⟩
theorem vy{fp:List Addr}{h:Heap}{p:Addr×Obj}(hp:p∈fi fp h):p.1∈fp/\h.get? p.1=some p.2:=by
 obtain⟨b,hb,e⟩:=List.mem_filterMap.mp hp;cases q:h.get? b with
 |none=>rw[q]at e;cases e
 |some o =>
  rw[q]at e;have e':(b,o)=p:=yE e;subst e';exact⟨hb,q⟩
theorem Inv.pinned{LP:List (Addr×Obj)}{σ:St}{H:Hp}{s:Shared}{fp:List Addr}(I:Inv X LP σ H s)(hf:∀b∈fp,dg X LP H b)(ho:∀b∈fp,∃o,s.heap.get? b=some o/\∀v,o.data≠.cell v):Inv X (LP++fi fp s.heap) σ H s :=
 I.pins_of fun p hp=>(zZ.mp hp).elim (fun z=>I.pin p (zK _ z)) fun z=>by
  obtain⟨hb,e⟩:=vy z;obtain⟨f0,f1,f2,_⟩:=hf p.1 hb;obtain⟨o,e',d⟩:=ho p.1 hb;rw[e]at e';cases e';exact⟨e,f0,f1,f2,d⟩
theorem Inv.unpinned{LP pl:List (Addr×Obj)}{σ:St}{H:Hp}{s:Shared}(I:Inv X (LP++pl) σ H s):Inv X LP σ H s:=I.pins_of fun p hp=>I.pin p (zK _ (zL _ hp))
theorem vj{iter:Expr}{body:List Stmt}{wi:TI}{g:TG}{tb:TS}{pos:Pos}(hp:PassesOwn (model X.prog X.w) X.A X.env X.xe)(hc:X.calm=true)(hi:PI X tg iter wi)(hg:PG X tg g)(hb:PSs X body tb)
  (hs:∀x,foldedSetIterable iter X.env x=pure x:=by intro _;rfl):PS X (.For tg iter body [] pos) (IL wi g tb):=by
 intro LP s σ H D I h;refine wpAny_For (aA (hi LP s σ H _ I h) fun v s1 h1=>aA h1 fun itv s2 h2=>?_) hs;obtain⟨it,fp,tn,J,H2,e,I2,T,st2,f2,W,⟨m0,w0⟩,turn⟩:=h2;subst e
 -- what stays true of the iterator's objects through the loop
 have stat:∀{H':Hp},(∀b∈fp,H' b=none)->∀b∈fp,dg X LP H' b:=fun hn b hb=>⟨hn b hb,(f2 b hb).2⟩
 refine codeAny_forLoop_any (fun n s'=>∃i σ' H',Inv X LP σ' H' s'/\tn i s'.heap/\(∀b∈fp,H' b=none)/\W i n σ' H') ?_ m0 ⟨0,σ,H2,I2,st2,fun b hb=>(f2 b hb).1,w0⟩;rintro n s3 ⟨i,σ3,H3,I3,st3,fr3,w3⟩;rcases turn i n σ3 H3 w3 with⟨stop,qn⟩|⟨go,N,hN,step⟩
 ·refine wpAny_passesOwn hp (aA (T.done X rfl rfl rfl hc i LP s3 σ3 H3 X.xe I3 (stat fr3) st3 stop) fun r s4 hq0=>?_)
  obtain⟨hr,I4⟩:=hq0;subst hr;exact wpAny_execs_nil ⟨σ3,H3,I4,qn⟩
 ·refine wpAny_passesOwn hp (aA (T.item X rfl rfl rfl hc i LP s3 σ3 H3 X.xe I3 (stat fr3) st3 go) fun r s4 hq0=>?_)
  obtain⟨u,hr,h4⟩:=hq0;subst hr;refine wpAny_passesOwn hp (aA h4 fun _ s5 hq0=>?_);obtain⟨x,H5,I5,r5,y5,st5,fr5⟩:=hq0;have I5':=I5.pinned (stat fr5) (T.obj _ _ st5);refine wpAny_passesOwn hp (aA (hg _ s5 σ3 H5 x u _ I5' r5 (step x H5 y5)) fun _ s6 hq0=>?_);obtain⟨σ6,H6,I6,q6⟩:=hq0;refine wpAny_passesOwn hp (aA (hb _ s6 σ6 H6 _ I6 q6) fun f s7 q7=>?_);have again:∀{σ7:St}{H7:Hp},Inv X (LP++fi fp s5.heap) σ7 H7 s7->N σ7 H7->∃m,m<n/\∃i σ' H',Inv X LP σ' H' s7/\tn i s7.heap/\(∀b∈fp,H' b=none)/\W i m σ' H':=fun {σ7 H7} I7 n7=>by
   obtain⟨m',hm,w7⟩:=hN σ7 H7 n7;refine⟨m',hm,i+1,σ7,H7,I7.unpinned,T.keep _ _ _ st5 fun b hb o e=>(I7.pin (b,o) (zK _ (zK _ (cR hb e)))).1,fun b hb=>?_,w7⟩;obtain⟨o,e,d⟩:=T.obj _ _ st5 b hb;exact(I7.pin (b,o) (zK _ (zK _ (cR hb e)))).2.1
  cases f with
  |next=>obtain⟨σ7,H7,I7,n7⟩:=q7;exact again I7 n7
  |cont=>obtain⟨σ7,H7,I7,n7⟩:=q7;exact again I7 n7
  |brk=>obtain⟨σ7,H7,I7,q7⟩:=q7;exact⟨σ7,H7,I7.unpinned,q7⟩
  |ret v=>obtain⟨x7,σ7,H7,I7,r7,q7⟩:=q7;exact⟨x7,σ7,H7,I7.unpinned,r7,q7⟩
end
abbrev R2:=V->V->Hp->VK->Prop
def jX(X:Cx)(f:Value->Value->Sem Value)(r:R2):Prop :=
 ∀(LP:List (Addr×Obj))(s:Shared)(σ:St)(H:Hp)(x y:V)(v u:Value)(Q:VK),Inv X LP σ H s->RelV x v->RelV y u->r x y H Q ->
  wpAny (model X.prog X.w) X.A (f v u) (EP X LP σ Q) X.xe s
def wE(X:Cx)(f:Value->Sem Value)(r:V->Hp->VK->Prop):Prop :=
 ∀(LP:List (Addr×Obj))(s:Shared)(σ:St)(H:Hp)(x:V)(v:Value)(Q:VK),Inv X LP σ H s->RelV x v->r x H Q ->
  wpAny (model X.prog X.w) X.A (f v) (EP X LP σ Q) X.xe s
def cw(X:Cx)(f:Value)(r:List V->Hp->VK->Prop):Prop :=
 ∀(LP:List (Addr×Obj))(s:Shared)(σ:St)(H:Hp)(xs:List V)(us:List Value)(Q:VK),Inv X LP σ H s->Vals xs us->r xs H Q ->
  wpAny (model X.prog X.w) X.A (call f us) (EP X LP σ Q) X.xe s
def Jz(X:Cx)(r:V->Hp->(Bool->Hp->Prop)->Prop):Prop :=
 ∀(LP:List (Addr×Obj))(s:Shared)(σ:St)(H:Hp)(x:V)(v:Value)(Q:Bool->Hp->Prop),Inv X LP σ H s->RelV x v->r x H Q ->
  wpAny (model X.prog X.w) X.A (truthy v) (TP X LP σ Q) X.xe s
noncomputable def uV(r:R2)(ta tb:TE):TE:=fun σ H Q=>ta σ H fun x H1=>tb σ H1 fun y H2=>r x y H2 Q
def Ho(r:V->Hp->VK->Prop)(ta:TE):TE:=fun σ H Q=>ta σ H fun x H1=>r x H1 Q
def rU(g:Int->V):V->Hp->VK->Prop:=fun x H Q=>∃i,x=.int i/\Q (g i) H
section
variable{X:Cx}{a b c:Expr}{ta tb tc:TE}{pos:Pos}
theorem za(ha:PE X a ta)(hb:PE X b tb){LP:List (Addr×Obj)}{s:Shared}{σ:St}{H:Hp}{R:V->V->Hp->Prop}(I:Inv X LP σ H s)
  (h:ta σ H fun x H1=>tb σ H1 fun y H2=>R x y H2) {Q:Value->Shared->Prop}{f:Value->Value->Sem Value}
  (hf:∀v u s2 x y H2,Inv X LP σ H2 s2->RelV x v->RelV y u->R x y H2->wpAny (model X.prog X.w) X.A (f v u) Q X.xe s2) :
  wpAny (model X.prog X.w) X.A (eval a X.env) (fun v s₁=>wpAny (model X.prog X.w) X.A (eval b X.env) (fun u s₂=>wpAny (model X.prog X.w) X.A (f v u) Q X.xe s₂) X.xe s₁) X.xe s:=by
 refine aA (ha LP s σ H _ I h) fun v s1 hq0=>?_
 obtain⟨x,H1,I1,r1,q1⟩:=hq0;refine aA (hb LP s1 σ H1 _ I1 q1) fun u s2 hq0=>?_
 obtain⟨y,H2,I2,r2,q2⟩:=hq0;exact hf v u s2 x y H2 I2 r1 r2 q2
theorem td{op:Operator}{r:R2}(ho:jX X (binaryOp op) r)(ha:PE X a ta)(hb:PE X b tb):PE X (.BinOp a op b pos) (uV r ta tb):=by
 intro LP s σ H Q I h;exact wpAny_BinOp (za ha hb I h fun v u s2 x y H2 I2 rx ry q=>ho LP s2 σ H2 x y v u Q I2 rx ry q)
theorem Gh{op:UnaryOp}{r:V->Hp->VK->Prop}(ho:wE X (unaryOp op) r)(ha:PE X a ta):PE X (.UnaryOp op a pos) (Ho r ta):=by
 intro LP s σ H Q I h;exact UnaryOp_ (aA (ha LP s σ H _ I h) fun v s1 ⟨x,H1,I1,r1,q1⟩=>ho LP s1 σ H1 x v Q I1 r1 q1)
def JB(i j:Int):Prop:=0<=j/\j<=1000000/\i.natAbs<2^64
theorem sF(k:Nat):(0:Int)<=2^k:=by
 rw[two_pow_cast];exact Int.natCast_nonneg _
theorem Hn{f:Value->Sem Value}{g:Int->Int}
  (rule:∀(i:Int)(t:Tok)(s:Shared)(Q:Value->Shared->Prop)(E:Value->Shared->Prop),Q (.int (g i) s.toks) { s with toks:=s.toks+1 }->wpAny (model X.prog X.w) X.A (f (.int i t)) Q E s) :
  wE X f (rU fun i=>.int (g i)):=by
 intro LP s σ H x v Q I rx h;obtain⟨i,rfl,q⟩:=h;obtain⟨t,rfl⟩:=rx;exact rule i t s _ _ ⟨.int (g i),H,I.tok _,⟨_,rfl⟩,q⟩
theorem Cz:wE X (unaryOp .USub) (rU fun i=>.int (-i)):=Hn fun _ _ _ _ _ q=>neg_int q
theorem CA:wE X (unaryOp .Invert) (rU fun i=>.int (Builtin.bitNot i)):=Hn fun _ _ _ _ _ q=>invert_int q
end
section
variable{X:Cx}{a b c:Expr}{ta tb tc:TE}{pos:Pos}
theorem BU{op:CmpOp}{r:R2}(ho:jX X (compareOp op) r)(ha:PE X a ta)(hb:PE X b tb)(hm:behindInMarks op b=false):PE X (.Compare a [op] [b] pos) (uV r ta tb):=by
 intro LP s σ H Q I h;exact wpAny_Compare1 (za ha hb I h fun v u s2 x y H2 I2 rx ry q=>ho LP s2 σ H2 x y v u Q I2 rx ry q) hm
noncomputable def FM(t:TE):TT:=fun σ H Q=>t σ H fun x H'=>∃k,x=.bl k/\Q k H'
theorem BC{op:CmpOp}{r:R2}(ho:jX X (compareOp op) r)(ha:PE X a ta)(hb:PE X b tb)(hm:behindInMarks op b=false):PT X (.Compare a [op] [b] pos) (FM (uV r ta tb)):=by
 intro LP s σ H Q I h;refine wpAny_isTrue_Compare1 (aA (ha LP s σ H _ I h) fun v s1 ⟨x,H1,I1,r1,q1⟩=>aA (hb LP s1 σ H1 _ I1 q1) fun u s2 ⟨y,H2,I2,r2,q2⟩ =>
  aA (ho LP s2 σ H2 x y v u _ I2 r1 r2 q2) fun c s3 ⟨z,H3,I3,r3,k,e,q3⟩=>?_) hm
 subst e;cases r3;exact wpAny_truthy_bool ⟨H3,I3,q3⟩
def zd(K:Frag)(x:V)(H:Hp)(k:Bool):Prop :=
 match x with
 |.non=>k=false
 |.bl b=>k=b
 |.int i=>k=(i !=0)
 |.str y=>y.length<=sizeLine/\k=((y.length:Int) !=0)
 |.byt y=>y.size<=sizeLine/\k=((y.size:Int) !=0)
 |.ref p=>(∃xs,bB K H p xs/\k=!xs.isEmpty)\/(∃xs,gi K H p xs/\k=!xs.isEmpty)\/∃LR,H p=some (.dK LR)/\k=!LR.isEmpty
 |_=>False
theorem tU{κ:Type}{LR:List (κ×V)}{vs:List (κ×Value)}(r:KV LR vs):(!vs.isEmpty)=!LR.isEmpty:=by
 cases r<;>rfl
theorem mf{xs:List V}{LU:List Value}(r:Vals xs LU):(!LU.toArray.isEmpty)=!xs.isEmpty:=by
 cases r<;>simp
theorem f7:(sizeLine:Nat)<2^63:=by rw[sizeLine_eq];decide
theorem CC:Jz X (fun x H Q=>∃k,zd X.K x H k/\Q k H):=by
 intro LP s σ H x v Q I rx h;obtain⟨k,e,q⟩:=h;have hl:=f7;have hs:sizeLine=16777216:=sizeLine_eq;cases x with
 |non =>
  cases rx;have e':k=false:=e;subst e';exact truthy_none ⟨H,I,q⟩
 |bl b =>
  cases rx;have e':k=b:=e;subst e';exact wpAny_truthy_bool ⟨H,I,q⟩
 |int i =>
  obtain⟨t,rfl⟩:=rx;have e':k=(i !=0):=e;subst e';exact PySem.P.truthy_int ⟨H,I,q⟩
 |str y =>
  obtain⟨t,rfl⟩:=rx;obtain⟨hy,e'⟩:y.length<=sizeLine/\k=((y.length:Int) !=0):=e;subst e';exact PySem.P.truthy_str oM ⟨H,I.tok _,q⟩
 |byt y =>
  obtain⟨t,rfl⟩:=rx;obtain⟨hy,e'⟩:y.size<=sizeLine/\k=((y.size:Int) !=0):=e;subst e';exact truthy_bytes oM ⟨H,I.tok _,q⟩
 |ref p =>
  cases rx;have e':(∃xs,bB X.K H p xs/\k=!xs.isEmpty)\/(∃xs,gi X.K H p xs/\k=!xs.isEmpty)\/∃LR,H p=some (.dK LR)/\k=!LR.isEmpty:=e;rcases e' with⟨xs,hx,e'⟩|⟨xs,hx,e'⟩|⟨LR,hx,e'⟩
  ·subst e'
   obtain⟨LU,r,pl,hz⟩:=I.list hx;have hlen:=r.length;exact wpAny_truthy_list pl.isList (by simp only[zI];lia) ⟨H,I.tok _,by rw[mf r];exact q⟩
  ·subst e'
   obtain⟨LU,r,pl,hz⟩:=I.tuple hx;have hlen:=r.length;exact truthy_tuple pl (by simp only[zI];lia) ⟨H,I.tok _,by rw[mf r];exact q⟩
  ·subst e'
   obtain⟨hz,hS,vs,r,m⟩:LR.length<=sizeLine/\(p==sysModules)=false/\∃vs,KV LR vs/\s.heap.DictOf (bK X.prog X.w) p vs:=I.LZ p _ hx;have hlen:LR.length=vs.length:=Paired.length r;exact wpAny_truthy_dict hS m oM ⟨H,I.tok _,by rw[tU r];exact q⟩
 | _=>exact (show False from e).elim
theorem xp(ha:PE X a ta)(he:∀whole,isTrue a X.env whole=(do let v <- whole;standAt a.pos;holding [v] (truthy v))) :
  PT X a (fun σ H Q=>ta σ H fun x H'=>∃k,zd X.K x H' k/\Q k H'):=by
 intro LP s σ H Q I h;exact isTrue_plain (aA (ha LP s σ H _ I h) fun v s1 ⟨x,H1,I1,r1,q1⟩=>CC LP s1 σ H1 x v Q I1 r1 q1) (he _)
theorem tx:jX X (binaryOp .Add) (fun x y H Q=>∃i j,x=.str i/\y=.str j/\i.length+j.length<=sizeLine/\Q (.str (i++j)) H):=by
 intro LP s σ H x y v u Q I rx ry h;obtain⟨i,j,rfl,rfl,hz,q⟩:=h;obtain⟨t,rfl⟩:=rx;obtain⟨t',rfl⟩:=ry;exact add_str (fun t' tk=>⟨.str (i++j),H,I.tok _,⟨_,rfl⟩,q⟩) hz
theorem dQ{x:V}{us:List Value}(r:Vals [x] us):∃u,us=[u]/\RelV x u:=by
 cases r with
 |cons r1 r2=>cases r2;exact⟨_,rfl,r1⟩
theorem zk{x y:V}{us:List Value}(r:Vals [x,y] us):∃u w',us=[u,w']/\RelV x u/\RelV y w':=by
 cases r with
 |cons r1 r2 =>
  cases r2 with
  |cons r3 r4=>cases r4;exact⟨_,_,rfl,r1,r3⟩
theorem yz:cw X (.builtin "abs") (fun xs H Q=>∃i,xs=[.int i]/\Q (.int (if i<0 then -i else i)) H):=by
 intro LP s σ H xs us Q I r h;obtain⟨i,rfl,q⟩:=h;obtain⟨u,rfl,t,rfl⟩:=dQ r;exact call_abs_int fun u tk=>⟨.int (if i<0 then -i else i),H,I.tok _,⟨_,rfl⟩,q⟩
theorem wq(hc:X.calm=true):cw X (.builtin "max") (fun xs H Q=>∃i j,xs=[.int i,.int j]/\Q (.int (if j > i then j else i)) H):=by
 intro LP s σ H xs us Q I r h;obtain⟨i,j,rfl,q⟩:=h;obtain⟨u,w',rfl,⟨t,rfl⟩,⟨t',rfl⟩⟩:=zk r;refine max_two_ints (I.ok.hd hc) fun h' tk k=>⟨_,H,I.kept k,?_,q⟩
 by_cases hj:j > i
 ·rw[yI hj,yI hj];exact⟨_,rfl⟩
 ·rw[yH hj,yH hj];exact⟨_,rfl⟩
theorem wp(hc:X.calm=true):cw X (.builtin "min") (fun xs H Q=>∃i j,xs=[.int i,.int j]/\Q (.int (if j<i then j else i)) H):=by
 intro LP s σ H xs us Q I r h;obtain⟨i,j,rfl,q⟩:=h;obtain⟨u,w',rfl,⟨t,rfl⟩,⟨t',rfl⟩⟩:=zk r;refine min_two_ints (I.ok.hd hc) fun h' tk k=>⟨_,H,I.kept k,?_,q⟩
 by_cases hj:j<i
 ·rw[yI hj,yI hj];exact⟨_,rfl⟩
 ·rw[yH hj,yH hj];exact⟨_,rfl⟩
theorem ww:cw X (.type "int") (fun xs H Q=>(∃i,xs=[.int i]/\Q (.int i) H)\/∃k,xs=[.bl k]/\Q (.int (if k then 1 else 0)) H):=by
 intro LP s σ H xs us Q I r h;rcases h with⟨i,rfl,q⟩|⟨k,rfl,q⟩
 ·obtain⟨u,rfl,t,rfl⟩:=dQ r
  exact call_int_int ⟨.int i,H,I,⟨_,rfl⟩,q⟩
 ·obtain⟨u,rfl,r1⟩:=dQ r
  cases r1;exact call_int_bool ⟨.int (if k then 1 else 0),H,I.tok _,⟨_,rfl⟩,q⟩
end
structure ObjM(h:Heap)(x dx C:Addr)(mA:Str->Option Value):Prop where
 obj:h.get? x=some (instObj C dx)
 ns:h.Ns1 dx mA
 ne:dx≠x
theorem vF{h:Heap}{dx:Addr}{mA:Str->Option Value}(n:h.Ns1 dx mA):∃od,h.get? dx=some od/\∀name,lookIn name od=some (mA name):=by
 obtain⟨o,es,ep,ho,hd,hk,_,hm⟩:=n;refine⟨o,ho,fun name=>?_⟩;have e:=hm name;unfold nsFind findBy at e;rw[<- Array.find?_toList]at e;unfold lookIn;rw[hd];dsimp only;split
 ·rename_i y q
  rw[q]at e;exact congrArg some e
 ·rename_i q
  rw[q]at e;have a:es.toList.any (·.refKey)=false:=by
   rw[List.any_eq_false];intro y hy;obtain⟨z,t,hkey⟩:=hk y (Array.mem_toList_iff.mp hy);simp[DictEntry.refKey,hkey]
  have a':¬es.toList.any (·.refKey)=true:=by rw[a];exact Bool.false_ne_true
  rw[yH a'];exact congrArg some e
theorem ObjM.look{h:Heap}{x dx C:Addr}{mA:Str->Option Value}(I:ObjM h x dx C mA):∃od,InstAt h x (instObj C dx) C (some od)/\∀name,lookIn name od=some (mA name) :=
 let⟨od,ho,hl⟩:=vF I.ns
 ⟨od,⟨I.obj,rfl,rfl,ho⟩,hl⟩
section
variable{prog:Program}{w:World}{A:Around}{E:Value->Shared->Prop}{s:Shared}{K:Frag}{x dx C f:Addr}{mA:Str->Option Value}{name:Str}{v:Value}
theorem Cg{expr:Bool}{Q:Value->Shared->Prop}(X:K.In s.heap)(I:ObjM s.heap x dx C mA)(hg:plainGet K C name=true)(hh:hasDictIn K C=true)
  (ha:findIn K (.ref C) name=some none) (hv:mA name=some v) (hv':handedIn v=true) (h:Q v { s with toks:=s.toks+1 }) :
  wpAny (model prog w) A (getAttr (.ref x) name expr) Q E s:=by
 obtain⟨od,J,hl⟩:=I.look;exact get_value X J (plainGet_of hg).1 (findObj_own hh ha rfl (by rw[hl,hv])) hv' h
theorem yj{pl:Sem Bool}{Q:Value×List Value->Shared->Prop}(X:K.In s.heap)(I:ObjM s.heap x dx C mA)(hg:plainGet K C name=true)
  (hf:findIn K (.ref C) name=some (some (.ref f))) (ht:isFn K (.ref f)=true) (hv:mA name=none) (h:Q (.ref f,[.ref x]) s) :
  wpAny (model prog w) A (getMethod (.ref x) name pl) Q E s:=by
 obtain⟨od,J,hl⟩:=I.look;exact method_fn X J (plainGet_of hg).1 (plainGet_of hg).2 hf (beq_iff_eq.mp ht) (by show(lookIn name od).map (·.isSome)=some false;rw[hl,hv];rfl) h
theorem Be{ns:List Str}{Q:Unit->Shared->Prop}(X:K.In s.heap)(I:ObjM s.heap x dx C mA)
  (hs:findIn K (.ref C) "__setattr__"=some (some (.builtin "object.__setattr__"))) (hp:plainOver K C=true) (ht:takerIn K C name=some none) (hh:hasDictIn K C=true)
  (hw:PySem.Within mA ns) (hsz:ns.length<=sizeLine)
  (h:∀h',ObjM h' x dx C (fun y=>if y=name then some v else mA y)->Heap.SameBut dx s.heap h'->Q () { s with heap:=h',toks:=s.toks+2 }) :
  wpAny (model prog w) A (setAttr (.ref x) name v) Q E s:=by
 obtain⟨od,J,hl⟩:=I.look;refine set_plain X J hs (osa_open (s:={ s with toks:=s.toks+1 }) (r:=none) X J hp ht fun b=>?_);obtain⟨cd,hc,hd'⟩:=any_some hh;have hx:s.heap.get? x=some ⟨.ref C,some dx,.plain,#[]⟩:=I.obj;refine yF (yG (yF (yF (wpAny_loadPart hx (yF (PySem.W.Looks.here (s:={ s with toks:=s.toks+1 }) (looks_clsIn X hc) ?_))))));rw[hd'];refine yG (a:=some dx) (yF (yG (yF ?_)));refine wpAny_nsSet1 (s:={ s with toks:=s.toks+1 }) I.ns fun h' hn2 hs2=>?_
 obtain⟨oD,esD,epD,hoD,hdD,hcD⟩:=hn2.count (PySem.Within.cons name v hw);refine yF (wpAny_lookBehind hoD (by rw[hdD];exact pastItsLine_dict (z5 hcD (by rw[yY];lia))) ?_);exact yG (h _ ⟨(hs2.2 _ (Ne.symm I.ne)).trans I.obj,hn2,I.ne⟩ hs2)
theorem xT{R:Result->Shared->Prop}{vs:List Value}{kw:List (Str×Value)}(X:K.In s.heap)(hm:makesIn K C=true)
  (hi:findIn K (.ref C) "__init__"=some (some (.ref f))) (hf:typeIn K (.ref f)=some (.type "function"))
  (h:codeAny (model prog w) (A.under (.builtin "type.__call__" ⟨.ref C::vs,kw⟩)) (.call (.ref f) ⟨.ref (s.heap.objs.size+1)::vs,kw⟩) (InitBack (s.heap.objs.size+1) R)
   { s with heap:=(s.heap.push emptyDict).push (instObj C s.heap.objs.size) }) :
  codeAny (model prog w) A (.call (.ref C) ⟨vs,kw⟩) R s:=by
 obtain⟨hh,g,d,t,os⟩:=s;exact make_core (makes_of X hm) (looks_findIn X hi) (fun self=>bind_fn X self hf) (.inl rfl) h
end
noncomputable def dq(f:Str)(v:V):List (Str×V)->List (Str×V)
 |[]=>[(f,v)]
 |(g,x)::r=>if g=f then(g,v)::r else(g,x)::dq f v r
theorem kE(f g:Str)(v:V):∀fs:List (Str×V),(dq f v fs).lookup g=if g=f then some v else fs.lookup g
 |[]=>by
  show List.lookup g [(f,v)]=_;by_cases h:g=f
  ·have hb:(g==f)=true:=beq_iff_eq.mpr h
   simp only[List.lookup,hb,yI h]
  ·have hb:(g==f)=false:=beq_eq_false_iff_ne.mpr h
   simp only[List.lookup,hb,yH h]
 |(k,x)::r=>by
  have ih:=kE f g v r;rw[show dq f v ((k,x)::r)=(if k=f then(k,v)::r else(k,x)::dq f v r) from rfl];by_cases hk:k=f
  ·rw[yI hk]
   by_cases h:g=k
   ·have hb:(g==k)=true:=beq_iff_eq.mpr h
    simp only[List.lookup,hb,yI (h.trans hk)]
   ·have hb:(g==k)=false:=beq_eq_false_iff_ne.mpr h
    simp only[List.lookup,hb,yH (fun e:g=f=>h (e.trans hk.symm))]
  ·rw[yH hk]
   by_cases h:g=k
   ·have hb:(g==k)=true:=beq_iff_eq.mpr h
    simp only[List.lookup,hb,yH (fun e:g=f=>hk (h.symm.trans e))]
   ·have hb:(g==k)=false:=beq_eq_false_iff_ne.mpr h
    simp only[List.lookup,hb];exact ih
theorem jG(f:Str)(v:V):∀fs:List (Str×V),f∈(dq f v fs).map (·.1)/\∀g,g∈fs.map (·.1)->g∈(dq f v fs).map (·.1)
 |[]=>⟨by simp[dq],fun g h=>by simp at h⟩
 |(k,x)::r=>by
  obtain⟨i1,i2⟩:=jG f v r;rw[show dq f v ((k,x)::r)=(if k=f then(k,v)::r else(k,x)::dq f v r) from rfl];by_cases hk:k=f
  ·rw[yI hk]
   subst hk;exact⟨by simp,fun g h=>by simpa using h⟩
  ·rw[yH hk]
   refine⟨?_,fun g h=>?_⟩
   ·rw[zO]
    exact zQ _ i1
   ·rw[zO]at h ⊢
    rcases zT.mp h with e|e
    ·exact zT.mpr (.inl e)
    ·exact zQ _ (i2 g e)
theorem kG(f:Str)(v:V):∀fs:List (Str×V),(dq f v fs).length<=fs.length+1
 |[]=>by simp[dq]
 |(k,x)::r=>by
  have ih:=kG f v r;rw[show dq f v ((k,x)::r)=(if k=f then(k,v)::r else(k,x)::dq f v r) from rfl];by_cases hk:k=f
  ·rw[yI hk,yY,yY];lia
  ·rw[yH hk,yY,yY];lia
theorem RelO.some_of{v:V}{o:Option Value}(r:RelO (some v) o):∃u,o=some u/\RelV v u:=by
 cases o with
 | none=>exact (show False from r).elim
 |some u=>exact⟨u,rfl,r⟩
theorem RelO.none_of{o:Option Value}(r:RelO none o):o=none:=by
 cases o with
 |none=>rfl
 | some u=>exact (show False from r).elim
theorem vW{v:V}{u:Value}(r:RelV v u):handedIn u=true:=by
 cases v with
 | non=>cases (show u=Value.none from r);rfl
 | bl b=>cases (show u=Value.bool b from r);rfl
 | int i=>obtain ⟨t,e⟩:=(show ∃ t,u=Value.int i t from r);cases e;rfl
 | str x=>obtain ⟨t,e⟩:=(show ∃ t,u=Value.str x t from r);cases e;rfl
 | byt b=>obtain ⟨t,e⟩:=(show ∃ t,u=Value.bytes b t from r);cases e;rfl
 | flt b=>obtain ⟨t,e⟩:=(show ∃ t,u=Value.float b t from r);cases e;rfl
 | ref a=>cases (show u=Value.ref a from r);rfl
 | ty n=>cases (show u=Value.type n from r);rfl
section
variable{P:Program}{w:World}{H H':Hp}{h h':Heap}{a C dx:Addr}{fs fs':List (Str×V)}
theorem nG(LZ:HOk P w H h)(e:H a=some (.ins C dx fs)):∃mA,ObjM h a dx C mA/\(∀f,RelO (fs.lookup f) (mA f))/\PySem.Within mA (fs.map (·.1))/\fs.length<=1000/\H dx=some (.own a):=by
 obtain ⟨d,z,ne,ob,mA,n,r,q⟩:=(show ObjOk P w H h a (.ins C dx fs) from LZ a _ e);exact ⟨mA,⟨ob,n,ne⟩,r,q,z,d⟩
end
structure Cls(K:Frag)(C:Addr):Prop where
 pg:plainGet K C Str.empty=true
 hd:hasDictIn K C=true
 po:plainOver K C=true
 sa:findIn K (.ref C) "__setattr__"=some (some (.builtin "object.__setattr__"))
theorem Cls.get{K:Frag}{C:Addr}(c:Cls K C)(f:Str):plainGet K C f=true:=c.pg
def NoAttr(K:Frag)(C:Addr)(f:Str):Prop:=findIn K (.ref C) f=some none
theorem NoAttr.taker{K:Frag}{C:Addr}{f:Str}(n:NoAttr K C f):takerIn K C f=some none:=by
 unfold takerIn;rw[show findIn K (.ref C) f=some none from n];rfl
structure jt(K:Frag)(C:Addr)(m:Str)(f:Addr):Prop where
 at_:findIn K (.ref C) m=some (some (.ref f))
 fn:isFn K (.ref f)=true
 kp:keepIn K (.ref f)=true
section
variable{X:Cx}{LP:List (Addr×Obj)}{σ:St}{H:Hp}{s:Shared}{a C dx:Addr}{fs:List (Str×V)}{f:Str}{v:V}{A:Around}{E:Value->Shared->Prop}
theorem tY{b:Bool}{Q:Value->Shared->Prop}(I:Inv X LP σ H s)(e:H a=some (.ins C dx fs))(c:Cls X.K C)(n:NoAttr X.K C f)(l:fs.lookup f=some v)
  (h:∀u s',Inv X LP σ H s'->RelV v u->Q u s'):wpAny (model X.prog X.w) A (getAttr (.ref a) f b) Q E s:=by
 obtain⟨mA,O,r,_,_,_⟩:=nG I.LZ e;obtain⟨u,hu,ru⟩:=RelO.some_of (v:=v) (o:=mA f) (by rw[<- l];exact r f);exact Cg I.kIn O (c.get f) c.hd n hu (vW ru) (h u _ (I.tok _) ru)
theorem jl{m:Str}{g:Addr}{pl:Sem Bool}{Q:Value×List Value->Shared->Prop}(I:Inv X LP σ H s)(e:H a=some (.ins C dx fs))(c:Cls X.K C)(k:jt X.K C m g)(l:fs.lookup m=none)
  (h:Q (.ref g,[.ref a]) s):wpAny (model X.prog X.w) A (getMethod (.ref a) m pl) Q E s:=by
 obtain⟨mA,O,r,_,_,_⟩:=nG I.LZ e;have hn:mA m=none:=RelO.none_of (by rw[<- l];exact r m);exact yj I.kIn O (c.get m) k.at_ k.fn hn h
theorem sR{y:V}{u:Value}{Q:Unit->Shared->Prop}(I:Inv X LP σ H s)(e:H a=some (.ins C dx fs))(c:Cls X.K C)(n:NoAttr X.K C f)(hl:fs.length<1000)(ry:RelV y u)
  (h:∀s',Inv X LP σ (ae H a (.ins C dx (dq f y fs))) s'->Q () s'):wpAny (model X.prog X.w) A (setAttr (.ref a) f u) Q E s:=by
 obtain⟨mA,O,r,wi,_,ho⟩:=nG I.LZ e;have hz:(fs.map (·.1)).length<=sizeLine:=by rw[zH,sizeLine_eq];lia
 refine Be I.kIn O c.sa c.po n.taker c.hd wi hz fun h' O' sb=>h _ ?_
 have hd:∃o,h'.get? dx=some o:=let⟨o,_,_,e',_⟩:=O'.ns;⟨o,e'⟩;refine I.write (x:=a) (e:=dx) (by rw[e];exact True.intro) (.inr ho) (fun b q hb z=>(sb.2 b hb).trans z) hd ?_;refine⟨by rw[ad O.ne];exact ho,?_,O.ne,O'.obj,_,O'.ns,fun g=>?_,fun g hg=>?_⟩
 ·have:=kG f y fs;lia
 ·show RelO ((dq f y fs).lookup g) (if g=f then some u else mA g)
  rw[kE];by_cases q:g=f
  ·rw[yI q,yI q];exact ry
  ·rw[yH q,yH q];exact r g
 ·by_cases q:g=f
  ·rw[q];exact(jG f y fs).1
  ·refine(jG f y fs).2 g (wi g fun z=>hg ?_)
   show(if g=f then some u else mA g)=none;rw[yH q];exact z
theorem Inv.made(I:Inv X LP σ H s):Inv X LP σ (ae (ae H s.heap.objs.size (.own (s.heap.objs.size+1))) (s.heap.objs.size+1) (.ins C s.heap.objs.size []))
  { s with heap:=(s.heap.push emptyDict).push (instObj C s.heap.objs.size) }:=by
 have e1:(s.heap.push emptyDict).get? s.heap.objs.size=some emptyDict:=zY s.heap rfl;have e2:((s.heap.push emptyDict).push (instObj C s.heap.objs.size)).get? (s.heap.objs.size+1)=some (instObj C s.heap.objs.size):=by
  have:=zY (s.heap.push emptyDict) (o:=instObj C s.heap.objs.size) rfl
  rwa [Heap.size_push]at this
 have e3:(s.heap.push emptyDict).Ns s.heap.objs.size (fun _=>none):=⟨emptyDict,#[],_,e1,rfl,(fun e he=>absurd he (by simp)),fun _=>rfl⟩;have I1:=I.laid (a:=s.heap.objs.size) (o:=.own (s.heap.objs.size+1)) (h':=s.heap.push emptyDict) (t':=s.toks) (fun b u q=>zG _ q) (zP _) ⟨_,e1⟩;refine I1.laid (a:=s.heap.objs.size+1) (o:=.ins C s.heap.objs.size []) (t':=s.toks) (fun b u q=>zG _ q) (Nat.le_of_eq (Heap.size_push _ _)) ?_;have ne:s.heap.objs.size≠s.heap.objs.size+1:=zU (Nat.lt_succ_self _);refine⟨by rw[ad ne,aw],Nat.zero_le _,ne,e2,fun _=>none,(Heap.Ns1.of_empty e3).at fun o q=>zG _ q,fun _=>True.intro,fun y hy=>absurd rfl hy⟩
theorem Cp{prog:Program}{w:World}{env:Env}{e:Expr}{f:Str}{pos:Pos}{s:Shared}{Q:Value->Shared->Prop}(hb:attributeBase e f env (eval e env)=eval e env)
  (h:wpAny (model prog w) A (eval e env) (fun o s₁=>wpAny (model prog w) A (getAttr o f true) Q E s₁) E s):wpAny (model prog w) A (eval (.Attribute e f pos) env) Q E s :=
 Attribute_any_ h (by rw[arm_eval_Attribute,hb])
end
def IM(K:Frag)(ta:TE)(f:Str):TE:=fun σ H Q=>ta σ H fun x H1=>∃a C dx fs v,x=.ref a/\H1 a=some (.ins C dx fs)/\Cls K C/\NoAttr K C f/\fs.lookup f=some v/\Q v H1
def IT(K:Frag)(ta tv:TE)(f:Str):TS:=fun D σ H=>tv σ H fun y H1=>ta σ H1 fun x H2=>∃a C dx fs,x=.ref a/\H2 a=some (.ins C dx fs)/\Cls K C/\NoAttr K C f/\fs.length<1000 /\
 D.nx σ (ae H2 a (.ins C dx (dq f y fs)))
section
variable{X:Cx}{o e value:Expr}{f:Str}{pos pos' tpos:Pos}{ta tv:TE}
theorem DW(he:PE X e ta)(hb:attributeBase e f X.env (eval e X.env)=eval e X.env):PE X (.Attribute e f pos) (IM X.K ta f):=by
 intro LP s σ H Q I h;refine Cp hb (aA (he LP s σ H _ I h) fun u s1 hq0=>?_);obtain⟨x,H1,I1,rx,a,C,dx,fs,v,ex,ea,c,n,l,q⟩:=hq0;subst ex;obtain rfl:u=Value.ref a:=rx;exact tY I1 ea c n l fun u' s2 I2 ru=>⟨v,H1,I2,ru,q⟩
theorem DH(ha:PE X o ta)(hv:PE X value tv)(hs:swapsWith value (some (.Attribute o f pos')) pos.line X.env=pure false):PS X (.Assign [.Attribute o f pos'] value pos) (IT X.K ta tv f):=by
 intro LP s σ H D I h;refine plainObj_wpAny_Assign_Attribute (aA (hv LP s σ H _ I h) fun u s1 ⟨y,H1,I1,ry,q⟩=>aA (ha LP s1 σ H1 _ I1 q) fun ov s2 hq0=>?_) hs;obtain⟨x,H2,I2,rx,a,C,dx,fs,ex,ea,c,n,l,q2⟩:=hq0;subst ex;obtain rfl:ov=Value.ref a:=rx;exact sR I2 ea c n l ry fun s3 I3=>⟨σ,_,I3,q2⟩
theorem FF{pl:Sem Bool}{m:Str}{apos:Pos}{args:List Expr}{LP:List (Addr×Obj)}{s:Shared}{σ:St}{H:Hp}{Q:Value->Shared->Prop}{te:TE}(he:PE X e te)(I:Inv X LP σ H s)
  (h:te σ H fun x H1=>∃a C dx fs g,x=.ref a/\H1 a=some (.ins C dx fs)/\Cls X.K C/\jt X.K C m g/\fs.lookup m=none /\
   ∀s1,Inv X LP σ H1 s1->wpAny (model X.prog X.w) X.A (callWith pos (.ref g) [.ref a] (backTo pos (starEach args X.env)) (backToKw pos (keywordEach [] X.env))) Q X.xe s1)
  (ht:eval (.Call (.Attribute e m apos) args [] pos) X.env=(do
   let ov <- eval e X.env
   standAt apos.atName
   let(f,first) <- holding [ov] (getMethod ov m pl)
   callWith pos f first (backTo pos (starEach args X.env)) (backToKw pos (keywordEach [] X.env)))) :
  wpAny (model X.prog X.w) X.A (eval (.Call (.Attribute e m apos) args [] pos) X.env) Q X.xe s:=by
 refine methodCall_KW (pl:=pl) (aA (he LP s σ H _ I h) fun u s1 hq0=>?_) ht;obtain⟨x,H1,I1,rx,a,C,dx,fs,g,ex,ea,c,k,l,q⟩:=hq0;subst ex;obtain rfl:u=Value.ref a:=rx;exact jl I1 ea c k l (q s1 I1)
end
structure Room(k:Nat)(A:Around):Prop where
 hd:A.handled=none
 dp:A.depth+3*k+5<recursionLimit
 un:A.units+16*k+200<cLine
 gd:A.guards=some []
theorem Room.mono{j k:Nat}{A:Around}(r:Room k A)(h:j<=k):Room j A:=⟨r.hd,by have:=r.dp;lia,by have:=r.un;lia,r.gd⟩
theorem Room.deeper{k:Nat}{A:Around}(r:Room (k+1) A)(env:Env):Room k (A.deeper env) :=
 ⟨r.hd,by have:=r.dp;show A.depth+1+3*k+5<_;lia,by have:=r.un;show A.units+3+16*k+200<_;lia,r.gd⟩
theorem Room.in1{k:Nat}{A:Around}(r:Room (k+1) A):Room k A.in1 :=
 ⟨r.hd,by have:=r.dp;show A.depth+3*k+5<_;lia,by have:=r.un;show A.units+1+16*k+200<_;lia,r.gd⟩
theorem tN{A:Around}{C:Addr}{us:List Value}{kw:List (Str×Value)}:(A.under (.builtin "type.__call__" ⟨.ref C::us,kw⟩)).depth=A.depth+1:=by
 first|rfl|simp[Around.under,Code.weight,Code.isCreation,Code.isGuard,Code.isCaller,Code.frames,Code.isFrame,guardIds]
theorem tM{A:Around}{C:Addr}{us:List Value}{kw:List (Str×Value)}:(A.under (.builtin "type.__call__" ⟨.ref C::us,kw⟩)).units=A.units+1:=by
 first|rfl|simp[Around.under,Code.cUnits,Code.frames,Code.isFrame]
theorem qM{A:Around}{C:Addr}{us:List Value}{kw:List (Str×Value)}:(A.under (.builtin "type.__call__" ⟨.ref C::us,kw⟩)).guards=A.guards:=by
 first|rfl|simp[Around.under,Code.guards,Code.isGuard,guardIds,pushGuards]
theorem Room.make{k:Nat}{A:Around}(r:Room (k+1) A)(C:Addr)(us:List Value)(kw:List (Str×Value)):Room k (A.under (.builtin "type.__call__" ⟨.ref C::us,kw⟩)) :=
 ⟨r.hd,by have:=r.dp;rw[tN];lia,by have:=r.un;rw[tM];lia,by rw[qM];exact r.gd⟩
theorem Room.depth{k:Nat}{A:Around}(r:Room k A):A.depth<recursionLimit:=by have:=r.dp;lia
theorem Room.units{k:Nat}{A:Around}(r:Room k A):A.units+64<cLine:=by have:=r.un;lia
noncomputable def sM:TA:=fun _ H Q=>Q [] H
noncomputable def zu(ta:TE)(tr:TA):TA:=fun σ H Q=>ta σ H fun x H1=>tr σ H1 fun xs H2=>Q (x::xs) H2
section
variable{X:Cx}{e:Expr}{es:List Expr}{te:TE}{t:TA}{pos:Pos}
theorem vw:PA X [] sM:=fun _ _ _ _ H Q I h=>Calls.spliced_nil ⟨[],H,I,.nil,h⟩
theorem rh(ha:PE X e te)(hr:PA X es t)(hs:starEach (e::es) X.env=(false,eval e X.env)::starEach es X.env:=by rfl):PA X (e::es) (zu te t):=by
 intro pos LP s σ H Q I h;rw[hs];show wpAny _ _ (spliced ((false,eval e X.env)::backTo pos (starEach es X.env))) _ _ s;refine Calls.spliced_cons (aA (ha LP s σ H _ I h) fun u s1 hq0=>?_);obtain⟨x,H1,I1,r1,q1⟩:=hq0;exact aA (hr pos LP s1 σ H1 _ I1 q1) fun us s2 ⟨xs,H2,I2,r2,q2⟩=>⟨x::xs,H2,I2,.cons r1 r2,q2⟩
def ID(t:TA):TE:=fun σ H Q=>t σ H fun xs H1=>xs.length<=sizeLine/\∀p,H1 p=none->Q (.ref p) (ae H1 p (.tup xs))
def IJ(t:TA):TE:=fun σ H Q=>t σ H fun xs H1=>xs.length<=sizeLine/\∀p,H1 p=none->Q (.ref p) (ae H1 p (.lst xs))
theorem DQ{x1}(h:PA X es t):PE X (.Tuple es x1 pos) (ID t):=by
 intro LP s σ H Q I hq;refine wpAny_Tuple_spliced (aA (h pos LP s σ H _ I hq) fun us s1 ⟨xs,H1,I1,r,z,q⟩=>⟨by rw[<- r.length];exact z,?_⟩);have hf:H1 s1.heap.objs.size=none:=I1.LZ.fresh (zP _);refine⟨.ref s1.heap.objs.size,ae H1 s1.heap.objs.size (.tup xs),I1.laid (t':=s1.toks) (fun b u e=>zG _ e) (zP _) ?_,rfl,q _ hf⟩;exact⟨z,us,r,⟨_,zY _ rfl,rfl,_,rfl⟩⟩
theorem vq(h:PA X es t):PE X (.List es pos) (IJ t):=by
 intro LP s σ H Q I hq;refine wpAny_List_spliced (aA (h pos LP s σ H _ I hq) fun us s1 ⟨xs,H1,I1,r,z,q⟩=>⟨by rw[<- r.length];exact z,?_⟩);have hf:H1 s1.heap.objs.size=none:=I1.LZ.fresh (zP _);refine⟨.ref s1.heap.objs.size,ae H1 s1.heap.objs.size (.lst xs),I1.laid (t':=s1.toks) (fun b u e=>zG _ e) (zP _) ?_,rfl,q _ hf⟩;exact⟨z,us,0,r,zY _ rfl⟩
end
abbrev Sp:=List V->Hp->VK->XK->Prop
abbrev jZ:=List Env->Hp->Shared->XK->Value->Shared->Prop
structure Env0(P:Program)(w:World)(K:Frag)(mg:Str->Option Value)(base:Heap)(A:Around)(outer:List Env)(s:Shared)(H:Hp):Prop where
 frames:A.frames=some outer
 mod:Mod K mg base
 bs:∀b o,base.get? b=some o->s.heap.get? b=some o/\H b=none
 bsz:base.objs.size<=s.heap.objs.size
 funs:s.heap.FunFrames base outer
 frf:∀b∈i5 outer,H b=none
 LZ:HOk P w H s.heap
 bare:AllBare s.gens
def CE(outer:List Env)(P:Program)(w:World)(H:Hp)(s:Shared)(Q:VK)(u:Value)(s':Shared):Prop :=
 ∃v H',s'.os=s.os/\AllBare s'.gens/\Un (i5 outer) [] H H' s.heap s'.heap/\HOk P w H' s'.heap/\RelV v u/\Q v H'
def CR(CX:jZ)(outer:List Env)(P:Program)(w:World)(H:Hp)(s:Shared)(Q:VK)(E:XK)(r:Result)(s':Shared):Prop :=
 match r with
 |.ok (.ret u)=>CE outer P w H s Q u s'
 |.ok _=>False
 |.error e=>CX outer H s E e s'
structure FnOk(P:Program)(w:World)(K:Frag)(mg:Str->Option Value)(base:Heap)(CX:jZ)(k:Nat)(f:Addr)(fd:FuncData)(ps:List Str)(sp:Sp):Prop where
 len:∀vs H Q E,sp vs H Q E->vs.length=ps.length
 run:∀(A:Around)(outer:List Env)(s:Shared)(H:Hp)(args:Args)(us:List Value)(vs:List V)(Q:VK)(E:XK),Room k A->Env0 P w K mg base A outer s H->BindsTo s fd args (ps.zip us)->Vals vs us->sp vs H Q E ->
  codeAny (model P w) A (.call (.ref f) args) (CR CX outer P w H s Q E) s
theorem FnOk.mono{P:Program}{w:World}{K:Frag}{mg:Str->Option Value}{base:Heap}{CX:jZ}{j k:Nat}{f:Addr}{fd:FuncData}{ps:List Str}{sp:Sp}(F:FnOk P w K mg base CX j f fd ps sp)(h:j<=k) :
  FnOk P w K mg base CX k f fd ps sp:=⟨F.len,fun A outer s H args us vs Q E hr=>F.run A outer s H args us vs Q E (hr.mono h)⟩
theorem FnOk.imp{P:Program}{w:World}{K:Frag}{mg:Str->Option Value}{base:Heap}{CX:jZ}{k:Nat}{f:Addr}{fd:FuncData}{ps:List Str}{sp sp':Sp}(F:FnOk P w K mg base CX k f fd ps sp)
  (h:∀vs H Q E,sp' vs H Q E->sp vs H Q E):FnOk P w K mg base CX k f fd ps sp' :=
 ⟨fun vs H Q E q=>F.len vs H Q E (h _ _ _ _ q),fun A outer s H args us vs Q E hr he hb hv hs=>F.run A outer s H args us vs Q E hr he hb hv (h _ _ _ _ hs)⟩
theorem Env0.make{P:Program}{w:World}{K:Frag}{mg:Str->Option Value}{base:Heap}{A:Around}{outer:List Env}{s:Shared}{H:Hp}(e:Env0 P w K mg base A outer s H)(C:Addr)(us:List Value)(kw:List (Str×Value)) :
  Env0 P w K mg base (A.under (.builtin "type.__call__" ⟨.ref C::us,kw⟩)) outer s H:=⟨by first|exact e.frames|(simpa [Around.under,Code.envs,Code.isFrame,pushEnvs] using e.frames),e.mod,e.bs,e.bsz,e.funs,e.frf,e.LZ,e.bare⟩
section
variable{X:Cx}{LP:List (Addr×Obj)}{σ:St}{H:Hp}{s s':Shared}
theorem Inv.env0(I:Inv X LP σ H s):Env0 X.prog X.w X.K X.mg X.base X.A X.stack s H :=
 ⟨I.ok.frames,I.ok.mod,I.bs,z5 I.ok.bsz I.sz,I.stack,I.stkFree,I.LZ,I.bare⟩
theorem Inv.after{Q:VK}{u:Value}(I:Inv X LP σ H s)(h:CE X.stack X.prog X.w H s Q u s'):EP X LP σ Q u s':=by
 obtain⟨v,H',os,bare,un,LZ,r,q⟩:=h;obtain⟨hh,g,d,t,os'⟩:=s';obtain rfl:os'=s.os:=os;exact⟨v,H',I.call (h':=hh) (g':=g) (d':=d) (t':=t) (ch:=[]) un LZ bare (fun b z=>absurd z (by simp)),r,q⟩
end
noncomputable def sO(sp:Sp)(dvs:List V)(E:XK)(t:TA):TE:=fun σ H Q=>t σ H fun vs H1=>sp (vs++dvs) H1 Q E
def sN(C:Addr)(m:Str)(sp:Sp)(dvs:List V)(E:XK)(ta:TE)(t:TA):TE:=fun σ H Q=>ta σ H fun x H1=>∃a dx fs,x=.ref a/\H1 a=some (.ins C dx fs)/\fs.lookup m=none /\
 t σ H1 fun vs H2=>sp (x::(vs++dvs)) H2 Q E
def zt(C:Addr)(sp:Sp)(dvs:List V)(E:XK)(t:TA):TE:=fun σ H Q=>t σ H fun vs H1=>∀x dx,H1 x=none->H1 dx=none->dx≠x ->
 sp (.ref x::(vs++dvs)) (ae (ae H1 dx (.own x)) x (.ins C dx [])) (fun v H2=>v=.non/\Q (.ref x) H2) E
def Binds(K:Frag)(fd:FuncData)(ps:List Str)(ds:List Value):Prop :=
 ∀(s:Shared)(us:List Value),K.In s.heap->(us++ds).length=ps.length->BindsTo s fd ⟨us,[]⟩ (ps.zip (us++ds))
theorem Binds.all{K:Frag}{fd:FuncData}{ps:List Str}(h:∀us:List Value,us.length=ps.length->bindArgs fd ⟨us,[]⟩=pure (ps.zip us)):Binds K fd ps []:=fun s us _ hl=>by
 rw[List.append_nil]at hl ⊢;exact .of_eq (h us hl)
def gj(CX:jZ)(X:Cx)(E:XK):Prop:=∀(LP:List (Addr×Obj))(σ:St)(H:Hp)(s:Shared)(e:Value)(s':Shared),Inv X LP σ H s->CX X.stack H s E e s'->X.xe e s'
section
variable{X:Cx}{CX:jZ}{k:Nat}{f C:Addr}{fd:FuncData}{ps:List Str}{sp:Sp}{dvs:List V}{ds:List Value}{E:XK}{x m:Str}{p pos apos:Pos}{e o:Expr}{es:List Expr}{ta:TE}{t:TA}
theorem lN{LP:List (Addr×Obj)}{σ:St}{H:Hp}{s:Shared}{Q:VK}{us:List Value}{vs:List V}(F:FnOk X.prog X.w X.K X.mg X.base CX k f fd ps sp)(hr:Room k X.A)(hb:Binds X.K fd ps ds)(hd:Vals dvs ds)(hx:gj CX X E)
  (I:Inv X LP σ H s) (r:Vals vs us) (h:sp (vs++dvs) H Q E):wpAny (model X.prog X.w) X.A (call (.ref f) us) (EP X LP σ Q) X.xe s:=by
 have r2:Vals (vs++dvs) (us++ds):=r.append hd;have hl:(us++ds).length=ps.length:=by rw[<- r2.length];exact F.len _ _ _ _ h
 refine wpAny_call (codeAny_mono (F.run X.A X.stack s H ⟨us,[]⟩ (us++ds) (vs++dvs) Q E hr I.env0 (hb s us I.kIn hl) r2 h) fun r s' hq=>?_);cases r with
 |error e=>exact hx LP σ H s e s' I hq
 |ok fl =>
  cases fl with
  |ret u=>exact I.after hq
  |next=>exact False.elim hq
  |brk=>exact False.elim hq
  |cont=>exact False.elim hq
theorem BV(F:FnOk X.prog X.w X.K X.mg X.base CX k f fd ps sp)(hr:Room k X.A)(hg:Gl X x)(hm:X.mg x=some (.ref f))(hk:keepIn X.K (.ref f)=true)(hb:Binds X.K fd ps ds)(hd:Vals dvs ds)(hx:gj CX X E)
  (ha:PA X (e::es) t) (hdb:(x==("__debug__":Str))=false:=by decide) (he:starEach (e::es) X.env=(false,eval e X.env)::starEach es X.env:=by rfl) (hpl:(backTo pos (starEach es X.env)).any (·.1)=false:=by rfl) :
  PE X (.Call (.Name x p) (e::es) [] pos) (sO sp dvs E t):=by
 intro LP s σ H Q I h;refine wpAny_Call_Name_kw (ka I hg hm ?_ hdb);refine callWith_K (h₀:=X.base) I.ok.mod.kin hk (aA (ha pos LP s σ H _ I h) fun us s1 ⟨vs,H1,I1,r,q⟩=>⟨I1.kIn,?_⟩) he hpl;exact lN F hr hb hd hx I1 r q
theorem xK(F:FnOk X.prog X.w X.K X.mg X.base CX k f fd ps sp)(hr:Room k X.A)(hg:Gl X x)(hm:X.mg x=some (.ref f))(hk:keepIn X.K (.ref f)=true)(hb:Binds X.K fd ps ds)(hd:Vals dvs ds)(hx:gj CX X E)
  (hdb:(x==("__debug__":Str))=false:=by decide):PE X (.Call (.Name x p) [] [] pos) (sO sp dvs E sM):=by
 intro LP s σ H Q I h;refine wpAny_Call_Name_kw (ka I hg hm ?_ hdb);exact PySem.W.callWith_K0 I.kIn hk (lN (us:=[]) F hr hb hd hx I .nil h)
theorem BR{pl:Sem Bool}(he:PE X o ta)(c:Cls X.K C)(hm:jt X.K C m f)(F:FnOk X.prog X.w X.K X.mg X.base CX k f fd ps sp)(hr:Room k X.A)(hb:Binds X.K fd ps ds)(hd:Vals dvs ds)(hx:gj CX X E)(ha:PA X (e::es) t)
  (hst:starEach (e::es) X.env=(false,eval e X.env)::starEach es X.env:=by rfl) (hpl:(backTo pos (starEach es X.env)).any (·.1)=false:=by rfl)
  (ht:eval (.Call (.Attribute o m apos) (e::es) [] pos) X.env=(do
   let ov <- eval o X.env
   standAt apos.atName
   let(f,first) <- holding [ov] (getMethod ov m pl)
   callWith pos f first (backTo pos (starEach (e::es) X.env)) (backToKw pos (keywordEach [] X.env))):=by rfl) :
  PE X (.Call (.Attribute o m apos) (e::es) [] pos) (sN C m sp dvs E ta t):=by
 intro LP s σ H Q I h;refine methodCall_KW (pl:=pl) (aA (he LP s σ H _ I h) fun u s1 hq0=>?_) ht;obtain⟨x,H1,I1,rx,a,dx,fs,ex,ea,l,q⟩:=hq0;subst ex;obtain rfl:u=Value.ref a:=rx;refine jl I1 ea c hm l ?_;refine callWith_K (first:=[.ref a]) (h₀:=X.base) I.ok.mod.kin hm.kp (aA (ha pos LP s1 σ H1 _ I1 q) fun us s2 ⟨vs,H2,I2,r,q2⟩=>⟨I2.kIn,?_⟩) hst hpl;exact lN (us:=.ref a::us) (vs:=.ref a::vs) F hr hb hd hx I2 (.cons rfl r) q2
theorem xF{pl:Sem Bool}(he:PE X o ta)(c:Cls X.K C)(hm:jt X.K C m f)(F:FnOk X.prog X.w X.K X.mg X.base CX k f fd ps sp)(hr:Room k X.A)(hb:Binds X.K fd ps ds)(hd:Vals dvs ds)(hx:gj CX X E)
  (ht:eval (.Call (.Attribute o m apos) [] [] pos) X.env=(do
   let ov <- eval o X.env
   standAt apos.atName
   let(f,first) <- holding [ov] (getMethod ov m pl)
   callWith pos f first (backTo pos (starEach [] X.env)) (backToKw pos (keywordEach [] X.env))):=by rfl) :
  PE X (.Call (.Attribute o m apos) [] [] pos) (sN C m sp dvs E ta sM):=by
 intro LP s σ H Q I h;refine methodCall_KW (pl:=pl) (aA (he LP s σ H _ I h) fun u s1 hq0=>?_) ht;obtain⟨x,H1,I1,rx,a,dx,fs,ex,ea,l,q⟩:=hq0;subst ex;obtain rfl:u=Value.ref a:=rx;refine jl I1 ea c hm l ?_;exact PySem.W.callWith_K0 (first:=[.ref a]) I1.kIn hm.kp (lN (us:=[.ref a]) (vs:=[.ref a]) F hr hb hd hx I1 (.cons rfl .nil) q)
structure Mk(K:Frag)(C f:Addr):Prop where
 makes:makesIn K C=true
 init:findIn K (.ref C) "__init__"=some (some (.ref f))
 fn:isFn K (.ref f)=true
 kp:keepIn K (.ref C)=true
theorem xf{LP:List (Addr×Obj)}{σ:St}{H:Hp}{s:Shared}{Q:VK}{us:List Value}{vs:List V}(M:Mk X.K C f)(F:FnOk X.prog X.w X.K X.mg X.base CX k f fd ps sp)(hr:Room (k+1) X.A)(hb:Binds X.K fd ps ds)(hd:Vals dvs ds)
  (hx:gj CX X E) (I:Inv X LP σ H s) (r:Vals vs us)
  (h:∀x dx,H x=none->H dx=none->dx≠x->sp (.ref x::(vs++dvs)) (ae (ae H dx (.own x)) x (.ins C dx [])) (fun v H2=>v=.non/\Q (.ref x) H2) E) :
  wpAny (model X.prog X.w) X.A (call (.ref C) us) (EP X LP σ Q) X.xe s:=by
 have hq:=h (s.heap.objs.size+1) s.heap.objs.size (I.LZ.fresh (Nat.le_succ _)) (I.LZ.fresh (zP _)) (zU (Nat.lt_succ_self _));have I2:=Inv.made (C:=C) I;have r2:Vals (V.ref (s.heap.objs.size+1)::(vs++dvs)) (Value.ref (s.heap.objs.size+1)::(us++ds)):=.cons rfl (r.append hd);have hl:(Value.ref (s.heap.objs.size+1)::us++ds).length=ps.length:=by
  have e:=r2.length;rw[F.len _ _ _ _ hq]at e;exact e.symm
 refine wpAny_call (xT (f:=f) I.kIn M.makes M.init (beq_iff_eq.mp M.fn) (codeAny_mono (F.run _ X.stack _ _ ⟨Value.ref (s.heap.objs.size+1)::us,[]⟩ (Value.ref (s.heap.objs.size+1)::(us++ds)) _ _ E (hr.make C us [])
  (I2.env0.make C us []) (hb _ (Value.ref (s.heap.objs.size+1)::us) I2.kIn hl) r2 hq) fun r s' hq'=>?_))
 cases r with
 |error e=>exact hx LP σ _ _ e s' I2 hq'
 |ok fl =>
  cases fl with
  |ret u =>
   obtain⟨v,H',I3,rv,ev,q3⟩:=I2.after hq';subst ev;exact⟨rv,⟨V.ref (s.heap.objs.size+1),H',I3,rfl,q3⟩⟩
  |next=>exact False.elim hq'
  |brk=>exact False.elim hq'
  |cont=>exact False.elim hq'
theorem BS(M:Mk X.K C f)(F:FnOk X.prog X.w X.K X.mg X.base CX k f fd ps sp)(hr:Room (k+1) X.A)(hg:Gl X x)(hm:X.mg x=some (.ref C))(hb:Binds X.K fd ps ds)(hd:Vals dvs ds)(hx:gj CX X E)
  (ha:PA X (e::es) t) (hdb:(x==("__debug__":Str))=false:=by decide) (he:starEach (e::es) X.env=(false,eval e X.env)::starEach es X.env:=by rfl) (hpl:(backTo pos (starEach es X.env)).any (·.1)=false:=by rfl) :
  PE X (.Call (.Name x p) (e::es) [] pos) (zt C sp dvs E t):=by
 intro LP s σ H Q I h;refine wpAny_Call_Name_kw (ka I hg hm ?_ hdb);refine callWith_K (h₀:=X.base) I.ok.mod.kin M.kp (aA (ha pos LP s σ H _ I h) fun us s1 ⟨vs,H1,I1,r,q⟩=>⟨I1.kIn,?_⟩) he hpl;exact xf M F hr hb hd hx I1 r q
end
structure kA(N P:List Str)(sc:Scope):Prop where
 kind:sc.kind=.function
 co:sc.isCoroutine=false
 gen:sc.isGenerator=false
 nd:N.Nodup
 pre:N.take P.length=P
 par:∀x∈P,sc.names.lookup x=some .local\/sc.names.lookup x=some .cell
 nofree:∀y∈sc.names,y.2≠.free
theorem oB{kindOf:Str->Option NameKind}{x:Str}:∀{binds:List (Str×Value)}{m:Str->Option Value},(∀v,(x,v)∉binds)->bindL kindOf binds m x=m x
 |[],_,_=>rfl
 |(n,v)::r,m,h=>by
  unfold bindL;rw[oB fun w hw=>h w (zQ _ hw)];split
  ·have:x≠n:=by rintro rfl;exact h v z7
   simp[this]
  ·rfl
theorem oE{kindOf:Str->Option NameKind}{x:Str}:∀{binds:List (Str×Value)}{m:Str->Option Value},(∀v,(x,v)∉binds)->bindC kindOf binds m x=m x
 |[],_,_=>rfl
 |(n,v)::r,m,h=>by
  unfold bindC;rw[oE fun w hw=>h w (zQ _ hw)];split
  ·rfl
  ·have:x≠n:=by rintro rfl;exact h v z7
   simp[this]
theorem oC{kindOf:Str->Option NameKind}{x:Str}{v:Value}:∀{P:List Str}{vs:List Value}{i:Nat}{m:Str->Option Value},P.Nodup->P[i]?=some x->vs[i]?=some v->kindOf x=some .local ->
  bindL kindOf (P.zip vs) m x=some v
 |[],_,_,_,_,h,_,_=>by simp at h
 |_::_,[],_,_,_,_,h,_=>by simp at h
 |p::P,w::vs,0,m,nd,h1,h2,hk=>by
  simp at h1 h2;subst h1;subst h2;show bindL kindOf ((p,w)::P.zip vs) m p=_;unfold bindL;rw[oB fun v hv=>(List.nodup_cons.mp nd).1 (List.of_mem_zip hv).1,yI hk];simp
 |p::P,w::vs,i+1,m,nd,h1,h2,hk=>by
  show bindL kindOf ((p,w)::P.zip vs) m x=_;unfold bindL;exact oC (i:=i) (List.nodup_cons.mp nd).2 (by simpa using h1) (by simpa using h2) hk
theorem oF{kindOf:Str->Option NameKind}{x:Str}{v:Value}:∀{P:List Str}{vs:List Value}{i:Nat}{m:Str->Option Value},P.Nodup->P[i]?=some x->vs[i]?=some v->kindOf x≠some .local ->
  bindC kindOf (P.zip vs) m x=some v
 |[],_,_,_,_,h,_,_=>by simp at h
 |_::_,[],_,_,_,_,h,_=>by simp at h
 |p::P,w::vs,0,m,nd,h1,h2,hk=>by
  simp at h1 h2;subst h1;subst h2;show bindC kindOf ((p,w)::P.zip vs) m p=_;unfold bindC;rw[oE fun v hv=>(List.nodup_cons.mp nd).1 (List.of_mem_zip hv).1,yH hk];simp
 |p::P,w::vs,i+1,m,nd,h1,h2,hk=>by
  show bindC kindOf ((p,w)::P.zip vs) m x=_;unfold bindC;exact oF (i:=i) (List.nodup_cons.mp nd).2 (by simpa using h1) (by simpa using h2) hk
def start(N:List Str)(vs:List V):St:=vs.map some++List.replicate (N.length-vs.length) none
def nQ(CX:jZ)(P:Program)(w:World)(K:Frag)(mg:Str->Option Value)(base:Heap)(N:List Str)(qual:Str)(scope:Scope)(f:Addr)(cd:Value)(A:Around)(outer:List Env)(s:Shared)(H:Hp)(E:XK):Cx where
 prog:=P
 w:=w
 K:=K
 mg:=mg
 base:=base
 A:=A.deeper (envOfC qual scope s.heap.objs.size f cd)
 N:=N
 s₀:=s
 H₀:=H
 env:=envOfC qual scope s.heap.objs.size f cd
 outer:=outer
 stack:=envOfC qual scope s.heap.objs.size f cd::outer
 ex:=[]
 calm:=true
 fn:=fun _=>true
 pn:=[]
 xe:=fun e s'=>wpAny (model P w) (A.deeper (envOfC qual scope s.heap.objs.size f cd)) (leaving (envOfC qual scope s.heap.objs.size f cd) e) (fun _ s''=>CX outer H s E e s'') (fun e' s''=>CX outer H s E e' s'') s'
theorem qu{sc:Scope}{n:Nat}{x:Str}(h:sc.names.lookup x=some .cell):∃c,(cellsFrom n sc.names []).lookup x=some c:=by
 have q:=cellsFrom_some sc.names n [] (.inl h);exact Option.isSome_iff_exists.mp q
theorem vR{CX:jZ}{P:Program}{w:World}{K:Frag}{mg:Str->Option Value}{base:Heap}{N ps:List Str}{qual:Str}{scope:Scope}{f:Addr}{cd:Value}{A:Around}{outer:List Env}{s s1:Shared}{H:Hp}{E:XK}{us:List Value}{vs:List V}
  (S:kA N ps scope) (hd:A.handled=none) (e0:Env0 P w K mg base A outer s H) (hl:vs.length=ps.length) (r:Vals vs us)
  (x:InCallC s s.heap.objs.size (bindL (envOfC qual scope s.heap.objs.size f cd).kindOf (ps.zip us) fun _=>none) (cellsFrom (s.heap.objs.size+1) scope.names []) (bindC (envOfC qual scope s.heap.objs.size f cd).kindOf (ps.zip us) fun _=>none) s1) :
  Inv (nQ CX P w K mg base N qual scope f cd A outer s H E) [] (start N vs) H s1:=by
 have hpl:ps.length<=N.length:=by have:=congrArg List.length S.pre;rw[List.length_take]at this;lia
 obtain ⟨h1,tk,rfl,hk⟩:=x.done;have noA:∀ b:Addr,b ∉ (nQ CX P w K mg base N qual scope f cd A outer s H E).ex:=fun b z=>absurd (show b ∈ ([]:List Addr) from z) (by simp)
 refine⟨⟨e0.mod,S.kind,rfl,rfl,zP _,fun y z c h1 h2=>?_,fun y hy=>?_,fun y c _ h=>?_,fun _=>hd,Around.frames_deeper e0.frames,.inr ⟨rfl,rfl⟩,fun b z=>absurd z (noA b),e0.bs,e0.bsz,fun b _ _=>noA b,fun b z=>absurd z (noA b),e0.funs,e0.frf⟩,
  rfl,e0.bare,Un.kept hk,⟨_,x.toInCall.ns,fun i y v h1 h2 h3=>?_⟩,fun y c h=>⟨_,x.cell y c h⟩,e0.LZ.fresh (zP _),fun y c h=>?_,fun p hp=>absurd (show p∈([]:List (Addr×Obj)) from hp) (by simp),e0.LZ.kept hk,?_⟩
 ·exact name_of_addr x.apart (PySem.mem_of_lookup h1) (PySem.mem_of_lookup h2)
 ·have hy:scope.names.lookup y=some .cell\/scope.names.lookup y=some .free:=hy
  rcases hy with hy|hy
  ·exact qu hy
  ·exact absurd rfl (S.nofree _ (PySem.mem_of_lookup hy))
 ·exact yZ (x.above y c (PySem.mem_of_lookup h))
 ·have hi:i<vs.length:=by
   unfold start at h2;by_cases hi:i<vs.length
   ·exact hi
   ·rw[z6 (by simpa using hi)]at h2
    rw[List.getElem?_replicate]at h2;split at h2<;>cases h2
  have ha:vs[i]?=some v:=by
   unfold start at h2;rw[zN (by simpa using hi),zR]at h2;cases e:vs[i]? with
   |none=>rw[e]at h2;cases h2
   |some a=>rw[e]at h2;cases h2;rfl
  obtain⟨u,hu,rv⟩:=r.get ha;have hp:ps[i]?=some y:=by
   rw[<- S.pre,List.getElem?_take_of_lt oM];exact h1
  have ndP:ps.Nodup:=by rw[<- S.pre];exact S.nd.sublist (List.take_sublist _ _)
  refine⟨u,rv,?_⟩;rcases S.par y (zW hp) with k|k
  ·exact .inl ⟨k,oC ndP hp hu k⟩
  ·obtain⟨c,e⟩:=qu (n:=s.heap.objs.size+1) k
   refine .inr ⟨.inl k,c,e,?_⟩;have q:=x.cell y c e;rw[oF ndP hp hu (by show scope.names.lookup y≠_;rw[k];decide)]at q;exact q
 ·exact e0.LZ.fresh (yZ (x.above y c (PySem.mem_of_lookup h)))
 ·unfold start
  show _=N.length;rw[zV,zH,List.length_replicate];lia
theorem GT{CX:jZ}{P:Program}{w:World}{K:Frag}{mg:Str->Option Value}{base:Heap}{k:Nat}{f:Addr}{name qual:Str}{params:Arguments}{body:List Stmt}{scope:Scope}{dV kV doc pm cdv ct oc:Value}{an od:Option Addr}
  {osl:Array (Option Value)}{N ps:List Str}{sp:Sp} (lk:K.lookup f=some ⟨oc,od,.func (fnOf name qual params body scope dV kV doc pm an cdv ct),osl⟩) (hcd:codeIn K cdv qual=true) (S:kA N ps scope)
  (len:∀vs H Q E,sp vs H Q E->vs.length=ps.length)
  (hbody:∀(A:Around)(outer:List Env)(s:Shared)(H:Hp)(vs:List V)(Q:VK)(E:XK),Room k (A.deeper (envOfC qual scope s.heap.objs.size f cdv))->sp vs H Q E ->
   ∃t,PSs (nQ CX P w K mg base N qual scope f cdv A outer s H E) body t/\t { nx:=fun _ H'=>Q .non H',rt:=Q } (start N vs) H) :
  FnOk P w K mg base CX (k+1) f (fnOf name qual params body scope dV kV doc pm an cdv ct) ps sp:=by
 refine⟨len,fun A outer s H args us vs Q E hr e0 hb r hsp=>?_⟩;have hl:=len _ _ _ _ hsp;have KX:K.In s.heap:=e0.mod.kin.keeps fun b o e=>(e0.bs b o e).1
 have lim:s.heap.NoLimit:=e0.mod.nolimit.keeps fun b o e=>(e0.bs b o e).1
 have hkind:∀y∈ps.zip us,scope.names.lookup y.1=some .local\/(scope.names.lookup y.1=some .cell/\((cellsFrom (s.heap.objs.size+1) scope.names []).lookup y.1).isSome=true):=fun hq0 hy=>by
  obtain⟨n,v⟩:=hq0;rcases S.par n (List.of_mem_zip hy).1 with q|q
  ·exact .inl q
  ·exact .inr ⟨q,cellsFrom_some _ _ _ (.inl q)⟩
 refine codeAny_call_function hr.depth (KX _ _ lk) rfl S.co S.gen rfl (codeRec_of KX hcd) (hb _ _ _ _ ?_);refine wpAny_newFunctionEnv_cells S.kind hkind fun env he s1 x=>?_
 subst he;refine⟨lim.keeps x.toInCall.keep,codeAny_func ?_⟩;obtain⟨t,ht,hq⟩:=hbody A outer s H vs Q E (hr.deeper _) hsp;have I:Inv (nQ CX P w K mg base N qual scope f cdv A outer s H E) [] (start N vs) H s1:=vR S hr.hd e0 hl r x;refine yT (ht [] s1 (start N vs) H _ I hq) (fun fl s' hs=>?_) fun e s' hs=>hs
 have ax:∀{σ':St}{H':Hp}{v:V}{u:Value},Inv (nQ CX P w K mg base N qual scope f cdv A outer s H E) [] σ' H' s'->RelV v u->Q v H'->CE outer P w H s Q u s' :=
  fun {σ' H' v u} J rv q=>⟨v,H',J.os,J.bare,J.base,J.LZ,rv,q⟩
 cases fl with
 |ret u =>
  obtain⟨v,σ',H',J,rv,q⟩:=hs;exact ax J rv q
 |next =>
  obtain⟨σ',H',J,q⟩:=hs;exact ax (v:=V.non) (u:=Value.none) J rfl q
 |brk =>
  obtain⟨_,_,_,q⟩:=hs;exact False.elim q
 |cont =>
  obtain⟨_,_,_,q⟩:=hs;exact False.elim q
section
variable{X:Cx}{x:Str}{p pos:Pos}{e:Expr}{es:List Expr}{t:TA}{id T:String}{r:List V->Hp->VK->Prop}
def CV(r:List V->Hp->VK->Prop)(t:TA):TE:=fun σ H Q=>t σ H fun vs H1=>r vs H1 Q
theorem xJ(hc:cw X (.builtin id) r)(hg:Gl X x)(hm:X.mg x=none)(hv:bootBuiltins x=some (.builtin id))(ha:PA X (e::es) t)(hn:x≠"__name__":=by decide)(hdb:(x==("__debug__":Str))=false:=by decide)
  (he:starEach (e::es) X.env=(false,eval e X.env)::starEach es X.env:=by rfl) (hpl:(backTo pos (starEach es X.env)).any (·.1)=false:=by rfl):PE X (.Call (.Name x p) (e::es) [] pos) (CV r t):=by
 intro LP s σ H Q I h;refine wpAny_Call_Name_kw (c7 I hg hm hv ?_ hn hdb);exact PyProof.Rows.callWith_builtin1 (aA (ha pos LP s σ H _ I h) fun us s1 ⟨vs,H1,I1,r1,q1⟩=>hc LP s1 σ H1 vs us Q I1 r1 q1) he hpl
theorem oh(hc:cw X (.type T) r)(hg:Gl X x)(hm:X.mg x=none)(hv:bootBuiltins x=some (.type T))(ha:PA X (e::es) t)(hn:x≠"__name__":=by decide)(hdb:(x==("__debug__":Str))=false:=by decide)
  (he:starEach (e::es) X.env=(false,eval e X.env)::starEach es X.env:=by rfl) (hpl:(backTo pos (starEach es X.env)).any (·.1)=false:=by rfl):PE X (.Call (.Name x p) (e::es) [] pos) (CV r t):=by
 intro LP s σ H Q I h;refine wpAny_Call_Name_kw (c7 I hg hm hv ?_ hn hdb);exact PyProof.Rows.callWith_type1 (aA (ha pos LP s σ H _ I h) fun us s1 ⟨vs,H1,I1,r1,q1⟩=>hc LP s1 σ H1 vs us Q I1 r1 q1) he hpl
end
end L2
namespace HT
open PySem PyProof.Rows
section
variable{prog:Program}{w:World}{A:Around}{E:Value->Shared->Prop}{s:Shared}
noncomputable def L6(n d:Nat):Option Int->Nat
 |none=>d
 |some v=>if v<0 then(v+(n:Int)).toNat else min v.toNat n
theorem sIx_none(n d:Nat):L6 n d none=d:=rfl
theorem sIx_nat(n d k:Nat):L6 n d (some (k:Int))=min k n:=by
 show(if(k:Int)<0 then((k:Int)+(n:Int)).toNat else min (k:Int).toNat n)=min k n;rw[yH oM,Int.toNat_natCast]
end
end HT
namespace L2
open PySem PySem.Spec PyProof.Rows
abbrev TO:=St->Hp->(Option Int->Hp->Prop)->Prop
def PO(X:Cx)(e:Option Expr)(t:TO):Prop :=
 ∀(LP:List (Addr×Obj))(s:Shared)(σ:St)(H:Hp)(Q:Option Int->Hp->Prop),Inv X LP σ H s->t σ H Q ->
  wpAny (model X.prog X.w) X.A (evalPart e X.env) (fun u s'=>∃o H',Inv X LP σ H' s'/\IsPart u o/\Q o H') X.xe s
noncomputable def A7:TO:=fun _ H Q=>Q none H
noncomputable def FN(t:TE):TO:=fun σ H Q=>t σ H fun x H1=>∃i,x=.int i/\Q (some i) H1
theorem jk{ns:List Int}:∀{us:List Value},Vals (ns.map V.int) us->IntsAre us ns:=by
 induction ns with
 |nil=>intro us r;rw[List.map_nil]at r;cases r;exact .nil
 |cons n ns ih =>
  intro us r;rw[zO]at r;cases r with
  |cons r1 r2 =>
   obtain⟨t,e⟩:=r1;subst e;exact .cons n t (ih r2)
section
variable{X:Cx}{e:Expr}{te:TE}{lo hi:Option Expr}{tl th:TO}{pos p2:Pos}
theorem BJ:PO X none A7:=by
 intro LP s σ H Q I h;rw[evalPart_none];exact yG ⟨none,H,I,.none,h⟩
theorem BI(h:PE X e te):PO X (some e) (FN te):=by
 intro LP s σ H Q I hw;rw[evalPart_some];refine aA (h LP s σ H _ I hw) fun u s1 hq0=>?_
 obtain⟨x,H1,I1,r1,q1⟩:=hq0;obtain⟨i,rfl,q⟩:=q1;obtain⟨t,rfl⟩:=r1;exact⟨some i,H1,I1,.int i t,q⟩
def L3(X:Cx)(r:V->Option Int->Option Int->Hp->VK->Prop):Prop :=
 ∀(LP:List (Addr×Obj))(s:Shared)(σ:St)(H:Hp)(x:V)(v vl vu:Value)(lo hi:Option Int)(sl:Addr)(Q:VK),Inv X LP σ H s->RelV x v->s.heap.IsSliceOf sl vl vu .none->IsPart vl lo->IsPart vu hi->r x lo hi H Q ->
  ∃T id,typeLookup (.type T) "__getitem__"=pure (some (.builtin id))/\s.TypeIs v T/\wpAny (model X.prog X.w) X.A (getItem v (.ref sl)) (EP X LP σ Q) X.xe s
def Hr(r:V->Option Int->Option Int->Hp->VK->Prop)(te:TE)(tl th:TO):TE:=fun σ H Q=>te σ H fun x H1=>tl σ H1 fun l H2=>th σ H2 fun u H3=>r x l u H3 Q
theorem xE{r:V->Option Int->Option Int->Hp->VK->Prop}(hr:L3 X r)(he:PE X e te)(hl:PO X lo tl)(hu:PO X hi th):PE X (.Subscript e (.Slice lo hi none p2) pos) (Hr r te tl th):=by
 intro LP s σ H Q I h;refine Subscript_ (aA (he LP s σ H _ I h) fun v s1 hq0=>?_);obtain⟨x,H1,I1,r1,q1⟩:=hq0;refine wpAny_Slice (aA (hl LP s1 σ H1 _ I1 q1) fun vl s2 ⟨l,H2,I2,pl,q2⟩=>aA (hu LP s2 σ H2 _ I2 q2) fun vu s3 hq0=>?_);obtain⟨u,H3,I3,pu,q3⟩:=hq0;rw[evalPart_none];refine yG ?_;have I4:Inv X LP σ H3 { s3 with heap:=s3.heap.push { cls:=.type "slice",data:=.fields #[vl,vu,.none] } }:=I3.kept (t':=s3.toks) fun b ob q=>zG _ q
 obtain⟨T,id,hT,ht,hg⟩:=hr LP { s3 with heap:=s3.heap.push { cls:=.type "slice",data:=.fields #[vl,vu,.none] } } σ H3 x v vl vu l u s3.heap.objs.size Q I4 r1 (Heap.IsSliceOf.new ..) pl pu q3;show wpAny (model X.prog X.w) X.A (subscriptTail e (.Slice lo hi none p2) v (.ref s3.heap.objs.size)) (EP X LP σ Q) X.xe { s3 with heap:=s3.heap.push { cls:=.type "slice",data:=.fields #[vl,vu,.none] } };exact tail_any (ops:=[.ref s3.heap.objs.size,v]) ht hT hg (by with_unfolding_all rfl)
def nR(xs:List V)(lo hi:Option Int):List V:=(xs.drop (HT.L6 xs.length 0 lo)).take (HT.L6 xs.length xs.length hi-HT.L6 xs.length 0 lo)
theorem qO(xs:List V)(lo hi:Option Int):(nR xs lo hi).length<=xs.length:=by
 unfold nR;rw[List.length_take,List.length_drop];lia
end
noncomputable def kI(n:Nat)(i:Int):Option Nat:=if 0<=i then(if i<n then some i.toNat else none) else if -(n:Int)<=i then some (i+n).toNat else none
def fD{α:Type}(xs:List α)(i:Int):Option α:=(kI xs.length i).bind fun j=>xs[j]?
theorem rF{n:Nat}{i:Int}{j:Nat}(h:kI n i=some j):seqIndex? i n=some j/\j<n/\-(n:Int)<=i/\i<n:=by
 unfold kI at h;by_cases h0:0<=i
 ·rw[yI h0]at h
  by_cases h1:i<n
  ·rw[yI h1]at h
   have e:i.toNat=j:=yE h;exact⟨by rw[seqIndex_of h0 h1,e],by lia,by lia,h1⟩
  ·rw[yH h1]at h;cases h
 ·rw[yH h0]at h
  by_cases h1:-(n:Int)<=i
  ·rw[yI h1]at h
   have e:(i+n).toNat=j:=yE h;exact⟨by rw[seqIndex_neg oM h1,e],by lia,h1,by lia⟩
  ·rw[yH h1]at h;cases h
theorem kx{α:Type}{xs:List α}{i:Int}{v:α}(h:fD xs i=some v):∃j,seqIndex? i xs.length=some j/\xs[j]?=some v/\j<xs.length/\-(xs.length:Int)<=i/\i<xs.length:=by
 unfold fD at h;cases e:kI xs.length i with
 |none=>rw[e]at h;cases h
 |some j =>
  rw[e]at h;obtain⟨h1,h2,h3,h4⟩:=rF e;exact⟨j,h1,h,h2,h3,h4⟩
def nW(b:Expr):Prop:=∀o i,subscripted b false o i=operate [o,i] (getItem o i)
def IxR(X:Cx)(r:R2):Prop :=
 ∀(value slice:Expr)(LP:List (Addr×Obj))(s:Shared)(σ:St)(H:Hp)(x y:V)(v u:Value)(Q:VK),Inv X LP σ H s->RelV x v->RelV y u->r x y H Q ->
  subscripted slice false v u=operate [v,u] (getItem v u)->wpAny (model X.prog X.w) X.A (subscriptTail value slice v u) (EP X LP σ Q) X.xe s
def k8(X:Cx)(id:String)(r:V->List V->Hp->VK->Prop):Prop :=
 ∀(LP:List (Addr×Obj))(s:Shared)(σ:St)(H:Hp)(x:V)(xs:List V)(v:Value)(us:List Value)(Q:VK),Inv X LP σ H s->RelV x v->Vals xs us->r x xs H Q ->
  wpAny (model X.prog X.w) X.A (call (.builtin id) (v::us)) (EP X LP σ Q) X.xe s
section
variable{X:Cx}{a b:Expr}{ta tb:TE}{pos:Pos}
theorem IxR.or{r r':R2}(h:IxR X r)(h':IxR X r'):IxR X (fun x y H Q=>r x y H Q\/r' x y H Q):=by
 intro value slice LP s σ H x y v u Q I rx ry q hs;rcases q with q|q
 ·exact h value slice LP s σ H x y v u Q I rx ry q hs
 ·exact h' value slice LP s σ H x y v u Q I rx ry q hs
theorem Gk{r:R2}(hr:IxR X r)(ha:PE X a ta)(hb:PE X b tb)(hs:nW b):PE X (.Subscript a b pos) (uV r ta tb):=by
 intro LP s σ H Q I h;exact Subscript_ (za ha hb I h fun v u s2 x y H2 I2 rx ry q=>hr a b LP s2 σ H2 x y v u Q I2 rx ry q (hs _ _))
def Da(K:Frag):R2:=fun x y H Q=>∃p xs i v,x=.ref p/\y=.int i/\bB K H p xs/\fD xs i=some v/\Q v H
def C8(K:Frag):R2:=fun x y H Q=>∃p xs i v,x=.ref p/\y=.int i/\gi K H p xs/\fD xs i=some v/\Q v H
def C9:R2:=fun x y H Q=>∃z i c,x=.str z/\y=.int i/\z.length<=sizeLine/\fD z.cps.toList i=some c/\Q (.str ⟨#[c]⟩) H
theorem ix_list:IxR X (Da X.K):=by
 intro value slice LP s σ H x y v u Q I rx ry h hs;obtain⟨p,xs,i,z,rfl,rfl,hq,he,q⟩:=h;cases rx;obtain⟨t,rfl⟩:=ry;obtain⟨LU,r,pl,hz⟩:=I.list hq;obtain⟨j,h1,h2,h3,h4,h5⟩:=kx he;obtain⟨w,ew,rw'⟩:=r.get h2;have hl:=r.length;have hn:=f7;have ax:EP X LP σ Q w s:=⟨z,H,I,rw',q⟩;by_cases h0:0<=i
 ·have hj:i.toNat=j:=by
   rw[seqIndex_of h0 h5]at h1;exact yE h1
  exact item_listR pl.isList h0 oM (by rw[hj];simpa using ew) ax hs
 ·have hj:(i+(LU.toArray.size:Int)).toNat=j:=by
   rw[seqIndex_neg oM h4]at h1;rw[zI,<- hl];exact yE h1
  exact subscriptTail_builtinR (x:=w) pl.isList.typeIs slot_list_getitem.lookup
   (wpAny_getItem_list_neg (Q:=fun r s'=>r=w/\EP X LP σ Q r s') pl.isList oM (by rw[zI]<;>lia) oM (by rw[hj];simpa using ew) ⟨rfl,ax⟩) hs
theorem ix_tup:IxR X (C8 X.K):=by
 intro value slice LP s σ H x y v u Q I rx ry h hs;obtain⟨p,xs,i,z,rfl,rfl,hq,he,q⟩:=h;cases rx;obtain⟨t,rfl⟩:=ry;obtain⟨LU,r,pl,hz⟩:=I.tuple hq;obtain⟨j,h1,h2,h3,h4,h5⟩:=kx he;obtain⟨w,ew,rw'⟩:=r.get h2;have hl:=r.length;have hn:=f7;have ax:EP X LP σ Q w s:=⟨z,H,I,rw',q⟩;exact subscriptTail_builtinR (x:=w) pl.typeIs slot_tuple_getitem.lookup
  (getItem_tuple (j:=j) (Q:=fun r s'=>r=w/\EP X LP σ Q r s') pl oM oM (by rw[zI,<- hl];exact h1) (by simpa using ew) ⟨rfl,ax⟩) hs
theorem EM:IxR X C9:=by
 intro value slice LP s σ H x y v u Q I rx ry h hs;obtain⟨z,i,c,rfl,rfl,hz,he,q⟩:=h;obtain⟨t,rfl⟩:=rx;obtain⟨t',rfl⟩:=ry;obtain⟨j,h1,h2,h3,h4,h5⟩:=kx he;have hl:z.cps.toList.length=z.length:=by simp[Str.length]
 rw[hl]at h1 h4 h5;have hn:=f7;exact tail_any (typeIs_str s z t) slot_str_getitem.lookup (getItem_str (c:=c) (by
  have e1:decide (i < -(2^63:Int))=false:=yA oM;have e2:decide (i ≥ 2^63)=false:=yA oM;rw[e1,e2,Bool.or_false]) (by rw[h1];simpa using h2) ⟨.str ⟨#[c]⟩,H,I.tok _,⟨_,rfl⟩,q⟩) hs
def JX(K:Frag):R2:=fun x y H Q=>Da K x y H Q\/C8 K x y H Q\/C9 x y H Q
theorem pX:IxR X (JX X.K):=ix_list.or (ix_tup.or EM)
theorem tL(LU:List Value)(n j:Nat)(u:Value):Obj.mapSeq (·.setIfInBounds j u) { cls:=.type "list",data:=.seq LU.toArray n }={ cls:=.type "list",data:=.seq (LU.set j u).toArray n }:=by
 simp[Obj.mapSeq]
theorem Inv.lst{LP:List (Addr×Obj)}{σ:St}{H:Hp}{s:Shared}{p:Addr}{xs:List V}(I:Inv X LP σ H s)(h:H p=some (.lst xs)) :
  ∃(LU:List Value)(n:Nat),Vals xs LU/\s.heap.get? p=some { cls:=.type "list",data:=.seq LU.toArray n }/\xs.length<=sizeLine:=by
 obtain⟨z,LU,n,r,e⟩:=I.LZ p _ h;exact⟨LU,n,r,e,z⟩
theorem Inv.lstUpd{LP:List (Addr×Obj)}{σ:St}{H:Hp}{s:Shared}{p:Addr}{xs ys:List V}{LU its':List Value}{n n':Nat}{f:Obj->Obj}(I:Inv X LP σ H s)(h:H p=some (.lst xs))
  (ho:s.heap.get? p=some { cls:=.type "list",data:=.seq LU.toArray n }) (hf:f { cls:=.type "list",data:=.seq LU.toArray n }={ cls:=.type "list",data:=.seq its'.toArray n' }) (r:Vals ys its') (hz:ys.length<=sizeLine) (t:Nat) :
  Inv X LP σ (ae H p (.lst ys)) { s with heap:=s.heap.update p f,toks:=t }:=by
 have e:(s.heap.update p f).get? p=some { cls:=.type "list",data:=.seq its'.toArray n' }:=by
  rw[Heap.get?_update_self f ho (by rw[hf]<;>rfl),hf]
 refine I.write (x:=p) (e:=p) (by rw[h];trivial) (.inl rfl) (fun b u hb q=>(Heap.get?_update_other _ _ (Ne.symm hb)).trans q) ⟨_,e⟩ ?_;exact⟨hz,its',n',r,e⟩
def FW:V->V->V->Hp->(Hp->Prop)->Prop:=fun o i v H Q=>∃p xs k j,o=.ref p/\i=.int k/\H p=some (.lst xs)/\kI xs.length k=some j/\Q (ae H p (.lst (xs.set j v)))
theorem xa:ui X FW:=by
 intro LP s σ H o i v ov iv u Q I ro ri rv h;obtain⟨p,xs,k,j,rfl,rfl,hp,hj,q⟩:=h;cases ro;obtain⟨t,rfl⟩:=ri;obtain⟨LU,n,r,ho,hz⟩:=I.lst hp;obtain⟨h1,h2,h3,h4⟩:=rF hj;have hl:=r.length;have hn:=f7;have I':Inv X LP σ (ae H p (.lst (xs.set j v))) { s with heap:=s.heap.update p (Obj.mapSeq (·.setIfInBounds j u)) } :=
  I.lstUpd hp ho (tL LU n j u) (r.set rv j) (by rw[List.length_set];exact hz) s.toks
 by_cases h0:0<=k
 ·have hk:k.toNat=j:=by
   rw[seqIndex_of h0 h4]at h1;exact yE h1
  exact ki_setAt ho h0 oM (by rw[zI,<- hl];exact h4) (by rw[hk];exact⟨_,I',q⟩)
 ·have hk:(k+(LU.toArray.size:Int)).toNat=j:=by
   rw[seqIndex_neg oM h3]at h1;rw[zI,<- hl];exact yE h1
  exact ki_setBack ho oM (by rw[zI,<- hl];exact h3) oM (by rw[hk];exact⟨_,I',q⟩)
theorem pq(lo hi:Option Int)(n:Nat):(sliceBounds lo hi none n).1=((HT.L6 n 0 lo:Nat):Int)/\(sliceBounds lo hi none n).2.1=((HT.L6 n n hi:Nat):Int)/\(sliceBounds lo hi none n).2.2=1:=by
 refine⟨?_,?_,rfl⟩
 ·cases lo with
  |none=>simp[sliceBounds,HT.L6]
  |some i =>
   simp only[sliceBounds,HT.L6,Option.getD_none,show(1:Int) > 0 by decide,if_true];by_cases h:i<0
   ·simp only[h,if_true]<;>lia
   ·simp only[h,if_false]<;>lia
 ·cases hi with
  |none=>simp[sliceBounds,HT.L6]
  |some i =>
   simp only[sliceBounds,HT.L6,Option.getD_none,show(1:Int) > 0 by decide,if_true];by_cases h:i<0
   ·simp only[h,if_true]<;>lia
   ·simp only[h,if_false]<;>lia
theorem oK(LU:List Value)(lo hi:Option Int):slicePick LU.toArray lo hi none=((LU.drop (HT.L6 LU.length 0 lo)).take (HT.L6 LU.length LU.length hi-HT.L6 LU.length 0 lo)).toArray:=by
 obtain⟨h1,h2,h3⟩:=pq lo hi LU.toArray.size;unfold slicePick;rw[h1,h2,h3];simp only[sliceRange_one,pick_run,zI]<;>rfl
def IV(K:Frag):V->Option Int->Option Int->Hp->VK->Prop:=fun x lo hi H Q=>∃a xs,x=.ref a/\bB K H a xs/\∀p,H p=none->Q (.ref p) (ae H p (.lst (nR xs lo hi)))
theorem Ba:L3 X (IV X.K):=by
 intro LP s σ H x v vl vu lo hi sl Q I rx hs pl pu h;obtain⟨a,xs,rfl,hx,q⟩:=h;cases rx;obtain⟨LU,r,ht,hz⟩:=I.list hx;have hlen:=r.length;refine⟨"list",_,slot_list_getitem.lookup,ht.isList.typeIs,?_⟩;refine wpAny_getItem_list_slice ht.isList hs pl pu .none (by simp) ?_ (by rw[zI]<;>lia);rw[oK,<- hlen];refine⟨.ref s.heap.objs.size,_,I.laid (t':=s.toks) (o:=.lst (nR xs lo hi)) (fun b ob q=>zG _ q) (zP _) ?_,rfl,q _ (I.LZ.fresh (zP _))⟩;exact⟨z5 (qO xs lo hi) hz,_,0,(r.drop (HT.L6 xs.length 0 lo)).take (HT.L6 xs.length xs.length hi-HT.L6 xs.length 0 lo),zY _ rfl⟩
theorem jU:cw X (.builtin "len") (fun xs H Q=>∃p ys,xs=[.ref p]/\(bB X.K H p ys\/gi X.K H p ys)/\Q (.int ys.length) H):=by
 intro LP s σ H xs us Q I r h;obtain⟨p,ys,rfl,hq,q⟩:=h;obtain⟨u,rfl,rx⟩:=dQ r;cases rx;have hn:=f7;rcases hq with hq|hq
 ·obtain⟨LU,r',pl,hz⟩:=I.list hq
  have hlen:=r'.length;exact Calls.call_len_list pl.isList (by simp only[zI]<;>lia) ⟨.int ys.length,H,I.tok _,⟨s.toks+1,by rw[zI,hlen]⟩,q⟩
 ·obtain⟨LU,r',pl,hz⟩:=I.tuple hq
  have hlen:=r'.length;exact len_tuple pl (by simp only[zI]<;>lia) ⟨.int ys.length,H,I.tok _,⟨s.toks+1,by rw[zI,hlen]⟩,q⟩
theorem qw:cw X (.builtin "len") (fun xs H Q=>∃z,xs=[.str z]/\z.length<=sizeLine/\Q (.int z.length) H):=by
 intro LP s σ H xs us Q I r h;obtain⟨z,rfl,hz,q⟩:=h;obtain⟨u,rfl,t,rfl⟩:=dQ r;have hn:=f7;exact len_str oM ⟨.int z.length,H,I.tok _,⟨_,rfl⟩,q⟩
theorem qv:cw X (.type "list") (fun xs H Q=>∃p ys,xs=[.ref p]/\(bB X.K H p ys\/gi X.K H p ys)/\∀l,H l=none->Q (.ref l) (ae H l (.lst ys))):=by
 intro LP s σ H xs us Q I r h;obtain⟨p,ys,rfl,hq,q⟩:=h;obtain⟨u,rfl,rx⟩:=dQ r;cases rx;have ax:∀(LU:List Value),Vals ys LU->ys.length<=sizeLine->∀(h':Heap)(c':Nat),(∀b o',s.heap.get? b=some o'->h'.get? b=some o') ->
   h'.get? s.heap.objs.size=some { cls:=.type "list",dict:=none,data:=.seq LU.toArray c',slots:=#[] }->EP X LP σ Q (.ref s.heap.objs.size) { s with heap:=h' }:=fun LU r' hz h' c' kp e =>
  ⟨.ref s.heap.objs.size,_,I.laid (t':=s.toks) kp (zP _) (show ObjOk X.prog X.w _ h' _ (.lst ys) from ⟨hz,LU,c',r',e⟩),rfl,q _ (I.LZ.fresh (zP _))⟩
 rcases hq with hq|hq
 ·obtain⟨LU,r',pl,hz⟩:=I.list hq
  have hlen:=r'.length;obtain⟨o,ho,hc,n,hd⟩:=pl.isList;exact call_list_seq p (.inl rfl) ho hc hd (fun h' c' kp e=>ax LU r' hz h' c' kp e) (by simp only[zI]<;>lia)
 ·obtain⟨LU,r',pl,hz⟩:=I.tuple hq
  have hlen:=r'.length;obtain⟨o,ho,hc,n,hd⟩:=pl;exact call_list_seq p (.inr rfl) ho hc hd (fun h' c' kp e=>ax LU r' hz h' c' kp e) (by simp only[zI]<;>lia)
def uw(K:Frag)(T:String)(x:V)(H:Hp):Prop:=match x with
 |.str _=>T="str"
 |.int _=>T="int"
 |.ref p=>(T="list"/\∃xs,bB K H p xs)\/(T="tuple"/\∃o,K.lookup p=some o/\o.cls=.type "tuple"/\o.dict=none) \/
   (T="dict"/\((∃LR,H p=some (.dK LR))\/∃LR,H p=some (.dT LR)))\/(T="set"/\∃S n,H p=some (.set S n))
 |_=>False
theorem uv{LP:List (Addr×Obj)}{σ:St}{H:Hp}{s:Shared}{T:String}{x:V}{v:Value}(I:Inv X LP σ H s)(r:RelV x v)(ty:uw X.K T x H) :
  s.TypeIs v T/\∀a,v=.ref a->∃ob,s.heap.get? a=some ob/\ob.dict=none:=by
 cases x with
 |str z =>
  obtain ⟨t,rfl⟩:=r;cases (show T="str" from ty);exact ⟨typeIs_str s z t,fun _ e=>nomatch e⟩
 |int i =>
  obtain ⟨t,rfl⟩:=r;cases (show T="int" from ty);exact ⟨typeIs_int s i t,fun _ e=>nomatch e⟩
 |ref p =>
  cases r;rcases ty with⟨rfl,xs,hq⟩|⟨rfl,o,hk,hc,hd⟩|⟨rfl,hk⟩|⟨rfl,S,n,hk⟩
  ·obtain⟨LU,_,pl,_⟩:=I.list hq
   refine⟨pl.isList.typeIs,fun a e=>?_⟩;cases e;obtain⟨o,n,e,c,hd,_⟩:=pl;exact⟨o,e,hd⟩
  ·refine⟨⟨o,I.kIn p o hk,hc⟩,fun a e=>?_⟩
   cases e;exact⟨o,I.kIn _ o hk,hd⟩
  ·have z:∃o,s.heap.get? p=some o/\o.ExactDict:=by
    rcases hk with⟨LR,hk⟩|⟨LR,hk⟩
    ·obtain⟨_,_,_,_,o,_,_,e,ex,_⟩:=I.LZ p _ hk
     exact⟨o,e,ex⟩
    ·obtain⟨_,_,_,_,o,_,_,e,ex,_⟩:=I.LZ p _ hk
     exact⟨o,e,ex⟩
   obtain⟨o,e,ex⟩:=z;refine⟨⟨o,e,ex.1⟩,fun a e2=>?_⟩;cases e2;exact⟨o,e,ex.2.1⟩
  ·obtain⟨o,_,_,_,e,ex,_⟩:=I.LZ p _ hk
   refine⟨⟨o,e,ex.1⟩,fun a e2=>?_⟩;cases e2;exact⟨o,e,ex.2.1⟩
 |_=>exact False.elim ty
def IN(K:Frag)(T:String)(r:V->List V->Hp->VK->Prop)(to:TE):TE:=fun σ H Q=>to σ H fun x H1=>uw K T x H1/\r x [] H1 Q
def Ht(K:Frag)(T:String)(r:V->List V->Hp->VK->Prop)(to:TE)(t:TA):TE:=fun σ H Q=>to σ H fun x H1=>uw K T x H1/\t σ H1 fun xs H2=>r x xs H2 Q
variable{o e:Expr}{es:List Expr}{to:TE}{t:TA}{name:Str}{apos cpos:Pos}{T id:String}{r:V->List V->Hp->VK->Prop}
theorem DX(pa:PlainAttrs T)(slot:Slot T name id)(hty:typeOf (.builtin id)=pure (.type "method_descriptor"))(hm:k8 X id r)(ho:PE X o to)
  (hbase:attributeBase o name X.env (eval o X.env)=eval o X.env:=by rfl) (hline:(apos.endLine==cpos.line)=true:=by rfl):PE X (.Call (.Attribute o name apos) [] [] cpos) (IN X.K T r to):=by
 intro LP s σ H Q I h;refine wpAny_Call_method0_late hbase hline (aA (ho LP s σ H _ I h) fun v s1 hq0=>?_);obtain⟨x,H1,I1,r1,ty,q1⟩:=hq0;obtain⟨h1,h2⟩:=uv I1 r1 ty;exact⟨T,id,pa,slot,hty,h1,h2,Calls.callWith_builtin rfl (PySem.evalArgs_none (hm LP s1 σ H1 x [] v [] Q I1 r1 .nil q1))⟩
theorem Gn(pa:PlainAttrs T)(slot:Slot T name id)(hty:typeOf (.builtin id)=pure (.type "method_descriptor"))(hm:k8 X id r)(ho:PE X o to)(ha:PA X (e::es) t)
  (hbase:attributeBase o name X.env (eval o X.env)=eval o X.env:=by rfl)
  (hfew:((backTo cpos (starEach (e::es) X.env)).all (fun x=>!x.1)&&(backToKw cpos (keywordEach [] X.env)).all (fun x=>x.1.isSome)
   && decide ((e::es).length+([]:List Keyword).length+(if([]:List Keyword).isEmpty then 0 else 1)<30))=true:=by rfl)
  (hline:(apos.endLine==cpos.line)=true:=by rfl) (hs:starEach (e::es) X.env=(false,eval e X.env)::starEach es X.env:=by rfl) (hplain:(backTo cpos (starEach es X.env)).any (·.1)=false:=by rfl) :
  PE X (.Call (.Attribute o name apos) (e::es) [] cpos) (Ht X.K T r to t):=by
 intro LP s σ H Q I h;refine wpAny_Call_method_late hbase hfew hline rfl (aA (ho LP s σ H _ I h) fun v s1 hq0=>?_);obtain⟨x,H1,I1,r1,ty,q1⟩:=hq0;obtain⟨h1,h2⟩:=uv I1 r1 ty;refine⟨T,id,pa,slot,hty,h1,h2,?_⟩;have hA:=ha cpos LP s1 σ H1 _ I1 q1;rw[hs]at hA ⊢;refine Calls.callWith_builtin (by show(false||(backTo cpos (starEach es X.env)).any (·.1))=false;rw[hplain]<;>rfl) (Calls.evalArgs_plain ?_);exact aA hA fun us s2 ⟨vs,H2,I2,r2,q2⟩=>hm LP s2 σ H2 x vs v us Q I2 r1 r2 q2
end
def FA(X:Cx)(id:String)(r:V->List V->Hp->VK->Prop):Prop :=
 ∀(LP:List (Addr×Obj))(s:Shared)(σ:St)(H:Hp)(x:V)(xs:List V)(v:Value)(us:List Value)(Q:VK),Inv X LP σ H s->RelV x v->Vals xs us->r x xs H Q ->
  wpAny (model X.prog X.w) X.A (call (.builtin id) (v::us)) (EP X LP σ Q) X.xe s
theorem Vals.one{x:V}{us:List Value}(h:Vals [x] us):∃u,us=[u]/\RelV x u:=by
 cases h with
 |cons r h=>cases h;exact⟨_,rfl,r⟩
theorem Vals.zero:∀{us:List Value},Vals [] us->us=[]
 |_,.nil=>rfl
theorem Vals.dropLast{xs:List V}{us:List Value}(h:Vals xs us):Vals xs.dropLast us.dropLast:=by
 induction h with
 |nil=>exact .nil
 |cons r t ih =>
  cases t with
  |nil=>exact .nil
  |cons q t'=>exact .cons r ih
theorem Vals.rep{xs:List V}{us:List Value}(h:Vals xs us):∀k:Nat,Vals (List.replicate k xs).flatten (List.replicate k us).flatten
 |0=>.nil
 |k+1=>by
  rw[List.replicate_succ,List.replicate_succ,List.flatten_cons,List.flatten_cons];exact Vals.append h (Vals.rep h k)
theorem t0{α:Type}(l:List α):l.eraseIdx (l.length-1)=l.dropLast:=by
 induction l with
 |nil=>rfl
 |cons a r ih =>
  cases r with
  |nil=>rfl
  |cons b r =>
   have e:(a::b::r).length-1=((b::r).length-1)+1:=by
    have h1:(a::b::r).length=r.length+2:=rfl;have h2:(b::r).length=r.length+1:=rfl;lia
   rw[e,List.eraseIdx_cons_succ,ih]
   all_goals rfl
theorem ot(LU:List Value):∀(k:Nat)(acc:List Value),
  List.foldl (fun x1 x2=>x1++x2) acc.toArray (List.replicate k LU.toArray)=(acc++(List.replicate k LU).flatten).toArray
 |0,acc=>by simp
 |k+1,acc=>by
  have e:acc.toArray++LU.toArray=(acc++LU).toArray:=by simp
  have e2:(acc++LU)++(List.replicate k LU).flatten=acc++(List.replicate (k+1) LU).flatten:=by
   rw[List.replicate_succ,List.flatten_cons,yN]
  rw[<- e2,<- ot LU k (acc++LU),<- e,List.replicate_succ,List.foldl_cons]
section
variable{X:Cx}{LP:List (Addr×Obj)}{σ:St}{H:Hp}{s:Shared}{l b:Addr}{xs ys zs:List V}
theorem Inv.lset{LU its':List Value}{n:Nat}{f:Array Value->Array Value}{t':Nat}(I:Inv X LP σ H s)(hH:H l=some (.lst xs))
  (e:s.heap.get? l=some { cls:=.type "list",data:=.seq LU.toArray n }) (hf:f LU.toArray=its'.toArray) (hv:Vals ys its') (hz:ys.length<=sizeLine) :
  Inv X LP σ (ae H l (.lst ys)) { s with heap:=s.heap.update l (Obj.mapSeq f),toks:=t' }:=by
 have q:=PySem.IsL.update e f;rw[hf]at q;refine I.write (x:=l) (e:=l) (by rw[hH];exact trivial) (.inl rfl) (fun b' u hb hu=>(Heap.get?_update_other s.heap (Obj.mapSeq f) (Ne.symm hb)).trans hu) ⟨_,q⟩ ?_;exact⟨hz,its',_,hv,q⟩
theorem Inv.lnew{LU:List Value}{t':Nat}(I:Inv X LP σ H s)(hv:Vals ys LU)(hz:ys.length<=sizeLine) :
  Inv X LP σ (ae H s.heap.objs.size (.lst ys)) { s with heap:=s.heap.push { cls:=.type "list",data:=.seq LU.toArray },toks:=t' } :=
 I.laid (fun _ _ q=>zG _ q) (zP _) ⟨hz,LU,0,hv,zY _ rfl⟩
theorem Inv.fresh(I:Inv X LP σ H s):H s.heap.objs.size=none:=I.LZ.fresh (zP _)
theorem Inv.lstM(I:Inv X LP σ H s)(hH:H l=some (.lst xs)):xs.length<=sizeLine/\∃(LU:List Value)(n:Nat),Vals xs LU/\xs.length=LU.length/\s.heap.get? l=some { cls:=.type "list",data:=.seq LU.toArray n }:=by
 obtain⟨z,LU,n,r,e⟩:=I.LZ l _ hH;exact⟨z,LU,n,r,r.length,e⟩
theorem notLongL{n:Nat}(h:n<=sizeLine):Builtin.List.listTooLong n=false:=by
 unfold Builtin.List.listTooLong;exact yA oM
end
section
variable{X:Cx}
def Bh:V->List V->Hp->VK->Prop:=fun x vs H Q=>∃l xs y,x=.ref l/\vs=[y]/\H l=some (.lst xs)/\xs.length<sizeLine/\Q .non (ae H l (.lst (xs++[y])))
theorem oi:FA X "list.append" Bh:=by
 intro LP s σ H x vs v us Q I rx rv h;obtain⟨l,xs,y,rfl,rfl,hH,hz,q⟩:=h;cases rx;obtain⟨u,rfl,ru⟩:=rv.one;obtain⟨z,LU,n,r,hl,e⟩:=I.lstM hH;refine call_meets F.slot_list_append ⟨_,e,rfl⟩ F.entry_list_append (F.args_list_append_2 _ _) (PySem.list_append l LU.toArray n u (by rw[zI];lia)) ⟨e,?_⟩;refine⟨.non,_,I.lset (its':=LU++[u]) hH e (by simp) (r.append (.cons ru .nil)) ?_,rfl,q⟩;rw[zV,List.length_singleton];lia
def IX:V->List V->Hp->VK->Prop:=fun x vs H Q=>∃l xs y,x=.ref l/\vs=[]/\H l=some (.lst xs)/\xs[xs.length-1]?=some y/\Q y (ae H l (.lst xs.dropLast))
theorem En:FA X "list.pop" IX:=by
 intro LP s σ H x vs v us Q I rx rv h;obtain⟨l,xs,y,rfl,rfl,hH,hy,q⟩:=h;cases rx;have hus:=rv.zero;subst hus;obtain⟨z,LU,n,r,hl,e⟩:=I.lstM hH;obtain⟨u,hu,ru⟩:=r.get hy;have hy':LU.toArray[LU.toArray.size-1]?=some u:=by
  show LU.toArray[LU.length-1]?=some u;rw[<- Array.getElem?_toList,<- hl];exact hu
 refine call_meets F.slot_list_pop ⟨_,e,rfl⟩ F.entry_list_pop (F.args_list_pop_1 _) (MeetsSeq.list_pop_last l LU.toArray n u hy' (by rw[zI];lia)) ⟨e,?_⟩;refine⟨y,_,I.lset (its':=LU.dropLast) hH e ?_ r.dropLast ?_,ru,q⟩
 ·show LU.toArray.eraseIdxIfInBounds (LU.toArray.size-1)=LU.dropLast.toArray
  rw[zI,List.eraseIdxIfInBounds_toArray,t0]
 ·rw[List.length_dropLast]
  lia
def IW:R2:=fun x y H Q=>∃l k xs,x=.ref l/\y=.int k/\H l=some (.lst xs)/\-(2^63)<=k/\k<2^63/\xs.length*k.toNat<=sizeLine /\
 ∀p,H p=none->Q (.ref p) (ae H p (.lst (List.replicate k.toNat xs).flatten))
theorem B9{α:Type}(xs:List α)(k:Nat):(List.replicate k xs).flatten.length=k*xs.length:=by
 induction k with
 |zero=>simp
 |succ k ih=>rw[List.replicate_succ,List.flatten_cons,zV,ih,Nat.succ_mul,Nat.add_comm]
theorem Ea:jX X (binaryOp .Mult) IW:=by
 intro LP s σ H x y v u Q I rx ry h;obtain⟨l,k,xs,rfl,rfl,hH,h1,h2,hz,q⟩:=h;cases rx;obtain⟨t,rfl⟩:=ry;obtain⟨z,LU,n,r,hl,e⟩:=I.lstM hH;have hlen:LU.toArray.size*k.toNat<=sizeLine:=by rw[zI,<- hl];exact hz
 have hcap:¬LU.toArray.size*k.toNat > (2^63-1)/8:=by
  have:(sizeLine:Nat)<=(2^63-1)/8:=by decide
  lia
 have hfit:¬(!Builtin.List.listFitsIndex k)=true:=by
  rw[fitsIndex_both h1 h2];exact Bool.false_ne_true
 have hlong:¬Builtin.List.listTooLong (LU.toArray.size*k.toNat)=true:=by
  rw[notLongL hlen];exact Bool.false_ne_true
 have hnew:List.foldl (fun x1 x2=>x1++x2) #[] (List.replicate (if LU.toArray.isEmpty=true then 0 else k.toNat) LU.toArray)=(List.replicate k.toNat LU).flatten.toArray:=by
  have f0:∀m:Nat,List.foldl (fun x1 x2=>x1++x2) #[] (List.replicate m LU.toArray)=(List.replicate m LU).flatten.toArray:=fun m=>by
   have:=ot LU m []
   rw[List.nil_append]at this;exact this
  rw[f0];cases LU with
  |nil=>simp
  |cons a r'=>rw[yH (by simp)]
 refine wpAny_binaryOp_repeat_ref (T:="list") (U:="int") dC ⟨_,e,rfl⟩ (fun s'=>typeIs_int s' k t) noFill_list_mul F.fills_int_mul F.slot_int_rmul repeat_list F.slot_int_index.lookup
  (call_meets F.slot_int_rmul (typeIs_int s k t) F.entry_int_rmul (F.args_int_rmul_2 _ _) (int___rmul___int_list k t l LU.toArray n)
   ⟨e,rfl,⟨_,e,rfl⟩,call_meets F.slot_list_mul ⟨_,e,rfl⟩ F.entry_list_mul (F.args_list_mul_2 _ _) (AutoListH.list___mul___list_int_3 l LU.toArray n k t hfit hcap hlong) ⟨e,?_⟩⟩)
 rw[hnew];exact⟨.ref _,_,I.lnew (t':=s.toks) (r.rep k.toNat) (by rw[B9,Nat.mul_comm];exact hz),rfl,q _ I.fresh⟩
end
end L2
namespace Att
open PySem PySem.W PySem.Calls PyProof.Rows
theorem mh{P:Params}{h:Heap}:∀(ns:List Int)(vs:List Value),WellAll P h vs (ns.map WData.int)->IntsAre vs ns:=by
 intro ns
 induction ns with
 |nil =>
  intro vs w;rw[List.map_nil]at w;cases w;exact .nil
 |cons n ns ih =>
  intro vs w;rw[zO]at w;cases w with
  |cons a b =>
   cases a;exact .cons _ _ (ih _ b)
theorem u7{l:OpenLaw}{n:Nat}(hn:l.most=some n){P:Params}{h:Heap}{args:List WData}{vals:List Value}
  (hpre:l.row.toRowW.claim.pre args=true) (hwl:WellAll P h vals args) :
  ∃a vs ns,vals=[Value.ref a]/\args=[WData.list (ns.map WData.int)]/\h.get? a=some { cls:=.type "list",data:=.seq vs.toArray }/\IntsAre vs ns/\ns.length<=n:=by
 have hsh:WShape.hasAll [] args [.list .int]=true:=(pre_splitW hpre).1;have hc:l.pre.holds [] { args:=args }=true:=(pre_splitW hpre).2;obtain⟨d,r,rfl,h1,h2⟩:=hasAllW_cons hsh;obtain rfl:=hasAllW_nil h2;obtain⟨xs,rfl,h3⟩:=hasW_list h1;obtain⟨ns,rfl⟩:=items_int h3;have hlen:ns.length<=n:=by
  unfold OpenLaw.pre at hc;have h4:(WTm.not (.lt (.lit (.int (n:Int))) (.len (.arg 0)))).holds [] { args:=[.list (ns.map .int)] }=true:=by
   have h4:=(holds_andW hc).1;rw[hn]at h4;exact h4
  have h5:=condW_of h4 (w_not (w_lt w_lit (w_len_list (w_arg rfl))));rw[zH]at h5;refine Nat.le_of_not_lt fun q=>?_
  have q':(n:Int)<((ns.length:Nat):Int):=by lia
  first
   | (rw [yW q'] at h5;exact absurd h5 dC)
   | (simp at h5;lia)
 cases hwl with
 |cons w1 w2 =>
  cases w2;cases w1 with
  |list ho hall=>exact⟨_,_,ns,rfl,rfl,ho,mh ns _ hall,hlen⟩
theorem vk(l:OpenLaw)(args:List WData):l.row.toRowW.claim.post args (.bool true) args=true :=
 postW_of (r:=l.row.toRowW) (X:=(true==true))
  (show WShape.has [] (.bool true) .bool=true by first | rfl | decide | simp [WShape.has,WShape.arms,WShape.armsAll])
  (show (WTm.eq .res (.lit (.bool true))).value [] { args:=args,res:=some (.bool true),after:=args }=some (.bool (true == true)) from w_eq_bool (w_res rfl) w_lit) rfl
theorem attach_call{l:OpenLaw}{n:Nat}{q:Program}{bG:List Str}{XP:(Str->Option Value)->Heap->Prop}{YP:World->Heap->Prop}{d:DefRec}
  (hn:l.most=some n) (hdf:d.params.defaults=[])
  (call:∀(w:World)(s₀ s₁:Shared)(mg mb:Str->Option Value)(fa:Addr)(o:Obj)(pm cd doc:Value)(a:Addr)(vs:List Value)(ns:List Int),
   Ground q bG [] XP w s₀ mg mb s₁.heap->YP w s₁.heap ->
   s₁.heap.get? fa=some o->o.data=.func (docDef d.name d.params d.body d.scope pm cd doc)->s₁.heap.CodeRec cd d.name->mg d.name=some (.ref fa) ->
   s₁.heap.get? a=some { cls:=.type "list",data:=.seq vs.toArray }->IntsAre vs ns->ns.length<=n->s₁.gens=#[] ->
   codeAny (model l.prog w) callerA (.call (.ref fa) ⟨[.ref a],[]⟩) (fun r s'=>r=.ok (.ret (.bool true))/\OldK s₁.heap s'.heap/\s'.os=s₁.os/\AllBare s'.gens) s₁) :
  WalkO q bG XP YP l.row.toRowW d [] (fun f vs=>PySem.call f vs):=by
 intro w s₀ s₁ mg mb G Y fa o pm cd doc dV kV ho hd hcd hD hmg hg args vals as hpre hlay hrd hwl hlo;obtain rfl:dV=.none:=Dflts.none hD hdf;obtain rfl:kV=.none:=Dflts.noKw hD;obtain⟨a,vs,ns,rfl,rfl,hobj,hints,hlen⟩:=u7 hn hpre hwl;refine enter_call (codeAny_mono (call w s₀ s₁ mg mb fa o pm cd doc a vs ns G Y ho (fd_plain hd) hcd hmg hobj hints hlen hg) fun r s' hq=>?_);obtain⟨rfl,h2,h3,h4⟩:=hq;exact⟨.inl ⟨.bool true,.bool true,[],rfl,fun _=>rfl,.bool true,vk l _,fun _=>⟨List.Pairwise.nil,fun _ hm=>(nomatch hm)⟩⟩,h2,h3,h4⟩
end Att
namespace L2
open PySem PySem.Spec PyProof.Rows
theorem ut:∀{vs:List Value}{ns:List Int},IntsAre vs ns->Vals (ns.map V.int) vs:=by
 intro vs ns h
 induction h with
 |nil=>exact .nil
 |cons n t h ih=>exact .cons ⟨t,rfl⟩ ih
noncomputable def c9(s:Stmt):Arguments:=match s with
 |.FunctionDef _ a _ _ _ _ _ _ _ _=>a
 |_=>{ posonlyargs:=[],args:=[],vararg:=none,kwonlyargs:=[],kw_defaults:=[],kwarg:=none,defaults:=[] }
noncomputable def c8(s:Stmt):List Stmt:=match s with
 |.FunctionDef _ _ b _ _ _ _ _ _ _=>b
 |_=>[]
noncomputable def cg(s:Stmt):Scope:=match s with
 |.FunctionDef _ _ _ _ _ _ sc _ _ _=>sc
 |_=>{ kind:=.function,names:=[],isGenerator:=false,isCoroutine:=false }
abbrev dW:jZ:=fun _ _ _ _ _ _=>False
abbrev E0:XK:=fun _ _ _=>False
theorem lR{X:Cx}:gj dW X E0:=fun _ _ _ _ _ _ _ h=>h.elim
structure Fun(K:Frag)(x qual:Str)(st:Stmt)(f:Addr)(fd:FuncData):Prop where
 ex:∃(oc:Value)(od:Option Addr)(kV doc pm:Value)(an:Option Addr)(cdv ct:Value)(osl:Array (Option Value)),
  fd=fnOf x qual (c9 st) (c8 st) (cg st) .none kV doc pm an cdv ct/\K.lookup f=some ⟨oc,od,.func fd,osl⟩/\codeIn K cdv qual=true
 kp:keepIn K (.ref f)=true
section
variable{P:Program}{w:World}{K:Frag}{mg:Str->Option Value}{base:Heap}
theorem Fun.binds{x qual:Str}{st:Stmt}{f:Addr}{fd:FuncData}{ps:List Str}(F:Fun K x qual st f fd)
  (h:∀(kV doc pm:Value)(an:Option Addr)(cdv ct:Value)(us:List Value),us.length=ps.length->bindArgs (fnOf x qual (c9 st) (c8 st) (cg st) .none kV doc pm an cdv ct) ⟨us,[]⟩=pure (ps.zip us)):Binds K fd ps []:=by
 obtain⟨oc,od,kV,doc,pm,an,cdv,ct,osl,rfl,lk,hcd⟩:=F.ex;exact .all (h kV doc pm an cdv ct)
theorem mD{x qual:Str}{st:Stmt}{f:Addr}{oc:Value}{od an:Option Addr}{osl:Array (Option Value)}{kV doc pm cdv ct:Value}(l:K.lookup f=some ⟨oc,od,.func (fnOf x qual (c9 st) (c8 st) (cg st) .none kV doc pm an cdv ct),osl⟩)
  (c:codeIn K cdv qual=true) (k:keepIn K (.ref f)=true):Fun K x qual st f (fnOf x qual (c9 st) (c8 st) (cg st) .none kV doc pm an cdv ct):=⟨⟨oc,od,kV,doc,pm,an,cdv,ct,osl,rfl,l,c⟩,k⟩
end
theorem oa{n:Nat}(h:n<=1000):n<sizeLine:=yM h dC
end L2
set_option maxHeartbeats 4000000
namespace DD
open PySem PySem.Spec PyProof.Rows L2
abbrev St:=L2.St
section
variable{X:Cx}{e:Expr}{es:List Expr}{st:Stmt}{sts:List Stmt}
theorem PE_imp{t t':TE}(h:PE X e t)(i:∀σ H Q,t' σ H Q->t σ H Q):PE X e t':=fun LP s σ H Q I h'=>h LP s σ H Q I (i σ H Q h')
theorem PT_imp{t t':TT}(h:PT X e t)(i:∀σ H Q,t' σ H Q->t σ H Q):PT X e t':=fun LP s σ H Q I h'=>h LP s σ H Q I (i σ H Q h')
theorem PW_imp{t t':TT}(h:PW X e t)(i:∀σ H Q,t' σ H Q->t σ H Q):PW X e t':=fun wh LP s σ H Q I h'=>h wh LP s σ H Q I (i σ H Q h')
theorem PA_imp{t t':TA}(h:PA X es t)(i:∀σ H Q,t' σ H Q->t σ H Q):PA X es t':=fun p LP s σ H Q I h'=>h p LP s σ H Q I (i σ H Q h')
theorem PS_imp{t t':TS}(h:PS X st t)(i:∀D σ H,t' D σ H->t D σ H):PS X st t':=fun LP s σ H D I h'=>h LP s σ H D I (i D σ H h')
theorem PSs_imp{t t':TS}(h:PSs X sts t)(i:∀D σ H,t' D σ H->t D σ H):PSs X sts t':=fun LP s σ H D I h'=>h LP s σ H D I (i D σ H h')
theorem OpR_imp{f:Value->Value->Sem Value}{r r':R2}(h:jX X f r)(i:∀x y H Q,r' x y H Q->r x y H Q):jX X f r':=fun LP s σ H x y v u Q I a b h'=>h LP s σ H x y v u Q I a b (i x y H Q h')
end
theorem PG_imp{X:Cx}{tg:Expr}{t t':TG}(h:PG X tg t)(i:∀v σ H Q,t' v σ H Q->t v σ H Q):PG X tg t':=fun LP s σ H v u Q I rv h'=>h LP s σ H v u Q I rv (i v σ H Q h')
end DD
namespace L2
open PySem PySem.Spec PyProof.Rows
theorem mK:∀(names:List (Str×NameKind))(n:Nat)(acc:List (Str×Addr)),∃own,cellsFrom n names acc=own++acc/\(∀p∈own,n<=p.2/\(p.1,NameKind.cell)∈names) /\
  (∀x,(x,NameKind.cell)∈names->∃c,(x,c)∈own)/\own.Pairwise fun x y=>x.2≠y.2
 |[],n,acc=>⟨[],rfl,(fun _ h=>by cases h),(fun _ h=>by cases h),List.Pairwise.nil⟩
 |(name,kind)::r,n,acc=>by
  unfold cellsFrom;by_cases hk:kind=.cell
  ·subst hk
   obtain⟨own,e,h1,h2,h3⟩:=mK r (n+1) ((name,n)::acc);refine⟨own++[(name,n)],?_,?_,?_,?_⟩
   ·rw[yI dC,e,yN];rfl
   ·intro p hp
    rcases zZ.mp hp with hp|hp
    ·exact⟨Nat.le_of_succ_le (h1 p hp).1,zQ _ (h1 p hp).2⟩
    ·rw[zM.mp hp];exact⟨zP _,z7⟩
   ·intro x hx
    rcases zT.mp hx with hx|hx
    ·cases hx;exact⟨n,zK _ z7⟩
    ·obtain⟨c,hc⟩:=h2 x hx;exact⟨c,zL _ hc⟩
   ·refine List.pairwise_append.mpr ⟨h3,List.pairwise_singleton _ _,fun a ha b hb e=>?_⟩
    rw[zM.mp hb]at e;have h5:=(h1 a ha).1;rw[show a.2=n from e]at h5;exact absurd h5 (Nat.not_succ_le_self n)
  ·obtain⟨own,e,h1,h2,h3⟩:=mK r n acc
   have hk':(kind==NameKind.cell)=false:=by cases kind<;>first|rfl|exact absurd rfl hk
   refine⟨own,by rw[hk'];exact e,fun p hp=>⟨(h1 p hp).1,zQ _ (h1 p hp).2⟩,fun x hx=>?_,h3⟩;rcases zT.mp hx with hx|hx
   ·cases hx;exact absurd rfl hk
   ·exact h2 x hx
theorem jn{scope:Scope}{env:Env}(h:∀x,(x,NameKind.free)∈scope.names->∃c,env.cells.lookup x=some c) :
  ∃cl,closureFor scope env=pure cl/\(∀p∈cl,env.cells.lookup p.1=some p.2)/\∀x,(x,NameKind.free)∈scope.names->∃c,(x,c)∈cl:=by
 have all:∀(names:List (Str×NameKind))(acc:List (Str×Addr)),(∀x,(x,NameKind.free)∈names->∃c,env.cells.lookup x=some c)->(∀p∈acc,env.cells.lookup p.1=some p.2) ->
   ∃cl,(forIn (m:=Sem) names acc fun(p:Str×NameKind)(cs:List (Str×Addr))=>if(p.2==NameKind.free)=true then do let __do_lift <- cellOf env p.1;pure (ForInStep.yield ((p.1,__do_lift)::cs)) else pure (ForInStep.yield cs))=pure cl /\
    (∀p∈cl,env.cells.lookup p.1=some p.2)/\(∀p∈acc,p∈cl)/\∀x,(x,NameKind.free)∈names->∃c,(x,c)∈cl:=by
  intro names
  induction names with
  |nil=>intro acc _ ha;exact⟨acc,by rw[List.forIn_nil],ha,fun _ h=>h,(fun _ h=>by cases h)⟩
  |cons p r ih =>
   obtain⟨name,kind⟩:=p;intro acc hn ha;by_cases hk:kind=.free
   ·subst hk
    obtain⟨c,hc⟩:=hn name z7;obtain⟨cl,e,h1,h2,h3⟩:=ih ((name,c)::acc) (fun x hx=>hn x (zQ _ hx)) (fun p hp=>by
     rcases zT.mp hp with rfl|hp
     ·exact hc
     ·exact ha p hp)
    refine⟨cl,?_,h1,fun p hp=>h2 p (zQ _ hp),fun x hx=>?_⟩
    ·rw[List.forIn_cons]
     have ec:cellOf env name=pure c:=by unfold cellOf;rw[hc]
     simp only[ec];exact e
    ·rcases zT.mp hx with hx|hx
     ·cases hx;exact⟨c,h2 _ z7⟩
     ·exact h3 x hx
   ·obtain⟨cl,e,h1,h2,h3⟩:=ih acc (fun x hx=>hn x (zQ _ hx)) ha
    have hk':(kind==NameKind.free)=false:=by cases kind<;>first|rfl|exact absurd rfl hk
    refine⟨cl,?_,h1,h2,fun x hx=>?_⟩
    ·rw[List.forIn_cons];simp only[hk',yB,if_false];exact e
    ·rcases zT.mp hx with hx|hx
     ·cases hx;exact absurd rfl hk
     ·exact h3 x hx
 obtain⟨cl,e,h1,_,h3⟩:=all scope.names [] h (fun _ h=>by cases h);refine⟨cl,?_,h1,h3⟩;simp only[closureFor];rw[e];rfl
theorem xO{M:Model}{A:Around}{E:Value->Shared->Prop}{s:Shared}{scope:Scope}{env:Env}{cl:List (Str×Addr)}{Q:Env->Shared->Prop}
  (hQ:Q (newEnv scope s.heap.objs.size env.globals (cellsFrom (s.heap.objs.size+1) scope.names cl) env.qual none .none (some env) builtinsNs) { s with heap:=pushCells (s.heap.push { cls:=.type "dict",data:=.dict #[] }) scope.names }) :
  wpAny M A (newFunctionEnv scope env.globals cl [] env.qual none .none (some env)) Q E s:=by
 simp only[newFunctionEnv,Option.isSome_some,if_true];refine yF (wpAny_alloc ?_);refine yF (wpAny_layCells _ (fun name kind cells=>by cases hkc:kind==NameKind.cell<;>simp[hkc]) _ _ _ _ ?_);rw[show({ s with heap:=s.heap.push { cls:=.type "dict",data:=.dict #[] } }:Shared).heap.objs.size=s.heap.objs.size+1 from Heap.size_push ..];refine yF ?_;rw[List.forIn_nil];exact yG (yG hQ)
def bW(X:Cx)(N':List Str)(scope:Scope)(cl:List (Str×Addr))(s:Shared)(H:Hp)(fp:List Addr)(LP:List (Addr×Obj)):Cx :=
 { X with N:=N',s₀:=s,H₀:=H,env:=compEnvC scope (cellsFrom (s.heap.objs.size+1) scope.names cl) s.heap.objs.size X.env,outer:=X.stack,stack:=X.stack,ex:=fp,
          fn:=fun x=>scope.names.lookup x==some .cell,pn:=X.pn++LP,xe:=fun _ _=>False }
structure iR(X:Cx)(N':List Str)(scope:Scope):Prop where
 kind:scope.kind=.function
 nd:(scope.names.map (·.1)).Nodup
 len:X.N.length<=N'.length
 free:∀x,(x,NameKind.free)∈scope.names->X.env.kindOf x=some .cell\/X.env.kindOf x=some .free
 same:∀i x,i<X.N.length->N'[i]?=some x->(x,NameKind.free)∈scope.names->X.N[i]?=some x
 hid:∀i x,i<X.N.length->N'[i]?=some x->(∃k,(x,k)∈scope.names)->(x,NameKind.free)∈scope.names
theorem cH{α:Type}:∀{l:List (Str×α)}{x:Str}{k:α},(l.map (·.1)).Nodup->(x,k)∈l->l.lookup x=some k
 |(y,j)::r,x,k,nd,h=>by
  rw[zO,List.nodup_cons]at nd;rcases zT.mp h with h|h
  ·cases h;rw[yO];simp
  ·have ne:x≠y:=fun e=>nd.1 (e▸List.mem_map_of_mem (f:=(·.1)) h)
   rw[yO];have:(x==y)=false:=by simpa using ne
   rw[this];exact cH nd.2 h
theorem eY{α:Type}:∀{l:List (Str×α)}{x:Str}{k:α},(x,k)∈l->∃k',l.lookup x=some k'
 |(y,j)::r,x,k,h=>by
  rw[yO];cases hb:x==y with
  |true=>exact⟨j,rfl⟩
  |false =>
   rcases zT.mp h with h|h
   ·cases h;simp at hb
   ·exact eY h
theorem fT{scope:Scope}{env:Env}{x:Str}{k:NameKind}(h:(relabel scope env).names.lookup x=some k):(x,k)∈scope.names\/((x,NameKind.free)∈scope.names/\k=.cell):=by
 have h1:=mem_of_lookup h;unfold relabel at h1;obtain⟨⟨n,j⟩,hm,e⟩:=yD.mp h1;dsimp only at e;split at e
 ·rename_i hc
  cases e;refine .inr ⟨?_,rfl⟩;have:j=.free:=by
   cases j<;>simp at hc<;>rfl
  subst this;exact hm
 ·cases e;exact .inl hm
theorem oP{α:Type}{a b:List (Str×α)}{x:Str}(h:∀p∈a,p.1≠x):(a++b).lookup x=b.lookup x:=by
 induction a with
 |nil=>rfl
 |cons p r ih =>
  obtain⟨y,j⟩:=p;rw[List.cons_append,yO];have:(x==y)=false:=by
   have:=h (y,j) z7
   simpa using fun e:x=y=>this e.symm
  rw[this];exact ih fun p hp=>h p (zQ _ hp)
section
variable{X:Cx}{N':List Str}{scope:Scope}{cl:List (Str×Addr)}{s:Shared}{H:Hp}{fp:List Addr}{LP:List (Addr×Obj)}{σ:St}
theorem yx(T:iR X N' scope)(I:Inv X LP σ H s)(hcl:∀p∈cl,X.env.cells.lookup p.1=some p.2)(hfr:∀x,(x,NameKind.free)∈scope.names->∃c,(x,c)∈cl)
  (hf:∀b∈fp,dg X LP H b) (ho:∀b∈fp,∃o,s.heap.get? b=some o) :
  Inv (bW X N' scope cl s H fp LP) [] (σ++List.replicate (N'.length-X.N.length) none) H { s with heap:=pushCells (s.heap.push { cls:=.type "dict",data:=.dict #[] }) scope.names }:=by
 obtain⟨own,eo,o1,o2,o3⟩:=mK scope.names (s.heap.objs.size+1) cl;have keep:∀b o,s.heap.get? b=some o->(pushCells (s.heap.push { cls:=.type "dict",data:=.dict #[] }) scope.names).get? b=some o:=fun b o e=>pushCells_keeps _ _ b o (zG _ e)
 have clt:∀x c,(x,c)∈cl->c<s.heap.objs.size:=fun x c h=>by
  obtain⟨v,z⟩:=I.cell x c (hcl _ h);exact z.lt
 -- what a cell of the block is
 have cases_:∀x c,(own++cl).lookup x=some c->(s.heap.objs.size+1<=c/\(x,c)∈own)\/X.env.cells.lookup x=some c:=fun x c h=>by
  rcases zZ.mp (mem_of_lookup h) with h|h
  ·exact .inl ⟨(o1 _ h).1,h⟩
  ·exact .inr (hcl _ h)
 have hst:∀b∈fp,b∉i5 X.stack:=fun b hb z=>by
  rcases zT.mp (I.stkSub b z) with e|e
  ·exact(hf b hb).2.1 e
  ·exact(hf b hb).2.2.1 e
 have okc:CellsOk (pushCells (s.heap.push { cls:=.type "dict",data:=.dict #[] }) scope.names) (s.heap.objs.size+1) (cellsFrom (s.heap.objs.size+1) scope.names []):=by
  have q:=cellsFrom_ok scope.names (s.heap.push { cls:=.type "dict",data:=.dict #[] }) (s.heap.objs.size+1) [] ⟨(fun _ _ hm=>by cases hm),List.Pairwise.nil⟩ (by rw[Heap.size_push];exact zP _);rw[Heap.size_push]at q;exact q
 have eown:cellsFrom (s.heap.objs.size+1) scope.names []=own:=by
  obtain⟨own',e',_⟩:=mK scope.names (s.heap.objs.size+1) [];have gen:∀(names:List (Str×NameKind))(n:Nat)(acc:List (Str×Addr)),cellsFrom n names acc=cellsFrom n names []++acc:=by
   intro names
   induction names with
   |nil=>intro n acc;rfl
   |cons p r ih =>
    obtain⟨name,kind⟩:=p;intro n acc;unfold cellsFrom;split
    ·rw[ih (n+1) ((name,n)::acc),ih (n+1) [(name,n)],yN];rfl
    ·exact ih n acc
  have:=gen scope.names (s.heap.objs.size+1) cl
  rw[eo]at this;exact(List.append_cancel_right this).symm
 have ok:(bW X N' scope cl s H fp LP).Ok:=by
  refine⟨I.ok.mod,T.kind,I.ok.glob,I.ok.blt,zP _,fun x y c h1 h2=>?_,fun x h=>?_,fun x c h1 h2=>?_,I.ok.hd,I.ok.frames,.inl rfl,fun b hb=>⟨?_,fun x c h=>?_⟩,I.bs,z5 I.ok.bsz I.sz,fun b o e hb=>?_,hst,I.stack,I.stkFree⟩
  ·have h1:(own++cl).lookup x=some c:=eo▸h1
   have h2:(own++cl).lookup y=some c:=eo▸h2;rcases cases_ x c h1 with⟨l1,m1⟩|e1
   ·rcases cases_ y c h2 with⟨l2,m2⟩|e2
    ·exact name_of_addr o3 m1 m2
    ·obtain⟨v,z⟩:=I.cell y c e2
     exact absurd (zJ z.lt (Nat.le_of_succ_le (by first|exact l2|exact l1))) (xB _)
   ·rcases cases_ y c h2 with⟨l2,m2⟩|e2
    ·obtain⟨v,z⟩:=I.cell x c e1
     exact absurd (zJ z.lt (Nat.le_of_succ_le (by first|exact l2|exact l1))) (xB _)
    ·exact I.ok.inj x y c e1 e2
  ·show ∃c,(cellsFrom (s.heap.objs.size+1) scope.names cl).lookup x=some c
   rw[eo];have fromFree:(x,NameKind.free)∈scope.names->∃c,(own++cl).lookup x=some c:=fun hm=>by
    obtain⟨c,hc⟩:=hfr x hm;exact eY (zK own hc)
   have fromCell:(x,NameKind.cell)∈scope.names->∃c,(own++cl).lookup x=some c:=fun hm=>by
    obtain⟨c,hc⟩:=o2 x hm;exact eY (zL cl hc)
   rcases h with h|h
   ·rcases fT h with h|⟨h,_⟩
    ·exact fromCell h
    ·exact fromFree h
   ·rcases fT h with h|⟨h,e⟩
    ·exact fromFree h
    ·cases e
  ·have h2:(own++cl).lookup x=some c:=eo▸h2
   have hc:scope.names.lookup x=some .cell:=by
    have:(scope.names.lookup x==some NameKind.cell)=true:=h1;simpa using this
   rcases cases_ x c h2 with⟨l1,m1⟩|e1
   ·exact Nat.le_of_succ_le l1
   ·-- x is one of the block's own: LU cell stands ahead
    obtain⟨c',hc'⟩:=o2 x (mem_of_lookup hc);obtain⟨c2,hc2⟩:=eY hc';have:(own++cl).lookup x=some c2:=by
     have gen:∀l:List (Str×Addr),l.lookup x=some c2->(l++cl).lookup x=some c2:=by
      intro l
      induction l with
      |nil=>intro h;cases h
      |cons p r ih =>
       obtain⟨y,j⟩:=p;intro h;rw[List.cons_append,yO];rw[yO]at h;cases hb:x==y with
       |true=>rw[hb]at h;exact h
       |false=>rw[hb]at h;exact ih h
     exact gen own hc2
    rw[this]at h2;cases h2;exact Nat.le_of_succ_le (o1 _ (mem_of_lookup hc2)).1
  ·obtain⟨o,e⟩:=ho b hb
   exact zU (yJ e)
  ·have h:(own++cl).lookup x=some c:=eo▸h
   obtain⟨o,e⟩:=ho b hb;have hlt:=yJ e;rcases cases_ x c h with⟨l1,m1⟩|e1
   ·intro z
    rw[z]at l1;exact absurd (zJ hlt (Nat.le_of_succ_le l1)) (xB _)
   ·exact(hf b hb).2.2.2.2.1 x c e1
  ·rcases(hf b hb).2.2.2.1 with z|z
   ·exact I.ok.noex b o e z
   ·exact absurd (zJ (yJ e) (z5 I.ok.bsz z)) (xB _)
 refine⟨ok,rfl,I.bare,Un.kept keep,⟨fun _=>none,(Heap.Ns.new s.heap (.type "dict")).keeps (pushCells_keeps _ _),fun i x v e1 e2 e3=>?_⟩,fun x c h=>?_,I.LZ.fresh (zP _),fun x c h=>?_,fun p hp=>?_,I.LZ.kept keep,?_⟩
 ·-- a name of the code around
  have hlen:=I.len;have hi:i<σ.length:=by
   rcases yU i σ.length with h|h
   ·exact h
   ·rw[z6 h]at e2
    rw[List.getElem?_replicate]at e2;split at e2<;>cases e2
  rw[zN hi]at e2;have hmem:∃k,(x,k)∈scope.names:=by
   have:∃k,(relabel scope X.env).names.lookup x=some k:=by
    rcases e3 with h|h|h<;>exact⟨_,h⟩
   obtain⟨k,h⟩:=this;rcases fT h with h|⟨h,_⟩<;>exact⟨_,h⟩
  have hfree:=T.hid i x oM e1 hmem;have eX:=T.same i x oM e1 hfree;have kX:=T.free x hfree;obtain⟨m,hn,hl⟩:=I.loc;obtain⟨u,ru,lk⟩:=hl i x v eX e2 (by rcases kX with h|h;exact .inr (.inl h);exact .inr (.inr h));refine⟨u,ru,.inr ⟨?_,?_⟩⟩
  ·-- LU kind in the block
   have:∃k,(relabel scope X.env).names.lookup x=some k:=by
    rcases e3 with h|h|h<;>exact⟨_,h⟩
   obtain⟨k,h⟩:=this;rcases fT h with h'|⟨h',e⟩
   ·have e5:=cH T.nd h'
    have e6:=cH T.nd hfree;rw[e5]at e6;cases e6;exact .inr h
   ·subst e;exact .inl h
  ·rcases lk with⟨k1,_⟩|⟨_,c,hc,z⟩
   ·rcases kX with h|h<;>rw[h]at k1<;>cases k1
   ·refine⟨c,?_,z.keeps keep⟩
    show(cellsFrom (s.heap.objs.size+1) scope.names cl).lookup x=some c;rw[eo,oP fun p hp e=>?_]
    ·obtain⟨c',hc'⟩:=hfr x hfree
     obtain⟨c2,hc2⟩:=eY hc'
     have:=hcl _ (mem_of_lookup hc2)
     rw[hc]at this;cases this;exact hc2
    ·have e5:=cH T.nd (o1 p hp).2
     rw[e]at e5;have e6:=cH T.nd hfree;rw[e5]at e6;cases e6
 ·have h:(own++cl).lookup x=some c:=eo▸h
  rcases cases_ x c h with⟨l1,m1⟩|e1
  ·exact⟨none,(okc.empty x c (eown▸m1)).1⟩
  ·obtain⟨v,z⟩:=I.cell x c e1
   exact⟨v,z.keeps keep⟩
 ·have h:(own++cl).lookup x=some c:=eo▸h
  rcases cases_ x c h with⟨l1,m1⟩|e1
  ·exact I.LZ.fresh (Nat.le_of_succ_le l1)
  ·exact I.freeC x c e1
 ·rw[List.append_nil]at hp
  obtain⟨e,n,ne,nf,d⟩:=I.pin p hp;refine⟨keep _ _ e,n,zU (yJ e),fun z=>?_,d⟩;rcases zT.mp (I.stkSub p.1 z) with z|z
  ·exact ne z
  ·exact nf z
 ·show(σ++List.replicate (N'.length-X.N.length) none).length=N'.length
  rw[zV,List.length_replicate,I.len]
  have:=T.len
  lia
theorem Fh{σ1:St}{H1:Hp}{s1:Shared}{h':Heap}{pins1:List (Addr×Obj)}(I:Inv X LP σ H s)(hf:∀b∈fp,dg X LP H b)(I1:Inv (bW X N' scope cl s H fp LP) pins1 σ1 H1 s1)(hs:Heap.SameBut s.heap.objs.size s1.heap h') :
  Inv X LP σ H1 { s1 with heap:=h' }:=by
 have hC:∀b o,s.heap.get? b=some o->b≠s.heap.objs.size:=fun b o e=>zU (yJ e)
 have u:=I1.base;have u2:Un (i5 X.stack) fp H H1 s.heap h':=by
  refine⟨fun b o e n hb hx=>?_,fun b o e n hb hx=>?_,u.free,fun b o e hx=>?_,u.tups,u.frzs,u.tbls⟩
  ·rw[hs.2 b (hC b o e)];exact u.keep b o e n hb hx
  ·obtain⟨sl,q⟩:=u.slot b o e n hb hx
   exact⟨sl,by rw[hs.2 b (hC b o e)];exact q⟩
  ·obtain⟨o',q⟩:=u.there b o e hx
   exact⟨o',by rw[hs.2 b (hC b o e)];exact q⟩
 have hCf:H1 s.heap.objs.size=none:=I1.free;refine I.call' (s':={ s1 with heap:=h' }) I1.os u2 (fun b o e=>?_) I1.bare fun b hb=>⟨(hf b hb).2.2.2.1,(hf b hb).2.1,(hf b hb).2.2.2.2.1,(hf b hb).2.2.2.2.2⟩
 refine(I1.LZ b o e).stay (fun c v hc q=>(hs.2 c ?_).trans q) (fun _ q=>q) fun _ _ q=>q
 rintro rfl;rcases hc with z|z
 ·rw[<- z,hCf]at e;cases e
 ·rw[hCf]at z;cases z
def sA(X:Cx)(ifs:List Expr)(t:TT):Prop :=
 ∀(LP:List (Addr×Obj))(s:Shared)(σ:St)(H:Hp)(Q:Bool->Hp->Prop),Inv X LP σ H s->t σ H Q ->
  wpAny (model X.prog X.w) X.A (forIn ifs true fun c r=>if r=true then do let ok <- isTrue c X.env (eval c X.env);pure (ForInStep.yield ok) else pure (ForInStep.yield r)) (TP X LP σ Q) X.xe s
theorem BL:sA X [] (fun _ H Q=>Q true H):=fun LP s σ H Q I h=>wpAny_tests_nil ⟨H,I,h⟩
theorem BK{c:Expr}{t:TT}(h:PT X c t):sA X [c] t:=fun LP s σ H Q I h'=>wpAny_tests_one (h LP s σ H Q I h')
def CU(k:Nat)(wi:TI)(g:TG)(tt:TT)(te:TE):TE:=fun σ H Q=>wi σ H fun J H1=>∀p,H1 p=none ->
 ∃W:Nat->Nat->St->Hp->Prop,(∃m,W 0 m (σ++List.replicate k none) (ae H1 p (.lst [])))/\∀i m σ' H',W i m σ' H' ->
  (J.stop i H'/\Q (.ref p) H')\/(J.go i H'/\∀x H2,J.yld i H' x H2->g x σ' H2 fun σ2 H3=>tt σ2 H3 fun ok H4=>if ok=true then
   te σ2 H4 fun y H5=>∃ys,H5 p=some (.lst ys)/\ys.length<sizeLine/\∃m',m'<m/\W (i+1) m' σ2 (ae H5 p (.lst (ys++[y])))
   else ∃m',m'<m/\W (i+1) m' σ2 H4)
theorem qr{prog:Program}{w:World}{A:Around}{R:Result->Shared->Prop}{s:Shared}{elt target iter:Expr}{ifs:List Expr}{scope:Scope}{pos:Pos}{it acc:Value}{env:Env}(I:Nat->Shared->Prop)
  (turn:∀n s,I n s->wpAny (model prog w) A (pyNext it) (fun r s₁=>match r with
   |none=>R (.ok .next) s₁
   |some v=>wpAny (model prog w) A (letOwnedTupleGo target it v) (fun _ s₁'=>wpAny (model prog w) A (assign target env v) (fun _ s₂ =>
     wpAny (model prog w) A (forIn ifs true fun c r=>if r=true then do let ok <- isTrue c env (eval c env);pure (ForInStep.yield ok) else pure (ForInStep.yield r)) (fun ok s₃ =>
      if ok=true then wpAny (model prog w) A (eval elt env) (fun x s₄ =>
       wpAny (model prog w) A (call (.builtin "list.append") [acc,x]) (fun _ s₅=>∃m,m<n/\I m s₅) (fun _ _=>False) s₄) (fun _ _=>False) s₃
      else ∃m,m<n/\I m s₃) (fun _ _=>False) s₂) (fun _ _=>False) s₁') (fun _ _=>False) s₁) (fun _ _=>False) s)
  (n:Nat) (h:I n s):codeAny (model prog w) A (.compLoop (.ListComp elt [⟨target,iter,ifs,0⟩] scope pos) 0 it acc env) R s:=by
 refine codeAny_loop rfl I (fun n s hI=>?_) n h;show wpAny _ A ((compTurn (.ListComp elt [⟨target,iter,ifs,0⟩] scope pos) 0 it acc env).onRaise (fun x=>do noteFrame x env;theTreesLotGoes x)) _ _ s;refine wpAny_noted ?_;rw[compTurn_list];refine yF (wpAny_standAt (yF (yT (turn n s hI) (fun r s₁ h₁=>?_) fun _ _ h'=>h'.elim)));cases r with
 |none=>exact yG h₁
 |some v =>
  refine yF (yT h₁ (fun _ s₁' h₁'=>?_) fun _ _ h'=>h'.elim);refine yF (yT h₁' (fun _ s₂ h₂=>yF (yT h₂ (fun ok s₃ h₃=>?_) fun _ _ h'=>h'.elim)) fun _ _ h'=>h'.elim);cases ok with
  |false=>exact yG ⟨rfl,h₃⟩
  |true =>
   exact yF (yF (yT h₃ (fun x s₄ h₄=>yF (yT h₄ (fun _ s₅ h₅=>yG (yG ⟨rfl,h₅⟩)) fun _ _ h'=>h'.elim)) fun _ _ h'=>h'.elim))
theorem pU{elt iter tg:Expr}{ifs:List Expr}{pos:Pos}{g:TG}{tt:TT}{te:TE}{J:It}{it:Addr}{tn:Nat->Heap->Prop}{Q:VK}{E:Value->Shared->Prop}{RR:Value->Addr->Result->Shared->Prop}
  (hc:X.calm=true) (T:iR X N' scope) (hcl:∀p∈cl,X.env.cells.lookup p.1=some p.2) (hfr:∀x,(x,NameKind.free)∈scope.names->∃c,(x,c)∈cl)
  (hg:∀cl s H fp LP,PG (bW X N' scope cl s H fp LP) tg g) (ht:∀cl s H fp LP,sA (bW X N' scope cl s H fp LP) ifs tt) (he:∀cl s H fp LP,PE (bW X N' scope cl s H fp LP) elt te)
  (I:Inv X LP σ H s) (Tn:jr X.prog X.w X.K tg J fp it tn) (st0:tn 0 s.heap) (hf:∀b∈fp,dg X LP H b)
  (h:∀p,H p=none->∃W:Nat->Nat->St->Hp->Prop,(∃m,W 0 m (σ++List.replicate (N'.length-X.N.length) none) (ae H p (.lst [])))/\∀i m σ' H',W i m σ' H' ->
   (J.stop i H'/\Q (.ref p) H')\/(J.go i H'/\∀x H2,J.yld i H' x H2->g x σ' H2 fun σ2 H3=>tt σ2 H3 fun ok H4=>if ok=true then
    te σ2 H4 fun y H5=>∃ys,H5 p=some (.lst ys)/\ys.length<sizeLine/\∃m',m'<m/\W (i+1) m' σ2 (ae H5 p (.lst (ys++[y])))
    else ∃m',m'<m/\W (i+1) m' σ2 H4))
  (hRR:∀p C s1 H1,Inv X LP σ H1 s1->Q (.ref p) H1->(∃m,s1.heap.Ns C m)->H1 C=none->s.heap.objs.size<=C->RR (.ref p) C (.ok .next) s1) :
  wpAny (model X.prog X.w) X.A (newList []) (fun acc s₃=>wpAny (model X.prog X.w) X.A (newFunctionEnv scope X.env.globals cl [] X.env.qual none .none (some X.env)) (fun cenv s₄ =>
   codeAny (model X.prog X.w) X.A (.compStart (.ListComp elt [⟨tg,iter,ifs,0⟩] scope pos) 0 (.ref it) acc { cenv with scope:=relabel scope X.env }) (RR acc cenv.locals) s₄) E s₃) E s:=by
 refine wpAny_newObj_type (xO ?_);have hp:H s.heap.objs.size=none:=I.fresh;obtain⟨W,⟨m0,w0⟩,turn⟩:=h _ hp;have I2:Inv X LP σ (ae H s.heap.objs.size (.lst [])) { s with heap:=s.heap.push { cls:=.type "list",data:=.seq ([]:List Value).toArray } }:=Inv.lnew (t':=s.toks) (LU:=[]) (ys:=[]) I .nil (Nat.zero_le _);have hf2:∀b∈fp,dg X LP (ae H s.heap.objs.size (.lst [])) b:=fun b hb=>by
  obtain⟨o,e,_⟩:=Tn.obj _ _ st0 b hb;exact⟨by rw[ad (zU (yJ e))];exact(hf b hb).1,(hf b hb).2⟩
 have ho2:∀b∈fp,∃o,(s.heap.push { cls:=.type "list",data:=.seq ([]:List Value).toArray }:Heap).get? b=some o:=fun b hb=>by
  obtain⟨o,e,_⟩:=Tn.obj _ _ st0 b hb;exact⟨o,zG _ e⟩
 have I3:=yx T I2 hcl hfr hf2 ho2;have st3:tn 0 (pushCells ((s.heap.push { cls:=.type "list",data:=.seq ([]:List Value).toArray }).push { cls:=.type "dict",data:=.dict #[] }) scope.names) :=
  Tn.keep _ _ _ st0 fun b hb o e=>pushCells_keeps _ _ b o (zG _ (zG _ e))
 generalize hs2:({ s with heap:=s.heap.push { cls:=.type "list",data:=.seq ([]:List Value).toArray } }:Shared)=s2 at I2 I3;have hC:s.heap.objs.size<=s2.heap.objs.size:=by rw[<- hs2];exact yZ (by show _<(s.heap.push _).objs.size;rw[Heap.size_push];exact Nat.lt_succ_self _)
 have stat:∀{H':Hp},(∀b∈fp,H' b=none)->∀b∈fp,dg (bW X N' scope cl s2 (ae H s.heap.objs.size (.lst [])) fp LP) [] H' b:=fun {H'} hn b hb=>by
  refine⟨hn b hb,(I3.ok.exf b hb).1,I3.ok.exfs b hb,.inl hb,(I3.ok.exf b hb).2,fun p hp=>?_⟩;rw[List.append_nil]at hp;exact(hf b hb).2.2.2.2.2 p hp
 have loop:∀s4,s4=({ s2 with heap:=pushCells (s2.heap.push { cls:=.type "dict",data:=.dict #[] }) scope.names }:Shared) ->
   codeAny (model X.prog X.w) X.A (.compLoop (.ListComp elt [⟨tg,iter,ifs,0⟩] scope pos) 0 (.ref it) (.ref s.heap.objs.size) (bW X N' scope cl s2 (ae H s.heap.objs.size (.lst [])) fp LP).env) (RR (.ref s.heap.objs.size) s2.heap.objs.size) s4:=by
  rintro s4 rfl;refine qr (fun n s'=>∃i σ' H',Inv (bW X N' scope cl s2 (ae H s.heap.objs.size (.lst [])) fp LP) [] σ' H' s'/\tn i s'.heap/\(∀b∈fp,H' b=none)/\W i n σ' H') ?_ m0
   ⟨0,_,_,I3,by subst hs2;exact st3,fun b hb=>(hf2 b hb).1,w0⟩
  rintro n s3 ⟨i,σ3,H3,I4,st4,fr4,w4⟩;rcases turn i n σ3 H3 w4 with⟨stop,qn⟩|⟨go,step⟩
  ·refine aA (Tn.done (bW X N' scope cl s2 (ae H s.heap.objs.size (.lst [])) fp LP) rfl rfl rfl hc i [] s3 σ3 H3 (fun _ _=>False) I4 (stat fr4) st4 stop) fun r s5 hq0=>?_
   obtain⟨hr,I5⟩:=hq0;subst hr;obtain⟨m,hn,_⟩:=I5.loc;exact hRR _ _ s5 H3 (Fh I2 hf2 I5 (Heap.SameBut.refl _ _)) qn ⟨m,hn⟩ I5.free hC
  ·refine aA (Tn.item (bW X N' scope cl s2 (ae H s.heap.objs.size (.lst [])) fp LP) rfl rfl rfl hc i [] s3 σ3 H3 (fun _ _=>False) I4 (stat fr4) st4 go) fun r s5 hq0=>?_
   obtain⟨u,hr,h5⟩:=hq0;subst hr;refine aA h5 fun _ s6 hq0=>?_
   obtain⟨x,H6,I6,r6,y6,st6,fr6⟩:=hq0;have I6':=I6.pinned (stat fr6) (Tn.obj _ _ st6);have again:∀{σ7:St}{H7:Hp}{s7:Shared}{m':Nat},Inv (bW X N' scope cl s2 (ae H s.heap.objs.size (.lst [])) fp LP) ([]++fi fp s6.heap) σ7 H7 s7->m'<n->W (i+1) m' σ7 H7 ->
     ∃m,m<n/\∃i σ' H',Inv (bW X N' scope cl s2 (ae H s.heap.objs.size (.lst [])) fp LP) [] σ' H' s7/\tn i s7.heap/\(∀b∈fp,H' b=none)/\W i m σ' H':=fun {σ7 H7 s7 m'} I7 hm w7=>by
    refine⟨m',hm,i+1,σ7,H7,I7.unpinned,Tn.keep _ _ _ st6 fun b hb o e=>(I7.pin (b,o) (zK _ (zK _ (cR hb e)))).1,fun b hb=>?_,w7⟩;obtain⟨o,e,d⟩:=Tn.obj _ _ st6 b hb;exact(I7.pin (b,o) (zK _ (zK _ (cR hb e)))).2.1
   refine aA (hg _ _ _ _ _ _ s6 σ3 H6 x u _ I6' r6 (step x H6 y6)) fun _ s7 hq0=>?_
   obtain⟨σ7,H7,I7,q7⟩:=hq0;refine aA (ht _ _ _ _ _ _ s7 σ7 H7 _ I7 q7) fun ok s8 hq0=>?_
   obtain⟨H8,I8,q8⟩:=hq0;cases ok with
   |false =>
    simp only[yB,if_false]at q8 ⊢;obtain⟨m',hm,w8⟩:=q8;exact again I8 hm w8
   |true =>
    simp only[if_true]at q8 ⊢;refine aA (he _ _ _ _ _ _ s8 σ7 H8 _ I8 q8) fun y s9 hq0=>?_
    obtain⟨yv,H9,I9,r9,ys,e9,l9,m',hm,w9⟩:=hq0;refine aA (oi _ s9 σ7 H9 (.ref s.heap.objs.size) [yv] (.ref s.heap.objs.size) [y] (fun _ H'=>H'=ae H9 s.heap.objs.size (.lst (ys++[yv]))) I9 rfl (.cons r9 .nil) ⟨_,ys,yv,rfl,rfl,e9,l9,rfl⟩) fun _ s10 hq0=>?_
    obtain⟨_,H10,I10,_,e10⟩:=hq0;subst e10;exact again I10 hm w9
 have st5:tn 0 (pushCells (s2.heap.push { cls:=.type "dict",data:=.dict #[] }) scope.names):=by subst hs2;exact st3
 have ax:=codeAny_compStart_list (loop _ rfl) (Tn.self X.A 0 _ _ (notedBy (model X.prog X.w) X.A (bW X N' scope cl s2 (ae H s.heap.objs.size (.lst [])) fp LP).env fun x s'=>RR (.ref s.heap.objs.size) s2.heap.objs.size (.error x) s') st5 (loop _ rfl));subst hs2;exact ax
end
section
variable{X:Cx}{N':List Str}{scope:Scope}{LP:List (Addr×Obj)}{σ:St}{elt iter tg:Expr}{ifs:List Expr}{pos:Pos}{wi:TI}{g:TG}{tt:TT}{te:TE}
theorem pT(T:iR X N' scope):∀x∈scope.names,x.2=.local->scope.names.lookup x.1=some .local:=fun x hx e=>by
 obtain⟨n,k⟩:=x;cases e;exact cH T.nd hx
theorem Gj(hc:X.calm=true)(T:iR X N' scope)(hi:PI X tg iter wi)(hg:∀cl s H fp LP,PG (bW X N' scope cl s H fp LP) tg g)(ht:∀cl s H fp LP,sA (bW X N' scope cl s H fp LP) ifs tt)
  (he:∀cl s H fp LP,PE (bW X N' scope cl s H fp LP) elt te) (hs:∀x,foldedSetIterable iter X.env x=pure x:=by intro _;rfl) :
  PE X (.ListComp elt [⟨tg,iter,ifs,0⟩] scope pos) (CU (N'.length-X.N.length) wi g tt te):=by
 intro LP s σ H Q I h;obtain⟨cl,hclos,hcl,hfr⟩:=jn (scope:=scope) (env:=X.env) fun x hx=>I.ok.has x (T.free x hx)
 rw[eval_ListComp];refine wpAny_comprehension_free (use:=none) rfl hs hclos T.kind (pT T) (yT (hi LP s σ H _ I h) (fun xv s1 h1=>yT h1 (fun itv s2 h2=>?_) fun _ _ e=>e) fun _ _ e=>e);obtain⟨it,fp,tn,J,H2,rfl,I2,Tn,st2,f2,R⟩:=h2;refine pU (Q:=Q) (RR:=fun acc C=>compPost (model X.prog X.w) X.A X.xe none (EP X LP σ Q) acc C) hc T hcl hfr hg ht he I2 Tn st2 f2 R ?_;rintro p C s3 H3 I3 q ⟨m,hn⟩ hC hle;refine⟨m,hn,fun h' hs'=>⟨.ref p,H3,?_,rfl,q⟩⟩;refine I3.turned (t':=s3.toks) (it:=C) (fun b o hb e=>(hs'.2 b hb).trans e) hC ?_ (.inr (z5 I2.sz hle)) (fun x c e=>?_) fun p hp=>?_
 ·exact Ne.symm (zU (zJ I2.lt hle))
 ·obtain⟨v,z⟩:=I2.cell x c e
  exact zU (zJ z.lt hle)
 ·exact zU (zJ (yJ (I2.pin p hp).1) hle)
theorem vi{i:Nat}{y:Str}{py spos:Pos}(hN:X.N.Nodup)(hiN:X.N[i]?=some y)(hx:Loc X.env.scope y)(hsw:swapsWith (.ListComp elt [⟨tg,iter,ifs,0⟩] scope pos) (some (.Name y py)) spos.line X.env=pure true)
  (hc:X.calm=true) (T:iR X N' scope) (hi:PI X tg iter wi) (hg:∀cl s H fp LP,PG (bW X N' scope cl s H fp LP) tg g) (ht:∀cl s H fp LP,sA (bW X N' scope cl s H fp LP) ifs tt)
  (he:∀cl s H fp LP,PE (bW X N' scope cl s H fp LP) elt te) (hs:∀x,foldedSetIterable iter X.env x=pure x:=by intro _;rfl) (hf:X.fn y=true\/X.env.scope.names.lookup y=some .local:=by first|exact .inl rfl|exact .inr rfl|assumption) :
  PS X (.Assign [.Name y py] (.ListComp elt [⟨tg,iter,ifs,0⟩] scope pos) spos) (sP (CU (N'.length-X.N.length) wi g tt te) (my i)):=by
 intro LP s σ H D I h;obtain⟨cl,hclos,hcl,hfr⟩:=jn (scope:=scope) (env:=X.env) fun x hx=>I.ok.has x (T.free x hx)
 rw[exec_Assign_Name_used _ _ _ _ hsw];refine yF (wpAny_standAt (yF ?_));show wpAny _ X.A (do let _ <- comprehension (.ListComp elt [⟨tg,iter,ifs,0⟩] scope pos) scope X.env _ (newList []) false (eval iter X.env) (some (assign (.Name y py) X.env))) _ _ s;refine yF (yT (wpAny_comprehension_free (use:=some (assign (.Name y py) X.env)) (Q:=fun _ s'=>SP X LP D .next s') rfl hs hclos T.kind (pT T)
  (yT (hi LP s σ H _ I h) (fun xv s1 h1=>yT h1 (fun itv s2 h2=>?_) fun _ _ e=>e) fun _ _ e=>e)) (fun _ s' hq=>yG (yG hq)) fun _ _ e=>e)
 obtain⟨it,fp,tn,J,H2,rfl,I2,Tn,st2,f2,R⟩:=h2;refine pU (Q:=fun x H1=>my i x σ H1 D.nx) (RR:=fun acc C=>compPost (model X.prog X.w) X.A X.xe (some (assign (.Name y py) X.env)) (fun _ s'=>SP X LP D .next s') acc C) hc T hcl hfr hg ht he I2 Tn st2 f2 R ?_;rintro p C s3 H3 I3 q ⟨m,hn⟩ hC hle;have hCL:C≠X.env.locals:=Ne.symm (zU (zJ I2.lt hle));have hCc:∀x c,X.env.cells.lookup x=some c->c≠C:=fun x c e=>by
  obtain⟨v,z⟩:=I2.cell x c e;exact zU (zJ z.lt hle)
 show wpAny _ X.A (assign (.Name y py) X.env (.ref p)) _ _ _;refine wpAny_assign_Name (n9 (v:=.ref p) I3 hN hiN hx rfl (fun s4 I4 hq0=>?_) hf);obtain⟨a,sb,ha⟩:=hq0;have hne:C≠a:=by
  rcases ha with e|e
  ·rw[e];exact hCL
  ·exact(hCc _ _ e).symm
 refine⟨m,hn.sameBut sb hne,fun h' hs'=>⟨_,H3,?_,q⟩⟩;refine I4.turned (t':=s4.toks) (it:=C) (fun b o hb e=>(hs'.2 b hb).trans e) hC hCL (.inr (z5 I2.sz hle)) hCc fun p hp=>?_
 exact zU (zJ (yJ (I2.pin p hp).1) hle)
end
end L2
namespace DD
open PySem PySem.Spec PyProof.Rows L2
section
variable{X:Cx}{LP:List (Addr×Obj)}{σ:St}{H:Hp}{s:Shared}{F:Addr->Prop}
theorem obj_list(I:L2.Inv X LP σ H s){a:Addr}{vs:List V}(h:bB X.K H a vs):∃LU o n,Vals vs LU/\s.heap.get? a=some o/\o.cls=.type "list"/\o.data=.seq LU.toArray n:=by
 obtain⟨LU,r,⟨o,n,e,c,_,d⟩,_⟩:=I.list h;exact⟨LU,o,n,r,e,c,d⟩
theorem obj_tup(I:L2.Inv X LP σ H s){a:Addr}{vs:List V}(h:gi X.K H a vs):∃LU o n,Vals vs LU/\s.heap.get? a=some o/\o.cls=.type "tuple"/\o.data=.seq LU.toArray n:=by
 obtain⟨LU,r,⟨o,e,c,n,d⟩,_⟩:=I.tuple h;exact⟨LU,o,n,r,e,c,d⟩
end
noncomputable def pyOk(p q:PyData):Bool:=p.canLay0&&q.canLay0&&decide (min p.depth q.depth<=50)
end DD
namespace L2
open PySem PySem.Spec PyProof.Rows
def Ie(K:Frag)(a b:Addr):It :=
 ⟨fun i H=>∃xs ys x y,bB K H a xs/\bB K H b ys/\xs[i]?=some x/\ys[i]?=some y,
  fun i H x H'=>∃p u w,(∀xs,bB K H a xs->xs[i]?=some u)/\(∀ys,bB K H b ys->ys[i]?=some w)/\H p=none/\H'=ae H p (.tup [u,w])/\x=.ref p,
  fun i H=>∃xs ys,bB K H a xs/\bB K H b ys/\(xs.length<=i\/ys.length<=i)⟩
theorem Inv.turnT{X:Cx}{LP:List (Addr×Obj)}{σ:St}{H:Hp}{s:Shared}{h':Heap}{ch:List Addr}{u w:V}{x y:Value}(I:Inv X LP σ H s)(hf:∀b∈ch,dg X LP H b)(ru:RelV u x)(rw':RelV w y)
  (hk:∀c o,c∉ch->s.heap.get? c=some o->h'.get? c=some o) (hT:IsPair h' s.heap.objs.size x y) (hth:∀b∈ch,∃o,h'.get? b=some o):Inv X LP σ (ae H s.heap.objs.size (.tup [u,w])) { s with heap:=h' }:=by
 have hfr:H s.heap.objs.size=none:=I.fresh;have nch:∀b o,H b=some o->b∉ch:=fun b o e hb=>by rw[(hf b hb).1]at e;cases e
 have ne:∀b o,s.heap.get? b=some o->b≠s.heap.objs.size:=fun b o e=>zU (yJ e)
 refine I.step (g':=s.gens) (d':=s.drawn) (t':=s.toks) (ch:=ch) (fun b hb=>⟨(hf b hb).2.2.2.1,(hf b hb).2.1,(hf b hb).2.2.2.2.1,(hf b hb).2.2.2.2.2⟩) (fun b o _ _ hc e _=>hk b o hc e)
  (fun b o _ _ hc e _=>⟨o.slots,hk b o hc e⟩) (fun b o _ e n=>by rw[ad (ne b o e)];exact n) (fun b o hc e=>⟨o,hk b o hc e⟩) (fun b xs e=>by rw[ad (aT e hfr)];exact e)
  (fun b o v e=>by rw[ad (aT e hfr)];exact e) (fun b ps e=>⟨#[],by rw[ad (aT e hfr),e];simp⟩) (fun m hm=>?_) (fun b o e=>?_) I.bare
 ·obtain⟨o,es,ep,ho,r⟩:=hm
  exact⟨o,es,ep,hk _ o (fun z=>(hf _ z).2.1 rfl) ho,r⟩
 ·by_cases hb:b=s.heap.objs.size
  ·subst hb
   rw[aw]at e;cases e;refine⟨by show 2<=sizeLine;decide,[x,y],.cons ru (.cons rw' .nil),⟨_,hT,rfl,_,rfl⟩⟩
  ·rw[ad hb]at e
   refine(I.LZ b o e).stay (fun c v hc q=>hk c v ?_ q) (fun c q=>by rw[ad (aT q hfr)];exact q) fun c xs q=>by rw[ad (aT q hfr)];exact q
   rcases hc with rfl|hc
   ·exact nch _ _ e
   ·exact nch _ _ hc
theorem Inv.turnN{X:Cx}{LP:List (Addr×Obj)}{σ:St}{H:Hp}{s:Shared}{h':Heap}{ch:List Addr}(I:Inv X LP σ H s)(hf:∀b∈ch,dg X LP H b)
  (hk:∀c o,c∉ch->s.heap.get? c=some o->h'.get? c=some o):Inv X LP σ H { s with heap:=h' }:=by
 have nch:∀b o,H b=some o->b∉ch:=fun b o e hb=>by rw[(hf b hb).1]at e;cases e
 refine I.step (g':=s.gens) (d':=s.drawn) (t':=s.toks) (ch:=ch) (fun b hb=>⟨(hf b hb).2.2.2.1,(hf b hb).2.1,(hf b hb).2.2.2.2.1,(hf b hb).2.2.2.2.2⟩) (fun b o _ _ hc e _=>hk b o hc e)
  (fun b o _ _ hc e _=>⟨o.slots,hk b o hc e⟩) (fun b o _ e n=>n) (fun b o hc e=>⟨o,hk b o hc e⟩) (fun b xs e=>e)
  (fun b o v e=>e) (fun b ps e=>⟨#[],by rw[e];simp⟩) (fun m hm=>?_) (fun b o e=>?_) I.bare
 ·obtain⟨o,es,ep,ho,r⟩:=hm
  exact⟨o,es,ep,hk _ o (fun z=>(hf _ z).2.1 rfl) ho,r⟩
 ·refine(I.LZ b o e).stay (fun c v hc q=>hk c v ?_ q) (fun c q=>q) fun c xs q=>q
  rcases hc with rfl|hc
  ·exact nch _ _ e
  ·exact nch _ _ hc
theorem cM{X:Cx}{LP:List (Addr×Obj)}{σ:St}{H:Hp}{s:Shared}{a b:Addr}{xs:List V}(I:Inv X LP σ H s)(h:bB X.K H a xs)(hb:dg X LP H b)(hob:∃o,s.heap.get? b=some o/\o.cls≠.type "list"):a≠b:=by
 rintro rfl;obtain⟨LU,r,⟨o,n,e,c,_⟩,_⟩:=I.list h;obtain⟨o',e',c'⟩:=hob;rw[e]at e';cases e';exact c' c
theorem wQ{P:Program}{w:World}{K:Frag}{elts:List Expr}{x1:Nat}{tpos:Pos}(a b z TI TO i1 i2:Addr)(D1:TI≠z)(D2:TO≠z)(D3:i1≠z)(D4:i2≠z)(D5:TI≠TO)(D6:TI≠i1)(D7:TI≠i2)(D8:TO≠i1)(D9:TO≠i2)(D10:i1≠i2) :
  jr P w K (.Tuple elts x1 tpos) (Ie K a b) [z,TI,TO,i1,i2] z (fun i h=>IsZip h z TI TO .none/\IsPair h TI (.ref i1) (.ref i2)/\(∃u v,IsPair h TO u v)/\h.IsListIter i1 a i/\h.IsListIter i2 b i) where
 mem:=by simp
 obj:=fun i h hq0 c hc=>by
  obtain⟨hz,hTI,⟨u,v,hTO⟩,⟨o1,e1,c1,d1⟩,⟨o2,e2,c2,d2⟩⟩:=hq0;simp only[zT,zX,or_false]at hc;rcases hc with rfl|rfl|rfl|rfl|rfl
  ·exact⟨_,hz,fun v z=>nomatch z⟩
  ·exact⟨_,hTI,fun v z=>nomatch z⟩
  ·exact⟨_,hTO,fun v z=>nomatch z⟩
  ·exact⟨_,e1,fun v z=>by rw[d1]at z;cases z⟩
  ·exact⟨_,e2,fun v z=>by rw[d2]at z;cases z⟩
 keep:=fun i h h' ⟨hz,hTI,⟨u,v,hTO⟩,h1,h2⟩ k=>⟨k z (by simp) _ hz,k TI (by simp) _ hTI,⟨u,v,k TO (by simp) _ hTO⟩,h1.at fun o e=>k i1 (by simp) o e,h2.at fun o e=>k i2 (by simp) o e⟩
 item:=by
  rintro X hP hw hK hc i LP s σ H E I hf ⟨hz,hTI,⟨ua,ub,hTO⟩,h1,h2⟩ ⟨xs,ys,x,y,hq1,hq2,hx,hy⟩;subst hP hw hK;obtain⟨its1,rv1,p1,_⟩:=I.list hq1;obtain⟨its2,rv2,p2,_⟩:=I.list hq2;obtain⟨u1,hu1,ru1⟩:=rv1.get hx;obtain⟨u2,hu2,ru2⟩:=rv2.get hy;have ob:∀c∈[z,TO,i1,i2],∃o,s.heap.get? c=some o/\o.cls≠.type "list":=fun c hc=>by
   obtain⟨o1,e1,c1,d1⟩:=id h1;obtain⟨o2,e2,c2,d2⟩:=id h2;simp only[zT,zX,or_false]at hc;rcases hc with rfl|rfl|rfl|rfl
   ·exact⟨_,hz,by simp⟩
   ·exact⟨_,hTO,by simp⟩
   ·exact⟨_,e1,by rw[c1];simp⟩
   ·exact⟨_,e2,by rw[c2];simp⟩
  have na:∀c∈[z,TO,i1,i2],a≠c:=fun c hc=>cM I hq1 (hf c (by simp at hc ⊢;rcases hc with h|h|h|h<;>simp[h])) (ob c hc)
  have nb:∀c∈[z,TO,i1,i2],b≠c:=fun c hc=>cM I hq2 (hf c (by simp at hc ⊢;rcases hc with h|h|h|h<;>simp[h])) (ob c hc)
  have D:ZipApart z TI TO i1 i2 a b:=⟨D1,D2,D3,D4,D5,D6,D7,D8,D9,D10,na z (by simp),na TO (by simp),na i1 (by simp),na i2 (by simp),nb z (by simp),nb TO (by simp),nb i1 (by simp),nb i2 (by simp)⟩;refine wpAny_pyNext_zip_item D hz hTI hTO h1 h2 p1.isList p2.isList (x:=u1) (y:=u2) (by simpa using hu1) (by simpa using hu2) fun h' a1 a2 a3 a4 a5 a6 hk=>?_
  have hf4:∀c∈[z,TO,i1,i2],dg X LP H c:=fun c hc=>hf c (by simp at hc ⊢;rcases hc with h|h|h|h<;>simp[h])
  have hk':∀c o,c∉[z,TO,i1,i2]->s.heap.get? c=some o->h'.get? c=some o:=fun c o hc e=>hk c o (fun q=>hc (by simp[q])) (fun q=>hc (by simp[q])) (fun q=>hc (by simp[q])) (fun q=>hc (by simp[q])) e
  have I1:Inv X LP σ (ae H s.heap.objs.size (.tup [x,y])) { s with heap:=h' }:=I.turnT hf4 ru1 ru2 hk' a5 (fun c hc=>by
   obtain⟨o1,e1,_⟩:=id a3;obtain⟨o2,e2,_⟩:=id a4;simp only[zT,zX,or_false]at hc;rcases hc with rfl|rfl|rfl|rfl
   ·exact⟨_,a1⟩
   ·exact⟨_,a2⟩
   ·exact⟨_,e1⟩
   ·exact⟨_,e2⟩)
  have hfr:H s.heap.objs.size=none:=I.fresh;refine⟨_,rfl,wpAny_letOwnedTupleGo_zip (s:={ s with heap:=h' }) a1 fun h'' z1 sb=>?_⟩;have hf5:∀c∈[z,TI,TO,i1,i2],(ae H s.heap.objs.size (.tup [x,y])) c=none:=fun c hc=>by
   have lt:c<s.heap.objs.size:=by
    obtain⟨o1,e1,_⟩:=id h1;obtain⟨o2,e2,_⟩:=id h2;simp only[zT,zX,or_false]at hc;rcases hc with rfl|rfl|rfl|rfl|rfl
    ·exact yJ hz
    ·exact yJ hTI
    ·exact yJ hTO
    ·exact yJ e1
    ·exact yJ e2
   rw[ad (zU lt)];exact(hf c hc).1
  have I2:Inv X LP σ (ae H s.heap.objs.size (.tup [x,y])) { s with heap:=h'' }:=Inv.turnN (s:={ s with heap:=h' }) (ch:=[z]) I1 (fun c hc=>by
   have:c=z:=by simpa using hc
   subst this;exact⟨hf5 c (by simp),(hf c (by simp)).2⟩) (fun c o hc e=>(sb.2 c (fun q=>hc (by simp[q]))).trans e)
  refine⟨.ref s.heap.objs.size,_,I2,rfl,⟨_,x,y,fun zs hzs=>by rw[I.list_inj hzs hq1];exact hx,fun zs hzs=>by rw[I.list_inj hzs hq2];exact hy,hfr,rfl,rfl⟩,⟨z1,?_,⟨u1,u2,?_⟩,?_,?_⟩,hf5⟩
  ·exact(sb.2 TI D1).trans (hk' TI _ (by simp[D1,D5,D6,D7]) hTI)
  ·exact(sb.2 TO D2).trans a2
  ·exact a3.at fun o e=>(sb.2 i1 D3).trans e
  ·exact a4.at fun o e=>(sb.2 i2 D4).trans e
 done:=by
  rintro X hP hw hK hc i LP s σ H E I hf ⟨hz,hTI,⟨ua,ub,hTO⟩,h1,h2⟩ ⟨xs,ys,hq1,hq2,hend⟩;subst hP hw hK;obtain⟨its1,rv1,p1,_⟩:=I.list hq1;obtain⟨its2,rv2,p2,_⟩:=I.list hq2;have ob:∀c∈[z,TO,i1,i2],∃o,s.heap.get? c=some o/\o.cls≠.type "list":=fun c hc=>by
   obtain⟨o1,e1,c1,d1⟩:=id h1;obtain⟨o2,e2,c2,d2⟩:=id h2;simp only[zT,zX,or_false]at hc;rcases hc with rfl|rfl|rfl|rfl
   ·exact⟨_,hz,by simp⟩
   ·exact⟨_,hTO,by simp⟩
   ·exact⟨_,e1,by rw[c1];simp⟩
   ·exact⟨_,e2,by rw[c2];simp⟩
  have hf4:∀c∈[z,TO,i1,i2],dg X LP H c:=fun c hc=>hf c (by simp at hc ⊢;rcases hc with h|h|h|h<;>simp[h])
  have na:∀c∈[z,TO,i1,i2],a≠c:=fun c hc=>cM I hq1 (hf4 c hc) (ob c hc)
  have nb:∀c∈[z,TO,i1,i2],b≠c:=fun c hc=>cM I hq2 (hf4 c hc) (ob c hc)
  have D:ZipApart z TI TO i1 i2 a b:=⟨D1,D2,D3,D4,D5,D6,D7,D8,D9,D10,na z (by simp),na TO (by simp),na i1 (by simp),na i2 (by simp),nb z (by simp),nb TO (by simp),nb i1 (by simp),nb i2 (by simp)⟩;have hl1:=rv1.length;have hl2:=rv2.length;refine wpAny_pyNext_zip_end (I.ok.hd hc) D hz hTI hTO h1 h2 p1.isList p2.isList (by rcases hend with h|h;(left;simp;lia);(right;simp;lia)) fun h' hk=>⟨rfl,?_⟩
  exact I.turnN hf4 fun c o hc e=>hk c o (fun q=>hc (by simp[q])) (fun q=>hc (by simp[q])) (fun q=>hc (by simp[q])) (fun q=>hc (by simp[q])) e
 self:=fun _ _ _ _ _ ⟨hz,_⟩ h=>wpAny_pyIter_zip hz h
def Jl(K:Frag)(ta:TA):TI:=fun σ H R=>ta σ H fun vs H1=>∃a b,vs=[.ref a,.ref b]/\(∃xs,bB K H1 a xs)/\(∃ys,bB K H1 b ys)/\R (Ie K a b) H1
theorem DK{X:Cx}{elts:List Expr}{x1:Nat}{tpos:Pos}{a b:Expr}{ta:TA}{p pos:Pos}(hg:Gl X "zip")(hm:X.mg "zip"=none)(ha:PA X [a,b] ta)(hs:starEach [a,b] X.env=[(false,eval a X.env),(false,eval b X.env)]:=by rfl)(hs2:starEach [b] X.env=[(false,eval b X.env)]:=by rfl) :
  PI X (.Tuple elts x1 tpos) (.Call (.Name "zip" p) [a,b] [] pos) (Jl X.K ta):=by
 intro LP s σ H R I h;refine Call_ (c7 I hg hm boot_zip (PyProof.Rows.callWith_type1 (aA (ha pos LP s σ H _ I h) fun us s1 ⟨vs,H1,I1,r1,q1⟩=>?_) (by rw[hs,hs2]) (by rw[hs2];rfl)));obtain⟨l1,l2,e,⟨xs,hq1⟩,⟨ys,hq2⟩,q⟩:=q1;subst e;cases r1 with
 |cons r rr =>
  cases rr with
  |cons r' rr =>
   cases rr;cases r;cases r';obtain⟨its1,rv1,p1,_⟩:=I1.list hq1;obtain⟨its2,rv2,p2,_⟩:=I1.list hq2;refine call_zip_2 p1.isList p2.isList fun h' hz hTI hTO h1 h2 hsz hk=>?_
   have I2:Inv X LP σ H1 { s1 with heap:=h' }:=I1.kept (t':=s1.toks) hk;refine wpAny_pyIter_zip (s:={ s1 with heap:=h' }) hz ?_;have lt:∀k:Nat,s1.heap.objs.size<=s1.heap.objs.size+k:=fun k=>Nat.le_add_right _ _
   refine⟨_,[s1.heap.objs.size+4,s1.heap.objs.size+2,s1.heap.objs.size+3,s1.heap.objs.size,s1.heap.objs.size+1],_,_,H1,rfl,I2,
    wQ l1 l2 (s1.heap.objs.size+4) (s1.heap.objs.size+2) (s1.heap.objs.size+3) s1.heap.objs.size (s1.heap.objs.size+1) ?_ ?_ ?_ ?_ ?_ ?_ ?_ ?_ ?_ ?_,⟨hz,hTI,⟨_,_,hTO⟩,h1,h2⟩,fun c hc=>?_,q⟩
   all_goals first
    | (show _ + _ ≠ _ + _;intro z;exact absurd (Nat.add_left_cancel z) dC)
    | (show _ ≠ _ + _;intro z;exact absurd z (by have:=Nat.lt_add_of_pos_right (n:=s1.heap.objs.size) (k:=4) dC;have:=Nat.lt_add_of_pos_right (n:=s1.heap.objs.size) (k:=1) dC;exact zU (by assumption)))
    | (show _ + _ ≠ _;exact Nat.ne_of_gt (Nat.lt_add_of_pos_right dC))
    |skip
   have hle:s1.heap.objs.size<=c:=by
    simp only[zT,zX,or_false]at hc;rcases hc with rfl|rfl|rfl|rfl|rfl
    ·exact lt 4
    ·exact lt 2
    ·exact lt 3
    ·exact zP _
    ·exact lt 1
   obtain⟨f0,f1,f2,f3,f4,f5⟩:=I1.fpOk hle (I1.LZ.fresh hle);exact⟨f0,f1,f2,f3,f4,f5⟩
theorem yk{X:Cx}:zf X (fun o i H Q=>∃p xs k v,o=.ref p/\i=.int k/\bB X.K H p xs/\fD xs k=some v/\Q v H):=by
 rintro LP s σ H o i ov iv Q I ro ri ⟨p,xs,k,v,e1,e2,hq,he,q⟩;subst e1 e2;cases ro;obtain⟨t,rfl⟩:=ri;obtain⟨LU,r,pl,hz⟩:=I.list hq;obtain⟨j,h1,h2,h3,h4,h5⟩:=kx he;obtain⟨w,ew,rw'⟩:=r.get h2;have hl:=r.length;have hn:=f7;have ax:EP X LP σ Q w s:=⟨v,H,I,rw',q⟩;by_cases h0:0<=k
 ·have hj:k.toNat=j:=by
   rw[seqIndex_of h0 h5]at h1;exact yE h1
  exact wpAny_getItem_list pl.isList h0 oM (by rw[hj];simpa using ew) ax
 ·have hj:(k+(LU.toArray.size:Int)).toNat=j:=by
   rw[seqIndex_neg oM h4]at h1;rw[zI,<- hl];exact yE h1
  exact wpAny_getItem_list_neg pl.isList oM (by rw[zI]<;>lia) oM (by rw[hj];simpa using ew) ax
end L2
namespace DD
open PySem PySem.Spec PyProof.Rows L2
section
variable{X:Cx}{e o a b:Expr}{es:List Expr}{p q:DP}{c c':DE}{pos apos cpos:Pos}{i:Nat}{js:List DP}
theorem cnt_vals{h:Heap}{q:PyData}{e:Value->Bool}(he:∀v p as,Reads h v p as->e v=PyData.eqv p q):∀{vs:List Value}{ps:List PyData}{as:List Addr},ReadsAll h vs ps as->vs.countP e=ps.countP fun r=>PyData.eqv r q:=by
 intro vs
 induction vs with
 |nil=>intro ps as h;cases h;rfl
 |cons v vs ih =>
  intro ps as h;cases h with
  |cons r rs=>rw[List.countP_cons,List.countP_cons,ih rs,he _ _ _ r]
theorem reads_each{h:Heap}:∀{vs:List Value}{ps:List PyData}{as:List Addr},ReadsAll h vs ps as->∀v∈vs,∃p as',p∈ps/\Reads h v p as':=by
 intro vs
 induction vs with
 |nil=>intro ps as h v hv;cases hv
 |cons v vs ih =>
  intro ps as h v hv;cases h with
  |cons r rs =>
   rcases zT.mp hv with rfl|hv
   ·exact⟨_,_,z7,r⟩
   ·obtain⟨p,as',hp,h⟩:=ih rs v hv
    exact⟨p,as',zQ _ hp,h⟩
noncomputable def minL:List Int->Option Int
 |[]=>none
 |x::xs=>some (xs.foldl (fun a b=>if b<a then b else a) x)
theorem minF:∀(xs:List Int)(x:Int),(xs.foldl (fun a b=>if b<a then b else a) x∈x::xs)/\∀a∈x::xs,xs.foldl (fun a b=>if b<a then b else a) x<=a
 |[],x=>⟨by simp,by simp⟩
 |y::xs,x=>by
  obtain⟨h1,h2⟩:=minF xs (if y<x then y else x);rw[List.foldl_cons];constructor
  ·rcases zT.mp h1 with h|h
   ·rw[h];split<;>simp
   ·simp[h]
  ·intro a ha
   have hm:=h2 (if y<x then y else x) (by simp);have hx:(if y<x then y else x)<=x:=by split<;>lia
   have hy:(if y<x then y else x)<=y:=by split<;>lia
   rcases zT.mp ha with rfl|ha
   ·exact Int.le_trans hm hx
   ·rcases zT.mp ha with rfl|ha
    ·exact Int.le_trans hm hy
    ·exact h2 a (by simp[ha])
theorem minL_eq{ns:List Int}{m M:Int}(h:minL ns=some m)(h1:M∈ns)(h2:∀a∈ns,M<=a):M=m:=by
 cases ns with
 |nil=>cases h1
 |cons x xs =>
  cases h;obtain⟨g1,g2⟩:=minF xs x;have a1:=g2 M h1;have a2:=h2 _ g1;lia
end
section
variable{X:Cx}{e o a b:Expr}{es:List Expr}{p q:DP}{c c':DE}{pos apos cpos:Pos}{i:Nat}{js:List DP}
theorem any_vals{h:Heap}{q:PyData}{e:Value->Bool}(he:∀v p as,Reads h v p as->e v=PyData.eqv p q):∀{vs:List Value}{ps:List PyData}{as:List Addr},ReadsAll h vs ps as->vs.any e=ps.any fun r=>PyData.eqv r q
 |_,_,_,.nil=>rfl
 |_,_,_,.cons r rs=>by rw[List.any_cons,List.any_cons,any_vals he rs,he _ _ _ r]
end
end DD
namespace L2
open PySem PySem.Spec PyProof.Rows
def wJ(K:Frag)(a:Addr)(n0:Nat):It :=
 ⟨fun i H=>∃xs x,bB K H a xs/\xs[i]?=some x,
  fun i H x H'=>∃p u,(∀xs,bB K H a xs->xs[i]?=some u)/\H p=none/\H'=ae H p (.tup [.int ((n0+i:Nat):Int),u])/\x=.ref p,
  fun i H=>∃xs,bB K H a xs/\xs.length=i⟩
theorem oy{prog:Program}{w:World}{A:Around}(hh:A.handled=none)(it l:Addr)(hne:l≠it)(items:Array Value)(n0:Nat) :
  Draws prog w A it [it,l] (n0+items.size) (fun i v=>n0<=i/\items[i-n0]?=some v) (fun i h=>n0<=i/\h.IsListIter it l (i-n0)/\h.IsList l items) where
 live:=fun _ _ q=>by obtain⟨o,ho,_⟩:=q.2.1;exact⟨o,ho⟩
 frame:=fun _ _ _ q hk=>⟨q.1,q.2.1.at fun o e=>hk it (by simp) o e,q.2.2.at fun o e=>hk l (by simp) o e⟩
 item:=fun i s Q E hi q hQ=>by
  have hl:i-n0<items.size:=by have:=q.1;lia
  refine wpAny_nextOf_list_item q.2.1 q.2.2 (x:=items[i-n0]) (by simp[hl]) fun h' hit' hs'=>?_
  refine hQ _ h' s.toks ⟨q.1,by simp[hl]⟩ ⟨Nat.le_succ_of_le q.1,?_,q.2.2.extBut hs'.extBut hne⟩ hs';rw[show i+1-n0=i-n0+1 by have:=q.1;lia];exact hit'
 done:=fun s Q E q hE=>wpAny_nextOf_list_end hh q.2.1 q.2.2 (by simp) hE
theorem uy{P:Program}{w:World}{K:Frag}{elts:List Expr}{x1:Nat}{tpos:Pos}(a z it:Addr)(n0:Nat)(D:z≠it) :
  jr P w K (.Tuple elts x1 tpos) (wJ K a n0) [z,it] z (fun i h=>(∃old,IsEnum h z it ((n0+i:Nat):Int) old)/\h.IsListIter it a i) where
 mem:=by simp
 obj:=fun i h hq0 c hc=>by
  obtain⟨⟨old,hz⟩,⟨o1,e1,c1,d1⟩⟩:=hq0;simp only[zT,zX,or_false]at hc;rcases hc with rfl|rfl
  ·exact⟨_,hz,fun v z=>nomatch z⟩
  ·exact⟨_,e1,fun v z=>by rw[d1]at z;cases z⟩
 keep:=fun i h h' ⟨⟨old,hz⟩,h1⟩ k=>⟨⟨old,k z (by simp) _ hz⟩,h1.at fun o e=>k it (by simp) o e⟩
 item:=by
  rintro X hP hw hK hc i LP s σ H E I hf ⟨⟨old,hz⟩,h1⟩ ⟨xs,x,hq,hx⟩;subst hP hw hK;obtain⟨LU,rv,p1,_⟩:=I.list hq;obtain⟨u,hu,ru⟩:=rv.get hx;have na:a≠z:=cM I hq (hf z (by simp)) ⟨_,hz,by simp⟩;have nb:a≠it:=cM I hq (hf it (by simp)) (by obtain⟨o1,e1,c1,d1⟩:=id h1;exact⟨_,e1,by rw[c1];simp⟩);have hil:i<LU.length:=(zB.mp hu).1;refine wpAny_pyNext_enum_itemD (oy (A:=X.A.in1) (I.ok.hd hc) it a nb LU.toArray n0) hz ⟨Nat.le_add_right _ _,by rw[Nat.add_sub_cancel_left];exact h1,p1.isList⟩ (by simp[hil]) D (by simp[D,na.symm]) fun v h' tk hv ho hst hT hsz hk=>?_
  have ev:v=u:=by
   have h2:=hv.2;rw[Nat.add_sub_cancel_left]at h2;simp only[List.getElem?_toArray]at h2;rw[hu]at h2;exact(yE h2).symm
  subst ev;have hf2:∀c∈[z,it],dg X LP H c:=fun c hc=>hf c hc
  have hk':∀c o,c∉[z,it]->s.heap.get? c=some o->h'.get? c=some o:=fun c o hc e=>hk c o (fun q=>hc (by simp[q])) (fun q=>hc (by simp[q])) e
  have I0:Inv X LP σ (ae H s.heap.objs.size (.tup [.int ((n0+i:Nat):Int),x])) { s with heap:=h' }:=I.turnT hf2 (u:=.int ((n0+i:Nat):Int)) ⟨tk,rfl⟩ ru hk' hT (fun c hc=>by
   obtain⟨o1,e1,_⟩:=id hst.2.1;simp only[zT,zX,or_false]at hc;rcases hc with rfl|rfl
   ·exact⟨_,ho⟩
   ·exact⟨_,e1⟩)
  have I1:Inv X LP σ (ae H s.heap.objs.size (.tup [.int ((n0+i:Nat):Int),x])) { s with heap:=h',toks:=tk+1 }:=I0.kept (t':=tk+1) (fun _ _ e=>e);have hfr:H s.heap.objs.size=none:=I.fresh;refine⟨_,rfl,wpAny_letOwnedTupleGo_enum (s:={ s with heap:=h',toks:=tk+1 }) ho fun h'' z1 sb=>?_⟩;have hf5:∀c∈[z,it],(ae H s.heap.objs.size (.tup [.int ((n0+i:Nat):Int),x])) c=none:=fun c hc=>by
   have lt:c<s.heap.objs.size:=by
    obtain⟨o1,e1,_⟩:=id h1;simp only[zT,zX,or_false]at hc;rcases hc with rfl|rfl
    ·exact yJ hz
    ·exact yJ e1
   rw[ad (zU lt)];exact(hf c hc).1
  have I2:Inv X LP σ (ae H s.heap.objs.size (.tup [.int ((n0+i:Nat):Int),x])) { s with heap:=h'',toks:=tk+1 }:=Inv.turnN (s:={ s with heap:=h',toks:=tk+1 }) (ch:=[z]) I1 (fun c hc=>by
   have:c=z:=by simpa using hc
   subst this;exact⟨hf5 c (by simp),(hf c (by simp)).2⟩) (fun c o hc e=>(sb.2 c (fun q=>hc (by simp[q]))).trans e)
  refine⟨.ref s.heap.objs.size,_,I2,rfl,⟨_,x,fun zs hzs=>by rw[I.list_inj hzs hq];exact hx,hfr,rfl,rfl⟩,⟨⟨_,by rw[show((n0+(i+1):Nat):Int)=((n0+i:Nat):Int)+1 by lia];exact z1⟩,?_⟩,hf5⟩;have h3:=hst.2.1;rw[show n0+i+1-n0=i+1 by lia]at h3;exact h3.at fun o e=>(sb.2 it D.symm).trans e
 done:=by
  rintro X hP hw hK hc i LP s σ H E I hf ⟨⟨old,hz⟩,h1⟩ ⟨xs,hq,hend⟩;subst hP hw hK;obtain⟨LU,rv,p1,_⟩:=I.list hq;have nb:a≠it:=cM I hq (hf it (by simp)) (by obtain⟨o1,e1,c1,d1⟩:=id h1;exact⟨_,e1,by rw[c1];simp⟩);have hl:=rv.length;refine wpAny_pyNext_enum_endD (oy (A:=X.A.in1) (I.ok.hd hc) it a nb LU.toArray n0) hz ⟨Nat.le_add_right _ _,?_,p1.isList⟩ fun h' hk=>⟨rfl,?_⟩
  ·rw[Nat.add_sub_cancel_left,zI,<- hl,hend];exact h1
  ·exact I.turnN (ch:=[z,it]) (fun c hc=>hf c hc) fun c o hc e=>hk c o (fun q=>hc (by simp[q])) e
 self:=fun _ _ _ _ _ ⟨⟨_,hz⟩,_⟩ h=>wpAny_pyIter_enum hz h
theorem oA:bootBuiltins "enumerate"=some (.type "enumerate"):=by decide +kernel
def GL(K:Frag)(n0:Nat)(ta:TA):TI:=fun σ H R=>ta σ H fun vs H1=>∃a,vs=[.ref a]/\(∃xs,bB K H1 a xs)/\R (wJ K a n0) H1
theorem qh{X:Cx}{LP:List (Addr×Obj)}{σ:St}{H1:Hp}{s1:Shared}{h':Heap}{t':Nat}{l:Addr}{n0:Nat}{elts:List Expr}{x1:Nat}{tpos:Pos}{R:It->Hp->Prop}(I1:Inv X LP σ H1 s1)(he:IsEnum h' (s1.heap.objs.size+1) s1.heap.objs.size (n0:Int) .none)(hi:h'.IsListIter s1.heap.objs.size l 0)
  (hk:∀b o,s1.heap.get? b=some o->h'.get? b=some o) (q:R (wJ X.K l n0) H1):Fx X LP σ (.Tuple elts x1 tpos) R (.ref (s1.heap.objs.size+1)) { s1 with heap:=h',toks:=t' }:=by
 have I2:Inv X LP σ H1 { s1 with heap:=h',toks:=t' }:=I1.kept (t':=t') hk;refine⟨_,[s1.heap.objs.size+1,s1.heap.objs.size],_,_,H1,rfl,I2,uy l (s1.heap.objs.size+1) s1.heap.objs.size n0 (Nat.ne_of_gt (Nat.lt_succ_self _)),⟨⟨_,by simpa using he⟩,hi⟩,fun c hc=>?_,q⟩;have hle:s1.heap.objs.size<=c:=by
  simp only[zT,zX,or_false]at hc;rcases hc with rfl|rfl
  ·exact Nat.le_succ _
  ·exact zP _
 obtain⟨f0,f1,f2,f3,f4,f5⟩:=I1.fpOk hle (I1.LZ.fresh hle);exact⟨f0,f1,f2,f3,f4,f5⟩
theorem BM{X:Cx}{elts:List Expr}{x1:Nat}{tpos:Pos}{a:Expr}{ta:TA}{p pos:Pos}(hg:Gl X "enumerate")(hm:X.mg "enumerate"=none)(ha:PA X [a] ta)(hs:starEach [a] X.env=[(false,eval a X.env)]:=by rfl) :
  PI X (.Tuple elts x1 tpos) (.Call (.Name "enumerate" p) [a] [] pos) (GL X.K 0 ta):=by
 intro LP s σ H R I h;refine Call_ (c7 I hg hm oA (PyProof.Rows.callWith_type1 (aA (ha pos LP s σ H _ I h) fun us s1 ⟨vs,H1,I1,r1,q1⟩=>?_) (by rw[hs];rfl) (by rfl)));obtain⟨l,e,⟨xs,hq⟩,q⟩:=q1;subst e;cases r1 with
 |cons r rr =>
  cases rr;cases r;obtain⟨LU,rv,p1,_⟩:=I1.list hq;refine call_enumerate_list p1.isList fun h' he hi hsz hk=>?_
  refine wpAny_pyIter_enum (s:={ s1 with heap:=h' }) he ?_;exact qh (t':=s1.toks) (n0:=0) I1 he hi hk q
section
variable{prog:Program}{w:World}{A:Around}{E:Value->Shared->Prop}{s:Shared}
theorem wV{α:Type}{x:Sem α}{Q Q1:α->Shared->Prop}{M:Model}(h:wpAny M A x Q E s)(hQ:∀a s,Q a s->Q1 a s):wpAny M A x Q1 E s:=yT h hQ fun _ _ x=>x
theorem pf(a v:Value):checkTypeCall "enumerate" ⟨[a],[("start",v)]⟩=pure ():=by kernel_rfl
theorem oO(a v:Value):checkBuiltinCall "enumerate.__new__" ⟨[.type "enumerate",a],[("start",v)]⟩=pure ():=by kernel_rfl
theorem nJ(o a v:Value):argsOk "object.__init__" ⟨[o,a],[("start",v)]⟩:=by
 unfold argsOk;rw[signature?_of (id:="object.__init__") (n:=['_','_','t','i','n','i','_','_']) (o:=['t','c','e','j','b','o']) (by kernel_rfl) F.owner_object]
 kernel_rfl
theorem tW{T newId:String}{self a v:Value}(hl:typeLookup (.type T) "__init__"=pure (some (.builtin "object.__init__")))(hm:Bind.madeBy (.type T)=pure (some newId))(hne:(some newId !=some "object.__new__")=true) :
  Meets (Builtin.«object.__init__» ⟨[self,a],[("start",v)]⟩) (fun _ R s=>s.TypeIs self T/\R (.ok (.ret .none)) s):=Meets.of_wp fun prog w A R s hs=>by
 obtain⟨hT,hq⟩:=hs
 repeat (any_goals (first | assumption | wp_step))
 exact⟨_,rfl,hq⟩
theorem qx{M:Model}{pos:Pos}{T:String}{args:List (Bool×Sem Value)}{kws:List (Option Str×Sem Value)}{Q:Value->Shared->Prop}(hp:args.any (·.1)=false)(hk:kws.any (·.1.isNone)=false)
  (h:wpAny M A (evalArgs (.type T) true args kws) (fun a s₁=>wpAny M A (call (.type T) a.pos a.kw) Q E s₁) E s):wpAny M A (callWith pos (.type T) [] args kws) Q E s:=by
 unfold callWith;refine yF (yS (wV h fun a s₁ h₁=>yF (wpAny_standAt ?_)));simp only[hp,hk,Bool.or_false];refine yF (yG (yF (wV h₁ fun r s₂ hr=>yF (yS (wpAny_point (yG hr))))))
end
section
variable{prog:Program}{w:World}{A:Around}{E:Value->Shared->Prop}{s:Shared}
theorem Ao{it t:Addr}{items:Array Value}(hne:t≠it):∀(n i:Nat)(s:Shared)(Q:List Value->Shared->Prop),s.heap.IsListIter it t i->s.heap.IsList t items->i+n<=items.size ->
  (∀h',h'.IsListIter it t (i+n)->Heap.SameBut it s.heap h'->Q ((items.toList.drop i).take n) { s with heap:=h' })->wpAny (model prog w) A (draw (.ref it) n) Q E s
 |0,i,s,Q,hit,_,_,hQ=>yG (by simpa using hQ s.heap hit (Heap.SameBut.refl ..))
 |n+1,i,s,Q,hit,ht,hle,hQ=>by
  have hlt:i<items.size:=by lia
  refine yF (m:=pyNext (.ref it)) (wpAny_pyNext_list_item hit ht (x:=items[i]) (by simp[hlt]) fun h₁ hit₁ hs₁=>?_);refine yF (yS (Ao hne n (i+1) _ _ hit₁ (ht.extBut hs₁.extBut hne) oM fun h₂ hit₂ hs₂=>yG ?_));have q:=hQ h₂ (by rw[show i+(n+1)=i+1+n by lia];exact hit₂) (hs₁.trans hs₂);rw[show items.toList.drop i=items[i]::items.toList.drop (i+1) by simp[List.drop_eq_getElem_cons,hlt],List.take_succ_cons]at q;exact q
theorem AU{t:Addr}{items:Array Value}{targets:List (Bool×(Value->Sem Unit))}{Q:Unit->Shared->Prop}(hh:A.handled=none)(ht:s.heap.IsList t items)(hn:targets.length=items.size)(hstar:targets.findIdx? (·.1)=none)
  (h:∀h',Heap.ExtBut s.heap.objs.size s.heap h'->wpAny (model prog w) A (assignInOrder (targets.map (·.2)) items.toList) Q E { s with heap:=h' }):wpAny (model prog w) A (unpack (.ref t) targets) Q E s:=by
 have hlt:t≠s.heap.objs.size:=by obtain⟨o,ho,_⟩:=ht;exact zU (yJ ho)
 unfold unpack;rw[hn,hstar];refine yF (yS ?_);unfold unpackItems;refine yF ?_;unfold notIterableAtAll;refine yF (wpAny_specialOf ht.typeIs slot_list_iter.lookup (yG ?_));simp only[yB,if_false];refine yF (yS (wpAny_pyIter_list ht (yF (yS (Ao hlt items.size 0 _ _ ⟨_,zY _ rfl,rfl,rfl⟩ (ht.push _) oM fun h₁ hit₁ hs₁=>?_)))));rw[show List.take items.size (List.drop 0 items.toList)=items.toList by rw[List.drop_zero];exact List.take_of_length_le (by simp),yH (by simp)];refine yF (yS (wpAny_pyNext_list_end hh hit₁ ((ht.push _).extBut hs₁.extBut hlt) (by simp) fun h₂ he₂=>?_));simp only[Option.isSome_none,yB,if_false];exact yG (h h₂ fun b o hb e=>he₂ b o hb (hs₁.extBut b o hb (zG _ e)))
end
section
variable{X:Cx}{pos:Pos}
noncomputable def GP(K:Frag)(n:Nat)(t:k6):TG:=fun v σ H Q=>∃a xs,v=.ref a/\bB K H a xs/\xs.length=n/\t xs σ H Q
theorem BP{es:List Expr}{k:Nat}{t:k6}{n:Nat}(hc:X.calm=true)(h:oJ X es t)(hn:(assignEach es X.env).length=n:=by rfl)(hst:(assignEach es X.env).findIdx? (·.1)=none:=by rfl):PG X (.Tuple es k pos) (GP X.K n t):=by
 intro LP s σ H v u Q I r hw;obtain⟨a,xs,e1,hq,hl,hw⟩:=hw;subst e1;cases r;obtain⟨LU,rv,pl,hz⟩:=I.list hq;rw[arm_assign_Tuple];refine yF (wpAny_standAt (AU (I.ok.hd hc) pl.isList (by simp[hn,<- hl,rv.length]) hst fun h' hx=>?_));have I1:Inv X LP σ H { s with heap:=h' }:=I.kept (t':=s.toks) fun b o e=>hx b o (zU (yJ e)) e
 exact h LP _ σ H xs _ Q I1 (by simpa using rv) hw
theorem jb:∀(l:List Value)(k:Nat),(∀(j:Nat)(v:Value),l[j]?=some v->∃t,v=.int ((k+j:Nat):Int) t)->Vals ((List.range' k l.length).map fun(q:Nat)=>V.int (q:Int)) l
 |[],_,_=>.nil
 |u::l,k,h=>by
  rw[yY,List.range'_succ,zO];refine .cons ?_ (jb l (k+1) fun j v e=>?_)
  ·obtain⟨t,e⟩:=h 0 u rfl
   exact⟨t,e⟩
  ·obtain⟨t,e2⟩:=h (j+1) v (by simpa using e)
   exact⟨t,by rw[e2,show k+(j+1)=k+1+j by lia]⟩
theorem jo:bootBuiltins "list"=some (.type "list"):=by decide +kernel
def CT(ta:TE):TE:=fun σ H Q=>zu ta sM σ H fun vs H1=>∃j:Nat,vs=[.int (j:Int)]/\j<=1000/\∀p,H1 p=none->Q (.ref p) (ae H1 p (.lst ((List.range' 0 j).map fun(q:Nat)=>V.int (q:Int))))
theorem xG{a:Expr}{ta:TE}{p1 p2 pos2:Pos}(hc:X.calm=true)(hgl:Gl X "list")(hml:X.mg "list"=none)(hgr:Gl X "range")(hmr:X.mg "range"=none)(ha:PE X a ta)
  (hs:starEach [a] X.env=[(false,eval a X.env)]:=by rfl) (hs1:starEach [.Call (.Name "range" p2) [a] [] pos2] X.env=[(false,eval (.Call (.Name "range" p2) [a] [] pos2) X.env)]:=by rfl) :
  PE X (.Call (.Name "list" p1) [.Call (.Name "range" p2) [a] [] pos2] [] pos) (CT ta):=by
 intro LP s σ H Q I h;refine Call_ (c7 I hgl hml jo (PyProof.Rows.callWith_type1 ?_ (by rw[hs1];rfl) (by rfl)));rw[hs1];refine Calls.spliced_cons (Call_ (c7 I hgr hmr boot_range (PyProof.Rows.callWith_type1 (aA ((rh ha vw hs) pos2 LP s σ H _ I h) fun us s1 ⟨vs,H1,I1,r1,q1⟩=>?_) (by rw[hs];rfl) (by rfl))));cases r1 with
 |nil=>obtain⟨j,e,_⟩:=q1;cases e
 |cons r rr =>
  obtain⟨j,e,hj,q⟩:=q1;cases e;cases rr;obtain⟨t,rfl⟩:=r;refine call_range_1 (Calls.spliced_nil ?_);have I2:Inv X LP σ H1 { s1 with heap:=s1.heap.push { cls:=.type "range",data:=.fields #[.int 0 s1.toks,.int (j:Int) t,.int 1 (s1.toks+1)] },toks:=s1.toks+1+1 }:=I1.kept fun b o e=>zG _ e
  refine call_list_range (n:=j) (I.ok.hd hc) (IsRange.new ..) (small_one oM oM oM oM) (by rw[rangeSize_one];split<;>lia) oM fun h' tk acc' c' hk hS hacc=>?_
  have hv:=jb acc'.toList 0 (fun i v e=>by
   obtain⟨t,e2⟩:=hacc.2 i v (by simpa using e);exact⟨t,by rw[e2];congr 1;lia⟩)
  rw[show acc'.toList.length=j by simpa using hacc.1]at hv;exact⟨.ref _,_,I2.laid (o:=.lst ((List.range' 0 j).map fun(q:Nat)=>V.int (q:Int))) hk (zP _) ⟨yZ (oa (by simp;lia)),acc'.toList,c',hv,hS⟩,rfl,q _ I2.fresh⟩
end
end L2
namespace PySem.AutoSeq1
theorem tZ(l:Addr)(items:Array Value)(n:Nat)(b:Addr)(items2:Array Value)(n2:Nat)(sl:Array (Option Value))(hc0:¬(!items.isEmpty&&Builtin.List.listTooLong (items.size+items2.size))=true)(hc1:items.size<=sizeLine)(hs2:items.size+items2.size<=sizeLine+1) :
  Meets (Builtin.«list.extend» ⟨[.ref l,.ref b],[]⟩) (fun _ R s=>s.heap.get? l=some { cls:=.type "list",dict:=none,data:=.seq items n,slots:=#[] }/\s.heap.get? b=some { cls:=.type "list",dict:=none,data:=.seq items2 n2,slots:=sl }/\R (.ok (.ret Value.none)) { s with heap:=s.heap.update l (Obj.mapSeq fun x=>x++items2),toks:=s.toks }) :=
 .of_wp fun prog w A R s h=>by
  obtain⟨hp,g,d,tk,os⟩:=s;obtain⟨hl,hb,h⟩:=h;have f1:=idx_int;have f2:=sub_tuple_tuple;have f3:=sub_list_list;have f4:=sub_tuple_list;have f5:=sub_list_tuple;have hz':(items++items2).size<=sizeLine+1:=by rw[Array.size_append];exact hs2
  wp_walk using (wpAny_updateSeq hl rfl (hz:=hc1) (_hz':=hz')),wpAny_loadPart' hl,wpAny_loadPart' hb;exact⟨_,rfl,h⟩
end PySem.AutoSeq1
namespace L2
open PySem PySem.Spec PyProof.Rows
section
variable{X:Cx}
def FX(K:Frag):V->List V->Hp->VK->Prop:=fun x vs H Q=>∃l b xs zs,x=.ref l/\vs=[.ref b]/\H l=some (.lst xs)/\bB K H b zs/\xs.length+zs.length<=sizeLine/\Q .non (ae H l (.lst (xs++zs)))
theorem B4:FA X "list.extend" (FX X.K):=by
 intro LP s σ H x vs v us Q I rx rv h;obtain⟨l,b,xs,zs,rfl,rfl,hH,hB,hz,q⟩:=h;cases rx;obtain⟨u,rfl,ru⟩:=rv.one;cases ru;obtain⟨z,LU,n,r,hl,e⟩:=I.lstM hH;obtain⟨its2,r2,pl,hz2⟩:=I.list hB;obtain⟨o,n2,e2,c2,d2,s2⟩:=pl;obtain⟨oc,od,odt,osl⟩:=o;dsimp only at c2 d2 s2;subst c2;subst d2;subst s2;have hl2:=r2.length;have hsz:LU.toArray.size+its2.toArray.size<=sizeLine:=by rw[zI,zI];lia
 have hlong:¬(!LU.toArray.isEmpty&&Builtin.List.listTooLong (LU.toArray.size+its2.toArray.size))=true:=by
  rw[notLongL hsz,Bool.and_false];exact Bool.false_ne_true
 refine call_meets F.slot_list_extend ⟨_,e,rfl⟩ F.entry_list_extend (F.args_list_extend_2 _ _)
  (PySem.AutoSeq1.tZ l LU.toArray n b its2.toArray n2 osl hlong (by rw[zI];lia) oM) ⟨e,e2,?_⟩
 refine⟨.non,_,I.lset (its':=LU++its2) hH e (by simp) (r.append r2) ?_,rfl,q⟩;rw[zV];lia
end
end L2
namespace PySem.AutoSeq1
theorem Cr(l:Addr)(items:Array Value)(n:Nat)(sl1:Array (Option Value))(b:Addr)(items2:Array Value)(n2:Nat)(sl:Array (Option Value))(hs2:items.size+items2.size<=sizeLine) :
  Meets (Builtin.«list.__add__» ⟨[.ref l,.ref b],[]⟩) (fun _ R s=>s.heap.get? l=some { cls:=.type "list",dict:=none,data:=.seq items n,slots:=sl1 }/\s.heap.get? b=some { cls:=.type "list",dict:=none,data:=.seq items2 n2,slots:=sl }/\R (.ok (.ret (Value.ref s.heap.objs.size))) { s with heap:=s.heap.push { cls:=.type "list",data:=.seq (items++items2) },toks:=s.toks }) :=
 .of_wp fun prog w A R s h=>by
  obtain⟨hp,g,d,tk,os⟩:=s;obtain⟨hl,hb,h⟩:=h;have f1:=idx_int;have f2:=sub_tuple_tuple;have f3:=sub_list_list;have f4:=sub_tuple_list;have f5:=sub_list_tuple;have hz':(items++items2).size<=sizeLine+1:=by rw[Array.size_append];lia
  have hlong:Builtin.List.listTooLong (items.size+items2.size)=false:=L2.notLongL hs2
  wp_walk using wpAny_loadPart' hl,wpAny_loadPart' hb
  all_goals first|exact⟨_,rfl,h⟩|skip
end PySem.AutoSeq1
namespace L2
open PySem PySem.Spec PyProof.Rows
section
variable{X:Cx}
def FY(K:Frag):R2:=fun x y H Q=>∃l b xs zs,x=.ref l/\y=.ref b/\bB K H l xs/\bB K H b zs/\xs.length+zs.length<=sizeLine/\∀p,H p=none->Q (.ref p) (ae H p (.lst (xs++zs)))
theorem BW:jX X (binaryOp .Add) (FY X.K):=by
 intro LP s σ H x y v u Q I rx ry h;obtain⟨l,b,xs,zs,rfl,rfl,hH,hB,hz,q⟩:=h;cases rx;cases ry;obtain⟨LU,r,⟨o1,n1,e1,c1,d1,s1⟩,_⟩:=I.list hH;obtain⟨its2,r2,⟨o2,n2,e2,c2,d2,s2⟩,_⟩:=I.list hB;obtain⟨oc,od,odt,osl⟩:=o1;obtain⟨pc,pd,pdt,psl⟩:=o2;dsimp only at c1 d1 s1 c2 d2 s2;subst c1;subst d1;subst s1;subst c2;subst d2;subst s2;have hl1:=r.length;have hl2:=r2.length;have hsz:LU.toArray.size+its2.toArray.size<=sizeLine:=by rw[zI,zI];lia
 refine wpAny_binaryOp_concat (T:="list") (id:="list.__add__") ⟨_,e1,rfl⟩ ⟨_,e2,rfl⟩ noFill_list_add (by rfl) ?_;refine call_meets F.slot_list_add ⟨_,e1,rfl⟩ F.entry_list_add (F.args_list_add_2 _ _) (PySem.AutoSeq1.Cr l LU.toArray n1 osl b its2.toArray n2 psl hsz) ⟨e1,e2,?_⟩;have ea:LU.toArray++its2.toArray=(LU++its2).toArray:=by simp
 rw[ea];exact⟨.ref _,_,I.lnew (t':=s.toks) (r.append r2) (by rw[zV];lia),rfl,q _ I.fresh⟩
end
section
variable{κ:Type}[DecidableEq κ]
noncomputable def dX(LR:List (κ×V))(k:κ):Option V:=(LR.find? fun kv=>decide (kv.1=k)).map (·.2)
noncomputable def d4(LR:List (κ×V))(k:κ)(v:V):List (κ×V) :=
 if(LR.any fun kv=>decide (kv.1=k))=true then LR.map (fun kv=>if kv.1=k then(kv.1,v) else kv) else LR++[(k,v)]
theorem ld{p:κ×V}{r:List (κ×V)}{k:κ}(e:p.1=k):dX (p::r) k=some p.2:=by simp[dX,List.find?_cons,e]
theorem lj{p:κ×V}{r:List (κ×V)}{k:κ}(e:¬p.1=k):dX (p::r) k=dX r k:=by simp[dX,List.find?_cons,e]
theorem pe(k:κ):∀LR:List (κ×V),(LR.any fun kv=>decide (kv.1=k))=(dX LR k).isSome
 |[]=>rfl
 |p::r=>by
  rw[List.any_cons];by_cases e:p.1=k
  ·simp only[ld e,yW e,Bool.true_or,Option.isSome_some]
  ·rw[lj e,yA e,Bool.false_or];exact pe k r
theorem kF(LR:List (κ×V))(k:κ)(v:V):(d4 LR k v).length<=LR.length+1:=by
 unfold d4;split
 ·rw[zH];lia
 ·rw[zV,yY,List.length_nil];lia
theorem RelO.isSome_eq{o:Option V}{u:Option Value}(r:RelO o u):o.isSome=u.isSome:=by
 cases o with
 |none=>cases u with
  |none=>rfl
  | some _=>exact (show False from r).elim
 |some _=>cases u with
  | none=>exact (show False from r).elim
  |some _=>rfl
theorem KV.val{LR:List (κ×V)}{vs:List (κ×Value)}(r:KV LR vs)(k:κ):RelO (dX LR k) (valueAt vs k):=by
 unfold KV at r
 induction r with
 |nil=>exact True.intro
 |@cons p q ps qs h t ih =>
  obtain⟨h1,h2⟩:=h;by_cases e:p.1=k
  ·have e':q.1=k:=h1.symm.trans e
   have b:valueAt (q::qs) k=some q.2:=by simp[valueAt,List.find?_cons,e']
   rw[ld e,b];exact h2
  ·have e':¬q.1=k:=fun z=>e (h1.trans z)
   have b:valueAt (q::qs) k=valueAt qs k:=by simp[valueAt,List.find?_cons,e']
   rw[lj e,b];exact ih
theorem KV.any{LR:List (κ×V)}{vs:List (κ×Value)}(r:KV LR vs)(k:κ):(LR.any fun kv=>decide (kv.1=k))=vs.any fun kv=>decide (kv.1=k):=by
 unfold KV at r
 induction r with
 |nil=>rfl
 |cons h t ih=>rw[List.any_cons,List.any_cons,ih,h.1]
theorem KV.repl{LR:List (κ×V)}{vs:List (κ×Value)}(r:KV LR vs)(k:κ){y:V}{u:Value}(ry:RelV y u) :
  KV (LR.map fun kv=>if kv.1=k then(kv.1,y) else kv) (vs.map fun kv=>if kv.1=k then(kv.1,u) else kv):=by
 unfold KV at r ⊢
 induction r with
 |nil=>exact .nil
 |@cons p q ps qs h t ih =>
  rw[zO,zO];refine .cons ?_ ih;obtain⟨h1,h2⟩:=h;by_cases e:p.1=k
  ·rw[yI e,yI (h1.symm.trans e)];exact⟨h1,ry⟩
  ·rw[yH e,yH (fun z=>e (h1.trans z))];exact⟨h1,h2⟩
theorem KV.put{LR:List (κ×V)}{vs:List (κ×Value)}(r:KV LR vs)(k:κ){y:V}{u:Value}(ry:RelV y u):KV (d4 LR k y) (stored vs k u):=by
 unfold d4 stored;rw[r.any k];by_cases e:(vs.any fun kv=>decide (kv.1=k))=true
 ·rw[yI e,yI e];exact r.repl k ry
 ·rw[yH e,yH e];exact Paired.snoc r ⟨rfl,ry⟩
theorem KV.length{LR:List (κ×V)}{vs:List (κ×Value)}(r:KV LR vs):LR.length=vs.length:=Paired.length r
end
theorem ma{P:Program}{w:World}{k:aQ}{u:Value}(r:RelV (kV k) u):(bK P w).is k u=true:=by
 cases k with
 | inl i=>obtain ⟨t,e⟩:=(show ∃ t,u=Value.int i t from r);subst e;exact qL P w i t
 | inr x=>obtain ⟨t,e⟩:=(show ∃ t,u=Value.str x t from r);subst e;exact qK P w x t
theorem om{P:Program}{w:World}:∀{ks:List aQ}{us:List Value},Vals (ks.map kV) us->ItemsAre (bK P w) ks us
 |[],_,r=>by rw[List.map_nil]at r;cases r;exact .nil
 |k::ks,_,r=>by
  rw[zO]at r;cases r with
  |cons h t=>exact .cons (ma h) (om t)
abbrev KT(H:Hp):List (List aQ×V)->List (List aQ×Addr×Value)->Prop:=Paired fun p q=>p.1=q.1/\H q.2.1=some (.tup (p.1.map kV))/\RelV p.2 q.2.2
theorem KT.val{H:Hp}{LR:List (List aQ×V)}{xs:List (List aQ×Addr×Value)}(r:KT H LR xs)(k:List aQ):RelO (dX LR k) ((atKey xs k).map (·.2)):=by
 induction r with
 |nil=>exact True.intro
 |@cons p q ps qs h t ih =>
  obtain⟨h1,_,h2⟩:=h;by_cases e:p.1=k
  ·have e':q.1=k:=h1.symm.trans e
   have b:atKey (q::qs) k=some q.2:=by simp[atKey,List.find?_cons,e']
   rw[ld e,b];exact h2
  ·have e':¬q.1=k:=fun z=>e (h1.trans z)
   have b:atKey (q::qs) k=atKey qs k:=by simp[atKey,List.find?_cons,e']
   rw[lj e,b];exact ih
theorem KT.repl{H:Hp}{LR:List (List aQ×V)}{xs:List (List aQ×Addr×Value)}(r:KT H LR xs)(k:List aQ){y:V}{u:Value}(ry:RelV y u) :
  KT H (LR.map fun kv=>if kv.1=k then(kv.1,y) else kv) (xs.map (putAt k u)):=by
 induction r with
 |nil=>exact .nil
 |@cons p q ps qs h t ih =>
  rw[zO,zO];refine .cons ?_ ih;obtain⟨h1,h2,h3⟩:=h;unfold putAt;by_cases e:p.1=k
  ·rw[yI e,yI (h1.symm.trans e)];exact⟨h1,h2,ry⟩
  ·rw[yH e,yH (fun z=>e (h1.trans z))];exact⟨h1,h2,h3⟩
theorem KT.put{H:Hp}{LR:List (List aQ×V)}{xs:List (List aQ×Addr×Value)}(r:KT H LR xs)(k:List aQ){b:Addr}{y:V}{u:Value}(hb:H b=some (.tup (k.map kV)))(ry:RelV y u) :
  KT H (d4 LR k y) (storedH xs k b u):=by
 have e:(LR.any fun kv=>decide (kv.1=k))=(atKey xs k).isSome:=by
  rw[pe,(r.val k).isSome_eq,Option.isSome_map]
 unfold d4 storedH;rw[e];by_cases q:(atKey xs k).isSome=true
 ·rw[yI q,yI q];exact r.repl k ry
 ·rw[yH q,yH q];exact Paired.snoc r ⟨rfl,hb,ry⟩
theorem KT.keeps{H H':Hp}{LR:List (List aQ×V)}{xs:List (List aQ×Addr×Value)}(r:KT H LR xs)(ht:∀b ys,H b=some (.tup ys)->H' b=some (.tup ys)):KT H' LR xs :=
 Paired.mapP r fun _ _ z=>⟨z.1,ht _ _ z.2.1,z.2.2⟩
section
variable{P:Program}{w:World}{H:Hp}{h:Heap}{a:Addr}
theorem zy{u:HO}(ok:HOk P w H h)(e:Rd H a u):ObjOk P w H h a u:=e.ok ok
theorem mI{LR:List (aQ×V)}(ok:HOk P w H h)(e:Rd H a (.dK LR)):LR.length<=sizeLine/\(a==sysModules)=false/\∃vs,KV LR vs/\h.DictOf (bK P w) a vs :=
 show ObjOk P w H h a (.dK LR) from zy ok e
theorem Ap{LR:List (aQ×V)}(ok:HOk P w H h)(e:H a=some (.dK LR)):LR.length<=sizeLine/\(a==sysModules)=false/\∃vs,KV LR vs/\h.DictOf (bK P w) a vs:=mI ok (.inl e)
theorem jH{ks:List aQ}(ok:HOk P w H h)(e:H a=some (.tup (ks.map kV))):(tupleKind (bK P w)).is h ks a:=by
 obtain ⟨_,LU,r,o,h1,h2,n,h3⟩:=(show ObjOk P w H h a (.tup (ks.map kV)) from ok a _ e);exact ⟨o,LU.toArray,n,h1,h2,h3,by simpa using om r⟩
theorem mH{LR:List (List aQ×V)}(ok:HOk P w H h)(e:Rd H a (.dT LR)):LR.length<=sizeLine/\(a==sysModules)=false /\
  ∃xs,KT H LR xs/\h.DictOfH (tupleKind (bK P w)) a xs:=by
 obtain ⟨z,y,xs,r,o,es,ep,h1,h2,h3,h4,h5⟩:=(show ObjOk P w H h a (.dT LR) from zy ok e);refine ⟨z,y,xs,r,o,es,ep,h1,h2,h3,h4,fun x hx=>?_,h5⟩;have all:∀ {l:List (List aQ × V)}{m:List (List aQ × Addr × Value)},KT H l m->∀ x ∈ m,(tupleKind (bK P w)).is h x.1 x.2.1:=by
  intro l m q
  induction q with
  |nil=>intro x hx;exact nomatch hx
  |@cons p q ps qs hq t ih =>
   intro x hx;rcases zT.mp hx with e|hx
   ·subst e
    exact jH ok (by rw[<- hq.1];exact hq.2.1)
   ·exact ih x hx
 exact all r x hx
theorem An{LR:List (List aQ×V)}(ok:HOk P w H h)(e:H a=some (.dT LR)):LR.length<=sizeLine/\(a==sysModules)=false /\
  ∃xs,KT H LR xs/\h.DictOfH (tupleKind (bK P w)) a xs:=mH ok (.inl e)
end
def DGet(H:Hp)(a:Addr)(y:V)(r:Option V):Prop :=
 (∃LR k,Rd H a (.dK LR)/\y=kV k/\r=dX LR k)\/∃LR k b,Rd H a (.dT LR)/\y=.ref b/\H b=some (.tup (k.map kV))/\r=dX LR k
def DPut(H:Hp)(a:Addr)(y v:V)(H':Hp):Prop :=
 (∃LR k,H a=some (.dK LR)/\y=kV k/\LR.length<sizeLine/\H'=ae H a (.dK (d4 LR k v))) \/
 ∃LR k b,H a=some (.dT LR)/\y=.ref b/\H b=some (.tup (k.map kV))/\LR.length<sizeLine/\H'=ae H a (.dT (d4 LR k v))
theorem DGet.k{H:Hp}{a:Addr}{LR:List (aQ×V)}{k:aQ}(e:H a=some (.dK LR)):DGet H a (kV k) (dX LR k):=.inl ⟨LR,k,.inl e,rfl,rfl⟩
theorem DGet.t{H:Hp}{a b:Addr}{LR:List (List aQ×V)}{k:List aQ}(e:H a=some (.dT LR))(eb:H b=some (.tup (k.map kV))):DGet H a (.ref b) (dX LR k):=.inr ⟨LR,k,b,.inl e,rfl,eb,rfl⟩
theorem DPut.k{H:Hp}{a:Addr}{LR:List (aQ×V)}{k:aQ}{v:V}(e:H a=some (.dK LR))(hl:LR.length<sizeLine):DPut H a (kV k) v (ae H a (.dK (d4 LR k v))):=.inl ⟨LR,k,e,rfl,hl,rfl⟩
theorem DPut.t{H:Hp}{a b:Addr}{LR:List (List aQ×V)}{k:List aQ}{v:V}(e:H a=some (.dT LR))(eb:H b=some (.tup (k.map kV)))(hl:LR.length<sizeLine) :
  DPut H a (.ref b) v (ae H a (.dT (d4 LR k v))):=.inr ⟨LR,k,b,e,rfl,eb,hl,rfl⟩
section
variable{X:Cx}{LP:List (Addr×Obj)}{σ:St}{H:Hp}{s:Shared}{a:Addr}{y v:V}{u r:Value}{o:Option V}{A:Around}{E:Value->Shared->Prop}
theorem Inv.big(I:Inv X LP σ H s):sysModules<s.heap.objs.size:=by
 have h:mainGlobals<s.heap.objs.size:=(I.mod.glob.keeps I.bk).lt;exact Nat.lt_trans dC h
theorem wm{Q:Value->Shared->Prop}(hu:A.units+1<cLine)(I:Inv X LP σ H s)(g:DGet H a y (some v))(ry:RelV y u)(h:∀w' s',Inv X LP σ H s'->RelV v w'->Q w' s') :
  wpAny (model X.prog X.w) A (getItem (.ref a) u) Q E s:=by
 rcases g with⟨LR,k,e,ey,l⟩|⟨LR,k,b,e,ey,eb,l⟩
 ·subst ey
  obtain⟨z,hd,vs,rel,dd⟩:=mI I.LZ e;obtain⟨w',hw,rw'⟩:=RelO.some_of (v:=v) (o:=valueAt vs k) (by rw[l];exact rel.val k);exact wpAny_getItem_of (ma ry) dd.mapOf hw (h w' _ (I.tok _) rw')
 ·subst ey
  cases (show u=Value.ref b from ry);obtain ⟨z,hd,xs,rel,dd⟩:=mH I.LZ e;obtain ⟨w',hw,rw'⟩:=RelO.some_of (v:=v) (o:=(atKey xs k).map (·.2)) (by rw [l];exact rel.val k);obtain ⟨p,hp,hp2⟩:=zE.mp hw;refine wpAny_getItem_heap (tupleKind_room_in1 hu) (jH I.LZ eb) dd hp ?_;rw [hp2];exact h w' _ (I.tok _) rw'
theorem Jr{Q:Value->Shared->Prop}(hu:A.units+1<cLine)(I:Inv X LP σ H s)(g:DGet H a y o)(ry:RelV y u)(h:∀s',Inv X LP σ H s'->Q (.bool o.isSome) s') :
  wpAny (model X.prog X.w) A (compareOp .In u (.ref a)) Q E s:=by
 rcases g with⟨LR,k,e,ey,l⟩|⟨LR,k,b,e,ey,eb,l⟩
 ·subst ey
  obtain⟨z,hd,vs,rel,dd⟩:=mI I.LZ e;refine wpAny_in_of (ma ry) hd dd.mapOf ?_;rw[<- (rel.val k).isSome_eq,<- l];exact h _ (I.tok _)
 ·subst ey
  cases (show u=Value.ref b from ry);obtain ⟨z,hd,xs,rel,dd⟩:=mH I.LZ e;refine wpAny_in_heap (tupleKind_room_in1 hu) (jH I.LZ eb) hd dd ?_;have q:=(rel.val k).isSome_eq;rw [Option.isSome_map] at q;rw [<- q,<- l];exact h _ (I.tok _)
theorem Cl{Q:Value->Shared->Prop}(hu:A.units+1<cLine)(I:Inv X LP σ H s)(g:DGet H a y o)(ry:RelV y u)(h:∀s',Inv X LP σ H s'->Q (.bool (!o.isSome)) s') :
  wpAny (model X.prog X.w) A (compareOp .NotIn u (.ref a)) Q E s:=by
 rcases g with⟨LR,k,e,ey,l⟩|⟨LR,k,b,e,ey,eb,l⟩
 ·subst ey
  obtain⟨z,hd,vs,rel,dd⟩:=mI I.LZ e;refine wpAny_notIn_of (ma ry) hd dd.mapOf ?_;rw[<- (rel.val k).isSome_eq,<- l];exact h _ (I.tok _)
 ·subst ey
  cases (show u=Value.ref b from ry);obtain ⟨z,hd,xs,rel,dd⟩:=mH I.LZ e;refine wpAny_notIn_heap (tupleKind_room_in1 hu) (jH I.LZ eb) hd dd ?_;have q:=(rel.val k).isSome_eq;rw [Option.isSome_map] at q;rw [<- q,<- l];exact h _ (I.tok _)
theorem sk{h':Heap}{t':Nat}{ob:HO}(I:Inv X LP σ H s)(mu:wG (H a))(hs:Heap.SameBut a s.heap h')(he:∃q,h'.get? a=some q)(new:ObjOk X.prog X.w (ae H a ob) h' a ob) :
  Inv X LP σ (ae H a ob) { s with heap:=h',toks:=t' } :=
 I.write (x:=a) (e:=a) mu (.inl rfl) (fun b q hb z=>(hs.2 b hb).trans z) he new
theorem Fg{P:Program}{w:World}{H':Hp}{h':Heap}{LR:List (aQ×V)}{vs:List (aQ×Value)}(z:LR.length<=sizeLine)(hd:(a==sysModules)=false)(rel:KV LR vs)(dd:h'.DictOf (bK P w) a vs) :
  ObjOk P w H' h' a (.dK LR):=⟨z,hd,vs,rel,dd⟩
theorem oz{H':Hp}{Q:Unit->Shared->Prop}(hu:A.units+1<cLine)(I:Inv X LP σ H s)(g:DPut H a y v H')(ry:RelV y u)(rv:RelV v r)(h:∀s',Inv X LP σ H' s'->Q () s') :
  wpAny (model X.prog X.w) A (setItem (.ref a) u r) Q E s:=by
 rcases g with⟨LR,k,e,ey,l,eH⟩|⟨LR,k,b,e,ey,eb,l,eH⟩
 ·subst ey eH
  obtain⟨z,hd,vs,rel,dd⟩:=Ap I.LZ e;have hz:vs.length<=sizeLine:=by rw[<- rel.length];exact z
  have hl:(d4 LR k v).length<=sizeLine:=by have:=kF LR k v;lia
  refine wpAny_setItem_pairs (hsz:=hz) (ma ry) dd fun h' dd' hs=>h _ ?_
  have he:∃q,h'.get? a=some q:=let⟨q,_,_,hq,_⟩:=dd';⟨q,hq⟩;exact sk I (by rw[e];exact True.intro) hs he (Fg hl hd (rel.put k rv) dd')
 ·subst ey eH
  cases (show u=Value.ref b from ry);obtain ⟨z,hd,xs,rel,dd⟩:=An I.LZ e;have hz:xs.length <= sizeLine:=by rw [<- Paired.length rel];exact z
  have hl:(d4 LR k v).length<=sizeLine:=by have:=kF LR k v;lia
  refine wpAny_setItem_heap (hsz:=hz) (tupleKind_room_in1 hu) (jH I.LZ eb) dd fun h' dd' hs=>h _ ?_
  obtain⟨q,es,ep,hq,h2,h3,h4,_,h5⟩:=dd';refine sk I (by rw[e];exact True.intro) hs ⟨q,hq⟩ ⟨hl,hd,_,(rel.put k eb rv).keeps fun c ys ec=>?_,q,es,ep,hq,h2,h3,h4,h5⟩;rw[ad (tD ec e (fun z=>nomatch z))];exact ec
end
theorem qN{X:Cx}{LP:List (Addr×Obj)}{σ:St}{H:Hp}{s:Shared}{a:Addr}{y:V}{o:Option V}(I:Inv X LP σ H s)(g:DGet H a y o):s.TypeIs (.ref a) "dict":=by
 rcases g with⟨LR,k,e,_,_⟩|⟨LR,k,b,e,_,_,_⟩
 ·obtain⟨_,_,vs,_,dd⟩:=mI I.LZ e
  exact dd.typeIs
 ·obtain⟨_,_,xs,_,dd⟩:=mH I.LZ e
  exact dd.typeIs
theorem yt{P:Program}{w:World}{H:Hp}(h:Heap)(hb:sysModules<h.objs.size):ObjOk P w H (h.push { cls:=.type "dict",data:=.dict #[] }) h.objs.size (.dK []) :=
 ⟨Nat.zero_le _,beq_eq_false_iff_ne.mpr (Ne.symm (zU hb)),[],.nil,Heap.DictOf.new h⟩
def uW:TE:=fun _ H Q=>∀p,H p=none->Q (.ref p) (ae H p (.dK []))
section
variable{X:Cx}{pos:Pos}
theorem xI:PE X (.Dict [] [] pos) uW:=fun LP s σ H Q I h =>
 wpAny_Dict_empty ⟨.ref s.heap.objs.size,_,I.laid (a:=s.heap.objs.size) (o:=.dK []) (t':=s.toks) (fun _ _ q=>zG _ q) (zP _) (yt s.heap I.big),rfl,h _ (I.LZ.fresh (zP _))⟩
end
open PySem.Calls
section
variable{prog:Program}{w:World}{A:Around}{E:Value->Shared->Prop}{s:Shared}
theorem tJ(d:Addr)(hd:(d==sysModules)=false) :
  MeetsIn prog w (Builtin.«dict.__len__» ⟨[.ref d],[]⟩) (fun _ R s=>∃xs:List (List aQ×Addr×Value),s.heap.DictOfH (tupleKind (bK prog w)) d xs/\R (.ok (.ret (.int xs.length s.toks))) { s with toks:=s.toks+1 }) :=
 .of_wp fun A R s hq0=>by
  obtain⟨LR,hm,h⟩:=hq0;obtain⟨o,es,ep,ho,hc,hdat,hk,hp,hn⟩:=hm;show wpAny _ _ (dictSize d>>=_) _ _ s;unfold dictSize;refine yF (yF (wpAny_dictEntries ho hdat (yG ?_)));show wpAny _ _ (Builtin.Dict.pendingCount d>>=_) _ _ s;refine yF (wpAny_pendingCount_other hd ?_);refine wpAny_ret_mkInt ?_;have:es.size=LR.length:=size_of_entries hk;simpa [this] using h
theorem t9{d:Addr}{xs:List (List aQ×Addr×Value)}{Q:Value->Shared->Prop}(hd:(d==sysModules)=false)(hm:s.heap.DictOfH (tupleKind (bK prog w)) d xs)(hfit:(xs.length:Int)<2^63)
  (h:Q (.int xs.length (s.toks+1)) { s with toks:=s.toks+1+1 }):wpAny (model prog w) A (call (.builtin "len") [.ref d]) Q E s:=by
 refine Calls.call_function_entry kind_len plain_len entry_len (args_len1 _) ?_;unfold Builtin.«len»;refine yF (m:=oneArg "len" _) (yG ?_);refine yF (m:=callSpecial? (.ref d) (Str.ofString "__len__")) (wpAny_callSpecial?_slot (name:=Str.ofString "__len__") hm.typeIs PySem.F.slot_dict_len
  (call_meetsIn PySem.F.slot_dict_len hm.typeIs PySem.F.entry_dict_len (PySem.F.args_dict_len_1 _) (tJ d hd) ⟨xs,hm,?_⟩))
 show wpAny _ _ _ _ _ { s with toks:=s.toks+1 };refine yF (yS (yG ?_));refine yF (wpAny_letGo ?_);show wpAny _ _ (if((xs.length:Nat):Int)<0 then _ else _) _ _ _;rw[yH oM];show wpAny _ _ (if((xs.length:Nat):Int) ≥ 2^63 then _ else _) _ _ _;rw[yH oM];exact yF (wpAny_mkInt (yG ⟨_,rfl,h⟩))
end
section
variable{X:Cx}
theorem wu:cw X (.builtin "len") (fun xs H Q=>∃a LR,xs=[V.ref a]/\H a=some (.dT LR)/\Q (.int LR.length) H):=by
 intro LP s σ H xs us Q I r h;obtain⟨a,LR,rfl,ha,q⟩:=h;obtain⟨u,rfl,ru⟩:=dQ r;cases ru;obtain⟨z,hd,xs,rel,dd⟩:=An I.LZ ha;have hl:=Paired.length rel;refine t9 hd dd (by rw[<- hl];rw[sizeLine_eq]at z;lia) ?_;rw[<- hl];exact⟨.int LR.length,H,I.tok _,⟨_,rfl⟩,q⟩
end
end L2
namespace DD
open PySem PySem.Spec PyProof.Rows L2
section
variable{K:Frag}{F F':Addr->Prop}{H H':Hp}{A:List Addr}
open Classical in
variable{σD:DSt}{σ:L2.St}{R:Ro}{d:D}{v:V}
end
end DD
namespace L2
open PySem PySem.Spec PyProof.Rows
noncomputable def AL(x:Str):It:=⟨fun i _=>∃c,x.cps[i]?=some c,fun i H v H'=>H'=H/\∃c,x.cps[i]?=some c/\v=.str ⟨#[c]⟩,fun i _=>x.cps[i]?=none⟩
theorem wR{P:Program}{w:World}{K:Frag}{tg:Expr}(x:Str)(t:Tok)(it:Addr):jr P w K tg (AL x) [it] it (fun i h=>h.IsStrIter it "str_ascii_iterator" x t i) where
 mem:=by simp
 obj:=fun i h st b hb=>by
  have e:b=it:=by simpa using hb
  subst e;obtain⟨o,e,c,d⟩:=st;exact⟨o,e,fun v z=>by rw[d]at z;cases z⟩
 keep:=fun i h h' st k=>by
  obtain⟨o,e,r⟩:=st;exact⟨o,k it (by simp) o e,r⟩
 item:=by
  intro X hP hw hK hc i LP s σ H E I hf st hg;subst hP hw hK;obtain⟨c,hx⟩:=hg;obtain⟨f0,f1,f2,f3,f4,f5⟩:=hf it (by simp);refine wpAny_pyNext_ascii_item st hx fun h' st' sb=>?_
  have I1:Inv X LP σ H { s with heap:=h',toks:=s.toks+1 }:=I.turned (fun b o hb e=>(sb.2 b hb).trans e) f0 f1 f3 f4 f5;obtain⟨o,e,cl,d⟩:=id st';exact⟨_,rfl,mw (s:={ s with heap:=h',toks:=s.toks+1 }) e cl d dC ⟨.str ⟨#[c]⟩,H,I1,⟨_,rfl⟩,⟨rfl,c,hx,rfl⟩,st',fun b hb=>(hf b hb).1⟩⟩
 done:=by
  intro X hP hw hK hc i LP s σ H E I hf st hg;subst hP hw hK;obtain⟨f0,f1,f2,f3,f4,f5⟩:=hf it (by simp);exact wpAny_pyNext_ascii_end (I.ok.hd hc) st hg fun h' eb=>⟨rfl,I.turned (t':=s.toks) (fun b o hb e=>eb b o hb e) f0 f1 f3 f4 f5⟩
 self:=fun _ _ _ _ _ st h=>wpAny_pyIter_striter_ascii st h
section
variable{X:Cx}{pos:Pos}
def A8(ta:TA):TE:=fun σ H Q=>ta σ H fun vs H1=>∃i j:Nat,vs=[.int (i:Int),.int (j:Int)]/\i<=j/\j<=1000/\∀p,H1 p=none->Q (.ref p) (ae H1 p (.lst ((List.range' i (j-i)).map fun(q:Nat)=>V.int (q:Int))))
theorem vv{a b:Expr}{ta:TA}{p1 p2 pos2:Pos}(hc:X.calm=true)(hgl:Gl X "list")(hml:X.mg "list"=none)(hgr:Gl X "range")(hmr:X.mg "range"=none)(ha:PA X [a,b] ta)
  (hs:starEach [a,b] X.env=[(false,eval a X.env),(false,eval b X.env)]:=by rfl) (hs2:starEach [b] X.env=[(false,eval b X.env)]:=by rfl) (hs1:starEach [.Call (.Name "range" p2) [a,b] [] pos2] X.env=[(false,eval (.Call (.Name "range" p2) [a,b] [] pos2) X.env)]:=by rfl) :
  PE X (.Call (.Name "list" p1) [.Call (.Name "range" p2) [a,b] [] pos2] [] pos) (A8 ta):=by
 intro LP s σ H Q I h;refine Call_ (c7 I hgl hml jo (PyProof.Rows.callWith_type1 ?_ (by rw[hs1];rfl) (by rfl)));rw[hs1];refine Calls.spliced_cons (Call_ (c7 I hgr hmr boot_range (PyProof.Rows.callWith_type1 (aA (ha pos2 LP s σ H _ I h) fun us s1 hq0=>?_) (by rw[hs,hs2]) (by rw[hs2];rfl))));obtain⟨vs,H1,I1,r1,i,j,e,hij,hj,q⟩:=hq0;subst e;obtain⟨u1,us1,rfl,ru1,r2⟩:∃u us',us=u::us'/\RelV (.int (i:Int)) u/\Vals [.int (j:Int)] us':=by cases r1 with|cons r rr=>exact⟨_,_,rfl,r,rr⟩
 obtain⟨u2,us2,rfl,ru2,r3⟩:∃u us',us1=u::us'/\RelV (.int (j:Int)) u/\Vals [] us':=by cases r2 with|cons r rr=>exact⟨_,_,rfl,r,rr⟩
 cases r3;obtain⟨t1,rfl⟩:=ru1;obtain⟨t2,rfl⟩:=ru2;refine call_range_2 (Calls.spliced_nil ?_);have I2:Inv X LP σ H1 { s1 with heap:=s1.heap.push { cls:=.type "range",data:=.fields #[.int (i:Int) t1,.int (j:Int) t2,.int 1 s1.toks] },toks:=s1.toks+1 }:=I1.kept fun b o e=>zG _ e
 refine call_list_range (n:=j-i) (I.ok.hd hc) (IsRange.new ..) (small_one oM oM oM oM) (by rw[rangeSize_one];split<;>lia) oM fun h' tk acc' c' hk hS hacc=>?_
 have hv:=jb acc'.toList i (fun k v e=>by
  obtain⟨t,e2⟩:=hacc.2 k v (by simpa using e);exact⟨t,by rw[e2];congr 1;lia⟩)
 rw[show acc'.toList.length=j-i by simpa using hacc.1]at hv;exact⟨.ref _,_,I2.laid (o:=.lst ((List.range' i (j-i)).map fun(q:Nat)=>V.int (q:Int))) hk (zP _) ⟨yZ (oa (by simp;lia)),acc'.toList,c',hv,hS⟩,rfl,q _ I2.fresh⟩
end
def AN(X:Cx)(LP:List (Addr×Obj))(b:Addr):Prop:=b≠X.env.locals/\b∉X.fs/\(b∈X.ex\/X.s₀.heap.objs.size<=b)/\(∀x c,X.env.cells.lookup x=some c->c≠b)/\∀p∈X.pn++LP,p.1≠b
section
variable{X:Cx}{LP:List (Addr×Obj)}{σ:St}{key:Value}{kw:List (Str×Value)}{l I S:Addr}{ns:List Int}{R:Result->Shared->Prop}
theorem xQ(hh:X.A.handled=none)(kf:Nat->Int)(J:Nat->Hp->Prop)(hl:∀i H,J i H->bB X.K H l (ns.map V.int))
  (turn:∀(i:Nat)(n:Int)(u:Value)(pl:List (Addr×Obj))(s:Shared)(H:Hp),ns[i]?=some n->RelV (V.int n) u->J i H->Inv X (LP++pl) σ H s->(key=.none/\kf i=n/\J (i+1) H) \/
   ∃q,key=.ref q/\wpAny (model X.prog X.w) X.A.in1 (call (.ref q) [u]) (EP X (LP++pl) σ (fun y H'=>y=.int (kf i)/\J (i+1) H')) (fun _ _=>False) s)
  (hR:∀(i:Nat)(n:Int)(u:Value)(H:Hp)(s:Shared),ns[i]?=some n->(∀j,j<ns.length->kf i<=kf j/\(j<i->kf i<kf j))->J ns.length H->Inv X LP σ H s->RelV (V.int n) u->R (.ok (.ret u)) s)
  (fI:AN X LP I) (fS:AN X LP S) (hIS:I≠S) :
  ∀(r j i:Nat)(H:Hp)(s:Shared)(vb:Value)(tb:Tok)(c:Nat),ns.length-(j+1)=r->j+1<=ns.length->Inv X LP σ H s->H I=none->H S=none ->
   s.heap.get? S=some (seqObj "list" #[vb,.int (kf i) tb] c)->s.heap.IsListIter I l (j+1)->(∃n,ns[i]?=some n/\RelV (V.int n) vb)->i<=j->J (j+1) H->(∀j',j'<=j->kf i<=kf j'/\(j'<i->kf i<kf j')) ->
   codeAny (model X.prog X.w) X.A (.builtin "min.loop" ⟨[.ref I,key,.ref S],kw⟩) R s:=by
 have hname:(toString "min"++toString ".loop":String)="min.loop":=by decide
 intro r
 induction r with
 |zero =>
  intro j i H s vb tb c hr hj Iv nI nS gS it hvb hij hJ hb;have hin:j+1=ns.length:=by lia
  obtain⟨LU,rv,pl,_⟩:=Iv.list (hl _ _ hJ);have hlen:LU.length=ns.length:=by rw[<- rv.length,zH]
  have hL:s.heap.IsList l LU.toArray:=pl.isList;have hlI:l≠I:=fun e=>by
   obtain⟨o,e1,e2,_⟩:=hL;obtain⟨o',e3,e4,_⟩:=it;rw[e,e3]at e1;cases e1;rw[e4]at e2;simp at e2
  have W:=Walks.list (prog:=X.prog) (w:=X.w) (A:=X.A.in1) hh I l hlI LU.toArray;have hsz:LU.toArray.size=LU.length:=zI ..;refine codeAny_builtin PySem.F.entry_min_loop ?_;rw[Around.under_plainId PySem.F.plain_min_loop _];show wpAny _ X.A.in1 (seqItems? (.ref S)>>=_) _ _ _;refine yF (wpAny_seqItems gS rfl ?_);show wpAny _ X.A.in1 (tryCatch (pyNext (.ref I)) _>>=_) _ _ _;refine yF (wpAny_tryCatch (W.done _ _ _ ⟨by rw[hsz,hlen,<- hin];exact it,hL⟩ fun h' tk' hk'=>?_));have V1:Inv X LP σ H { s with heap:=h',toks:=tk' }:=Iv.turned (fun b o hb' e=>hk' b o (by simpa using hb') e) nI fI.1 fI.2.2.1 fI.2.2.2.1 fI.2.2.2.2;have gS':=hk' S _ (by simpa using hIS.symm) gS;show wpAny _ X.A.in1 (updateSeq S (fun _=>#[])>>=_) _ _ _;refine yF ?_;refine wpAny_updateSeq gS' rfl (yF (wpAny_letGo (yG ?_)));obtain⟨n,e1,e2⟩:=hvb;have s1:=Heap.SameBut.update h' S (Obj.mapSeq fun _=>(#[]:Array Value));exact hR i n vb H _ e1 (fun j' hj'=>hb j' oM) (hin▸hJ) (V1.turned (t':=tk') (fun b o hb' e=>(s1.2 b hb').trans e) nS fS.1 fS.2.2.1 fS.2.2.2.1 fS.2.2.2.2) e2
 |succ r ih =>
  intro j i H s vb tb c hr hj Iv nI nS gS it hvb hij hJ hb;have hlt:j+1<ns.length:=by lia
  obtain⟨LU,rv,pl,_⟩:=Iv.list (hl _ _ hJ);have hlen:LU.length=ns.length:=by rw[<- rv.length,zH]
  have hL:s.heap.IsList l LU.toArray:=pl.isList;have hlI:l≠I:=fun e=>by
   obtain⟨o,e1,e2,_⟩:=hL;obtain⟨o',e3,e4,_⟩:=it;rw[e,e3]at e1;cases e1;rw[e4]at e2;simp at e2
  have W:=Walks.list (prog:=X.prog) (w:=X.w) (A:=X.A.in1) hh I l hlI LU.toArray;have hsz:LU.toArray.size=LU.length:=zI ..;refine codeAny_builtin PySem.F.entry_min_loop ?_;rw[Around.under_plainId PySem.F.plain_min_loop _];show wpAny _ X.A.in1 (seqItems? (.ref S)>>=_) _ _ _;refine yF (wpAny_seqItems gS rfl ?_);show wpAny _ X.A.in1 (tryCatch (pyNext (.ref I)) _>>=_) _ _ _;refine yF (wpAny_tryCatch (W.item (j+1) _ _ _ (by rw[hsz];lia) ⟨it,hL⟩ fun u h' tk' hP hst' hk'=>?_));have hu:LU[j+1]?=some u:=by simpa using hP
  obtain⟨n,hn⟩:∃n,ns[j+1]?=some n:=⟨_,zF hlt⟩;have ru:RelV (V.int n) u:=by
   obtain⟨u',e1,e2⟩:=rv.get (i:=j+1) (x:=V.int n) (by rw[zR,hn];rfl);rw[hu]at e1;cases e1;exact e2
  have V1:Inv X LP σ H { s with heap:=h',toks:=tk' }:=Iv.turned (fun b o hb' e=>hk' b o (by simpa using hb') e) nI fI.1 fI.2.2.1 fI.2.2.2.1 fI.2.2.2.2;have gS':=hk' S _ (by simpa using hIS.symm) gS;have hf:∀b∈[I,S],dg X LP H b:=fun b hb'=>by
   rcases zT.mp hb' with rfl|hb'
   ·exact⟨nI,fI⟩
   ·rw[zM.mp hb'];exact⟨nS,fS⟩
  obtain⟨oI,goI,coI,doI⟩:=hst'.1;have ho:∀b∈[I,S],∃o,h'.get? b=some o/\∀v:Option Value,o.data≠.cell v:=fun b hb'=>by
   rcases zT.mp hb' with rfl|hb'
   ·exact⟨_,goI,fun v z=>by rw[doI]at z;cases z⟩
   ·rw[zM.mp hb'];exact⟨_,gS',fun v z=>nomatch z⟩
  have V2:Inv X (LP++fi [I,S] h') σ H { s with heap:=h',toks:=tk' }:=V1.pinned hf ho
  -- what follows the key's value
  have rest:∀(t2:Tok)(H2:Hp)(s2:Shared),Inv X (LP++fi [I,S] h') σ H2 s2->J (j+1+1) H2->∀(Rf:PySem.Fin->Shared->Prop)(Ef:Value->Shared->Prop),
    (∀s3 H3 vb3 i3 t3 c3,Inv X LP σ H3 s3->H3 I=none->H3 S=none->s3.heap.get? S=some (seqObj "list" #[vb3,.int (kf i3) t3] c3)->s3.heap.IsListIter I l (j+1+1)->(∃n,ns[i3]?=some n/\RelV (V.int n) vb3)->i3<=j+1->J (j+1+1) H3->(∀j',j'<=j+1->kf i3<=kf j'/\(j'<i3->kf i3<kf j')) ->
     Rf (.again (.builtin "min.loop" ⟨[.ref I,key,.ref S],kw⟩)) s3) ->
    wpAny (model X.prog X.w) X.A.in1 ((do
     let better <- tryCatch (holding [u,.int (kf (j+1)) t2] do
      let answer <- richCompare .Lt (.int (kf (j+1)) t2) (.int (kf i) tb)
      let yes <- holding [answer] (truthy answer)
      letGo [answer]
      pure yes) fun e=>do
       updateSeq S fun _=>#[]
       letGo ([.int (kf (j+1)) t2,u]++[vb,.int (kf i) tb].reverse) [e]
       throw e
     if better=true then do
      updateSeq S fun _=>#[u,.int (kf (j+1)) t2]
      letGo [.int (kf i) tb,vb]
      again (.builtin "min.loop" ⟨[.ref I,key,.ref S],kw⟩)
     else do
      letGo [u,.int (kf (j+1)) t2]
      again (.builtin "min.loop" ⟨[.ref I,key,.ref S],kw⟩)):Sem PySem.Fin) Rf Ef s2:=by
   intro t2 H2 s2 V3 J3 Rf Ef ax;have pI:=V3.pin (I,oI) (zK _ (zK _ (cR (by simp) goI)));have pS:=V3.pin (S,seqObj "list" #[vb,.int (kf i) tb] c) (zK _ (zK _ (cR (by simp) gS')));have V4:Inv X LP σ H2 s2:=V3.unpinned;refine yF (wpAny_tryCatch (yS (yF (CmpOf.ints_lt (prog:=X.prog) (w:=X.w) (A:=X.A.in1) (P:=fun i v=>∃t,v=.int (kf i) t) kf (fun i v h=>h) (j+1) i _ _ _ _ _ ⟨t2,rfl⟩ ⟨tb,rfl⟩ ?_))));refine yF (yS (wpAny_truthy_bool ?_));refine yF (wpAny_letGo (yG ?_));have it2:s2.heap.IsListIter I l (j+1+1):=⟨oI,pI.1,coI,doI⟩;by_cases hb':kf (j+1)<kf i
   ·simp only[hb',decide_true,if_true]
    have s1:=Heap.SameBut.update s2.heap S (Obj.mapSeq fun _=>#[u,.int (kf (j+1)) t2]);obtain⟨c2,hc2⟩:∃c2,(s2.heap.update S (Obj.mapSeq fun _=>#[u,.int (kf (j+1)) t2])).get? S=some (seqObj "list" #[u,.int (kf (j+1)) t2] c2):=⟨_,get?_update_seq pS.1 fun _=>#[u,.int (kf (j+1)) t2]⟩;refine yF ?_;refine wpAny_updateSeq pS.1 rfl (yF (wpAny_letGo (yG ?_)));obtain⟨sh,sg,sd,stk,sos⟩:=s2;refine ax _ H2 u (j+1) t2 c2 (V4.turned (t':=stk) (fun b o hb'' e=>(s1.2 b hb'').trans e) pS.2.1 fS.1 fS.2.2.1 fS.2.2.2.1 fS.2.2.2.2) pI.2.1 pS.2.1 hc2 ⟨oI,(s1.2 I hIS).trans pI.1,coI,doI⟩ ⟨n,hn,ru⟩ (zP _) J3 fun j' hj'=>?_
    by_cases e:j'=j+1
    ·subst e
     exact⟨by lia,fun _=>by lia⟩
    ·have hb1:=hb j' oM
     have hb2:=hb1.1;exact⟨by lia,fun _=>by lia⟩
   ·simp only[hb',decide_false,yB,if_false]
    refine yF (wpAny_letGo (yG ?_));refine ax _ H2 vb i tb c V4 pI.2.1 pS.2.1 pS.1 it2 hvb oM J3 fun j' hj'=>?_
    by_cases e:j'=j+1
    ·subst e
     exact⟨by lia,fun _=>by lia⟩
    ·exact hb j' oM
  have ax:∀s3 H3 vb3 i3 t3 c3,Inv X LP σ H3 s3->H3 I=none->H3 S=none->s3.heap.get? S=some (seqObj "list" #[vb3,.int (kf i3) t3] c3)->s3.heap.IsListIter I l (j+1+1)->(∃n,ns[i3]?=some n/\RelV (V.int n) vb3)->i3<=j+1->J (j+1+1) H3->(∀j',j'<=j+1->kf i3<=kf j'/\(j'<i3->kf i3<kf j')) ->
    ((Code.builtin "min.loop" ⟨[.ref I,key,.ref S],kw⟩).quiet=true/\codeAny (model X.prog X.w) X.A (.builtin "min.loop" ⟨[.ref I,key,.ref S],kw⟩) R s3):=fun s3 H3 vb3 i3 t3 c3 a1 a2 a3 a4 a5 a6 a7 a8 a9 =>
   ⟨plainId_quiet PySem.F.plain_min_loop _,ih (j+1) i3 H3 s3 vb3 t3 c3 oM hlt a1 a2 a3 a4 a5 a6 a7 a8 a9⟩
  rcases turn (j+1) n u _ _ H hn ru hJ V2 with⟨hk0,hkf,J2⟩|⟨q,hkq,call0⟩
  ·subst hk0
   obtain⟨t2,rfl⟩:=ru;refine yF (yG ?_)
   have:=rest t2 H _ V2 J2
   rw[hkf]at this;exact this _ _ ax
  ·subst hkq
   refine yF (wpAny_tryCatch (yS (yT call0 (fun x s'' he=>?_) fun _ _ hF=>hF.elim)));obtain⟨y,H3,V3,ry,rfl,J3⟩:=he;obtain⟨t2,rfl⟩:=ry;exact rest t2 H3 s'' V3 J3 _ _ ax
end
section
variable{X:Cx}{LP:List (Addr×Obj)}{σ:St}{ko:Option Value}{kws:List (Str×Value)}{l:Addr}{ns:List Int}{H:Hp}{s:Shared}{Q:VK}{E:Value->Shared->Prop}
theorem pK(hh:X.A.handled=none)(kf:Nat->Int)(J:Nat->Hp->Prop)(hl:∀i H,J i H->bB X.K H l (ns.map V.int))
  (hb:Builtin.Builtins.bindParams "min" ["key","default"] 0 ⟨[],kws⟩=pure [ko,some .none]) (ha:argsOk "min" ⟨[.ref l],kws⟩)
  (turn:∀(i:Nat)(n:Int)(u:Value)(pl:List (Addr×Obj))(s:Shared)(H:Hp),ns[i]?=some n->RelV (V.int n) u->J i H->Inv X (LP++pl) σ H s->(ko.getD .none=.none/\kf i=n/\J (i+1) H) \/
   ∃q,ko.getD .none=.ref q/\wpAny (model X.prog X.w) X.A.in1 (call (.ref q) [u]) (EP X (LP++pl) σ (fun y H'=>y=.int (kf i)/\J (i+1) H')) (fun _ _=>False) s)
  (hQ:∀(i:Nat)(n:Int)(H:Hp),ns[i]?=some n->(∀j,j<ns.length->kf i<=kf j/\(j<i->kf i<kf j))->J ns.length H->Q (.int n) H) (hE:ns=[]->Q .non H)
  (Iv:Inv X LP σ H s) (J0:J 0 H):wpAny (model X.prog X.w) X.A (call (.builtin "min") [.ref l] kws) (EP X LP σ Q) E s:=by
 have hname:(toString "min"++toString ".loop":String)="min.loop":=by decide
 obtain⟨LU,rv,pl,_⟩:=Iv.list (hl _ _ J0);have hlen:LU.length=ns.length:=by rw[<- rv.length,zH]
 have hL:s.heap.IsList l LU.toArray:=pl.isList;obtain⟨ol,hol,_⟩:=id hL;have hll:l<s.heap.objs.size:=yJ hol;refine kmk_tree PySem.F.kind_min PySem.F.plain_min PySem.F.entry_min ha ?_;show wpAny _ X.A.in1 (Builtin.Builtins.bindParams "min" ["key","default"] 0 ⟨[],kws⟩>>=_) _ _ s;refine yF (wpAny_of_eq hb ?_);refine yF (yG ?_);refine yF (wpAny_pyIter_list hL ?_);refine yF (wpAny_newList ?_ (Nat.zero_le _));rw[hname];have hS:(s.heap.push { cls:=.type "list_iterator",data:=.fields #[.ref l,.int 0 0] }).objs.size=s.heap.objs.size+1:=size_push' ..;have hlI:l≠s.heap.objs.size:=zU hll;refine yG ⟨plainId_quiet PySem.F.plain_min_loop _,?_⟩;generalize hI:s.heap.objs.size=I at *;generalize hSS:(s.heap.push { cls:=.type "list_iterator",data:=.fields #[.ref l,.int 0 0] }).objs.size=S at *;have nI:H I=none:=by rw[<- hI];exact Iv.fresh
 have nS:H S=none:=Iv.LZ.fresh (by rw[hS,hI];lia);have hIS:I≠S:=by rw[hS];lia
 have gI:((s.heap.push { cls:=.type "list_iterator",data:=.fields #[.ref l,.int 0 0] }).push (seqObj "list" #[] 0)).get? I=some { cls:=.type "list_iterator",data:=.fields #[.ref l,.int 0 0] }:=by
  rw[<- hI];exact zG _ (zY _ rfl)
 have gS:((s.heap.push { cls:=.type "list_iterator",data:=.fields #[.ref l,.int 0 0] }).push (seqObj "list" #[] 0)).get? S=some (seqObj "list" #[] 0):=by
  rw[<- hSS];exact zY _ rfl
 have kp:∀b o,s.heap.get? b=some o->((s.heap.push { cls:=.type "list_iterator",data:=.fields #[.ref l,.int 0 0] }).push (seqObj "list" #[] 0)).get? b=some o:=fun b o e=>zG _ (zG _ e)
 have fI:AN X LP I:=(Iv.fpOk (b:=I) (Nat.le_of_eq hI) nI).2;have fS:AN X LP S:=(Iv.fpOk (b:=S) (by rw[hS,hI];lia) nS).2;generalize hH1:((s.heap.push { cls:=.type "list_iterator",data:=.fields #[.ref l,.int 0 0] }).push (seqObj "list" #[] 0))=h1 at gI gS kp;have V1:Inv X LP σ H { s with heap:=h1,toks:=s.toks }:=Iv.kept kp;have hL1:h1.IsList l LU.toArray:=⟨ol,kp _ _ hol,by obtain⟨o2,e2,r2⟩:=hL;rw[hol]at e2;cases e2;exact r2⟩;have it0:h1.IsListIter I l 0:=⟨_,gI,rfl,rfl⟩;have W:=Walks.list (prog:=X.prog) (w:=X.w) (A:=X.A.in1) hh I l hlI LU.toArray;have hsz:LU.toArray.size=LU.length:=zI ..;have ax:∀(i:Nat)(n:Int)(u:Value)(H:Hp)(s:Shared),ns[i]?=some n->(∀j,j<ns.length->kf i<=kf j/\(j<i->kf i<kf j))->J ns.length H->Inv X LP σ H s->RelV (V.int n) u->EP X LP σ Q u s :=
  fun i n u H s e1 e2 e3 e4 e5=>⟨_,H,e4,e5,hQ i n H e1 e2 e3⟩
 show codeAny _ X.A (.builtin "min.loop" ⟨[.ref I,ko.getD .none,.ref S],[("default",.none)]⟩) _ { s with heap:=h1,toks:=s.toks };refine codeAny_builtin PySem.F.entry_min_loop ?_;rw[Around.under_plainId PySem.F.plain_min_loop _];show wpAny _ X.A.in1 (seqItems? (.ref S)>>=_) _ _ _;refine yF (wpAny_seqItems gS rfl ?_);show wpAny _ X.A.in1 (tryCatch (pyNext (.ref I)) _>>=_) _ _ _;by_cases hn:ns=[]
 ·subst hn
  refine yF (wpAny_tryCatch (W.done _ _ _ ⟨by rw[hsz,hlen];exact it0,hL1⟩ fun h' tk' hk'=>?_));refine yF (wpAny_rule (yG ?_));exact⟨.non,H,V1.turned (fun b o hb' e=>hk' b o (by simpa using hb') e) nI fI.1 fI.2.2.1 fI.2.2.2.1 fI.2.2.2.2,rfl,hE rfl⟩
 ·have hlt:0<ns.length:=List.length_pos_iff.mpr hn
  refine yF (wpAny_tryCatch (W.item 0 _ _ _ (by rw[hsz];lia) ⟨it0,hL1⟩ fun u h' tk' hP hst' hk'=>?_));have hu:LU[0]?=some u:=by simpa using hP
  obtain⟨n,hn⟩:∃n,ns[0]?=some n:=⟨_,zF hlt⟩;have ru:RelV (V.int n) u:=by
   obtain⟨u',e1,e2⟩:=rv.get (i:=0) (x:=V.int n) (by rw[zR,hn];rfl);rw[hu]at e1;cases e1;exact e2
  have V2:Inv X LP σ H { s with heap:=h',toks:=tk' }:=V1.turned (fun b o hb' e=>hk' b o (by simpa using hb') e) nI fI.1 fI.2.2.1 fI.2.2.2.1 fI.2.2.2.2;have gS':=hk' S _ (by simpa using hIS.symm) gS;have hf:∀b∈[I,S],dg X LP H b:=fun b hb'=>by
   rcases zT.mp hb' with rfl|hb'
   ·exact⟨nI,fI⟩
   ·rw[zM.mp hb'];exact⟨nS,fS⟩
  obtain⟨oI,goI,coI,doI⟩:=hst'.1;have ho:∀b∈[I,S],∃o,h'.get? b=some o/\∀v:Option Value,o.data≠.cell v:=fun b hb'=>by
   rcases zT.mp hb' with rfl|hb'
   ·exact⟨_,goI,fun v z=>by rw[doI]at z;cases z⟩
   ·rw[zM.mp hb'];exact⟨_,gS',fun v z=>nomatch z⟩
  have V3:Inv X (LP++fi [I,S] h') σ H { s with heap:=h',toks:=tk' }:=V2.pinned hf ho;have rest:∀(t2:Tok)(H2:Hp)(s2:Shared),Inv X (LP++fi [I,S] h') σ H2 s2->J 1 H2 ->
    wpAny (model X.prog X.w) X.A.in1 ((do
     updateSeq S fun _=>#[u,.int (kf 0) t2]
     again (.builtin "min.loop" ⟨[.ref I,ko.getD .none,.ref S],[("default",.none)]⟩)):Sem PySem.Fin) (fun ax s'=>match ax with
      |.done f=>(match (Except.ok f:Result) with|.ok (.ret v)=>EP X LP σ Q v s'|.ok _=>False|.error e=>E e s')
      |.again c'=>c'.quiet=true/\codeAny (model X.prog X.w) X.A c' (fun r s'=>match r with|.ok (.ret v)=>EP X LP σ Q v s'|.ok _=>False|.error e=>E e s') s') (fun e s'=>E e s') s2:=by
   intro t2 H2 s2 V4 J2;have pI:=V4.pin (I,oI) (zK _ (zK _ (cR (by simp) goI)));have pS:=V4.pin (S,seqObj "list" #[] 0) (zK _ (zK _ (cR (by simp) gS')));have V5:Inv X LP σ H2 s2:=V4.unpinned;have s1:=Heap.SameBut.update s2.heap S (Obj.mapSeq fun _=>#[u,.int (kf 0) t2]);obtain⟨c2,hc2⟩:∃c2,(s2.heap.update S (Obj.mapSeq fun _=>#[u,.int (kf 0) t2])).get? S=some (seqObj "list" #[u,.int (kf 0) t2] c2):=⟨_,get?_update_seq pS.1 fun _=>#[u,.int (kf 0) t2]⟩;refine yF ?_;refine wpAny_updateSeq pS.1 rfl (yG ⟨plainId_quiet PySem.F.plain_min_loop _,?_⟩);obtain⟨sh,sg,sd,stk,sos⟩:=s2;refine xQ hh kf J hl turn ax fI fS hIS _ 0 0 H2 _ u t2 c2 rfl hlt (V5.turned (t':=stk) (fun b o hb'' e=>(s1.2 b hb'').trans e) pS.2.1 fS.1 fS.2.2.1 fS.2.2.2.1 fS.2.2.2.2) pI.2.1 pS.2.1 hc2 ⟨oI,(s1.2 I hIS).trans pI.1,coI,doI⟩ ⟨n,hn,ru⟩ (zP _) J2 fun j' hj'=>?_
   have e:j'=0:=by lia
   subst e;exact⟨by lia,fun h=>absurd h (xB _)⟩
  rcases turn 0 n u _ _ H hn ru J0 V3 with⟨hk0,hkf,J2⟩|⟨q,hkq,call0⟩
  ·rw[hk0]at rest ⊢
   obtain⟨t2,rfl⟩:=ru;refine yF (yG ?_)
   have:=rest t2 H _ V3 J2
   rw[hkf]at this;exact this
  ·rw[hkq]at rest ⊢
   refine yF (wpAny_tryCatch (yS (yT call0 (fun x s'' he=>?_) fun _ _ hF=>hF.elim)));obtain⟨y,H3,V4,ry,rfl,J3⟩:=he;obtain⟨t2,rfl⟩:=ry;exact rest t2 H3 s'' V4 J3
end
end L2
namespace R
open PySem PySem.Spec PyProof.Rows L2
theorem wM:∀{ps:List Str}{us:List Value},ps.Nodup->us.length=ps.length->ps.filterMap (fun n=>((ps.zip us).lookup n).map fun v=>(n,v))=ps.zip us/\ps.filter (fun n=>((ps.zip us).lookup n).isNone)=[]:=by
 have key:∀{ps:List Str}{us:List Value},us.length=ps.length->∀n∈ps,((ps.zip us).lookup n).isSome=true:=by
  intro ps
  induction ps with
  |nil=>intro us _ n hn;cases hn
  |cons p ps ih =>
   intro us hl n hn;cases us with
   |nil=>cases hl
   |cons u us =>
    rw[List.zip_cons_cons,yO];cases hb:n==p with
    |true=>rfl
    |false =>
     rcases zT.mp hn with rfl|hn
     ·simp at hb
     ·exact ih (by simpa using hl) n hn
 intro ps us nd hl;refine⟨?_,List.filter_eq_nil_iff.mpr fun n hn=>by
  have:=key hl n hn
  cases h:(ps.zip us).lookup n with
  |none=>rw[h]at this;cases this
  |some v=>simp⟩
 -- the names ahead don't matter
 have gen:∀(qs:List Str)(vs:List Value),qs.Nodup->vs.length=qs.length->∀l:List (Str×Value),(∀q∈qs,l.lookup q=(qs.zip vs).lookup q)->qs.filterMap (fun n=>(l.lookup n).map fun v=>(n,v))=qs.zip vs:=by
  intro qs
  induction qs with
  |nil=>intro vs _ _ l _;rfl
  |cons q qs ih =>
   intro vs nd hl l h;cases vs with
   |nil=>cases hl
   |cons v vs =>
    have h0:=h q z7;rw[List.zip_cons_cons,yO]at h0;simp only[beq_self_eq_true]at h0;rw[List.filterMap_cons,h0];rw[List.nodup_cons]at nd
    have:=ih vs nd.2 (by simpa using hl) l fun p hp=>by
     have:=h p (zQ _ hp)
     rw[List.zip_cons_cons,yO]at this;have ne:(p==q)=false:=by
      have:p≠q:=fun e=>nd.1 (e▸hp)
      simpa using this
     rw[ne]at this;exact this
    simp only[map_some];rw[this];rfl
 exact gen ps us nd hl _ fun _ _=>rfl
noncomputable def plainA(a:Arguments):Bool:=a.posonlyargs.isEmpty&&a.vararg.isNone&&a.kwonlyargs.isEmpty&&a.kwarg.isNone
theorem bind_plain(hp:plainA fd.params=true)(hd:fd.defaults=.none)(nd:(fd.params.args.map (·.arg)).Nodup)(hl:us.length=(fd.params.args.map (·.arg)).length):bindArgs fd ⟨us,[]⟩=pure ((fd.params.args.map (·.arg)).zip us):=by
 unfold plainA at hp;simp only[zC,List.isEmpty_iff,Option.isNone_iff_eq_none]at hp;obtain⟨⟨⟨h1,h2⟩,h3⟩,h4⟩:=hp;obtain⟨z1,z2⟩:=wM nd hl;have hs:seqItems? fd.defaults=(do notAStandIn Value.none;pure none):=by rw[hd];rfl
 have hn:notAStandIn Value.none=pure ():=rfl;unfold bindArgs;simp only[h1,h2,h3,h4,hs,hn];simp only[List.map_nil,List.nil_append,List.forIn_nil,pure_bind,List.append_nil];rw[yH (by simp[hl])];simp only[Option.getD_none,List.length_nil,Nat.sub_zero,List.drop_nil,List.take_length,z2,List.isEmpty_nil,Bool.not_true,yB,if_false,List.drop_length,List.zip_nil_left,List.forIn_nil,pure_bind,z1]
end R
namespace L2
open PySem PySem.Spec PyProof.Rows
def iH(mg:Str->Option Value)(base:Heap):Prop:=∃bm o,mg "__builtins__"=some (.ref bm)/\bm≠builtinsNs/\bm≠mainGlobals/\base.get? bm=some o/\o.cls=.type "module"/\o.dict=some builtinsNs/\o.data=.plain
noncomputable def fv(c:Addr)(q:Str):HO:=.ext fun h=>h.CodeRec (.ref c) q
section
variable{X:Cx}{LP:List (Addr×Obj)}{σ:St}{H:Hp}{s:Shared}
theorem Inv.grown{t':Nat}(I:Inv X LP σ H s)(hP:H P=some (.tbl ps))(hx:Heap.ExtBut P s.heap h')(hc:s.heap.objs.size<=c')(hr:h'.CodeRec (.ref c') q)
  (gP:h'.get? P=some (tabObj (ps++more))):Inv X LP σ (ae (ae H P (.tbl (ps++more))) c' (fv c' q)) { s with heap:=h',toks:=t' }:=by
 have gP0:s.heap.get? P=some (tabObj ps):=I.LZ P _ hP;have hcn:H c'=none:=I.LZ.fresh hc;have hPc:P≠c':=zU (zJ (yJ gP0) hc);have nb:∀b u,H b=some u->b≠c':=fun b u e z=>by rw[z,hcn]at e;cases e
 have hH:∀b,b≠P->b≠c'->ae (ae H P (.tbl (ps++more))) c' (fv c' q) b=H b:=fun b h1 h2=>by rw[ad h2,ad h1]
 refine I.un ⟨fun b o e n _ _=>hx b o (fun z=>by rw[z,hP]at n;cases n) e,fun b o e n _ _=>⟨o.slots,hx b o (fun z=>by rw[z,hP]at n;cases n) e⟩,fun b o e n _=>?_,fun b o e _=>?_,fun b xs e=>?_,fun b o u e=>?_,fun b qs e=>?_⟩ fun b u e=>?_
 ·rw[hH b (fun z=>by rw[z,hP]at n;cases n) (zU (zJ (yJ e) hc))];exact n
 ·by_cases hb:b=P
  ·exact⟨_,hb▸gP⟩
  ·exact⟨o,hx b o hb e⟩
 ·rw[hH b (fun z=>by rw[z,hP]at e;cases e) (nb _ _ e)];exact e
 ·rw[hH b (fun z=>by rw[z,hP]at e;cases e) (nb _ _ e)];exact e
 ·by_cases hb:b=P
  ·subst hb
   rw[hP]at e;cases e;exact⟨more,by rw[ad hPc,aw]⟩
  ·exact⟨#[],by rw[hH b hb (nb _ _ e),e];simp⟩
 ·by_cases h1:b=c'
  ·subst h1
   rw[aw]at e;cases e;obtain⟨c,oc,vs,t,e1,e2,e3⟩:=id hr;cases e1;refine⟨hr,⟨oc,e2⟩,fun h1 h2 hq0 k=>?_⟩;obtain⟨c,oc,vs,t,e1,e2,e3⟩:=hq0;cases e1;exact⟨_,oc,vs,t,rfl,k _ e2,e3⟩
  ·rw[ad h1]at e
   by_cases h2:b=P
   ·subst h2
    rw[aw]at e;cases e;exact gP
   ·rw[ad h2]at e
    refine(I.LZ b u e).stay (fun d v hd q=>hx d v (fun z=>?_) q) (fun d q=>?_) fun d xs q=>?_
    ·rcases hd with z2|z2
     ·exact h2 (z2.symm.trans z)
     ·rw[z,hP]at z2;cases z2
    ·rw[hH d (fun z=>by rw[z,hP]at q;cases q) (nb _ _ q)];exact q
    ·rw[hH d (fun z=>by rw[z,hP]at q;cases q) (nb _ _ q)];exact q
abbrev tS(mg:Str->Option Value)(qual:Str)(params:Arguments)(body:Expr)(scope:Scope)(cl:List (Str×Addr))(cv ctv:Value):Obj :=
 { cls:=.type "function",data:=.func (kla_fn "<lambda>" qual params body scope cl ((mg "__name__").getD .none) cv ctv) }
def ff(H:Hp)(P:Addr)(pos:Pos)(q:Str):Prop:=∃ps,H P=some (.tbl ps)/\TriplesOk ps.toList/\(codeAmong pos ps.toList=none\/∃c,codeAmong pos ps.toList=some (.ref c)/\H c=some (fv c q))
theorem yc(I:Inv X LP σ H s)(hdef:defaultsOf params X.env=([],[]))(hcode:X.env.code=.ref c)
  (C:CodeHd X.base c P) (B:iH X.mg X.base) (hcl:closureFor scope X.env=pure cl) (T:ff H P pos (X.env.qual++"<lambda>"))
  (h:∀f c' ctv H' s',(H'=H\/∃ps more,H P=some (.tbl ps)/\H c'=none/\P≠c'/\H'=ae (ae H P (.tbl (ps++more))) c' (fv c' (X.env.qual++"<lambda>")))->ff H' P pos (X.env.qual++"<lambda>")->H' c'=some (fv c' (X.env.qual++"<lambda>")) ->
   Inv X (LP++[(f,tS X.mg (X.env.qual++"<lambda>") params body scope cl (.ref c') ctv)]) σ H' s'->Q (.ref f) s') :
  wpAny (model X.prog X.w) X.A (eval (.Lambda params body scope pos) X.env) Q E s:=by
 refine kla_eval hdef ?_;obtain⟨ps,hP,ht,hc⟩:=T;have gP:s.heap.get? P=some (tabObj ps):=I.LZ P _ hP;have hg:s.heap.Ns mainGlobals X.mg:=I.mod.glob.keeps I.bk;have hgP:mainGlobals≠P:=fun q=>by
  obtain⟨o,es,ep,e,hd,_⟩:=hg;rw[q,gP]at e;cases e;cases hd
 obtain⟨bm,ob,b1,b2,b3,b4,b5,b6,b7⟩:=B;have hbP:bm≠P:=fun q=>by
  have:=(I.bs bm ob b4).2
  rw[q,hP]at this;cases this
 have hb:s.heap.BuiltinsAt X.mg P:=⟨bm,ob,b1,b2,b3,hbP,I.bk _ _ b4,b5,b6,b7⟩;have C':CodeHd s.heap c P:=C.keeps I.bk
 -- the function's object,laid over h1
 have last:∀(H1:Hp)(h1:Heap)(tk1:Nat)(o:Obj),Inv X LP σ H1 { s with heap:=h1,toks:=tk1 }->(∀v,o.data≠.cell v)->o.isFreed=false->Inv X (LP++[(h1.objs.size,o)]) σ H1 { s with heap:=h1.push o,toks:=tk1 }:=by
  intro H1 h1 tk1 o J hd hfr;have J2:Inv X LP σ H1 { s with heap:=h1.push o,toks:=tk1 }:=J.kept fun b u e=>zG _ e
  have fp:=J.fpOk (b:=h1.objs.size) (zP _) J.fresh;refine J2.pins_of fun p hp=>?_
  rcases zZ.mp hp with hp|hp
  ·exact J2.pin p (zK _ hp)
  ·rw[zM.mp hp]
   exact⟨zY _ hfr,fp.1,fp.2.1,fp.2.2.1,hd⟩
 rcases hc with hn|⟨c',hc,hx⟩
 ·refine kla_makeFunction (mg:=X.mg) hcl I.ok.glob hg hcode C' gP ht hn hgP hb fun c' ctv h' tk hx hge hlt hrec htb=>?_
  have hPc:P≠c':=zU (zJ (yJ gP) hge);have J:=I.grown (t':=tk) hP hx hge hrec htb;have e1:ae (ae H P (.tbl (ps++#[rawInt pos.line,rawInt pos.col,.ref c']))) c' (fv c' (X.env.qual++"<lambda>")) P=some (.tbl (ps++#[rawInt pos.line,rawInt pos.col,.ref c'])):=by rw[ad hPc,aw]
  refine h _ c' ctv _ _ (.inr ⟨ps,_,hP,I.LZ.fresh hge,hPc,rfl⟩) ⟨_,e1,?_,.inr ⟨c',?_,aw⟩⟩ aw (last _ h' tk _ J (fun v z=>nomatch z) rfl)
  ·rw[Array.toList_append];exact TriplesOk_snoc _ _ _ _ ht
  ·rw[Array.toList_append];exact codeAmong_snoc _ ht hn
 ·refine kla_makeFunctionHit (mg:=X.mg) hcl I.ok.glob hg hcode C' gP ht hc hb fun ctv h' tk hk hge=>?_
  exact h _ c' ctv H _ (.inl rfl) ⟨ps,hP,ht,.inr ⟨c',hc,hx⟩⟩ hx (last H h' tk _ (I.kept hk) (fun v z=>nomatch z) rfl)
def qo(X:Cx)(N':List Str)(scope:Scope)(cl:List (Str×Addr))(f:Addr)(qual:Str)(cd:Value)(A:Around)(s:Shared)(H:Hp):Cx :=
 { X with N:=N',s₀:=s,H₀:=H,env:=newEnv scope s.heap.objs.size mainGlobals cl (qual++".<locals>.") (some f) cd none builtinsNs,outer:=X.stack,stack:=newEnv scope s.heap.objs.size mainGlobals cl (qual++".<locals>.") (some f) cd none builtinsNs::X.stack,
          A:=A.deeper (newEnv scope s.heap.objs.size mainGlobals cl (qual++".<locals>.") (some f) cd none builtinsNs),ex:=[],fn:=fun _=>false,calm:=true,pn:=[],xe:=fun _ _=>False }
structure ul(X:Cx)(N':List Str)(scope:Scope)(x:Str):Prop where
 cy:iR X N' scope
 co:scope.isCoroutine=false
 gen:scope.isGenerator=false
 len:N'.length=X.N.length+1
 own:N'[X.N.length]?=some x
 loc:scope.names.lookup x=some .local
 nc:∀y∈scope.names,y.2≠.cell
theorem yw{t':Nat}(T:ul X N' scope x)(I:Inv X LP σ H s)(hfm:A.frames=some X.stack)(hh:A.handled=none)
  (hcl:∀p∈cl,X.env.cells.lookup p.1=some p.2) (hfr:∀x,(x,NameKind.free)∈scope.names->∃c,(x,c)∈cl) (r:RelV v u)
  (hn:h'.Ns s.heap.objs.size (fun y=>[(x,u)].reverse.lookup y)) (hs:Heap.SameBut s.heap.objs.size (s.heap.push { cls:=.type "frame",data:=.dict #[] }) h') :
  Inv (qo X N' scope cl f qual cd A s H) [] (σ++[some v]) H { s with heap:=h',toks:=t' }:=by
 have keep:∀b o,s.heap.get? b=some o->h'.get? b=some o:=fun b o e=>(hs.2 b (zU (yJ e))).trans (zG _ e)
 have look:∀x,(x,NameKind.free)∈scope.names->∃c,cl.lookup x=some c/\X.env.cells.lookup x=some c:=fun x hx=>by
  obtain⟨c,hc⟩:=hfr x hx;obtain⟨c2,hc2⟩:=eY hc;exact⟨c2,hc2,hcl _ (mem_of_lookup hc2)⟩
 have noA:∀ b:Addr,b ∉ (qo X N' scope cl f qual cd A s H).ex:=fun b z=>absurd (show b ∈ ([]:List Addr) from z) (by simp)
 refine⟨⟨I.ok.mod,T.cy.kind,rfl,rfl,zP _,fun y z c h1 h2=>?_,fun y hy=>?_,fun y c h=>(by cases h),fun _=>hh,Around.frames_deeper hfm,.inr ⟨rfl,rfl⟩,fun b z=>absurd z (noA b),I.bs,z5 I.ok.bsz I.sz,fun b _ _=>noA b,fun b z=>absurd z (noA b),I.stack,I.stkFree⟩,
  rfl,I.bare,Un.kept keep,⟨_,hn,fun i y w e1 e2 e3=>?_⟩,fun y c h=>?_,I.LZ.fresh (zP _),fun y c h=>?_,fun p hp=>absurd (show p∈([]:List (Addr×Obj)) from hp) (by simp),I.LZ.kept keep,?_⟩
 ·exact I.ok.inj y z c (hcl _ (mem_of_lookup h1)) (hcl _ (mem_of_lookup h2))
 ·have hy:scope.names.lookup y=some .cell\/scope.names.lookup y=some .free:=hy
  rcases hy with hy|hy
  ·exact absurd rfl (T.nc _ (mem_of_lookup hy))
  ·obtain⟨c,hc,_⟩:=look y (mem_of_lookup hy)
   exact⟨c,hc⟩
 ·have hlen:=I.len
  rcases yU i σ.length with hi|hi
  ·rw[zN hi]at e2
   have hmem:∃k,(y,k)∈scope.names:=by
    rcases e3 with h|h|h<;>exact⟨_,mem_of_lookup h⟩
   have hfree:=T.cy.hid i y oM e1 hmem;have eX:=T.cy.same i y oM e1 hfree;have kX:=T.cy.free y hfree;obtain⟨m,hn2,hl⟩:=I.loc;obtain⟨u2,ru,lk⟩:=hl i y w eX e2 (by rcases kX with h|h;exact .inr (.inl h);exact .inr (.inr h));refine⟨u2,ru,.inr ⟨.inr (cH T.cy.nd hfree),?_⟩⟩;rcases lk with⟨k1,_⟩|⟨_,c,hc,z⟩
   ·rcases kX with h|h<;>rw[h]at k1<;>cases k1
   ·obtain⟨c2,q1,q2⟩:=look y hfree
    rw[hc]at q2;cases q2;exact⟨c,q1,z.keeps keep⟩
  ·rw[z6 hi]at e2
   have hi0:i-σ.length=0:=by
    rcases Nat.eq_zero_or_pos (i-σ.length) with z|z
    ·exact z
    ·rw [List.getElem?_eq_none (show [some v].length <= _ from z)] at e2;cases e2
   rw[hi0]at e2;cases e2;have hi1:i=X.N.length:=by lia
   subst hi1;have e1:N'[X.N.length]?=some y:=e1;rw[T.own]at e1;cases e1;exact⟨u,r,.inl ⟨T.loc,by simp⟩⟩
 ·obtain⟨w,z⟩:=I.cell y c (hcl _ (mem_of_lookup h))
  exact⟨w,z.keeps keep⟩
 ·exact I.freeC y c (hcl _ (mem_of_lookup h))
 ·show(σ++[some v]).length=N'.length
  rw[zV,I.len,T.len];rfl
theorem yd(T:ul X N' scope x)(I:Inv X LP σ H s)(hfm:A.frames=some X.stack)(hh:A.handled=none)
  (hd:A.depth<recursionLimit) (hcl:∀p∈cl,X.env.cells.lookup p.1=some p.2) (hfr:∀x,(x,NameKind.free)∈scope.names->∃c,(x,c)∈cl) (hp:R.plainA params=true) (hps:params.args.map (·.arg)=[x])
  (hf:s.heap.get? f=some (tS X.mg qual params body scope cl (.ref c') ctv)) (hr:s.heap.CodeRec (.ref c') qual)
  (he:∀s H,PE (qo X N' scope cl f qual (.ref c') A s H) body te) (r:RelV v u) (h:te (σ++[some v]) H Q) :
  wpAny (model X.prog X.w) A (call (.ref f) [u]) (EP X LP σ Q) E s:=by
 refine wpAny_call (kla_callFunE hd hf rfl T.co T.gen rfl hr ?_);have hb:bindArgs (kla_fn "<lambda>" qual params body scope cl ((X.mg "__name__").getD .none) (.ref c') ctv) ⟨[u],[]⟩=pure [(x,u)]:=by
  have:=R.bind_plain (fd:=kla_fn "<lambda>" qual params body scope cl ((X.mg "__name__").getD .none) (.ref c') ctv) (us:=[u]) hp rfl (by show(params.args.map (·.arg)).Nodup;rw[hps];simp) (by show _=(params.args.map (·.arg)).length;rw[hps];rfl)
  rw[this];show pure ((params.args.map (·.arg)).zip [u])=_;rw[hps];rfl
 rw[hb];refine yG ?_;refine wpAny_newFunctionEnv (around:=none) (fun y hy=>T.nc y hy) (fun y hy=>by rw[zM.mp hy];exact T.loc) (fun h' hn hs=>?_) T.cy.kind;have hs:Heap.SameBut s.heap.objs.size (s.heap.push { cls:=.type "frame",data:=.dict #[] }) h':=hs;have keep:∀b o,s.heap.get? b=some o->h'.get? b=some o:=fun b o e=>(hs.2 b (zU (yJ e))).trans (zG _ e)
 refine⟨I.nolimit.keeps keep,kla_codeExpr ?_⟩;have J:=yw (cd:=.ref c') (f:=f) (qual:=qual) (t':=s.toks+[(x,u)].length) T I hfm hh hcl hfr r hn hs;refine yT (he s H [] _ (σ++[some v]) H Q J h) (fun w s' hq0=>?_) fun e s' z=>z.elim
 obtain⟨y,H',J',ry,q⟩:=hq0;exact I.after ⟨y,H',J'.os,J'.bare,J'.base,J'.LZ,ry,q⟩
end
theorem vP(h:gC k v=true):RelV (kV k) v:=by
 cases k with
 |inl i =>
  cases v <;> first | (cases h;done) | skip
  rename_i j t;have e:j=i:=by simpa [gC,Value.isInt] using h
  subst e;exact⟨t,rfl⟩
 |inr x =>
  cases v <;> first | (cases h;done) | skip
  rename_i y t;have e:y=x:=by simpa [gC,Value.isStrOf] using h
  subst e;exact⟨t,rfl⟩
theorem Cb{κ:Type}{LR:List (κ×V)}{vs:List (κ×Value)}(r:KV LR vs):LR.map (·.1)=vs.map (·.1):=by
 induction r with
 |nil=>rfl
 |cons h t ih=>simp only[zO];rw[h.1,ih]
def Ig(d:Addr)(o:Obj)(LR:List (aQ×V)):It :=
 ⟨fun i H=>H d=some (.frz o (.dK LR))/\i<LR.length,fun i H x H'=>H'=H/\(LR.map fun p=>kV p.1)[i]?=some x,fun i H=>H d=some (.frz o (.dK LR))/\LR.length<=i⟩
theorem qb{ep:Nat}(I:Inv X LP σ H s)(h:H d=some (.frz o (.dK LR)))(ho:o.data=.dict es ep) :
  ∃vs,KV LR vs/\s.heap.DictAt (bK X.prog X.w) d vs ep:=by
 obtain⟨e1,_,_,vs,r,ob,es',ep',e2,c1,c2,c3⟩:=I.LZ d _ h;rw[e1]at e2;cases e2;rw[ho]at c2;cases c2;exact⟨vs,r,o,es,e1,c1,ho,c3⟩
theorem uz{P:Program}{w:World}{K:Frag}{tg:Expr}{d:Addr}{o:Obj}{LR:List (aQ×V)}{es:Array DictEntry}{ep:Nat}(it:Addr)(hd:o.data=.dict es ep):jr P w K tg (Ig d o LR) [it] it (fun i h=>h.IsKeyIter it d i LR.length ep) where
 mem:=by simp
 obj:=fun i h st b hb=>by
  obtain rfl:b=it:=by simpa using hb
  obtain⟨o,e,c,d⟩:=st;exact⟨o,e,fun v z=>by rw[d]at z;cases z⟩
 keep:=fun i h h' st k=>let⟨o,e,r⟩:=st;⟨o,k it (by simp) _ e,r⟩
 item:=by
  intro X hP hw hK hc i LP s σ H E I hf st hg;subst hP hw hK;obtain⟨hg,hi⟩:=hg;obtain⟨vs,r,da⟩:=qb I hg hd;have hl:LR.length=vs.length:=Paired.length r;obtain⟨f0,f1,f2,f3,f4,f5⟩:=hf it (by simp);obtain⟨q,hq⟩:∃q,vs[i]?=some q:=⟨_,zF oM⟩;have hk:LR[i]?.map (·.1)=vs[i]?.map (·.1):=by
   rw[<- zR,<- zR,Cb r]
  rw[hl]at st;refine wpAny_pyNext_dict_item st da (k:=q.1) (v:=q.2) hq fun key h' hkey st' sb=>?_
  have I1:Inv X LP σ H { s with heap:=h' }:=I.turned (t':=s.toks) (fun b o hb e=>(sb.2 b hb).trans e) f0 f1 f3 f4 f5;obtain⟨o',e,c,dd⟩:=id st';refine⟨key,rfl,mw (s:={ s with heap:=h' }) e c dd dC ⟨kV q.1,H,I1,vP hkey,⟨rfl,?_⟩,by rw[hl];exact st',fun b hb=>(hf b hb).1⟩⟩;rw[zR];rw[hq]at hk;cases hkv:LR[i]? with
  |none=>rw[hkv]at hk;cases hk
  |some p=>rw[hkv]at hk;simp at hk;simp[hk]
 done:=by
  intro X hP hw hK hc i LP s σ H E I hf st hg;subst hP hw hK;obtain⟨hg,hi⟩:=hg;obtain⟨vs,r,da⟩:=qb I hg hd;have hl:LR.length=vs.length:=Paired.length r;obtain⟨f0,f1,f2,f3,f4,f5⟩:=hf it (by simp);rw[hl]at st;exact wpAny_pyNext_dict_end (I.ok.hd hc) st da (List.getElem?_eq_none oM) fun h' eb=>⟨rfl,I.turned (t':=s.toks) (fun b o hb e=>eb b o hb e) f0 f1 f3 f4 f5⟩
 self:=fun A i s Q E st h=>wpAny_pyIter_keyiter st h
section
variable{X:Cx}{LP:List (Addr×Obj)}{σ:St}{H:Hp}{s:Shared}{d:Addr}{LR:List (aQ×V)}{o:Obj}
theorem Inv.frzD(I:Inv X LP σ H s)(h:H d=some (.dK LR))(e:s.heap.get? d=some o):Inv X LP σ (ae H d (.frz o (.dK LR))) { s with toks:=s.toks }:=by
 have ne:∀b u,H b=some u->(∀LR,u≠.dK LR)->b≠d:=fun b u q n z=>by rw[z,h]at q;cases q;exact n _ rfl
 refine I.un (h':=s.heap) ⟨fun b o e _ _ _=>e,fun b o e _ _ _=>⟨o.slots,e⟩,fun b o e n _=>by rw[ad (fun z=>by rw[z,h]at n;cases n)];exact n,fun b o e _=>⟨o,e⟩,fun b xs q=>by rw[ad (ne b _ q fun _ z=>nomatch z)];exact q,fun b o u q=>by rw[ad (ne b _ q fun _ z=>nomatch z)];exact q,
  fun b ps q=>⟨#[],by rw[ad (ne b _ q fun _ z=>nomatch z),q];simp⟩⟩ fun b u q=>?_
 have st:∀b u,H b=some u->ObjOk X.prog X.w (ae H d (.frz o (.dK LR))) s.heap b u:=fun b u q=>(I.LZ b u q).stay (fun _ _ _ z=>z) (fun c z=>by rw[ad (ne c _ z fun _ y=>nomatch y)];exact z) fun c xs z=>by rw[ad (ne c _ z fun _ y=>nomatch y)];exact z
 by_cases hb:b=d
 ·subst hb;rw[aw]at q;cases q;exact⟨e,st _ _ h⟩
 ·rw[ad hb]at q;exact st b u q
theorem Inv.thawD(I:Inv X LP σ H s)(h:H d=some (.frz o (.dK LR)))(hn:∀o u,X.H₀ d≠some (.frz o u)):Inv X LP σ (ae H d (.dK LR)) s:=by
 have ne:∀b u,H b=some u->(∀o u',u≠.frz o u')->b≠d:=fun b u q n z=>by rw[z,h]at q;cases q;exact n _ _ rfl
 have nn:∀b,H b=none->b≠d:=fun b q z=>by rw[z,h]at q;cases q
 have LZ:HOk X.prog X.w (ae H d (.dK LR)) s.heap:=fun b u q=>by
  have st:∀b u,H b=some u->ObjOk X.prog X.w (ae H d (.dK LR)) s.heap b u:=fun b u q=>(I.LZ b u q).stay (fun _ _ _ z=>z) (fun c z=>by rw[ad (ne c _ z fun _ _ y=>nomatch y)];exact z) fun c xs z=>by rw[ad (ne c _ z fun _ _ y=>nomatch y)];exact z
  by_cases hb:b=d
  ·subst hb;rw[aw]at q;cases q;exact(st _ _ h).2
  ·rw[ad hb]at q;exact st b u q
 refine⟨I.ok,I.os,I.bare,⟨I.base.keep,I.base.slot,fun b o e n hx=>by rw[ad (nn b (I.base.free b o e n hx))];exact I.base.free b o e n hx,I.base.there,fun b xs e=>by rw[ad (ne b _ (I.base.tups b xs e) fun _ _ y=>nomatch y)];exact I.base.tups b xs e,
  fun b o u e=>by rw[ad (fun z=>hn o u (by rw[<- z];exact e))];exact I.base.frzs b o u e,fun b ps e=>?_⟩,I.loc,I.cell,by rw[ad (nn _ I.free)];exact I.free,fun x c e=>by rw[ad (nn _ (I.freeC x c e))];exact I.freeC x c e,
  fun p hp=>by obtain⟨a1,a2,a3⟩:=I.pin p hp;exact⟨a1,by rw[ad (nn _ a2)];exact a2,a3⟩,LZ,I.len⟩
 obtain⟨more,q⟩:=I.base.tbls b ps e;exact⟨more,by rw[ad (ne b _ q fun _ _ y=>nomatch y)];exact q⟩
end
section
variable{X:Cx}{tg iter:Expr}{te:TE}
def GM(n0:Hp)(te:TE):TI:=fun σ H R=>te σ H fun x H1=>∃d LR,x=.ref d/\H1 d=some (.dK LR)/\∀o,(∀o u,n0 d≠some (.frz o u))->R (Ig d o LR) (ae H1 d (.frz o (.dK LR)))
theorem BN(hl:PE X iter te):PI X tg iter (GM X.H₀ te):=by
 intro LP s σ H R I h;refine aA (hl LP s σ H _ I h) fun v s1 hq0=>?_
 obtain⟨x,H1,I1,r1,d,LR,e,hd,q⟩:=hq0;subst e;cases r1;obtain⟨hz,hsys,vs,rv,ob,es,ep,e1,c1,c2,c3⟩:=I1.LZ d _ hd;have hl:LR.length=vs.length:=Paired.length rv;have hn:∀o u,X.H₀ d≠some (.frz o u):=fun o u z=>by
  have:=I1.base.frzs d o u z
  rw[hd]at this;cases this
 have I2:=I1.frzD hd e1;refine wpAny_pyIter_dict hsys (knd:=bK X.prog X.w) ⟨ob,es,e1,c1,c2,c3⟩ ?_;have I3:Inv X LP σ (ae H1 d (.frz ob (.dK LR))) { s1 with heap:=s1.heap.push { cls:=.type "dict_keyiterator",data:=.fields #[.ref d,.int 0 0,.int vs.length 0,.int ep 0] },toks:=s1.toks }:=I2.kept fun b o e=>zG _ e
 refine⟨s1.heap.objs.size,[s1.heap.objs.size],_,_,_,rfl,I3,uz (LR:=LR) _ c2,⟨_,zY _ rfl,rfl,by rw[hl];rfl⟩,fun b hb=>?_,q ob hn⟩;obtain rfl:b=s1.heap.objs.size:=by simpa using hb
 exact I2.fpOk (zP _) I2.fresh
def oQ(n0:Hp)(D:iQ):iQ:={ nx:=fun σ H=>∃d o LR,H d=some (.frz o (.dK LR))/\(∀o u,n0 d≠some (.frz o u))/\D.nx σ (ae H d (.dK LR)),rt:=fun v H=>∃d o LR,H d=some (.frz o (.dK LR))/\(∀o u,n0 d≠some (.frz o u))/\D.rt v (ae H d (.dK LR)) }
theorem BE{st:Stmt}{t:TS}(h:PS X st t):PS X st (fun D σ H=>t (oQ X.H₀ D) σ H):=by
 intro LP s σ H D I q;refine aA (h LP s σ H (oQ X.H₀ D) I q) fun f s' hs=>?_
 cases f with
 |next=>obtain⟨σ',H',J,d,o,LR,e,n,q⟩:=hs;exact⟨σ',_,J.thawD e n,q⟩
 |ret u=>obtain⟨v,σ',H',J,r,d,o,LR,e,n,q⟩:=hs;exact⟨v,σ',_,J.thawD e n,r,q⟩
 |brk=>obtain⟨_,_,_,q⟩:=hs;exact q.elim
 |cont=>obtain⟨_,_,_,q⟩:=hs;exact q.elim
end
end L2
namespace R
open PySem L2
inductive AV where
 |non|bl (b:Bool)|int (i:Int)|str (x:Str)|ref (k:Nat)|tup (xs:List AV)|fz (xs:List AV)
inductive LQ where
 |lst (xs:List AV)|al (t:AV)|dK (LR:List (aQ×AV))|dT (LR:List (List aQ×AV))|ins (c:Str) (fs:List (Str×AV))|wk (LR:List (aQ×AV))
abbrev aa:=List LQ
abbrev Sl:=List (Option AV)
abbrev Pr:=Addr->Prop
class LS where
 tb:List (Addr×Pos×Str)
structure Gm where
 K:Frag
 mg:Str->Option Value
def FLk(mg:Gm)(P:Pr)(H:Hp)(a:Addr)(vs:List V):Prop:=(P a/\Rd H a (.lst vs))\/∀H',bB mg.K H' a vs
mutual
def RA(mg:Gm)(P:Pr)(H:Hp)(φ:List Addr):AV->V->Prop
 |.non,v=>v=.non
 |.bl b,v=>v=.bl b
 |.int i,v=>v=.int i
 |.str x,v=>v=.str x
 |.ref k,v=>∃a,φ[k]?=some a/\v=.ref a
 |.tup xs,v=>∃a vs,v=.ref a/\P a/\H a=some (.tup vs)/\LX mg P H φ xs vs
 |.fz xs,v=>∃a vs,v=.ref a/\FLk mg P H a vs/\LX mg P H [] xs vs
def LX(mg:Gm)(P:Pr)(H:Hp)(φ:List Addr):List AV->List V->Prop
 |[],vs=>vs=[]
 |x::xs,vs=>∃v ws,vs=v::ws/\RA mg P H φ x v/\LX mg P H φ xs ws
end
theorem bo:LX mg P H φ [] []:=by simp only[LX]
theorem aR(h:RA mg P H φ x v)(t:LX mg P H φ xs vs):LX mg P H φ (x::xs) (v::vs):=by simp only[LX];exact⟨v,vs,rfl,h,t⟩
structure Frm(P:Pr)(φ:List Addr)(H:Hp)(P':Pr)(φ':List Addr)(H':Hp):Prop where
 ext:∀a,P a->P' a/\H' a=H a
 new:∃more,φ'=φ++more/\∀a∈more,H a=none
 keep:∀a,H a≠none->a∉φ->(∀ps,H a≠some (.tbl ps))->H' a=H a
 pn:∀a,P' a->P a\/H a=none\/a∈φ
 sm:∀a,H a≠none->H' a≠none
 fz:∀a o u,H a=some (.frz o u)->H' a=some (.frz o u)
theorem Frm.refl:Frm P φ H P φ H:=⟨fun _ h=>⟨h,rfl⟩,⟨[],by simp,by simp⟩,fun _ _ _ _=>rfl,fun _ h=>.inl h,fun _ h=>h,fun _ _ _ h=>h⟩
theorem Frm.trans{P P1 P2:Pr}{φ φ1 φ2:List Addr}{H H1 H2:Hp}(a:Frm P φ H P1 φ1 H1)(b:Frm P1 φ1 H1 P2 φ2 H2):Frm P φ H P2 φ2 H2:=by
 obtain⟨m1,e1,n1⟩:=a.new;obtain⟨m2,e2,n2⟩:=b.new;have nn:∀x,H1 x=none->H x=none:=fun x h=>by
  cases e:H x with
  |none=>rfl
  |some o=>exact absurd h (a.sm x (by rw[e];exact fun z=>nomatch z))
 refine⟨fun x h=>?_,⟨m1++m2,by rw[e2,e1,yN],fun x h=>?_⟩,fun x h1 h2 h3=>?_,fun x h=>?_,fun x h=>b.sm x (a.sm x h),fun x o u h=>b.fz x o u (a.fz x o u h)⟩
 ·obtain⟨h1,e⟩:=a.ext x h
  obtain⟨h2,e'⟩:=b.ext x h1;exact⟨h2,e'.trans e⟩
 ·rcases zZ.mp h with h|h
  ·exact n1 x h
  ·exact nn x (n2 x h)
 ·have e:=a.keep x h1 h2 h3
  refine(b.keep x (by rw[e];exact h1) (fun z=>?_) (by rw[e];exact h3)).trans e;rw[e1]at z;rcases zZ.mp z with z|z
  ·exact h2 z
  ·exact h1 (n1 x z)
 ·rcases b.pn x h with h|h|h
  ·exact a.pn x h
  ·exact .inr (.inl (nn x h))
  ·rw[e1]at h
   rcases zZ.mp h with h|h
   ·exact .inr (.inr h)
   ·exact .inr (.inl (n1 x h))
theorem Rd.at(h:Rd H a u)(e:H' a=H a):Rd H' a u:=by
 rcases h with h|⟨o,h⟩
 ·exact .inl (e.trans h)
 ·exact .inr ⟨o,e.trans h⟩
theorem FLk.mono{mg:Gm}{P P':Pr}{H H':Hp}{a:Addr}{vs:List V}(h:FLk mg P H a vs)(x:∀a,P a->P' a/\H' a=H a):FLk mg P' H' a vs:=by
 rcases h with⟨p,r⟩|h
 ·exact .inl ⟨(x a p).1,Rd.at r (x a p).2⟩
 ·exact .inr h
theorem FLk.sq(h:FLk mg P H a vs):bB mg.K H a vs:=by
 rcases h with⟨_,r⟩|h
 ·exact .inl r
 ·exact h H
section
variable{mg:Gm}{P P':Pr}{H H':Hp}{φ φ':List Addr}
mutual
theorem RA.mono'(x:∀a,P a->P' a/\H' a=H a):∀{t:AV}{v:V}{φ φ':List Addr},(∀(k:Nat) a,φ[k]?=some a->φ'[k]?=some a)->RA mg P H φ t v->RA mg P' H' φ' t v
 |.non,_,_,_,_,h=>by simp only[RA]at h ⊢;exact h
 |.bl _,_,_,_,_,h=>by simp only[RA]at h ⊢;exact h
 |.int _,_,_,_,_,h=>by simp only[RA]at h ⊢;exact h
 |.str _,_,_,_,_,h=>by simp only[RA]at h ⊢;exact h
 |.ref k,_,_,_,hφ,h=>by simp only[RA]at h ⊢;obtain⟨a,e,r⟩:=h;exact⟨a,hφ k a e,r⟩
 |.tup xs,_,_,_,hφ,h=>by
  simp only[RA]at h ⊢;obtain⟨a,vs,r,p,e,q⟩:=h;exact⟨a,vs,r,(x a p).1,(x a p).2.trans e,LX.mono' x hφ q⟩
 |.fz xs,_,_,_,hφ,h=>by
  simp only[RA]at h ⊢;obtain⟨a,vs,r,e,q⟩:=h;exact⟨a,vs,r,e.mono x,LX.mono' x (fun _ _ z=>z) q⟩
theorem LX.mono'(x:∀a,P a->P' a/\H' a=H a):∀{ts:List AV}{vs:List V}{φ φ':List Addr},(∀(k:Nat) a,φ[k]?=some a->φ'[k]?=some a)->LX mg P H φ ts vs->LX mg P' H' φ' ts vs
 |[],_,_,_,_,h=>by simp only[LX]at h ⊢;exact h
 |t::ts,_,_,_,hφ,h=>by
  simp only[LX]at h ⊢;obtain⟨v,ws,e,r,q⟩:=h;exact⟨v,ws,e,RA.mono' x hφ r,LX.mono' x hφ q⟩
end
theorem RA.mono{t:AV}{v:V}(h:RA mg P H φ t v)(x:∀a,P a->P' a/\H' a=H a)(hφ:∀(k:Nat) a,φ[k]?=some a->φ'[k]?=some a):RA mg P' H' φ' t v:=RA.mono' x hφ h
theorem LX.mono{ts:List AV}{vs:List V}(h:LX mg P H φ ts vs)(x:∀a,P a->P' a/\H' a=H a)(hφ:∀(k:Nat) a,φ[k]?=some a->φ'[k]?=some a):LX mg P' H' φ' ts vs:=LX.mono' x hφ h
theorem Frm.ix(f:Frm P φ H P' φ' H'):∀(k:Nat) a,φ[k]?=some a->φ'[k]?=some a:=fun k a e=>by
 obtain⟨m,rfl,_⟩:=f.new;rw[zN (zB.mp e).1];exact e
theorem RA.frm(h:RA mg P H φ t v)(f:Frm P φ H P' φ' H'):RA mg P' H' φ' t v:=h.mono f.ext f.ix
theorem LX.frm(h:LX mg P H φ ts vs)(f:Frm P φ H P' φ' H'):LX mg P' H' φ' ts vs:=h.mono f.ext f.ix
theorem RA.lift(h:RA mg P H [] t v):RA mg P H φ t v:=h.mono (fun _ h=>⟨h,rfl⟩) fun k a e=>by simp at e
theorem LX.lift(h:LX mg P H [] ts vs):LX mg P H φ ts vs:=h.mono (fun _ h=>⟨h,rfl⟩) fun k a e=>by simp at e
theorem LX.length:∀{ts:List AV}{vs:List V},LX mg P H φ ts vs->ts.length=vs.length
 |[],_,h=>by simp only[LX]at h;subst h;rfl
 |t::ts,_,h=>by
  simp only[LX]at h;obtain⟨v,ws,rfl,_,q⟩:=h;rw[yY,yY,LX.length q]
theorem LX.get:∀{ts:List AV}{vs:List V}{i:Nat}{t:AV},LX mg P H φ ts vs->ts[i]?=some t->∃v,vs[i]?=some v/\RA mg P H φ t v
 |[],_,_,_,_,e=>by simp at e
 |x::ts,_,i,t,h,e=>by
  simp only[LX]at h;obtain⟨v,ws,rfl,r,q⟩:=h;cases i with
  |zero=>simp at e;subst e;exact⟨v,rfl,r⟩
  |succ i=>simpa using LX.get (i:=i) q (by simpa using e)
theorem LX.app:∀{xs ys:List AV}{vs ws:List V},LX mg P H φ xs vs->LX mg P H φ ys ws->LX mg P H φ (xs++ys) (vs++ws)
 |[],_,_,_,h,g=>by simp only[LX]at h;subst h;exact g
 |x::xs,_,_,_,h,g=>by
  simp only[LX]at h;obtain⟨v,ws,rfl,r,q⟩:=h;exact aR r (LX.app q g)
theorem LX.take:∀{xs:List AV}{vs:List V} (n:Nat),LX mg P H φ xs vs->LX mg P H φ (xs.take n) (vs.take n)
 |xs,vs,0,_=>by rw[List.take_zero,List.take_zero];exact bo
 |[],vs,n+1,h=>by simp only[LX]at h;subst h;exact bo
 |x::xs,vs,n+1,h=>by
  simp only[LX]at h;obtain⟨v,ws,rfl,r,q⟩:=h;exact aR r (LX.take n q)
theorem LX.drop:∀{xs:List AV}{vs:List V} (n:Nat),LX mg P H φ xs vs->LX mg P H φ (xs.drop n) (vs.drop n)
 |xs,vs,0,h=>h
 |[],vs,n+1,h=>by simp only[LX]at h;subst h;exact bo
 |x::xs,vs,n+1,h=>by
  simp only[LX]at h;obtain⟨v,ws,rfl,r,q⟩:=h;exact LX.drop n q
theorem LX.set(r:RA mg P H φ x v):∀{xs:List AV}{vs:List V} (n:Nat),LX mg P H φ xs vs->LX mg P H φ (xs.set n x) (vs.set n v)
 |[],vs,_,h=>by simp only[LX]at h;subst h;exact bo
 |y::xs,vs,n,h=>by
  simp only[LX]at h;obtain⟨w,ws,rfl,q,t⟩:=h;cases n with
  |zero=>exact aR r t
  |succ n=>exact aR q (LX.set r n t)
theorem LX.ints:∀{ns:List Int}{vs:List V},LX mg P H φ (ns.map .int) vs->vs=ns.map .int
 |[],_,h=>by simpa only[List.map_nil,LX] using h
 |n::ns,_,h=>by
  simp only[zO,LX,RA]at h;obtain⟨v,ws,rfl,rfl,q⟩:=h;rw[LX.ints q];rfl
theorem LX.of_ints:∀{ns:List Int},LX mg P H φ (ns.map .int) (ns.map V.int)
 |[]=>bo
 |n::ns=>aR (by simp only[RA]) LX.of_ints
end
def KVR(mg:Gm)(P:Pr)(H:Hp)(φ:List Addr){κ:Type}(LR:List (κ×AV))(ws:List (κ×V)):Prop:=LR.map (·.1)=ws.map (·.1)/\LX mg P H φ (LR.map (·.2)) (ws.map (·.2))
def CellR(mg:Gm)(P:Pr)(H:Hp)(φ:List Addr)(a:Addr):LQ->Prop
 |.lst xs=>¬P a/\∃vs,H a=some (.lst vs)/\LX mg P H φ xs vs
 |.al t=>P a/\RA mg P H [] t (.ref a)
 |.dK LR=>¬P a/\∃ws,H a=some (.dK ws)/\KVR mg P H φ LR ws
 |.dT LR=>¬P a/\∃ws,H a=some (.dT ws)/\KVR mg P H φ LR ws
 |.ins c fs=>¬P a/\∃C dx ws,mg.mg c=some (.ref C)/\H a=some (.ins C dx ws)/\KVR mg P H φ fs ws
 |.wk LR=>¬P a/\∃o ws,H a=some (.frz o (.dK ws))/\KVR mg P H φ LR ws
def Fz(o:Option HO):Prop:=(∀ps,o≠some (.tbl ps))/\∀f,o≠some (.ext f)
theorem _root_.L2.ff.new(h:ff H P pos q)(hp:H p=none):ff (ae H p o) P pos q:=by
 obtain⟨ps,e,t,c⟩:=h;refine⟨ps,by rw[ad (aT e hp)];exact e,t,?_⟩;rcases c with c|⟨c',c1,c2⟩
 ·exact .inl c
 ·exact .inr ⟨c',c1,by rw[ad (aT c2 hp)];exact c2⟩
theorem _root_.L2.ff.ne(h:ff H P pos q)(hp:H p=none):P≠p:=by
 obtain⟨ps,e,_⟩:=h;exact aT e hp
theorem _root_.L2.ff.wr(h:ff H P pos q)(hp:Fz (H p)):ff (ae H p o) P pos q:=by
 obtain⟨ps,e,t,c⟩:=h;refine⟨ps,by rw[ad fun z=>hp.1 ps (by rw[<- z];exact e)];exact e,t,?_⟩;rcases c with c|⟨c',c1,c2⟩
 ·exact .inl c
 ·exact .inr ⟨c',c1,by rw[ad fun z=>hp.2 _ (by rw[<- z];exact c2)];exact c2⟩
structure Sim[LS](mg:Gm)(P:Pr)(φ:List Addr)(st:aa)(H:Hp):Prop where
 len:φ.length=st.length
 nd:φ.Nodup
 dom:∀a,P a->H a≠none
 cd:∀a∈φ,H a≠none
 cell:∀(k:Nat) c a,st[k]?=some c->φ[k]?=some a->CellR mg P H φ a c
 tb:∀t∈LS.tb,ff H t.1 t.2.1 t.2.2/\¬P t.1
section
variable{mg:Gm}{P P':Pr}{H H':Hp}{φ φ':List Addr}{st st':aa}{a:Addr}
theorem KVR.mono{κ:Type}{LR:List (κ×AV)}{ws:List (κ×V)}(h:KVR mg P H φ LR ws)(x:∀a,P a->P' a/\H' a=H a)(hφ:∀(k:Nat) a,φ[k]?=some a->φ'[k]?=some a):KVR mg P' H' φ' LR ws:=⟨h.1,h.2.mono x hφ⟩
theorem CellR.mono{c:LQ}(h:CellR mg P H φ a c)(x:∀a,P a->P' a/\H' a=H a)(hφ:∀(k:Nat) a,φ[k]?=some a->φ'[k]?=some a)(e:H' a=H a)(np:¬P a->¬P' a):CellR mg P' H' φ' a c:=by
 cases c with
 |lst xs=>obtain⟨n,vs,r,q⟩:=h;exact⟨np n,vs,e.trans r,q.mono x hφ⟩
 |al t=>exact⟨(x a h.1).1,h.2.mono x fun _ _ z=>z⟩
 |dK LR=>obtain⟨n,vs,r,q⟩:=h;exact⟨np n,vs,e.trans r,q.mono x hφ⟩
 |dT LR=>obtain⟨n,vs,r,q⟩:=h;exact⟨np n,vs,e.trans r,q.mono x hφ⟩
 |ins c fs=>obtain⟨n,C,dx,ws,m,r,q⟩:=h;exact⟨np n,C,dx,ws,m,e.trans r,q.mono x hφ⟩
 |wk LR=>obtain⟨n,o,ws,r,q⟩:=h;exact⟨np n,o,ws,e.trans r,q.mono x hφ⟩
theorem Sim.at[LS](s:Sim mg P φ st H){k:Nat}(e:st[k]?=some c):∃a,φ[k]?=some a/\CellR mg P H φ a c:=by
 have hk:k<φ.length:=by rw[s.len];exact(zB.mp e).1
 exact⟨φ[k],zF hk,s.cell k c _ e (zF hk)⟩
theorem Sim.notb[LS](s:Sim mg P φ st H){k:Nat}(ea:φ[k]?=some a)(na:¬P a):Fz (H a):=by
 obtain⟨c,hc⟩:∃c,st[k]?=some c:=⟨_,zF (by rw[<- s.len];exact(zB.mp ea).1)⟩;have h:=s.cell k c a hc ea;cases c with
 |lst xs=>obtain⟨n,vs,r,q⟩:=h;rw[r];exact⟨fun _ z=>(nomatch z),fun _ z=>(nomatch z)⟩
 |al t=>exact absurd h.1 na
 |dK LR=>obtain⟨n,vs,r,q⟩:=h;rw[r];exact⟨fun _ z=>(nomatch z),fun _ z=>(nomatch z)⟩
 |dT LR=>obtain⟨n,vs,r,q⟩:=h;rw[r];exact⟨fun _ z=>(nomatch z),fun _ z=>(nomatch z)⟩
 |ins c fs=>obtain⟨n,C,dx,ws,m,r,q⟩:=h;rw[r];exact⟨fun _ z=>(nomatch z),fun _ z=>(nomatch z)⟩
 |wk LR=>obtain⟨n,o,ws,r,q⟩:=h;rw[r];exact⟨fun _ z=>(nomatch z),fun _ z=>(nomatch z)⟩
theorem Sim.tnc[LS](s:Sim mg P φ st H)(ht:t∈LS.tb):t.1∉φ:=fun h=>by
 obtain⟨j,hj⟩:=z9 h;obtain⟨ps,e,_⟩:=(s.tb t ht).1;exact(s.notb hj (s.tb t ht).2).1 ps e
theorem Sim.okeep[LS](s:Sim mg P φ st H)(f:Frm P φ H P' φ' H')(h:H c=some (fv c q)):H' c=some (fv c q):=by
 by_cases hP:P c
 ·exact(f.ext c hP).2.trans h
 ·refine(f.keep c (by rw[h];exact fun z=>nomatch z) (fun z=>?_) fun ps z=>by rw[h]at z;cases z).trans h
  obtain⟨j,hj⟩:=z9 z;exact(s.notb hj hP).2 _ h
theorem Sim.ckeep[LS](s:Sim mg P φ st H)(x:∀a,P a->H' a=H a)(k:∀a,H a≠none->(∀ps,H a≠some (.tbl ps))->H' a=H a):∀a∈φ,H' a=H a:=fun a h=>by
 by_cases hP:P a
 ·exact x a hP
 ·obtain⟨j,hj⟩:=z9 h
  exact k a (s.cd a h) (s.notb hj hP).1
theorem Sim.stay[LS](s:Sim mg P φ st H)(x:∀a,P a->P' a/\H' a=H a)(hc:∀a∈φ,H' a=H a)(np:∀a∈φ,¬P a->¬P' a)(dm:∀a,P' a->H' a≠none)(tb:∀t∈LS.tb,ff H' t.1 t.2.1 t.2.2/\¬P' t.1):Sim mg P' φ st H' :=
 ⟨s.len,s.nd,dm,fun a h=>by rw[hc a h];exact s.cd a h,fun k c a e1 e2=>(s.cell k c a e1 e2).mono x (fun _ _ z=>z) (hc a (zW e2)) (np a (zW e2)),tb⟩
theorem Sim.nil[LS](dm:∀a,P a->H a≠none)(tb:∀t∈LS.tb,ff H t.1 t.2.1 t.2.2/\¬P t.1):Sim mg P [] [] H:=⟨rfl,List.nodup_nil,dm,fun _ h=>by simp at h,fun k c a e _=>by simp at e,tb⟩
theorem lU[LS](s:Sim mg P φ st H)(hp:H p=none):Frm P φ H (fun a=>P a\/a=p) φ (ae H p o)/\Sim mg (fun a=>P a\/a=p) φ st (ae H p o):=by
 have ne:∀a,H a≠none->a≠p:=fun a h e=>h (by rw[e];exact hp)
 have f:Frm P φ H (fun a=>P a\/a=p) φ (ae H p o):=by
  refine⟨fun a h=>⟨.inl h,ad (ne a (s.dom a h))⟩,⟨[],by simp,by simp⟩,fun a h _ _=>ad (ne a h),fun a h=>?_,fun a h=>by rw[ad (ne a h)];exact h,fun a o u h=>by rw[ad (aT h hp)];exact h⟩;rcases h with h|h
  ·exact .inl h
  ·exact .inr (.inl (by rw[h];exact hp))
 refine⟨f,s.stay f.ext (fun a h=>ad (ne a (s.cd a h))) (fun a h n z=>?_) (fun a h=>?_) fun t ht=>⟨(s.tb t ht).1.new hp,fun z=>z.elim (s.tb t ht).2 (fun e=>(s.tb t ht).1.ne hp e)⟩⟩
 ·rcases z with z|z
  ·exact n z
  ·exact ne a (s.cd a h) z
 ·rcases h with h|h
  ·rw[ad (ne a (s.dom a h))];exact s.dom a h
  ·rw[h,aw];exact fun z=>nomatch z
theorem ly[LS](s:Sim mg P φ st H)(hp:H p=none)(hc:CellR mg P (ae H p o) (φ++[p]) p c):Frm P φ H P (φ++[p]) (ae H p o)/\Sim mg P (φ++[p]) (st++[c]) (ae H p o):=by
 have ne:∀a,H a≠none->a≠p:=fun a h e=>h (by rw[e];exact hp)
 have ex:∀a,P a->P a/\ae H p o a=H a:=fun a h=>⟨h,ad (ne a (s.dom a h))⟩
 have ix:∀(k:Nat) a,φ[k]?=some a->(φ++[p])[k]?=some a:=fun k a e=>by rw[zN (zB.mp e).1];exact e
 have sm:∀a,H a≠none->ae H p o a≠none:=fun a h=>by rw[ad (ne a h)];exact h
 refine⟨⟨ex,⟨[p],rfl,fun a h=>by rw[zM.mp h];exact hp⟩,fun a h _ _=>ad (ne a h),fun a h=>.inl h,sm,fun a o u h=>by rw[ad (aT h hp)];exact h⟩,?_,?_,fun a h=>sm a (s.dom a h),fun a h=>?_,fun k d a e1 e2=>?_,fun t ht=>⟨(s.tb t ht).1.new hp,(s.tb t ht).2⟩⟩
 ·rw[zV,zV,s.len];rfl
 ·exact List.nodup_append.mpr ⟨s.nd,(by simp),fun a h b hb e=>ne a (s.cd a h) (by rw[e];exact zM.mp hb)⟩
 ·rcases zZ.mp h with h|h
  ·exact sm a (s.cd a h)
  ·rw[zM.mp h,aw];exact fun z=>nomatch z
 ·by_cases hk:k<st.length
  ·rw[zN hk]at e1
   rw[zN (by rw[s.len];exact hk)]at e2;exact(s.cell k d a e1 e2).mono ex ix (ad (ne a (s.cd a (zW e2)))) fun z=>z
  ·have hk':k=st.length:=by
    have:=(zB.mp e1).1
    rw[zV]at this;simp at this;lia
   subst hk';simp at e1;rw[<- s.len]at e2;simp at e2;subst e1;subst e2;exact hc
theorem gG[LS]{k:Nat}(s:Sim mg P φ st H)(ea:φ[k]?=some a)(na:¬P a)(hc:CellR mg P (ae H a o) φ a c)(nz:∀o u,H a≠some (.frz o u)):Frm P φ H P φ (ae H a o)/\Sim mg P φ (st.set k c) (ae H a o):=by
 have hm:a∈φ:=zW ea;have ne:∀b,P b->b≠a:=fun b h e=>na (by rw[<- e];exact h)
 have sm:∀b,H b≠none->ae H a o b≠none:=fun b h=>by
  by_cases e:b=a
  ·rw[e,aw];exact fun z=>nomatch z
  ·rw[ad e];exact h
 have ex:∀b,P b->P b/\ae H a o b=H b:=fun b h=>⟨h,ad (ne b h)⟩
 refine⟨⟨ex,⟨[],by simp,by simp⟩,fun b _ h _=>ad fun e=>h (by rw[e];exact hm),fun b h=>.inl h,sm,fun b o u h=>by rw[ad (fun e=>nz o u (by rw[<- e];exact h))];exact h⟩,by rw[List.length_set];exact s.len,s.nd,fun b h=>sm b (s.dom b h),fun b h=>sm b (s.cd b h),fun j d b e1 e2=>?_,fun t ht=>⟨(s.tb t ht).1.wr (s.notb ea na),(s.tb t ht).2⟩⟩;by_cases hj:j=k
 ·subst hj
  rw[ea]at e2;cases e2;rw[List.getElem?_set_self (by rw[<- s.len];exact(zB.mp ea).1)]at e1;cases e1;exact hc
 ·rw[List.getElem?_set_ne (Ne.symm hj)]at e1
  have hb:b≠a:=fun e=>hj (by
   subst e;exact nodup_ix' s.nd e2 ea)
  exact(s.cell j d b e1 e2).mono ex (fun _ _ z=>z) (ad hb) fun z=>z
where
 nodup_ix' {l:List Addr} (hN:l.Nodup) {i j:Nat}{x:Addr} (a:l[i]?=some x) (b:l[j]?=some x):i=j:=by
  obtain⟨h1,e1⟩:=zB.mp a;obtain⟨h2,e2⟩:=zB.mp b;exact(List.getElem_inj hN).mp (e1.trans e2.symm)
end
open PySem.Spec PyProof.Rows
open DD (PE_imp PT_imp PA_imp PS_imp PSs_imp OpR_imp PW_imp PG_imp)
abbrev St:=L2.St
abbrev _root_.L2.Cx.gm(X:Cx):Gm:=⟨X.K,X.mg⟩
def KG[LS]{α β:Type}(mg:Gm)(Rl:Gm->Pr->Hp->List Addr->α->β->Prop)(P:Pr)(φ:List Addr)(H:Hp)(r:Option (α×aa))(Q:β->Hp->Prop):Prop :=
 ∃a st',r=some (a,st')/\∀P' φ' H' b,Frm P φ H P' φ' H'->Sim mg P' φ' st' H'->Rl mg P' H' φ' a b->Q b H'
def RB{α:Type}(_:Gm)(_:Pr)(_:Hp)(_:List Addr)(a b:α):Prop:=a=b
section
variable{α β γ δ:Type}{mg:Gm}{Ra:Gm->Pr->Hp->List Addr->α->β->Prop}{Rc:Gm->Pr->Hp->List Addr->γ->δ->Prop}{P:Pr}{φ:List Addr}{H:Hp}
theorem KG.bind[LS]{m:Option (α×aa)}{k:α×aa->Option (γ×aa)}{Q:δ->Hp->Prop}(h:KG mg Rc P φ H (m.bind k) Q) :
  KG mg Ra P φ H m fun b H1=>∃P1 φ1 st1 a,Frm P φ H P1 φ1 H1/\Sim mg P1 φ1 st1 H1/\Ra mg P1 H1 φ1 a b/\KG mg Rc P1 φ1 H1 (k (a,st1)) Q:=by
 obtain⟨c,st',e,q⟩:=h;cases m with
 |none=>cases e
 |some p =>
  obtain⟨a,st1⟩:=p;refine⟨a,st1,rfl,fun P1 φ1 H1 b f s r=>⟨P1,φ1,st1,a,f,s,r,c,st',e,fun P' φ' H' d f' s' r'=>q P' φ' H' d (f.trans f') s' r'⟩⟩
theorem KG.pure[LS]{a:α}{st:aa}{Q:β->Hp->Prop}{b:β}(h:KG mg Ra P φ H (some (a,st)) Q)(s:Sim mg P φ st H)(r:Ra mg P H φ a b):Q b H:=by
 obtain⟨_,_,e,q⟩:=h;cases e;exact q P φ H b Frm.refl s r
theorem KG.map[LS]{m:Option α}{st:aa}{Q:β->Hp->Prop}(h:KG mg Ra P φ H (m.map fun a=>(a,st)) Q):∃a,m=some a/\KG mg Ra P φ H (some (a,st)) Q:=by
 obtain⟨b,st',e,q⟩:=h;cases m with
 |none=>cases e
 |some a=>exact⟨a,rfl,b,st',e,q⟩
end
def L3(mg:Gm)(P:Pr)(H:Hp)(φ:List Addr)(sl:Sl)(σ:St):Prop:=sl.length=σ.length/\∀(i:Nat) v,sl[i]?=some (some v)->∃w,σ[i]?=some (some w)/\RA mg P H φ v w
section
variable{mg:Gm}{P P':Pr}{H H':Hp}{φ φ':List Addr}{sl:Sl}{σ:St}
theorem L3.frm(h:L3 mg P H φ sl σ)(f:Frm P φ H P' φ' H'):L3 mg P' H' φ' sl σ:=⟨h.1,fun i v e=>let⟨w,e',r⟩:=h.2 i v e;⟨w,e',r.frm f⟩⟩
theorem L3.set(h:L3 mg P H φ sl σ)(r:RA mg P H φ v w)(i:Nat):L3 mg P H φ (sl.set i (some v)) (σ.set i (some w)):=by
 refine⟨by rw[List.length_set,List.length_set];exact h.1,fun j u e=>?_⟩;by_cases hj:i=j
 ·subst hj
  by_cases hi:i<sl.length
  ·rw[List.getElem?_set_self hi]at e
   cases e;exact⟨w,List.getElem?_set_self (by rw[<- h.1];exact hi),r⟩
  ·rw[List.getElem?_eq_none (by rw[List.length_set];lia)]at e;cases e
 ·rw[List.getElem?_set_ne hj]at e
  rw[List.getElem?_set_ne hj];exact h.2 j u e
end
abbrev EF:=Sl->aa->Option (AV×aa)
abbrev TF:=Sl->aa->Option (Bool×aa)
abbrev AF:=Sl->aa->Option (List AV×aa)
def rE[LS](mg:Gm)(f:EF):TE:=fun σ H Q=>∃P φ sl st,L3 mg P H φ sl σ/\Sim mg P φ st H/\KG mg RA P φ H (f sl st) Q
def rT[LS](mg:Gm)(f:TF):TT:=fun σ H Q=>∃P φ sl st,L3 mg P H φ sl σ/\Sim mg P φ st H/\KG mg RB P φ H (f sl st) Q
def rA[LS](mg:Gm)(f:AF):TA:=fun σ H Q=>∃P φ sl st,L3 mg P H φ sl σ/\Sim mg P φ st H/\KG mg LX P φ H (f sl st) Q
def QE[LS](X:Cx)(e:Expr)(f:EF):Prop:=PE X e (rE X.gm f)
def QT[LS](X:Cx)(e:Expr)(f:TF):Prop:=PT X e (rT X.gm f)
def QW[LS](X:Cx)(e:Expr)(f:TF):Prop:=PW X e (rT X.gm f)
def QA[LS](X:Cx)(es:List Expr)(f:AF):Prop:=PA X es (rA X.gm f)
def aV(i:Nat):EF:=fun sl st=>match sl[i]? with
 |some (some v)=>some (v,st)
 |_=>none
def aC(v:AV):EF:=fun _ st=>some (v,st)
def d9:AF:=fun _ st=>some ([],st)
def eI(f:EF)(g:AF):AF:=fun sl st=>(f sl st).bind fun p=>(g sl p.2).bind fun q=>some (p.1::q.1,q.2)
noncomputable def og:AV->Option V
 |.non=>some .non
 |.bl b=>some (.bl b)
 |.int i=>some (.int i)
 |.str x=>some (.str x)
 |_=>none
theorem RA.sc(h:og v=some w):RA mg P H φ v w:=by
 cases v<;>simp only[og]at h<;>cases h<;>simp only[RA]
section
variable{X:Cx}{e:Expr}{es:List Expr}{pos:Pos}
theorem Ds[LS]{i:Nat}(hN:X.N[i]?=some x)(hv:wD X.env.scope x)(hd:(x==("__debug__":Str))=false)(hcd:(x==("__classdict__":Str))=false):QE X (.Name x pos) (aV i) :=
 PE_imp (DO hN hv hd hcd) fun σ H Q hq0=>by
  obtain⟨P,φ,sl,st,r,s,k⟩:=hq0;unfold aV at k;cases h:sl[i]? with
  |none=>rw[h]at k;obtain⟨_,_,e,_⟩:=k;cases e
  |some o =>
   cases o with
   |none=>rw[h]at k;obtain⟨_,_,e,_⟩:=k;cases e
   |some v =>
    rw[h]at k;obtain⟨w,e,ra⟩:=r.2 i v h;exact⟨w,e,k.pure s ra⟩
theorem pC[LS](hw:og v=some w)(h:PE X e t)(ht:∀σ H Q,Q w H->t σ H Q):QE X e (aC v) :=
 PE_imp h fun σ H Q ⟨P,φ,sl,st,r,s,k⟩=>ht σ H Q (k.pure s (RA.sc hw))
theorem eB[LS]:QA X [] d9:=PA_imp vw fun σ H Q ⟨P,φ,sl,st,r,s,k⟩=>k.pure s bo
theorem cK[LS](ha:QE X e f)(hr:QA X es g)(hs:starEach (e::es) X.env=(false,eval e X.env)::starEach es X.env):QA X (e::es) (eI f g) :=
 PA_imp (rh ha hr hs) fun σ H Q ⟨P,φ,sl,st,r,s,k⟩=>⟨P,φ,sl,st,r,s,by
  obtain⟨a,st',e1,q⟩:=k.bind (Ra:=RA);refine⟨a,st',e1,fun P1 φ1 H1 b f1 s1 r1=>?_⟩;obtain⟨P2,φ2,st2,a2,f2,s2,r2,k2⟩:=q P1 φ1 H1 b f1 s1 r1;refine⟨P2,φ2,sl,st2,r.frm f2,s2,?_⟩;obtain⟨xs,st3,e3,q3⟩:=k2.bind (Ra:=LX);refine⟨xs,st3,e3,fun P4 φ4 H4 bs f4 s4 r4=>?_⟩;obtain⟨P5,φ5,st5,a5,f5,s5,r5,k5⟩:=q3 P4 φ4 H4 bs f4 s4 r4;exact k5.pure s5 (aR (r2.frm f5) r5)⟩
end
def a2(f g:EF)(k:AV->AV->aa->Option (AV×aa)):EF:=fun sl st=>(f sl st).bind fun p=>(g sl p.2).bind fun q=>k p.1 q.1 q.2
def a1(f:EF)(k:AV->aa->Option (AV×aa)):EF:=fun sl st=>(f sl st).bind fun p=>k p.1 p.2
def r2[LS](mg:Gm)(k:AV->AV->aa->Option (AV×aa)):R2:=fun v w H Q=>∃P φ st x y,Sim mg P φ st H/\RA mg P H φ x v/\RA mg P H φ y w/\KG mg RA P φ H (k x y st) Q
def r1[LS](mg:Gm)(k:AV->aa->Option (AV×aa)):V->Hp->VK->Prop:=fun v H Q=>∃P φ st x,Sim mg P φ st H/\RA mg P H φ x v/\KG mg RA P φ H (k x st) Q
section
variable{mg:Gm}{k:AV->AV->aa->Option (AV×aa)}{k1:AV->aa->Option (AV×aa)}{f g:EF}
theorem uh[LS](q:rE mg (a2 f g k) σ H Q):uV (r2 mg k) (rE mg f) (rE mg g) σ H Q:=by
 obtain⟨P,φ,sl,st,rs,s,kk⟩:=q;refine⟨P,φ,sl,st,rs,s,?_⟩;obtain⟨a,st',e1,q⟩:=kk.bind (Ra:=RA);refine⟨a,st',e1,fun P1 φ1 H1 b f1 s1 r1=>?_⟩;obtain⟨P2,φ2,st2,x,f2,s2,r2,k2⟩:=q P1 φ1 H1 b f1 s1 r1;refine⟨P2,φ2,sl,st2,rs.frm f2,s2,?_⟩;obtain⟨a',st3,e3,q3⟩:=k2.bind (Ra:=RA);refine⟨a',st3,e3,fun P4 φ4 H4 b' f4 s4 r4=>?_⟩;obtain⟨P5,φ5,st5,y,f5,s5,r5,k5⟩:=q3 P4 φ4 H4 b' f4 s4 r4;exact⟨P5,φ5,st5,x,y,s5,r2.frm f5,r5,k5⟩
theorem Jy[LS](q:rE mg (a1 f k1) σ H Q):Ho (r1 mg k1) (rE mg f) σ H Q:=by
 obtain⟨P,φ,sl,st,rs,s,kk⟩:=q;refine⟨P,φ,sl,st,rs,s,?_⟩;obtain⟨a,st',e1,q⟩:=kk.bind (Ra:=RA);refine⟨a,st',e1,fun P1 φ1 H1 b f1 s1 r1=>?_⟩;obtain⟨P2,φ2,st2,x,f2,s2,r2,k2⟩:=q P1 φ1 H1 b f1 s1 r1;exact⟨P2,φ2,st2,x,s2,r2,k2⟩
end
def jC(h:aa->AV->AV->Option AV):AV->AV->aa->Option (AV×aa):=fun x y st=>(h st x y).map fun z=>(z,st)
def C4(h:aa->AV->Option AV):AV->aa->Option (AV×aa):=fun x st=>(h st x).map fun z=>(z,st)
noncomputable def cG(a b:Int):Bool:=(Nat.ble a.natAbs.log2 62||Nat.ble b.natAbs.log2 62)||(Nat.ble a.natAbs.log2 1000000&&Nat.ble b.natAbs.log2 1000000)
noncomputable def dD(b:Int):Bool:=!(b==0)&&Nat.ble b.natAbs.log2 8999
noncomputable def sY(a b:Int):Bool:=decide (0<=b)&&Nat.ble b.natAbs 100000&&Nat.ble a.natAbs.log2 62
noncomputable def rZ(a b:Int):Int:=if 0<b then a/b else a.fdiv b
noncomputable def ou(a b:Int):Int:=if 0<b then a%b else a.fmod b
def qA:Operator->Int->Int->Option Int
 |.Add,a,b=>some (a+b)
 |.Sub,a,b=>some (a-b)
 |.Mult,a,b=>if cG a b=true then some (a*b) else none
 |.FloorDiv,a,b=>if dD b=true then some (rZ a b) else none
 |.Mod,a,b=>if b=0 then none else some (ou a b)
 |.Pow,a,b=>if sY a b=true then some (a^b.toNat) else none
 |.LShift,a,b=>if sY a b=true then some (a*2^b.toNat) else none
 |.RShift,a,b=>if 0<=b then some (a/2^b.toNat) else none
 |.BitAnd,a,b=>some (Builtin.bitAnd a b)
 |.BitOr,a,b=>some (Builtin.bitOr a b)
 |.BitXor,a,b=>some (Builtin.bitXor a b)
 |_,_,_=>none
def bh(o:Operator)(_:aa):AV->AV->Option AV
 |.int a,.int b=>(qA o a b).map .int
 |.str a,.str b=>if(decide (o=.Add)&&Nat.ble (a.length+b.length) 1000000)=true then some (.str (a++b)) else none
 |_,_=>none
theorem log2_lt{n k:Nat}(h:Nat.ble n.log2 k=true):n<2^(k+1):=by
 by_cases h0:n=0
 ·subst h0;exact Nat.two_pow_pos _
 ·exact(Nat.log2_lt h0).mp (Nat.lt_succ_of_le (zS h))
theorem kn{a:Int}{k:Nat}(h:a.natAbs<2^k):Builtin.Int.intBits a<=k:=by
 unfold Builtin.Int.intBits;split
 ·lia
 ·rename_i h0
  have:a.natAbs.log2<k:=(Nat.log2_lt (by simpa using h0)).mpr h;lia
theorem B3{a b:Int}(h:cG a b=true):IntMulOk a b:=by
 unfold cG at h;rcases Bool.or_eq_true_iff.mp h with h|h
 ·rcases Bool.or_eq_true_iff.mp h with h|h
  ·exact .of_left (z5 (kn (log2_lt h)) dC)
  ·exact .of_right (z5 (kn (log2_lt h)) dC)
 ·obtain⟨h1,h2⟩:=Bool.and_eq_true_iff.mp h
  exact .of_bits (z5 (kn (log2_lt h1)) dC) (z5 (kn (log2_lt h2)) dC)
theorem Ck{b:Int}(h:dD b=true):b≠0/\b.natAbs.log2<9000:=by
 unfold dD at h;obtain⟨h1,h2⟩:=Bool.and_eq_true_iff.mp h;exact⟨by simpa using h1,Nat.lt_succ_of_le (zS h2)⟩
theorem Ff(a b:Int):a.fdiv b=rZ a b:=by
 unfold rZ;split
 ·exact Int.fdiv_eq_ediv_of_nonneg _ oM
 ·rfl
theorem E9(a b:Int):a.fmod b=ou a b:=by
 unfold ou;split
 ·exact Int.fmod_eq_emod_of_nonneg _ oM
 ·rfl
theorem rg{a b:Int}(h:sY a b=true):JB a b:=by
 unfold sY at h;simp only[zC,yC]at h;obtain⟨⟨h1,h2⟩,h3⟩:=h;have h2:=zS h2;exact⟨h1,by lia,zJ (log2_lt h3) dC⟩
def IY(o:Operator):R2:=fun x y H Q=>(∃i j k,x=.int i/\y=.int j/\qA o i j=some k/\Q (.int k) H)\/(o=.Add/\∃i j,x=.str i/\y=.str j/\i.length+j.length<=sizeLine/\Q (.str (i++j)) H)
section
variable{X:Cx}
theorem Eb(o:Operator):jX X (binaryOp o) (IY o):=by
 have hI:∀(h:∀i j k t u s (Q:Value->Shared->Prop) (E:Value->Shared->Prop),qA o i j=some k->Q (.int k s.toks) { s with toks:=s.toks+1 }->wpAny (model X.prog X.w) X.A (binaryOp o (.int i t) (.int j u)) Q E s)
   (LP:List (Addr×Obj)) (s:Shared) (σ:St) (H:Hp) (x y:V) (v u:Value) (Q:VK),Inv X LP σ H s->RelV x v->RelV y u->(∃i j k,x=.int i/\y=.int j/\qA o i j=some k/\Q (.int k) H) ->
   wpAny (model X.prog X.w) X.A (binaryOp o v u) (EP X LP σ Q) X.xe s:=by
  rintro h LP s σ H x y v u Q I rx ry ⟨i,j,k,e1,e2,e3,q⟩;subst e1;subst e2;obtain⟨t,rfl⟩:=rx;obtain⟨t',rfl⟩:=ry;exact h i j k t t' s _ _ e3 ⟨.int k,H,I.tok _,⟨_,rfl⟩,q⟩
 intro LP s σ H x y v u Q I rx ry h;rcases h with h|⟨rfl,h⟩
 ·refine hI ?_ LP s σ H x y v u Q I rx ry h
  intro i j k t u s Q E e q;cases o<;>simp only[qA]at e
  case Add=>cases e;exact add_int q
  case Sub=>cases e;exact sub_int q
  case Mult =>
   split at e
   ·rename_i hm;cases e;exact mul_int q (B3 hm)
   ·cases e
  case FloorDiv =>
   split at e
   ·rename_i hm;cases e
    obtain⟨h1,h2⟩:=Ck hm;exact floordiv_int h1 (by rw[Ff];exact q) (.inl (PyProof.noPylong_of_log2 h2))
   ·cases e
  case Mod =>
   split at e
   ·cases e
   ·rename_i hm;cases e
    exact mod_int' hm (by rw[E9];exact q)
  case Pow =>
   split at e
   ·rename_i hm;cases e
    have c:=rg hm;exact pow_int_small c.1 c.2.1 c.2.2 q
   ·cases e
  case LShift =>
   split at e
   ·rename_i hm;cases e
    have c:=rg hm;exact lshift_int_small c.1 c.2.1 c.2.2 q
   ·cases e
  case RShift =>
   split at e
   ·rename_i hm;cases e
    exact rshift_int hm (by rw[Int.fdiv_eq_ediv_of_nonneg _ (sF _)];exact q)
   ·cases e
  case BitAnd=>cases e;exact and_int q
  case BitOr=>cases e;exact or_int q
  case BitXor=>cases e;exact xor_int q
  all_goals cases e
 ·exact tx LP s σ H x y v u Q I rx ry h
theorem Eg[LS](o:Operator):jX X (binaryOp o) (r2 X.gm (jC (bh o))):=OpR_imp (Eb o) fun v w H Q hq0=>by
 obtain ⟨P,φ,st,x,y,s,r1,r2,k⟩:=hq0;obtain ⟨z,e,k⟩:=k.map;cases x <;> cases y <;> simp only [bh] at e <;> first | (cases e;done) | skip
 ·rename_i a b
  simp only[RA]at r1 r2;obtain⟨c,e1,e2⟩:=zE.mp e;subst e2;exact .inl ⟨a,b,c,r1,r2,e1,k.pure s (by simp only[RA])⟩
 ·rename_i a b
  simp only[RA]at r1 r2;split at e
  ·rename_i hc
   cases e;simp only[zC,yC]at hc;exact .inr ⟨hc.1,a,b,r1,r2,z5 (zS hc.2) dC,k.pure s (by simp only[RA])⟩
  ·cases e
theorem Dy[LS](ha:QE X a f)(hb:QE X b g):QE X (.BinOp a o b pos) (a2 f g (jC (bh o))) :=
 PE_imp (td (Eg o) ha hb) fun _ _ _ q=>uh q
end
open DD (pyOk reads_each any_vals obj_list obj_tup)
def dr(st:aa):AV->AV
 |.ref k=>match st[k]? with
  |some (.al t)=>t
  |_=>.ref k
 |v=>v
def bA(st:aa)(v:AV):Option (List AV):=match dr st v with
 |.fz xs=>some xs
 |.ref k=>match st[k]? with
  |some (.lst xs)=>some xs
  |_=>none
 |_=>none
def ib(st:aa)(v:AV):Option (List AV):=match dr st v with
 |.tup xs=>some xs
 |_=>none
section
variable{mg:Gm}{P:Pr}{φ:List Addr}{st:aa}{H:Hp}{v:AV}{w:V}{xs:List AV}
theorem RA.dr[LS](s:Sim mg P φ st H)(r:RA mg P H φ v w):RA mg P H φ (dr st v) w:=by
 cases v with
 |ref k =>
  unfold R.dr;dsimp only;split
  ·rename_i t h
   obtain⟨a,e,c⟩:=s.at h;simp only[RA]at r;obtain⟨a',e',rfl⟩:=r;rw[e]at e';cases e';exact c.2.lift
  ·exact r
 |_=>exact r
theorem RA.ls[LS](s:Sim mg P φ st H)(r:RA mg P H φ v w)(h:bA st v=some xs):∃a vs,w=.ref a/\bB mg.K H a vs/\LX mg P H φ xs vs:=by
 have r:=r.dr s;unfold bA at h;split at h
 ·rename_i ys e
  cases h;rw[e]at r;simp only[RA]at r;obtain⟨a,vs,e1,e2,q⟩:=r;exact⟨a,vs,e1,e2.sq,q.lift⟩
 ·rename_i k e
  rw[e]at r;simp only[RA]at r;obtain⟨a,e1,e2⟩:=r;split at h
  ·rename_i ys e3
   cases h;obtain⟨a',e4,c⟩:=s.at e3;rw[e1]at e4;cases e4;obtain⟨_,vs,q1,q2⟩:=c;exact⟨a,vs,e2,.inl (.inl q1),q2⟩
  ·cases h
 ·cases h
theorem RA.tp[LS](s:Sim mg P φ st H)(r:RA mg P H φ v w)(h:ib st v=some xs):∃a vs,w=.ref a/\H a=some (.tup vs)/\LX mg P H φ xs vs:=by
 have r:=r.dr s;unfold ib at h;split at h
 ·rename_i ys e
  cases h;rw[e]at r;simp only[RA]at r;obtain⟨a,vs,e1,_,e2,q⟩:=r;exact⟨a,vs,e1,e2,q⟩
 ·cases h
end
noncomputable def bI{α β:Type}(f:α->Option β):List α->Option (List β)
 |[]=>some []
 |x::xs=>(f x).bind fun y=>(bI f xs).map fun ys=>y::ys
theorem fM{α β γ:Type}{f:α->Option β}{i:γ->α}{g:γ->β}(h:∀x,f (i x)=some (g x))(xs:List γ):bI f (xs.map i)=some (xs.map g):=by
 induction xs with
 |nil=>rfl
 |cons x xs ih=>simp only[zO,bI,h,ih,bind_some,map_some]
def ce:Nat->aa->AV->Option PyData
 |_,_,.non=>some .none
 |_,_,.bl b=>some (.bool b)
 |_,_,.int i=>some (.int i)
 |_,_,.str x=>some (.str x)
 |n+1,st,.fz xs=>(bI (ce n st) xs).map .list
 |n+1,st,.tup xs=>(bI (ce n st) xs).map .tuple
 |n+1,st,.ref k=>match st[k]? with
  |some (.lst xs)=>(bI (ce n st) xs).map .list
  |some (.al t)=>ce n st t
  |_=>none
 |0,_,_=>none
section
variable{X:Cx}{LP:List (Addr×Obj)}{σ:St}{H:Hp}{s:Shared}{P:Pr}{φ:List Addr}{st:aa}
theorem px[LS]{n:Nat}(ih:∀t v p u,RA mg P H φ t v->ce n st t=some p->RelV v u->∃as,Reads s.heap u p as) :
  ∀{xs:List AV}{vs:List V}{ps:List PyData}{us:List Value},LX mg P H φ xs vs->bI (ce n st) xs=some ps->Vals vs us->∃as,ReadsAll s.heap us ps as:=by
 intro xs
 induction xs with
 |nil =>
  intro vs ps us r e q;simp only[LX]at r;subst r;cases e;cases q;exact⟨_,.nil⟩
 |cons x xs ihx =>
  intro vs ps us r e q;simp only[LX]at r;obtain⟨v,ws,rfl,r1,r2⟩:=r;simp only[bI]at e;obtain⟨p,e1,e2⟩:=zA e;obtain⟨qs,e3,e4⟩:=zE.mp e2;subst e4;cases q with
  |cons q1 q2 =>
   obtain⟨as,ra⟩:=ih x v p _ r1 e1 q1;obtain⟨bs,rb⟩:=ihx r2 e3 q2;exact⟨_,.cons ra rb⟩
theorem fY[LS](I:L2.Inv X LP σ H s)(sm:Sim X.gm P φ st H):∀(n:Nat)(t:AV)(v:V)(p:PyData)(u:Value),RA X.gm P H φ t v->ce n st t=some p->RelV v u->∃as,Reads s.heap u p as:=by
 have lst:∀{a:Addr}{vs:List V}{u:Value}{ps:List PyData},bB X.K H a vs->RelV (.ref a) u->(∀{us:List Value},Vals vs us->∃as,ReadsAll s.heap us ps as)->∃as,Reads s.heap u (.list ps) as:=by
  intro a vs u ps h ru k;cases ru;obtain⟨LU,ob,m,rv,e1,e2,e3⟩:=obj_list I h;obtain⟨as,ra⟩:=k rv;exact⟨_,.list e1 e2 e3 ra⟩
 have flat:∀(n:Nat)(t:AV)(v:V)(p:PyData)(u:Value)(w:V),og t=some w->RA X.gm P H φ t v->ce n st t=some p->RelV v u->∃as,Reads s.heap u p as:=by
  intro n t v p u w hs r e ru;cases t with
  | non=>cases n <;> (simp only [ce] at e;cases e;simp only [RA] at r;subst r;cases ru;exact ⟨_,.none⟩)
  | bl b=>cases n <;> (simp only [ce] at e;cases e;simp only [RA] at r;subst r;cases ru;exact ⟨_,.bool b⟩)
  | int i=>cases n <;> (simp only [ce] at e;cases e;simp only [RA] at r;subst r;obtain ⟨t,rfl⟩:=ru;exact ⟨_,.int i t⟩)
  | str x=>cases n <;> (simp only [ce] at e;cases e;simp only [RA] at r;subst r;obtain ⟨t,rfl⟩:=ru;exact ⟨_,.str x t⟩)
  |_=>cases hs
 intro n
 induction n with
 |zero =>
  intro t v p u r e ru;cases t with
  |non=>exact flat 0 _ v p u _ rfl r e ru
  |bl b=>exact flat 0 _ v p u _ rfl r e ru
  |int i=>exact flat 0 _ v p u _ rfl r e ru
  |str x=>exact flat 0 _ v p u _ rfl r e ru
  |_=>simp only[ce]at e;cases e
 |succ n ih =>
  intro t v p u r e ru;cases t with
  |non=>exact flat _ _ v p u _ rfl r e ru
  |bl b=>exact flat _ _ v p u _ rfl r e ru
  |int i=>exact flat _ _ v p u _ rfl r e ru
  |str x=>exact flat _ _ v p u _ rfl r e ru
  |fz xs =>
   simp only[ce]at e;obtain⟨ps,e1,e2⟩:=zE.mp e;subst e2;simp only[RA]at r;obtain⟨a,vs,rfl,h,q⟩:=r;exact lst h.sq ru fun rv=>px ih q.lift e1 rv
  |tup xs =>
   simp only [ce] at e;obtain ⟨ps,e1,e2⟩:=zE.mp e;subst e2;simp only [RA] at r;obtain ⟨a,vs,rfl,_,h,q⟩:=r;cases ru;obtain ⟨LU,ob,m,rv,h1,h2,h3⟩:=obj_tup I (show gi X.K H a vs from .inl (.inl h));obtain ⟨as,ra⟩:=px ih q e1 rv;exact ⟨_,.tuple h1 h2 h3 ra⟩
  |ref k =>
   simp only[ce]at e;simp only[RA]at r;obtain⟨a,ea,rfl⟩:=r;split at e
   ·rename_i xs hk
    obtain⟨ps,e1,e2⟩:=zE.mp e;subst e2;obtain⟨a',ea',c⟩:=sm.at hk;rw[ea]at ea';cases ea';obtain⟨_,vs,h,q⟩:=c;exact lst (.inl (.inl h)) ru fun rv=>px ih q e1 rv
   ·rename_i t hk
    obtain⟨a',ea',c⟩:=sm.at hk;rw[ea]at ea';cases ea';exact ih t _ p u c.2.lift e ru
   ·cases e
end
noncomputable def wX:PyData->Option Str
 |.str a=>some a
 |_=>none
theorem qY{p:PyData}{a:Str}(h:wX p=some a):p=.str a:=by
 cases p with
 |str b=>cases h;rfl
 |_=>cases h
def IQ(p q:PyData):Option Bool:=(wX p).bind fun a=>(wX q).map fun b=>a==b
def jz(st:aa)(x y:AV):Option Bool:=(ce 9 st x).bind fun p=>(ce 9 st y).bind fun q=>if pyOk p q=true then some (PyData.eqv p q) else IQ p q
def jj:AV->Option aQ
 |.int i=>some (.inl i)
 |.str x=>some (.inr x)
 |_=>none
noncomputable def lm{κ:Type}[DecidableEq κ](LR:List (κ×AV))(k:κ):Option AV:=(LR.find? fun kv=>decide (kv.1=k)).map (·.2)
def iA(st:aa):AV->Option (List (aQ×AV))
 |.ref k=>match st[k]? with
  |some (.dK LR)=>some LR
  |_=>none
 |_=>none
def kR(st:aa):AV->Option (List (List aQ×AV))
 |.ref k=>match st[k]? with
  |some (.dT LR)=>some LR
  |_=>none
 |_=>none
def lF(st:aa)(y x:AV):Option (Option AV):=match iA st y with
 |some LR=>(jj x).map fun k=>lm LR k
 |none=>match kR st y with
  |some LR=>match x with
   |.tup xs=>(bI jj xs).map fun k=>lm LR k
   |_=>none
  |none=>none
def p6(st:aa)(x y:AV):Option Bool:=match lF st y x with
 |some o=>some o.isSome
 |none=>match x,y with
  |.str a,.str b=>some (!(Builtin.Str.occurrences b a 0 b.length 1).isEmpty)
  |_,_=>(ce 9 st x).bind fun q=>(ce 9 st y).bind fun p=>match p with
   |.list ps=>if(ps.all fun r=>pyOk r q)=true then some (ps.any fun r=>PyData.eqv r q) else none
   |.tuple ps=>if(ps.all fun r=>pyOk r q)=true then some (ps.any fun r=>PyData.eqv r q) else none
   |_=>none
noncomputable def xN:CmpOp->Int->Int->Option Bool
 |.Lt,a,b=>some (decide (a<b))
 |.LtE,a,b=>some (decide (a<=b))
 |.Gt,a,b=>some (decide (b<a))
 |.GtE,a,b=>some (decide (b<=a))
 |_,_,_=>none
noncomputable def Ei:AV->Bool
 |.non=>true
 |_=>false
def EO(x y:AV):Option Bool:=match y with
 |.non=>some (Ei x)
 |.bl b=>(match x with
  |.bl a=>some (a==b)
  |_=>none)
 |_=>none
def cx(o:CmpOp)(st:aa)(x y:AV):Option Bool:=match o with
 |.Eq=>jz st x y
 |.NotEq=>(jz st x y).map (!·)
 |.Is=>EO x y
 |.IsNot=>(EO x y).map (!·)
 |.In=>p6 st x y
 |.NotIn=>(p6 st x y).map (!·)
 |o=>match x,y with
  |.int a,.int b=>xN o a b
  |_,_=>none
def lG(o:CmpOp)(st:aa)(x y:AV):Option AV:=(cx o st x y).map .bl
theorem nq(h:pyOk p q=true):p.canLay0=true/\q.canLay0=true/\min p.depth q.depth<=50:=by
 simp only[pyOk,zC,yC]at h;exact⟨h.1.1,h.1.2,h.2⟩
theorem jd{P:Pr}{H:Hp}{φ:List Addr}{κ:Type}[DecidableEq κ]{LR:List (κ×AV)}{ws:List (κ×V)}(h:KVR mg P H φ LR ws)(k:κ) :
  (lm LR k).isSome=(dX ws k).isSome/\∀v,lm LR k=some v->∃w,dX ws k=some w/\RA mg P H φ v w:=by
 induction LR generalizing ws with
 |nil =>
  have:ws=[]:=by simpa using h.1.symm
  subst this;exact⟨rfl,fun v e=>by cases e⟩
 |cons p LR ih =>
  cases ws with
  |nil=>exact absurd h.1 (by simp)
  |cons q ws =>
   obtain⟨h1,h2⟩:=h;rw[zO,zO]at h1 h2;injection h1 with h3 h4;simp only[LX]at h2;obtain⟨v,vs,h5,h6,h7⟩:=h2;injection h5 with h8 h9;subst h8;subst h9;by_cases e:q.1=k
   ·have e':p.1=k:=h3.trans e
    simp only[lm,dX,List.find?_cons,e,e',decide_true,map_some];refine⟨rfl,fun v hv=>?_⟩;cases hv;exact⟨_,rfl,h6⟩
   ·have e':¬p.1=k:=fun z=>e (h3.symm.trans z)
    have:=ih (ws:=ws) ⟨h4,h7⟩
    simp only[lm,dX,List.find?_cons,e,e',decide_false]at this ⊢;exact this
section
variable{X:Cx}{LP:List (Addr×Obj)}{σ:St}{H:Hp}{s:Shared}{P:Pr}{φ:List Addr}{st:aa}
theorem lD(h:jj x=some k)(r:RA mg P H φ x v):v=kV k:=by
 cases x <;> simp only [jj] at h <;> first | (cases h;done) | skip
 ·cases h;simp only[RA]at r;exact r
 ·cases h;simp only[RA]at r;exact r
theorem oj[LS]:∀{xs:List AV}{vs:List V}{k:List aQ},bI jj xs=some k->LX mg P H φ xs vs->vs=k.map kV:=by
 intro xs
 induction xs with
 |nil=>intro vs k e r;cases e;simp only[LX]at r;exact r
 |cons x xs ih =>
  intro vs k e r;simp only[bI]at e;obtain⟨p,e1,e2⟩:=zA e;obtain⟨qs,e3,e4⟩:=zE.mp e2;subst e4;simp only[LX]at r;obtain⟨v,ws,rfl,r1,r2⟩:=r;rw[lD e1 r1,ih e3 r2];rfl
theorem p9[LS](sm:Sim X.gm P φ st H){x y:AV}{v w:V}{o:Option AV}(h:lF st y x=some o)(rx:RA X.gm P H φ x v)(ry:RA X.gm P H φ y w) :
  ∃a o',w=.ref a/\DGet H a v o'/\o.isSome=o'.isSome/\∀t,o=some t->∃u,o'=some u/\RA X.gm P H φ t u:=by
 unfold lF at h;split at h
 ·rename_i LR e
  obtain ⟨k,e1,e2⟩:=zE.mp h;subst e2;cases y <;> simp only [iA] at e <;> first | (cases e;done) | skip
  split at e
  ·rename_i j kvs' e3
   cases e;simp only[RA]at ry;obtain⟨a,ea,rfl⟩:=ry;obtain⟨a',ea',c⟩:=sm.at e3;rw[ea]at ea';cases ea';obtain⟨_,ws,q1,q2⟩:=c
   have:=lD e1 rx
   subst this;exact⟨a,_,rfl,DGet.k q1,(jd q2 k).1,(jd q2 k).2⟩
  ·cases e
 ·split at h
  ·rename_i LR e
   split at h
   ·rename_i xs
    obtain ⟨k,e1,e2⟩:=zE.mp h;subst e2;cases y <;> simp only [kR] at e <;> first | (cases e;done) | skip
    split at e
    ·rename_i j kvs' e3
     cases e;simp only[RA]at ry;obtain⟨a,ea,rfl⟩:=ry;obtain⟨a',ea',c⟩:=sm.at e3;rw[ea]at ea';cases ea';obtain⟨_,ws,q1,q2⟩:=c;simp only[RA]at rx;obtain⟨b,vs,rfl,_,hb,rr⟩:=rx;rw[oj e1 rr]at hb;exact⟨a,_,rfl,DGet.t q1 hb,(jd q2 k).1,(jd q2 k).2⟩
    ·cases e
   ·cases h
  ·cases h
theorem p5(hu:X.A.units+64<cLine){v:Value}{q:PyData}{as bs:List Addr}{ps:List PyData}{items:Array Value}(ra:Reads s.heap v q as)(rb:ReadsAll s.heap items.toList ps bs)(hk:(ps.all fun r=>pyOk r q)=true) :
  ∃e:Value->Bool,(∀z∈items,SeqAt.EqAt X.A.in1 s z v (e z))/\items.any e=ps.any fun r=>PyData.eqv r q:=by
 classical
 have uq:∀z p' az,Reads s.heap z p' az->decide (∃p as,Reads s.heap z p as/\PyData.eqv p q=true)=PyData.eqv p' q:=by
  intro z p' az rz;rcases he:PyData.eqv p' q with _|_
  ·refine yA ?_
   rintro⟨p2,as',r',e'⟩
   have:=(PySem.Reads.unique rz p2 as' r').1
   rw[<- this,he]at e';cases e'
  ·exact yW ⟨p',az,rz,he⟩
 refine⟨fun z=>decide (∃p as,Reads s.heap z p as/\PyData.eqv p q=true),fun z hz=>?_,?_⟩
 ·obtain⟨pz,az,hpz,rz⟩:=reads_each rb z (by simpa using hz)
  obtain⟨k1,k2,k3⟩:=nq (yR.mp hk pz hpz);dsimp only;rw[uq z pz az rz];exact PySem.SeqAt.eqAt_reads pz q _ s z v az as rz ra k1 k2 (by simp only[Around.in1_units];lia)
 ·have hc:=any_vals (q:=q) (e:=fun z=>decide (∃p as,Reads s.heap z p as/\PyData.eqv p q=true)) (h:=s.heap) (fun v p as rv=>uq v p as rv) rb
  rw[<- hc];simp
theorem rL[LS](hu:X.A.units+64<cLine)(I:L2.Inv X LP σ H s)(sm:Sim X.gm P φ st H){x y:AV}{v w:V}{u r:Value}{b:Bool}(h:p6 st x y=some b)(rx:RA X.gm P H φ x v)(ry:RA X.gm P H φ y w)(ru:RelV v u)(rr:RelV w r){E:Value->Shared->Prop}
  {Q:Value->Shared->Prop}{Q':Value->Shared->Prop} (hQ:∀s',L2.Inv X LP σ H s'->Q (.bool b) s') (hQ':∀s',L2.Inv X LP σ H s'->Q' (.bool (!b)) s') :
  wpAny (model X.prog X.w) X.A (compareOp .In u r) Q E s/\wpAny (model X.prog X.w) X.A (compareOp .NotIn u r) Q' E s:=by
 unfold p6 at h;split at h
 ·rename_i o e
  cases h;obtain⟨a,o',rfl,g,eo,_⟩:=p9 sm e rx ry;cases rr;exact⟨Jr oM I g ru fun s' I'=>by rw[<- eo];exact hQ s' I',Cl oM I g ru fun s' I'=>by rw[<- eo];exact hQ' s' I'⟩
 ·split at h
  ·rename_i a c
   cases h;simp only[RA]at rx ry;subst rx;subst ry;obtain⟨t,rfl⟩:=ru;obtain⟨t',rfl⟩:=rr;exact⟨in_str (hQ s I),notIn_str (hQ' s I)⟩
  ·obtain⟨q,e1,e2⟩:=zA h
   obtain⟨p,e3,e4⟩:=zA e2;obtain⟨as,ra⟩:=fY I sm 9 _ _ _ _ rx e1 ru;obtain⟨bs,rb⟩:=fY I sm 9 _ _ _ _ ry e3 rr;split at e4
   ·rename_i ps
    split at e4
    ·rename_i hk
     cases e4;cases rb with
     |@list a o items n xs as' hg hc hdt rall =>
      obtain⟨e,he,ee⟩:=p5 hu ra rall hk;have hl:s.heap.IsList a items:=⟨o,hg,hc,n,hdt⟩;exact⟨SeqAt.in_listAt e hl he (by rw[ee];exact hQ s I),SeqAt.notIn_listAt e hl he (by rw[ee];exact hQ' s I)⟩
    ·cases e4
   ·rename_i ps
    split at e4
    ·rename_i hk
     cases e4;cases rb with
     |@tuple a o items n xs as' hg hc hdt rall =>
      obtain⟨e,he,ee⟩:=p5 hu ra rall hk;have hl:IsTup s.heap a items:=⟨o,hg,hc,n,hdt⟩;exact⟨SeqAt.in_tupleAt e hl he (by rw[ee];exact hQ s I),SeqAt.notIn_tupleAt e hl he (by rw[ee];exact hQ' s I)⟩
    ·cases e4
   ·cases e4
end
section
variable{X:Cx}
theorem vz[LS](hu:X.A.units+64<cLine)(o:CmpOp):jX X (compareOp o) (r2 X.gm (jC (lG o))):=by
 rintro LP s σ H v w u r Q I ru rr ⟨P,φ,st,x,y,sm,rx,ry,k⟩;obtain⟨z,e,k⟩:=k.map;obtain⟨b,e1,e2⟩:=zE.mp e;subst e2;have ax:∀s',L2.Inv X LP σ H s'->EP X LP σ Q (.bool b) s':=fun s' I'=>⟨.bl b,H,I',rfl,k.pure sm (by simp only[RA])⟩
 have neg:∀{o:Option Bool},o.map (!·)=some b->∃c,o=some c/\b=!c:=fun h=>by
  obtain⟨c,h1,h2⟩:=zE.mp h;exact⟨c,h1,h2.symm⟩
 have eq:∀{c:Bool},jz st x y=some c->∀{Q:Value->Shared->Prop}{E:Value->Shared->Prop},(Q (.bool c) s->wpAny (model X.prog X.w) X.A (compareOp .Eq u r) Q E s)/\(Q (.bool (!c)) s->wpAny (model X.prog X.w) X.A (compareOp .NotEq u r) Q E s):=by
  intro c h Q E;unfold jz at h;obtain⟨p,h1,h2⟩:=zA h;obtain⟨q,h3,h4⟩:=zA h2;split at h4
  ·rename_i hk
   cases h4;obtain⟨c1,c2,hd⟩:=nq hk;obtain⟨as,ra⟩:=fY I sm 9 _ _ _ _ rx h1 ru;obtain⟨bs,rb⟩:=fY I sm 9 _ _ _ _ ry h3 rr;exact⟨fun q=>SeqAt.eqOverData _ _ _ _ _ _ _ _ _ _ _ _ ra rb c1 c2 oM q,fun q=>SeqAt.neOverData _ _ _ _ _ _ _ _ _ _ _ _ ra rb c1 c2 oM q⟩
  ·obtain⟨a,ha,h5⟩:=zA h4
   obtain⟨b,hb,h6⟩:=zE.mp h5;subst h6;rw[qY ha]at h1;rw[qY hb]at h3;obtain⟨as,ra⟩:=fY I sm 9 _ _ _ _ rx h1 ru;obtain⟨bs,rb⟩:=fY I sm 9 _ _ _ _ ry h3 rr;cases ra;cases rb;exact⟨fun q=>eq_str q,fun q=>ne_str q⟩
 have is:∀{c:Bool},EO x y=some c->∀{Q:Value->Shared->Prop}{E:Value->Shared->Prop},(Q (.bool c) s->wpAny (model X.prog X.w) X.A (compareOp .Is u r) Q E s)/\(Q (.bool (!c)) s->wpAny (model X.prog X.w) X.A (compareOp .IsNot u r) Q E s):=by
  intro c h Q E;have nn:y=.non->c=(u==Value.none)->(Q (.bool c) s->wpAny (model X.prog X.w) X.A (compareOp .Is u r) Q E s)/\(Q (.bool (!c)) s->wpAny (model X.prog X.w) X.A (compareOp .IsNot u r) Q E s):=fun hy hc=>by
   subst hy;simp only[RA]at ry;subst ry;cases rr;exact⟨fun q=>is_none_gen (by rw[<- hc];exact q),fun q=>isnot_none_gen (by rw[<- hc];exact q)⟩
  cases y with
  |non =>
   have h:some (Ei x)=some c:=h;cases h;refine nn rfl ?_;cases x with
   |non=>simp only[RA]at rx;subst rx;cases ru;rfl
   | _=>rw [RelV.none_iff ru];refine (yA fun hv=>?_).symm;subst hv;simp only [RA] at rx;first | (cases rx;done) | (obtain ⟨_,_,z,_⟩:=rx;cases z;done) | (obtain ⟨_,_,z⟩:=rx;cases z;done)
  |bl d=>cases x with
   |bl a =>
    cases h;simp only[RA]at rx ry;subst rx;subst ry;cases ru;cases rr;cases a<;>cases d<;>exact⟨fun q=>yG q,fun q=>yG q⟩
   |_=>exact nomatch h
  |_=>exact nomatch h
 have ord:∀{a c:Int},x=.int a->y=.int c->xN o a c=some b->wpAny (model X.prog X.w) X.A (compareOp o u r) (EP X LP σ Q) X.xe s:=by
  intro a c hx hy ho;subst hx;subst hy;simp only [RA] at rx ry;subst rx;subst ry;obtain ⟨t,rfl⟩:=ru;obtain ⟨t',rfl⟩:=rr;cases o <;> simp only [xN] at ho <;> first | (cases ho;done) | skip
  ·cases ho;exact lt_int (ax s I)
  ·cases ho;exact le_int (ax s I)
  ·cases ho;exact gt_int (ax s I)
  ·cases ho;exact ge_int (ax s I)
 cases o<;>simp only[cx]at e1
 case Eq=>exact(eq e1).1 (ax s I)
 case NotEq=>obtain⟨c,h1,rfl⟩:=neg e1;exact(eq h1).2 (ax s I)
 case Is=>exact(is e1).1 (ax s I)
 case IsNot=>obtain⟨c,h1,rfl⟩:=neg e1;exact(is h1).2 (ax s I)
 case In=>exact(rL hu I sm e1 rx ry ru rr (Q':=fun _ _=>True) ax fun _ _=>trivial).1
 case NotIn=>obtain⟨c,h1,rfl⟩:=neg e1;exact(rL hu I sm h1 rx ry ru rr (Q:=fun _ _=>True) (fun _ _=>trivial) ax).2
 all_goals
  split at e1
  ·exact ord rfl rfl e1
  ·cases e1
noncomputable def j8(op:CmpOp)(b:Expr):Bool:=!(behindInMarks op b)
theorem pN(h:j8 op b=true):behindInMarks op b=false:=by simpa [j8] using h
theorem Dx[LS](hu:X.A.units+64<cLine)(ha:QE X a f)(hb:QE X b g)(hm:j8 o b=true):QE X (.Compare a [o] [b] pos) (a2 f g (jC (lG o))) :=
 PE_imp (BU (vz hu o) ha hb (pN hm)) fun _ _ _ q=>uh q
def CW(f g:EF)(o:CmpOp):TF:=fun sl st=>(f sl st).bind fun p=>(g sl p.2).bind fun q=>(cx o q.2 p.1 q.1).map fun b=>(b,q.2)
theorem Df[LS](hu:X.A.units+64<cLine)(ha:QE X a f)(hb:QE X b g)(hm:j8 o b=true):QT X (.Compare a [o] [b] pos) (CW f g o) :=
 PT_imp (BC (vz hu o) ha hb (pN hm)) fun σ H Q hq0=>by
  obtain⟨P,φ,sl,st,rs,s,k⟩:=hq0;refine uh (k:=jC (lG o)) ⟨P,φ,sl,st,rs,s,?_⟩;obtain⟨b,st',e,q⟩:=k;unfold CW at e;obtain⟨p,e1,e2⟩:=zA e;obtain⟨r,e3,e4⟩:=zA e2;obtain⟨c,e5,e6⟩:=zE.mp e4;injection e6 with e7 e8;subst e7;subst e8;refine⟨.bl c,r.2,by simp only[a2,e1,bind_some,e3,jC,lG,e5,map_some],fun P' φ' H' w f' s' r'=>?_⟩;simp only[RA]at r';exact⟨c,r',q P' φ' H' c f' s' rfl⟩
def lJ(o:UnaryOp)(_:aa):AV->Option AV
 |.int i=>match o with
  |.USub=>some (.int (-i))
  |.Invert=>some (.int (Builtin.bitNot i))
  |_=>none
 |_=>none
theorem F5[LS](ha:QE X a f):QE X (.UnaryOp o a pos) (a1 f (C4 (lJ o))):=by
 have h:wE X (unaryOp o) (r1 X.gm (C4 (lJ o))):=by
  rintro LP s σ H v u Q I ru ⟨P,φ,st,x,sm,rx,k⟩;obtain ⟨z,e,k⟩:=k.map;cases x <;> simp only [lJ] at e <;> first | (cases e;done) | skip
  rename_i i;simp only [RA] at rx;subst rx;cases o <;> first | (cases e;done) | skip
  ·cases e
   exact CA LP s σ H _ u Q I ru ⟨i,rfl,k.pure sm (by simp only[RA])⟩
  ·cases e
   exact Cz LP s σ H _ u Q I ru ⟨i,rfl,k.pure sm (by simp only[RA])⟩
 exact PE_imp (Gh h ha) fun _ _ _ q=>Jy q
def dY(st:aa)(v:AV):Option Bool:=match bA st v with
 |some xs=>some !xs.isEmpty
 |none=>match v with
  |.non=>some false
  |.bl b=>some b
  |.int i=>some (i !=0)
  |.str x=>if Nat.ble x.length 1000000=true then some ((x.length:Int) !=0) else none
  |.tup xs=>some !xs.isEmpty
  |v=>(iA st v).map fun LR=>!LR.isEmpty
theorem ox(r:LX mg P H φ xs vs):vs.isEmpty=xs.isEmpty:=by
 cases xs with
 |nil=>simp only[LX]at r;subst r;rfl
 |cons x xs=>simp only[LX]at r;obtain⟨v,ws,rfl,_⟩:=r;rfl
theorem wS[LS]{P:Pr}{H:Hp}{φ:List Addr}{st:aa}(sm:Sim X.gm P φ st H){v:AV}{w:V}{b:Bool}(h:dY st v=some b)(r:RA X.gm P H φ v w):zd X.K w H b:=by
 unfold dY at h;split at h
 ·rename_i xs e
  cases h;obtain⟨a,vs,rfl,rd,q⟩:=r.ls sm e;exact .inl ⟨vs,rd,by rw[ox q]⟩
 ·cases v<;>simp only at h
  case non=>cases h;simp only[RA]at r;subst r;exact rfl
  case bl=>cases h;simp only[RA]at r;subst r;exact rfl
  case int=>cases h;simp only[RA]at r;subst r;exact rfl
  case str x =>
   simp only[RA]at r;subst r;split at h
   ·rename_i hl;cases h;exact⟨z5 (zS hl) dC,rfl⟩
   ·cases h
  case tup xs =>
   cases h;simp only[RA]at r;obtain⟨a,vs,rfl,_,e,q⟩:=r;exact .inr (.inl ⟨vs,.inl (.inl e),by rw[ox q]⟩)
  case fz=>obtain⟨_,z,_⟩:=zE.mp h;simp[iA]at z
  case ref k =>
   obtain⟨LR,e1,e2⟩:=zE.mp h;subst e2;simp only[iA]at e1;split at e1
   ·rename_i kvs' hk
    cases e1;simp only[RA]at r;obtain⟨a,ea,rfl⟩:=r;obtain⟨a',ea',c⟩:=sm.at hk;rw[ea]at ea';cases ea';obtain⟨_,ws,q1,q2,q3⟩:=c;refine .inr (.inr ⟨ws,q1,?_⟩)
    have:=congrArg List.isEmpty q2
    simpa using this
   ·cases e1
def tV(f:EF):TF:=fun sl st=>(f sl st).bind fun p=>(dY p.2 p.1).map fun b=>(b,p.2)
theorem vd[LS](ha:QE X a f)(he:∀whole,isTrue a X.env whole=(do let v <- whole;standAt a.pos;holding [v] (truthy v))):QT X a (tV f) :=
 PT_imp (xp ha he) fun σ H Q ⟨P,φ,sl,st,rs,s,k⟩=>⟨P,φ,sl,st,rs,s,by
  obtain⟨a,st',e1,q⟩:=k.bind (Ra:=RA);refine⟨a,st',e1,fun P1 φ1 H1 b f1 s1 r1=>?_⟩;obtain⟨P2,φ2,st2,x,f2,s2,r2,k2⟩:=q P1 φ1 H1 b f1 s1 r1;obtain⟨c,e2,k2⟩:=k2.map;exact⟨c,wS s2 e2 r2,k2.pure s2 rfl⟩⟩
def Hu(f g:TF):TF:=fun sl st=>(f sl st).bind fun p=>if p.1=true then g sl p.2 else some (false,p.2)
def CQ(f g:TF):TF:=fun sl st=>(f sl st).bind fun p=>if p.1=true then some (true,p.2) else g sl p.2
def Hs(f:TF):TF:=fun sl st=>(f sl st).bind fun p=>some (!p.1,p.2)
section
variable{a b:Expr}{rest:List Expr}{pos:Pos}{f g:TF}
theorem Dc[LS](op:BoolOp)(ha:QT X a f):QW X (.BoolOp op [a] pos) f:=by
 cases op
 ·exact BB ha
 ·exact DA ha
theorem Dd[LS](ha:QT X a f)(hb:QW X (.BoolOp .And (b::rest) pos) g):QW X (.BoolOp .And (a::b::rest) pos) (Hu f g) :=
 PW_imp (DB ha hb) fun σ H Q ⟨P,φ,sl,st,rs,s,k⟩=>⟨P,φ,sl,st,rs,s,by
  obtain⟨a,st',e1,q⟩:=k.bind (Ra:=RB);refine⟨a,st',e1,fun P1 φ1 H1 c f1 s1 r1=>?_⟩;obtain⟨P2,φ2,st2,x,f2,s2,r2,k2⟩:=q P1 φ1 H1 c f1 s1 r1;cases r2;cases c with
  |true=>exact⟨P2,φ2,sl,st2,rs.frm f2,s2,k2⟩
  |false=>exact k2.pure s2 rfl⟩
theorem FZ[LS](ha:QT X a f)(hb:QW X (.BoolOp .Or (b::rest) pos) g):QW X (.BoolOp .Or (a::b::rest) pos) (CQ f g) :=
 PW_imp (Gb ha hb) fun σ H Q ⟨P,φ,sl,st,rs,s,k⟩=>⟨P,φ,sl,st,rs,s,by
  obtain⟨a,st',e1,q⟩:=k.bind (Ra:=RB);refine⟨a,st',e1,fun P1 φ1 H1 c f1 s1 r1=>?_⟩;obtain⟨P2,φ2,st2,x,f2,s2,r2,k2⟩:=q P1 φ1 H1 c f1 s1 r1;cases r2;cases c with
  |false=>exact⟨P2,φ2,sl,st2,rs.frm f2,s2,k2⟩
  |true=>exact k2.pure s2 rfl⟩
theorem De[LS](ha:QT X a f):QT X (.UnaryOp .Not a pos) (Hs f) :=
 PT_imp (DC ha) fun σ H Q ⟨P,φ,sl,st,rs,s,k⟩=>⟨P,φ,sl,st,rs,s,by
  obtain⟨a,st',e1,q⟩:=k.bind (Ra:=RB);refine⟨a,st',e1,fun P1 φ1 H1 c f1 s1 r1=>?_⟩;obtain⟨P2,φ2,st2,x,f2,s2,r2,k2⟩:=q P1 φ1 H1 c f1 s1 r1;cases r2;exact k2.pure s2 rfl⟩
end
def AD(f g:EF):EF:=fun sl st=>(f sl st).bind fun p=>match p.1 with
 |.bl true=>g sl p.2
 |.bl false=>some (.bl false,p.2)
 |_=>none
def Az(f g:EF):EF:=fun sl st=>(f sl st).bind fun p=>match p.1 with
 |.bl false=>g sl p.2
 |.bl true=>some (.bl true,p.2)
 |_=>none
def HZ(f:EF):EF:=fun sl st=>(f sl st).bind fun p=>match p.1 with
 |.bl b=>some (.bl !b,p.2)
 |_=>none
def H0(t:TF)(f g:EF):EF:=fun sl st=>(t sl st).bind fun p=>if p.1=true then f sl p.2 else g sl p.2
section
variable{a b c:Expr}{rest:List Expr}{pos:Pos}{f g:EF}{t:TF}
theorem KG.no[LS]{α β:Type}{Ra:Gm->Pr->Hp->List Addr->α->β->Prop}{Q:β->Hp->Prop}(h:KG mg Ra P φ H none Q):False:=by obtain⟨_,_,e,_⟩:=h;cases e
theorem Dz[LS](ha:QE X a f)(hb:QE X (.BoolOp .And (b::rest) pos) g):QE X (.BoolOp .And (a::b::rest) pos) (AD f g) :=
 PE_imp (DY ha hb) fun σ H Q ⟨P,φ,sl,st,rs,s,k⟩=>⟨P,φ,sl,st,rs,s,by
  obtain⟨a,st',e1,q⟩:=k.bind (Ra:=RA);refine⟨a,st',e1,fun P1 φ1 H1 c f1 s1 r1=>?_⟩;obtain⟨P2,φ2,st2,x,f2,s2,r2,k2⟩:=q P1 φ1 H1 c f1 s1 r1;cases x<;>first|exact k2.no.elim|skip
  rename_i d;simp only[RA]at r2;refine⟨d,r2,?_⟩;cases d with
  |true=>exact⟨P2,φ2,sl,st2,rs.frm f2,s2,k2⟩
  |false=>exact k2.pure s2 (by simp only[RA])⟩
theorem F7[LS](ha:QE X a f)(hb:QE X (.BoolOp .Or (b::rest) pos) g):QE X (.BoolOp .Or (a::b::rest) pos) (Az f g) :=
 PE_imp (Gi ha hb) fun σ H Q ⟨P,φ,sl,st,rs,s,k⟩=>⟨P,φ,sl,st,rs,s,by
  obtain⟨a,st',e1,q⟩:=k.bind (Ra:=RA);refine⟨a,st',e1,fun P1 φ1 H1 c f1 s1 r1=>?_⟩;obtain⟨P2,φ2,st2,x,f2,s2,r2,k2⟩:=q P1 φ1 H1 c f1 s1 r1;cases x<;>first|exact k2.no.elim|skip
  rename_i d;simp only[RA]at r2;refine⟨d,r2,?_⟩;cases d with
  |false=>exact⟨P2,φ2,sl,st2,rs.frm f2,s2,k2⟩
  |true=>exact k2.pure s2 (by simp only[RA])⟩
theorem Du[LS](ha:QE X a f):QE X (.UnaryOp .Not a pos) (HZ f) :=
 PE_imp (DT ha) fun σ H Q ⟨P,φ,sl,st,rs,s,k⟩=>⟨P,φ,sl,st,rs,s,by
  obtain⟨a,st',e1,q⟩:=k.bind (Ra:=RA);refine⟨a,st',e1,fun P1 φ1 H1 c f1 s1 r1=>?_⟩;obtain⟨P2,φ2,st2,x,f2,s2,r2,k2⟩:=q P1 φ1 H1 c f1 s1 r1;cases x<;>first|exact k2.no.elim|skip
  rename_i d;simp only[RA]at r2;exact⟨d,r2,k2.pure s2 (by simp only[RA])⟩⟩
theorem F9[LS](hc:QT X c t)(ha:QE X a f)(hb:QE X b g):QE X (.IfExp c a b pos) (H0 t f g) :=
 PE_imp (xH hc ha hb) fun σ H Q ⟨P,φ,sl,st,rs,s,k⟩=>⟨P,φ,sl,st,rs,s,by
  obtain⟨a,st',e1,q⟩:=k.bind (Ra:=RB);refine⟨a,st',e1,fun P1 φ1 H1 c f1 s1 r1=>?_⟩;obtain⟨P2,φ2,st2,x,f2,s2,r2,k2⟩:=q P1 φ1 H1 c f1 s1 r1;cases r2;cases c with
  |true=>exact⟨P2,φ2,sl,st2,rs.frm f2,s2,k2⟩
  |false=>exact⟨P2,φ2,sl,st2,rs.frm f2,s2,k2⟩⟩
end
def cm(st:aa)(x y:AV):Option AV:=match lF st x y with
 |some o=>o
 |none=>match y with
  |.int i=>match bA st x with
   |some xs=>fD xs i
   |none=>match ib st x with
    |some xs=>fD xs i
    |none=>match x with
     |.str z=>if Nat.ble z.length 1000000=true then(fD z.cps.toList i).map fun c=>.str ⟨#[c]⟩ else none
     |_=>none
  |_=>none
theorem nU{i:Int}(r:LX mg P H φ xs vs)(h:fD xs i=some x):∃v,fD vs i=some v/\RA mg P H φ x v:=by
 unfold fD at h ⊢;rw[<- r.length];obtain⟨j,e1,e2⟩:=zA h;rw[e1,bind_some];exact r.get e2
theorem Cd(hu:X.A.units+64<cLine):IxR X (fun x y H Q=>∃a v,x=.ref a/\DGet H a y (some v)/\Q v H):=by
 rintro value slice LP s σ H x y v u Q I rx ry ⟨a,t,ex,g,q⟩ hs;subst ex;cases rx;have hT:=qN I g;unfold subscriptTail;refine yF ?_;rw[getitemInPython_of_ne hT.not_modules];refine yF (wpAny_specialOf hT PySem.F.slot_dict_getitem.lookup ?_);have ax:wpAny (model X.prog X.w) X.A (subscripted slice false (.ref a) u) (fun r s₃=>wpAny (model X.prog X.w) X.A (letTemporaryGo value (.ref a) r>>=fun _=>pure r) (EP X LP σ Q) X.xe s₃) X.xe s:=by
  rw[hs];exact wpAny_operating (wm oM I g ry fun w' s3 I3 rw'=>yF (wpAny_letTemporaryGo (yG ⟨t,H,I3,rw',q⟩)))
 first
  |exact yG (yF ax)
  |exact yF (yG (yF ax))
  |exact yF ax
theorem Ji[LS](hu:X.A.units+64<cLine):IxR X (r2 X.gm (jC cm)):=by
 rintro value slice LP s σ H v w u r Q I ru rr ⟨P,φ,st,x,y,sm,rx,ry,k0⟩ hs;obtain⟨z,e,k⟩:=k0.map;clear k0;unfold cm at e;split at e
 ·rename_i o eo
  subst e;obtain⟨a,o',rfl,g,_,g2⟩:=p9 sm eo ry rx;obtain⟨t,rfl,rt⟩:=g2 z rfl;exact Cd hu value slice LP s σ H _ _ u r Q I ru rr ⟨a,t,rfl,g,k.pure sm rt⟩ hs
 ·cases y with
  |int i =>
   simp only[RA]at ry;subst ry;dsimp only at e;split at e
   ·rename_i xs el
    obtain⟨a,vs,rfl,rd,q⟩:=rx.ls sm el;obtain⟨t,e2,rt⟩:=nU q e;exact pX value slice LP s σ H _ _ u r Q I ru rr (.inl ⟨a,vs,i,t,rfl,rfl,rd,e2,k.pure sm rt⟩) hs
   ·split at e
    ·rename_i xs el
     obtain⟨a,vs,rfl,rd,q⟩:=rx.tp sm el;obtain⟨t,e2,rt⟩:=nU q e;exact pX value slice LP s σ H _ _ u r Q I ru rr (.inr (.inl ⟨a,vs,i,t,rfl,rfl,.inl (.inl rd),e2,k.pure sm rt⟩)) hs
    ·cases x with
     |str x =>
      dsimp only at e;split at e
      ·rename_i hl
       obtain⟨c,e1,e2⟩:=zE.mp e;subst e2;simp only[RA]at rx;subst rx;exact pX value slice LP s σ H _ _ u r Q I ru rr (.inr (.inr ⟨x,i,c,rfl,rfl,z5 (zS hl) dC,e1,k.pure sm (by simp only[RA])⟩)) hs
      ·cases e
     |_=>cases e
  |_=>cases e
theorem F8[LS](hu:X.A.units+64<cLine)(ha:QE X a f)(hb:QE X b g)(hs:nW b):QE X (.Subscript a b pos) (a2 f g (jC cm)) :=
 PE_imp (Gk (Ji hu) ha hb hs) fun _ _ _ q=>uh q
def HY(g:AF):EF:=fun sl st=>(g sl st).bind fun p=>if Nat.ble p.1.length 1000=true then some (.tup p.1,p.2) else none
theorem Dt[LS]{x1:Nat}(h:QA X es g):QE X (.Tuple es x1 pos) (HY g) :=
 PE_imp (DQ h) fun σ H Q ⟨P,φ,sl,st,rs,s,k⟩=>⟨P,φ,sl,st,rs,s,by
  obtain⟨a,st',e1,q⟩:=k.bind (Ra:=LX);refine⟨a,st',e1,fun P1 φ1 H1 vs f1 s1 r1=>?_⟩;obtain⟨P2,φ2,st2,xs,f2,s2,r2,k2⟩:=q P1 φ1 H1 vs f1 s1 r1;dsimp only at k2;split at k2
  ·rename_i hl
   refine⟨by rw[<- r2.length];exact z5 (zS hl) dC,fun p hp=>?_⟩;obtain⟨f3,s3⟩:=lU (o:=.tup vs) s2 hp;obtain⟨_,_,e5,q5⟩:=k2;cases e5;refine q5 _ _ _ _ f3 s3 ?_;simp only[RA];exact⟨p,vs,rfl,.inr rfl,aw,r2.frm f3⟩
  ·exact k2.no.elim⟩
end
mutual
noncomputable def cC:AV->AV->Bool
 |.non,.non=>true
 |.bl a,.bl b=>a==b
 |.int a,.int b=>a==b
 |.str a,.str b=>a==b
 |.ref a,.ref b=>a==b
 |.tup a,.tup b=>fx a b
 |.fz a,.fz b=>fx a b
 |_,_=>false
noncomputable def fx:List AV->List AV->Bool
 |[],[]=>true
 |x::xs,y::ys=>cC x y&&fx xs ys
 |_,_=>false
end
mutual
theorem sn:∀{x y:AV},cC x y=true->x=y
 |.non,y,h=>by cases y<;>simp only[cC]at h<;>first|rfl|cases h
 | .bl a,y,h=>by cases y <;> simp only [cC] at h <;> first | (rw [yK h]) | cases h
 | .int a,y,h=>by cases y <;> simp only [cC] at h <;> first | (rw [yK h]) | cases h
 | .str a,y,h=>by cases y <;> simp only [cC] at h <;> first | (rw [yK h]) | cases h
 | .ref a,y,h=>by cases y <;> simp only [cC] at h <;> first | (rw [yK h]) | cases h
 | .tup a,y,h=>by cases y <;> simp only [cC] at h <;> first | (rw [kr h]) | cases h
 | .fz a,y,h=>by cases y <;> simp only [cC] at h <;> first | (rw [kr h]) | cases h
theorem kr:∀{xs ys:List AV},fx xs ys=true->xs=ys
 |[],ys,h=>by cases ys<;>simp only[fx]at h<;>first|rfl|cases h
 |x::xs,ys,h=>by
  cases ys with
  |nil=>simp only[fx]at h;cases h
  |cons y ys =>
   simp only[fx,zC]at h;rw[sn h.1,kr h.2]
end
mutual
theorem wy:∀x:AV,cC x x=true
 |.non=>by simp only[cC]
 |.bl a=>by simp[cC]
 |.int a=>by simp[cC]
 |.str a=>by simp[cC]
 |.ref a=>by simp[cC]
 |.tup a=>by simp only[cC];exact iB a
 |.fz a=>by simp only[cC];exact iB a
theorem iB:∀xs:List AV,fx xs xs=true
 |[]=>by simp only[fx]
 |x::xs=>by simp only[fx,wy x,iB xs,Bool.and_self]
end
abbrev Gd:=List (Nat×LQ)
def ue:LQ->LQ->Bool
 |.lst a,.lst b=>fx a b
 |.dK a,.dK b=>decide (a.map (·.1)=b.map (·.1))&&fx (a.map (·.2)) (b.map (·.2))
 |_,_=>false
def bQ:Gd->aa->Bool
 |[],_=>true
 |g::gs,st=>(match st[g.1]? with|some c=>ue c g.2|none=>false)&&bQ gs st
theorem yo{k:Nat}{xs:List AV}{gs:Gd}{st:aa}(h:bQ ((k,.lst xs)::gs) st=true):st[k]?=some (.lst xs)/\bQ gs st=true:=by
 simp only[bQ,zC]at h;refine⟨?_,h.2⟩;have h:=h.1;split at h
 ·rename_i c e
  cases c <;> simp only [ue] at h <;> first | (cases h;done) | skip
  rw[e,kr h]
 ·cases h
theorem rX{a b:Gd}{st:aa}(h:bQ (a++b) st=true):bQ a st=true/\bQ b st=true:=by
 induction a with
 |nil=>exact⟨rfl,h⟩
 |cons g a ih =>
  simp only[List.cons_append,bQ,zC]at h ⊢;exact⟨⟨h.1,(ih h.2).1⟩,(ih h.2).2⟩
structure Iv where
 LU:List AV
 gd:Gd
abbrev IF:=Sl->aa->Option (Iv×aa)
structure sC[LS](mg:Gm)(J:It)(iv:Iv)(P:Pr)(φ:List Addr)(H:Hp):Prop where
 go:∀P2 φ2 H2 st2 (i:Nat) x,Frm P φ H P2 φ2 H2->Sim mg P2 φ2 st2 H2->bQ iv.gd st2=true->iv.LU[i]?=some x->J.go i H2/\∀v H3,J.yld i H2 v H3->∃P3,Frm P2 φ2 H2 P3 φ2 H3/\Sim mg P3 φ2 st2 H3/\RA mg P3 H3 φ2 x v
 stop:∀P2 φ2 H2 st2,Frm P φ H P2 φ2 H2->Sim mg P2 φ2 st2 H2->bQ iv.gd st2=true->J.stop iv.LU.length H2
def rI[LS](mg:Gm)(f:IF):TI:=fun σ H R=>∃P φ sl st,L3 mg P H φ sl σ/\Sim mg P φ st H/\∃iv st',f sl st=some (iv,st')/\∀P' φ' H' J,Frm P φ H P' φ' H'->Sim mg P' φ' st' H'->sC mg J iv P' φ' H'->R J H'
def QI[LS](X:Cx)(tg iter:Expr)(f:IF):Prop:=PI X tg iter (rI X.gm f)
theorem gK(h:PI X tg iter t)(i:∀σ H R,t' σ H R->t σ H R):PI X tg iter t':=fun LP s σ H R I h'=>h LP s σ H R I (i σ H R h')
def gT(st:aa)(v:AV):Option Iv:=match dr st v with
 |.fz xs=>some ⟨xs,[]⟩
 |.ref k=>match st[k]? with
  |some (.lst xs)=>some ⟨xs,[(k,.lst xs)]⟩
  |_=>none
 |_=>none
section
variable{mg:Gm}{P:Pr}{φ:List Addr}{st:aa}{H:Hp}{v:AV}{w:V}{iv:Iv}
theorem jJ[LS](s:Sim mg P φ st H)(r:RA mg P H φ v w)(h:gT st v=some iv):∃a,w=.ref a/\∀P2 φ2 H2 st2,Frm P φ H P2 φ2 H2->Sim mg P2 φ2 st2 H2->bQ iv.gd st2=true->∃vs,bB mg.K H2 a vs/\LX mg P2 H2 φ2 iv.LU vs:=by
 have r:=r.dr s;unfold gT at h;split at h
 ·rename_i ys e
  cases h;rw[e]at r;simp only[RA]at r;obtain⟨a,vs,e1,e2,q⟩:=r;refine⟨a,e1,fun P2 φ2 H2 st2 f _ _=>⟨vs,(e2.mono f.ext).sq,?_⟩⟩;exact LX.lift (q.mono f.ext fun k a e=>by simp at e)
 ·rename_i k e
  rw[e]at r;simp only[RA]at r;obtain⟨a,e1,e2⟩:=r;split at h
  ·rename_i ys e3
   cases h;refine⟨a,e2,fun P2 φ2 H2 st2 f s2 g=>?_⟩;obtain⟨g1,_⟩:=yo g;obtain⟨a',e4,c⟩:=s2.at g1;rw[f.ix k a e1]at e4;cases e4;obtain⟨_,vs,q1,q2⟩:=c;exact⟨vs,.inl (.inl q1),q2⟩
  ·cases h
 ·cases h
end
section
variable{X:Cx}{tg e a b:Expr}{es:List Expr}{pos p:Pos}
def md(st:aa)(v:AV):Option Iv:=match v with
 |.str x=>if x.cps.all (·<128)=true then some ⟨x.cps.toList.map fun c=>.str ⟨#[c]⟩,[]⟩ else none
 |v=>match ib st v with
  |some xs=>some ⟨xs,[]⟩
  |none=>gT st v
def iE(f:EF):IF:=fun sl st=>(f sl st).bind fun p=>(md p.2 p.1).map fun iv=>(iv,p.2)
theorem DL[LS](hl:PE X e tl):PI X tg e (fun σ H R=>tl σ H fun x H1=>(∃a,x=.ref a/\(∃xs,bB X.K H1 a xs)/\R (AM X.K a) H1)\/(∃a,x=.ref a/\(∃xs,gi X.K H1 a xs)/\R (AK X.K a) H1)\/∃x':Str,x=.str x'/\x'.cps.all (·<128)=true/\R (AL x') H1):=by
 intro LP s σ H R I h;refine aA (hl LP s σ H _ I h) fun v s1 hq0=>?_
 obtain⟨x,H1,I1,r1,q1⟩:=hq0;have fp:∀b∈[s1.heap.objs.size],dg X LP H1 b:=fun b hb=>by
  have e:b=s1.heap.objs.size:=by simpa using hb
  subst e;exact I1.fpOk (zP _) (I1.LZ.fresh (zP _))
 rcases q1 with⟨a,e,⟨xs,hq⟩,q⟩|⟨a,e,⟨xs,hq⟩,q⟩|⟨y,e,hy,q⟩
 ·subst e
  cases r1;obtain⟨LU,rv,p,hz⟩:=I1.list hq;refine wpAny_pyIter_list p.isList ?_;exact⟨s1.heap.objs.size,[s1.heap.objs.size],_,_,H1,rfl,I1.kept (t':=s1.toks) fun b o e=>zG _ e,ux a _,⟨_,zY _ rfl,rfl,rfl⟩,fp,q⟩
 ·subst e
  cases r1;obtain ⟨LU,rv,p,hz⟩:=I1.tuple hq;refine wpAny_pyIter_tuple (show s1.heap.IsTuple a LU.toArray from p) ?_;exact ⟨s1.heap.objs.size,[s1.heap.objs.size],_,_,H1,rfl,I1.kept (t':=s1.toks) fun b o e=>zG _ e,sG a _,⟨_,zY _ rfl,rfl,rfl⟩,fp,q⟩
 ·subst e
  obtain⟨t,rfl⟩:=r1;refine wpAny_pyIter_ascii hy ?_;exact⟨s1.heap.objs.size,[s1.heap.objs.size],_,_,H1,rfl,I1.kept (t':=s1.toks) fun b o e=>zG _ e,wR y t _,⟨_,zY _ rfl,rfl,rfl⟩,fp,q⟩
theorem yf[LS]{mg:Gm}{P:Pr}{φ:List Addr}{H:Hp}{K:Frag}{a:Addr}{iv:Iv}(h:∀P2 φ2 H2 st2,Frm P φ H P2 φ2 H2->Sim mg P2 φ2 st2 H2->bQ iv.gd st2=true->∃vs,bB K H2 a vs/\LX mg P2 H2 φ2 iv.LU vs):sC mg (AM K a) iv P φ H where
 go:=fun P2 φ2 H2 st2 i x f s g e=>by
  obtain⟨vs,rd,ra⟩:=h P2 φ2 H2 st2 f s g;obtain⟨v,e1,r1⟩:=ra.get e;refine⟨⟨vs,v,rd,e1⟩,fun w H3 hq0=>?_⟩;obtain⟨hH,hx⟩:=hq0;subst hH
  have:=hx vs rd
  rw[e1]at this;cases this;exact⟨P2,Frm.refl,s,r1⟩
 stop:=fun P2 φ2 H2 st2 f s g=>by
  obtain⟨vs,rd,ra⟩:=h P2 φ2 H2 st2 f s g;exact⟨vs,rd,by rw[<- ra.length];exact zP _⟩
theorem Ce[LS]{mg:Gm}{P:Pr}{φ:List Addr}{H:Hp}{K:Frag}{a:Addr}{xs:List AV}{vs:List V}(pa:P a)(ea:H a=some (.tup vs))(ra:LX mg P H φ xs vs):sC mg (AK K a) ⟨xs,[]⟩ P φ H where
 go:=fun P2 φ2 H2 st2 i x f s g e=>by
  obtain⟨v,e1,r1⟩:=(ra.frm f).get e;have e2:gi K H2 a vs:=.inl (.inl ((f.ext a pa).2.trans ea));refine⟨⟨vs,v,e2,e1⟩,fun w H3 hq0=>?_⟩;obtain⟨hH,hx⟩:=hq0;subst hH
  have:=hx vs e2
  rw[e1]at this;cases this;exact⟨P2,Frm.refl,s,r1⟩
 stop:=fun P2 φ2 H2 st2 f s g=>⟨vs,.inl (.inl ((f.ext a pa).2.trans ea)),by rw[<- ra.length];exact zP _⟩
theorem Cf[LS]:sC mg (AL x) ⟨x.cps.toList.map fun c=>.str ⟨#[c]⟩,[]⟩ P φ H where
 go:=fun P2 φ2 H2 st2 i y f s g e=>by
  rw[zR]at e;obtain⟨c,e1,e2⟩:=zE.mp e;rw[Array.getElem?_toList]at e1;subst e2;refine⟨⟨c,e1⟩,fun w H3 hq0=>?_⟩;obtain⟨hH,c',e3,hw⟩:=hq0;subst hH;rw[e1]at e3;cases e3;exact⟨P2,Frm.refl,s,by simp only[RA];exact hw⟩
 stop:=fun P2 φ2 H2 st2 f s g=>by
  show x.cps[_]?=none;simp
theorem jI{st:aa}{v:AV}{iv:Iv}(h:gT st v=some iv):bQ iv.gd st=true:=by
 unfold gT at h;split at h
 ·cases h;rfl
 ·split at h
  ·rename_i k _ xs hk
   cases h;simp only[bQ];rw[hk];simp only[ue,iB,Bool.and_self]
  ·cases h
 ·cases h
theorem IZ[LS](ha:QE X e f):QI X tg e (iE f):=gK (DL ha) fun σ H R ⟨P,φ,sl,st,rs,s,iv,st',ef,k⟩=>⟨P,φ,sl,st,rs,s,by
 unfold iE at ef;obtain⟨p,e1,e2⟩:=zA ef;obtain⟨iv',e3,e4⟩:=zE.mp e2;cases e4;refine⟨p.1,p.2,e1,fun P1 φ1 H1 w f1 s1 r1=>?_⟩;unfold md at e3;have gen:∀v:AV,p.1=v->(match ib p.2 v with|some xs=>some ⟨xs,[]⟩|none=>gT p.2 v)=some iv->((∃a,w=.ref a/\(∃xs,bB X.K H1 a xs)/\R (AM X.K a) H1)\/(∃a,w=.ref a/\(∃xs,gi X.K H1 a xs)/\R (AK X.K a) H1)\/∃x':Str,w=.str x'/\x'.cps.all (·<128)=true/\R (AL x') H1):=by
  intro v ev e3;rw[ev]at r1;split at e3
  ·rename_i xs et
   cases e3;have r2:=r1.dr s1;unfold ib at et;split at et
   ·rename_i ys ed
    cases et;rw[ed]at r2;simp only[RA]at r2;obtain⟨a,vs,rfl,pa,ea,ra⟩:=r2;exact .inr (.inl ⟨a,rfl,⟨vs,.inl (.inl ea)⟩,k P1 φ1 H1 _ f1 s1 (Ce pa ea ra)⟩)
   ·cases et
  ·obtain⟨a,rfl,h⟩:=jJ s1 r1 e3
   obtain⟨vs,rd,_⟩:=h P1 φ1 H1 p.2 Frm.refl s1 (jI e3);exact .inl ⟨a,rfl,⟨vs,rd⟩,k P1 φ1 H1 _ f1 s1 (yf h)⟩
 cases hv:p.1 with
 |str x =>
  rw[hv]at e3 r1;simp only at e3;split at e3
  ·rename_i hx
   cases e3;simp only[RA]at r1;exact .inr (.inr ⟨x,r1,hx,k P1 φ1 H1 _ f1 s1 Cf⟩)
  ·cases e3
 |_=>rw[hv]at e3;exact gen _ hv e3⟩
noncomputable def eM(i:Int):Bool:=Nat.ble i.natAbs.log2 60
noncomputable def cF(i:Int)(n:Nat):List AV:=(List.range n).map fun k=>.int (i+(k:Nat))
def vT(f:EF):IF:=fun sl st=>(f sl st).bind fun p=>match p.1 with
 |.int j=>if eM j=true then some (⟨cF 0 j.toNat,[]⟩,p.2) else none
 |_=>none
def Ah(f g:EF):IF:=fun sl st=>(f sl st).bind fun p=>(g sl p.2).bind fun q=>match p.1,q.1 with
 |.int i,.int j=>if(eM i&&eM j)=true then some (⟨cF i (j-i).toNat,[]⟩,q.2) else none
 |_,_=>none
theorem fJ{i:Int}(h:eM i=true):-(2^62)<=i/\i<2^62:=by
 have:=log2_lt h
 have e:(2:Nat)^(60+1)=2305843009213693952:=by decide
 rw[e]at this;lia
theorem rH[LS]{i:Int}{n:Nat}:sC mg (wI i n) ⟨cF i n,[]⟩ P φ H where
 go:=fun P2 φ2 H2 st2 k y f s g e=>by
  unfold cF at e;rw[zR]at e;obtain⟨c,e1,e2⟩:=zE.mp e;obtain⟨h1,h2⟩:=zB.mp e1;rw[List.getElem_range]at h2;subst h2 e2;rw[List.length_range]at h1;refine⟨h1,fun w H3 hq0=>?_⟩;obtain⟨hH,hw⟩:=hq0;subst hH;exact⟨P2,Frm.refl,s,by simp only[RA];exact hw⟩
 stop:=fun P2 φ2 H2 st2 f s g=>by
  show n<=(cF i n).length;simp[cF]
theorem vc[LS]{mg:Gm}{f:EF}{σ:St}{H:Hp}{Q:List V->Hp->Prop}{P:Pr}{φ:List Addr}{sl:Sl}{st:aa}(rs:L3 mg P H φ sl σ)(s:Sim mg P φ st H)
  (h:∃v st1,f sl st=some (v,st1)/\∀P1 φ1 H1 w,Frm P φ H P1 φ1 H1->Sim mg P1 φ1 st1 H1->RA mg P1 H1 φ1 v w->Q [w] H1):rA mg (eI f d9) σ H Q:=by
 obtain⟨v,st1,e,k⟩:=h;refine⟨P,φ,sl,st,rs,s,[v],st1,by simp only[eI,d9,e,bind_some],fun P1 φ1 H1 ws f1 s1 r1=>?_⟩;simp only[LX]at r1;obtain⟨w,us,rfl,r,rfl⟩:=r1;exact k P1 φ1 H1 w f1 s1 r
theorem Db[LS]{mg:Gm}{f g:EF}{σ:St}{H:Hp}{Q:List V->Hp->Prop}{P:Pr}{φ:List Addr}{sl:Sl}{st:aa}(rs:L3 mg P H φ sl σ)(s:Sim mg P φ st H)
  (h:∃v st1 u st2,f sl st=some (v,st1)/\g sl st1=some (u,st2)/\∀P1 φ1 H1 w w',Frm P φ H P1 φ1 H1->Sim mg P1 φ1 st2 H1->RA mg P1 H1 φ1 v w->RA mg P1 H1 φ1 u w'->Q [w,w'] H1):rA mg (eI f (eI g d9)) σ H Q:=by
 obtain⟨v,st1,u,st2,e,e',k⟩:=h;refine⟨P,φ,sl,st,rs,s,[v,u],st2,by simp only[eI,d9,e,e',bind_some],fun P1 φ1 H1 ws f1 s1 r1=>?_⟩;simp only[LX]at r1;obtain⟨w,us,rfl,r,w',us',rfl,r',rfl⟩:=r1;exact k P1 φ1 H1 w w' f1 s1 r r'
theorem F3[LS](hg:Gl X "range")(hm:X.mg "range"=none)(ha:QE X a f)(hs:starEach [a] X.env=[(false,eval a X.env)]):QI X tg (.Call (.Name "range" p) [a] [] pos) (vT f) :=
 gK (vp hg hm (cK ha eB (by rw[hs];rfl)) hs) fun σ H R hq0=>by
  obtain⟨P,φ,sl,st,rs,s,iv,st',ef,k⟩:=hq0;obtain⟨q,e1,e2⟩:=zA ef;refine vc rs s ⟨q.1,q.2,e1,fun P1 φ1 H1 w f1 s1 r1=>?_⟩;split at e2
  ·rename_i j ej
   rw[ej]at r1;split at e2
   ·rename_i hb
    cases e2;simp only[RA]at r1;subst r1;exact⟨j,rfl,(fJ hb).1,(fJ hb).2,k P1 φ1 H1 _ f1 s1 rH⟩
   ·cases e2
  ·cases e2
theorem F2[LS](hg:Gl X "range")(hm:X.mg "range"=none)(ha:QE X a f)(hb:QE X b g)(hs:starEach [a,b] X.env=[(false,eval a X.env),(false,eval b X.env)])(hs2:starEach [b] X.env=[(false,eval b X.env)]) :
  QI X tg (.Call (.Name "range" p) [a,b] [] pos) (Ah f g) :=
 gK (vo hg hm (cK ha (cK hb eB (by rw[hs2];rfl)) (by rw[hs,hs2])) hs hs2) fun σ H R hq0=>by
  obtain⟨P,φ,sl,st,rs,s,iv,st',ef,k⟩:=hq0;obtain⟨q,e1,e2⟩:=zA ef;obtain⟨r,e3,e4⟩:=zA e2;refine Db rs s ⟨q.1,q.2,r.1,r.2,e1,e3,fun P1 φ1 H1 w w' f1 s1 r1 r2=>?_⟩;split at e4
  ·rename_i i j ei ej
   rw[ei]at r1;rw[ej]at r2;split at e4
   ·rename_i hb
    cases e4;obtain⟨h1,h2⟩:=Bool.and_eq_true_iff.mp hb;simp only[RA]at r1 r2;subst r1;subst r2;exact⟨i,j,rfl,⟨(fJ h1).1,(fJ h1).2,(fJ h2).1,(fJ h2).2⟩,k P1 φ1 H1 _ f1 s1 rH⟩
   ·cases e4
  ·cases e4
def iZ(f g:EF):IF:=fun sl st=>(f sl st).bind fun p=>(g sl p.2).bind fun q=>(gT q.2 p.1).bind fun x=>(gT q.2 q.1).bind fun y=>some (⟨(x.LU.zip y.LU).map fun z=>.tup [z.1,z.2],x.gd++y.gd⟩,q.2)
theorem rn[LS]{mg:Gm}{P:Pr}{φ:List Addr}{st:aa}{H:Hp}{p:Addr}{x y:AV}{u w:V}(s:Sim mg P φ st H)(hp:H p=none)(rx:RA mg P H φ x u)(ry:RA mg P H φ y w) :
  ∃P3,Frm P φ H P3 φ (ae H p (.tup [u,w]))/\Sim mg P3 φ st (ae H p (.tup [u,w]))/\RA mg P3 (ae H p (.tup [u,w])) φ (.tup [x,y]) (.ref p):=by
 obtain⟨f3,s3⟩:=lU (o:=.tup [u,w]) s hp;refine⟨_,f3,s3,?_⟩;simp only[RA];exact⟨p,[u,w],rfl,.inr rfl,aw,aR (rx.frm f3) (aR (ry.frm f3) bo)⟩
theorem Do[LS]{x1:Nat}(hg:Gl X "zip")(hm:X.mg "zip"=none)(ha:QE X a f)(hb:QE X b g)(hs:starEach [a,b] X.env=[(false,eval a X.env),(false,eval b X.env)])(hs2:starEach [b] X.env=[(false,eval b X.env)]) :
  QI X (.Tuple elts x1 tpos) (.Call (.Name "zip" p) [a,b] [] pos) (iZ f g) :=
 gK (DK hg hm (cK ha (cK hb eB (by rw[hs2];rfl)) (by rw[hs,hs2])) hs hs2) fun σ H R hq0=>by
  obtain⟨P,φ,sl,st,rs,s,iv,st',ef,k⟩:=hq0;obtain⟨q,e1,e2⟩:=zA ef;obtain⟨r,e3,e4⟩:=zA e2;obtain⟨x,e5,e6⟩:=zA e4;obtain⟨y,e7,e8⟩:=zA e6;cases e8;refine Db rs s ⟨q.1,q.2,r.1,r.2,e1,e3,fun P1 φ1 H1 w w' f1 s1 r1 r2=>?_⟩;obtain⟨a1,rfl,h1⟩:=jJ s1 r1 e5;obtain⟨a2,rfl,h2⟩:=jJ s1 r2 e7;obtain⟨vs,rd1,_⟩:=h1 P1 φ1 H1 r.2 Frm.refl s1 (jI e5);obtain⟨us,rd2,_⟩:=h2 P1 φ1 H1 r.2 Frm.refl s1 (jI e7);refine⟨a1,a2,rfl,⟨vs,rd1⟩,⟨us,rd2⟩,k P1 φ1 H1 _ f1 s1 ⟨fun P2 φ2 H2 st2 i t f2 s2 g2 et=>?_,fun P2 φ2 H2 st2 f2 s2 g2=>?_⟩⟩
  ·obtain⟨ga,gb⟩:=rX g2
   obtain⟨vs2,d1,q1⟩:=h1 P2 φ2 H2 st2 f2 s2 ga;obtain⟨us2,d2,q2⟩:=h2 P2 φ2 H2 st2 f2 s2 gb;rw[zR]at et;obtain⟨z,ez,et⟩:=zE.mp et;subst et;obtain⟨hx,hy⟩:=List.getElem?_zip_eq_some.mp ez;obtain⟨u1,c1,b1⟩:=q1.get hx;obtain⟨u2,c2,b2⟩:=q2.get hy;refine⟨⟨vs2,us2,u1,u2,d1,d2,c1,c2⟩,fun v H3 hq0=>?_⟩;obtain⟨pp,u,w,k1,k2,hp,hH,hv⟩:=hq0;have k1:=k1 vs2 d1;have k2:=k2 us2 d2;rw[c1]at k1;rw[c2]at k2;cases k1;cases k2;subst hH;subst hv;exact rn s2 hp b1 b2
  ·obtain⟨ga,gb⟩:=rX g2
   obtain⟨vs2,d1,q1⟩:=h1 P2 φ2 H2 st2 f2 s2 ga;obtain⟨us2,d2,q2⟩:=h2 P2 φ2 H2 st2 f2 s2 gb;refine⟨vs2,us2,d1,d2,?_⟩;rw[<- q1.length,<- q2.length];simp only[zH,List.length_zip];lia
noncomputable def dG(n0:Nat)(xs:List AV):List AV:=(xs.zipIdx n0).map fun z=>.tup [.int ((z.2:Nat):Int),z.1]
theorem pZ[LS]{mg:Gm}{P:Pr}{φ:List Addr}{H:Hp}{K:Frag}{a:Addr}{iv:Iv}{n0:Nat}(h:∀P2 φ2 H2 st2,Frm P φ H P2 φ2 H2->Sim mg P2 φ2 st2 H2->bQ iv.gd st2=true->∃vs,bB K H2 a vs/\LX mg P2 H2 φ2 iv.LU vs):sC mg (wJ K a n0) ⟨dG n0 iv.LU,iv.gd⟩ P φ H where
 go:=fun P2 φ2 H2 st2 i x f s g e=>by
  obtain⟨vs,rd,ra⟩:=h P2 φ2 H2 st2 f s g;unfold dG at e;rw[zR,List.getElem?_zipIdx]at e;cases hz:iv.LU[i]? with
  |none=>rw[hz]at e;cases e
  |some y =>
   rw[hz]at e;cases e;obtain⟨v,e1,r1⟩:=ra.get hz;refine⟨⟨vs,v,rd,e1⟩,fun w H3 hq0=>?_⟩;obtain⟨pp,u,hx,hp,hH,hw⟩:=hq0
   have:=hx vs rd
   rw[e1]at this;cases this;subst hH;subst hw;exact rn s hp (by simp only[RA]) r1
 stop:=fun P2 φ2 H2 st2 f s g=>by
  obtain⟨vs,rd,ra⟩:=h P2 φ2 H2 st2 f s g;exact⟨vs,rd,by rw[<- ra.length];simp[dG]⟩
def HN(f:EF):IF:=fun sl st=>(f sl st).bind fun p=>(gT p.2 p.1).map fun iv=>(⟨dG 0 iv.LU,iv.gd⟩,p.2)
theorem F4[LS]{x1:Nat}(hg:Gl X "enumerate")(hm:X.mg "enumerate"=none)(ha:QE X a f)(hs:starEach [a] X.env=[(false,eval a X.env)]) :
  QI X (.Tuple elts x1 tpos) (.Call (.Name "enumerate" p) [a] [] pos) (HN f) :=
 gK (BM hg hm (cK ha eB (by rw[hs];rfl)) hs) fun σ H R hq0=>by
  obtain⟨P,φ,sl,st,rs,s,iv,st',ef,k⟩:=hq0;obtain⟨q,e1,e2⟩:=zA ef;obtain⟨iv',e3,e4⟩:=zE.mp e2;cases e4;refine vc rs s ⟨q.1,q.2,e1,fun P1 φ1 H1 w f1 s1 r1=>?_⟩;obtain⟨a1,rfl,h1⟩:=jJ s1 r1 e3;obtain⟨vs,rd1,_⟩:=h1 P1 φ1 H1 q.2 Frm.refl s1 (jI e3);exact⟨a1,rfl,⟨vs,rd1⟩,k P1 φ1 H1 _ f1 s1 (pZ h1)⟩
end
end R
namespace L2
open PySem PySem.Spec PyProof.Rows
section
variable{prog:Program}{w:World}{A:Around}{E:Value->Shared->Prop}{s:Shared}
theorem wf(l:Addr)(items:Array Value)(n:Nat)(dct:Option Addr)(sl:Array (Option Value))(t:Tok)(i:Int)(hf:Builtin.SmallTypes.fitsIndex i=true) :
  Meets (Builtin.«enumerate.__new__» ⟨[.type "enumerate",.ref l],[("start",.int i t)]⟩) (fun _ R s=>s.heap.get? l=some { cls:=.type "list",dict:=dct,data:=.seq items n,slots:=sl } /\
   R (.ok (.ret (.ref (s.heap.push { cls:=.type "list_iterator",data:=.fields #[.ref l,.int 0 0] }).objs.size)))
    { s with heap:=(s.heap.push { cls:=.type "list_iterator",data:=.fields #[.ref l,.int 0 0] }).push { cls:=.type "enumerate",data:=.fields #[.none,.bool false,.ref s.heap.objs.size,rawInt i,.none,.none] } }):=Meets.of_wp fun prog w A R s h=>by
  obtain⟨hp,g,d,tk,os⟩:=s;obtain⟨hl,h⟩:=h;have hsub:=sub_enumerate;have hL:Heap.IsList (Shared.heap ⟨hp,g,d,tk,os⟩) l items:=⟨_,hl,rfl,n,rfl⟩
  wp_walk using AutoSeq1.wpAny_loadPart' hl
  refine wpAny_stack_any fun st=>yG ?_
  split
  ·rename_i c _ _ _ _ _
   cases (c==Value.type "enumerate")
   ·wp_walk using AutoSeq1.wpAny_loadPart' hl,wpAny_pyIter_list hL
    exact⟨_,rfl,h⟩
   ·wp_walk using AutoSeq1.wpAny_loadPart' hl,wpAny_pyIter_list hL
    exact⟨_,rfl,h⟩
  ·wp_walk using AutoSeq1.wpAny_loadPart' hl,wpAny_pyIter_list hL
   exact⟨_,rfl,h⟩
theorem ud{l:Addr}{items:Array Value}{t:Tok}{i:Int}{Q:Value->Shared->Prop}(hf:Builtin.SmallTypes.fitsIndex i=true)(hL:s.heap.IsList l items)
  (h:∀h',IsEnum h' (s.heap.objs.size+1) s.heap.objs.size i .none->h'.IsListIter s.heap.objs.size l 0->(∀b o,s.heap.get? b=some o->h'.get? b=some o)->Q (.ref (s.heap.objs.size+1)) { s with heap:=h' }) :
  wpAny (model prog w) A (call (.type "enumerate") [.ref l] [("start",.int i t)]) Q E s:=by
 obtain⟨⟨c0,dct,dt,sl⟩,hl,hc0,n,hd⟩:=hL;dsimp only at hc0 hd;subst hc0 hd;have ft:=F.called_enumerate;obtain⟨c,tl,hmro⟩:=ft.mro;have hmade:=ft.made;have hsub:=ft.sub;have h1:=ft.notType;have h2:=ft.canCreate;have hct:=pf (.ref l) (.int i t);have hcn:=oO (.ref l) (.int i t);refine wpAny_call (codeAny_of_tree ?_);show wpAny _ _ (callAny (.type "enumerate") _) _ _ _;refine yG ⟨Code.quiet_builtin _ (by decide +kernel),codeAny_builtin F.entry_type_call ?_⟩;rw[Around.under_plain (weight_type_call_type "enumerate" _ _) (units_type_call_type "enumerate" _ _)]
 repeat (any_goals (first | assumption | wp_step))
 have hz:(s.heap.push { cls:=.type "list_iterator",data:=.fields #[.ref l,.int 0 0] }).objs.size=s.heap.objs.size+1:=Heap.size_push ..;have he:=zY (s.heap.push { cls:=.type "list_iterator",data:=.fields #[.ref l,.int 0 0] }) (o:={ cls:=.type "enumerate",data:=.fields #[.none,.bool false,.ref s.heap.objs.size,rawInt i,.none,.none] }) rfl;rw[hz]at he;refine codeAny_mono (codeAny_call_builtin (R:=wants (fun obj s₁=>s₁.TypeIs obj "enumerate"/\Q obj s₁) E) ft.plain F.entry_enumerate_new (wpAny_of_eq hcn (wf l items n dct sl t i hf prog w A.in1 _ s ⟨hl,?_⟩))) fun r s₁ hr=>?_
 ·show _/\_
  rw[hz];exact⟨⟨_,he,rfl⟩,h _ he ⟨_,zG _ (zY _ rfl),rfl,rfl⟩ fun b o x=>zG _ (zG _ x)⟩
 ·cases r with
  |error e=>exact hr
  |ok fl =>
   cases fl with
   |ret obj =>
    obtain⟨hT,hq0⟩:=hr;have hli:=ft.init.lookup;have hbi:=ft.init.bind obj
    repeat (any_goals (first | assumption | wp_step))
    refine codeAny_mono (codeAny_call_builtin (R:=wants (fun r s₂=>r=.none/\Q obj s₂) E) ft.init.plain F.entry_object_init (ft.init.check _ _ _ _ _ _ _ _ hT (nJ obj (.ref l) (.int i t)) (tW ft.init.lookup ft.made dC prog w A.in1 _ s₁ ⟨hT,rfl,hq0⟩))) fun r₂ s₂ hr₂=>?_
    cases r₂ with
    |error e=>exact hr₂
    |ok fl₂ =>
     cases fl₂ with
     |ret r =>
      obtain⟨rfl,hq⟩:=hr₂
      repeat (any_goals (first | assumption | wp_step))
     |_=>exact hr₂.elim
   |_=>exact hr.elim
end
end L2
namespace R
open PySem PySem.Spec PyProof.Rows L2
open DD (PE_imp PT_imp PA_imp PS_imp PSs_imp OpR_imp PW_imp PG_imp pyOk)
section
variable{X:Cx}{tg e a b:Expr}{es:List Expr}{pos p kp:Pos}
theorem xx[LS]{x1:Nat}(hg:Gl X "enumerate")(hm:X.mg "enumerate"=none)(ha:PA X [a] ta)(hb:PE X b tb)(hs:starEach [a] X.env=[(false,eval a X.env)]) :
  PI X (.Tuple elts x1 tpos) (.Call (.Name "enumerate" p) [a] [⟨some "start",b,kp⟩] pos) (fun σ H R=>ta σ H fun vs H1=>tb σ H1 fun y H2=>∃l n0,vs=[.ref l]/\y=.int ((n0:Nat):Int)/\n0<=1000000/\(∃xs,bB X.K H2 l xs)/\R (wJ X.K l n0) H2):=by
 intro LP s σ H R I h;refine wpAny_Call_Name_kw (c7 I hg hm oA (qx (by rw[hs];rfl) (by rfl) ?_));have hA:=ha pos LP s σ H _ I h;rw[hs]at hA ⊢;refine PyProof.Rows.evalArgs_kwB (by rfl) (wV hA fun us s1 hq0=>?_);obtain⟨vs,H1,I1,r1,q1⟩:=hq0;refine PyProof.Rows.kws_cons (aA (hb LP s1 σ H1 _ I1 q1) fun u s2 ⟨y,H2,I2,r2,l,n0,e1,e2,hn,⟨xs,hq⟩,q⟩=>PyProof.Rows.kws_nil ?_);subst e1;subst e2;obtain⟨t,rfl⟩:=r2;cases r1 with
 |cons r rr =>
  cases rr;cases r;obtain⟨LU,rv,p1,_⟩:=I2.list hq;show wpAny _ _ (call (.type "enumerate") [.ref l] [("start",.int ((n0:Nat):Int) t)]) _ _ _;refine ud (s:=s2) ?_ p1.isList fun h' he hi hk=>?_
  ·unfold Builtin.SmallTypes.fitsIndex
   simp only[zC,yC];lia
  refine wpAny_pyIter_enum (s:={ s2 with heap:=h' }) he ?_;exact qh (t':=s2.toks) (n0:=n0) I2 he hi hk q
def tX(f g:EF):IF:=fun sl st=>(f sl st).bind fun p=>(g sl p.2).bind fun q=>match q.1 with
 |.int i=>if(decide (0<=i)&&Nat.ble i.natAbs 1000000)=true then(gT q.2 p.1).map fun iv=>(⟨dG i.toNat iv.LU,iv.gd⟩,q.2) else none
 |_=>none
theorem Dp[LS]{x1:Nat}(hg:Gl X "enumerate")(hm:X.mg "enumerate"=none)(ha:QE X a f)(hb:QE X b g)(hs:starEach [a] X.env=[(false,eval a X.env)]) :
  QI X (.Tuple elts x1 tpos) (.Call (.Name "enumerate" p) [a] [⟨some "start",b,kp⟩] pos) (tX f g) :=
 gK (xx hg hm (cK ha eB (by rw[hs];rfl)) hb hs) fun σ H R hq0=>by
  obtain⟨P,φ,sl,st,rs,s,iv,st',ef,k⟩:=hq0;obtain⟨q,e1,e2⟩:=zA ef;obtain⟨r,e3,e4⟩:=zA e2;refine vc rs s ⟨q.1,q.2,e1,fun P1 φ1 H1 w f1 s1 r1=>⟨P1,φ1,sl,q.2,rs.frm f1,s1,r.1,r.2,e3,fun P2 φ2 H2 w2 f2 s2 r2=>?_⟩⟩;split at e4
  ·rename_i i ei
   rw[ei]at r2;simp only[RA]at r2;subst r2;split at e4
   ·rename_i hc
    simp only[zC,yC]at hc;have hc2:=zS hc.2;obtain⟨iv',e5,e6⟩:=zE.mp e4;cases e6;obtain⟨a1,rfl,h1⟩:=jJ s2 (r1.frm f2) e5;obtain⟨vs,rd1,_⟩:=h1 P2 φ2 H2 r.2 Frm.refl s2 (jI e5);exact⟨a1,i.toNat,rfl,by rw[Int.toNat_of_nonneg hc.1],by lia,⟨vs,rd1⟩,k P2 φ2 H2 _ (f1.trans f2) s2 (pZ h1)⟩
   ·cases e4
  ·cases e4
end
mutual
noncomputable def rf:AV->Bool
 |.ref _=>false
 |.tup xs=>rfs xs
 |_=>true
noncomputable def rfs:List AV->Bool
 |[]=>true
 |x::xs=>rf x&&rfs xs
end
mutual
theorem RA.rf:∀{t:AV}{v:V},R.rf t=true->RA mg P H φ t v->RA mg P H ψ t v
 |.non,_,_,h=>by simp only[RA]at h ⊢;exact h
 |.bl _,_,_,h=>by simp only[RA]at h ⊢;exact h
 |.int _,_,_,h=>by simp only[RA]at h ⊢;exact h
 |.str _,_,_,h=>by simp only[RA]at h ⊢;exact h
 |.fz _,_,_,h=>by simp only[RA]at h ⊢;exact h
 |.ref k,_,e,_=>by simp only[R.rf]at e;cases e
 |.tup xs,_,e,h=>by
  simp only[RA,R.rf]at h e ⊢;obtain⟨a,vs,r,p,e',q⟩:=h;exact⟨a,vs,r,p,e',LX.rf e q⟩
theorem LX.rf:∀{ts:List AV}{vs:List V},R.rfs ts=true->LX mg P H φ ts vs->LX mg P H ψ ts vs
 |[],_,_,h=>by simp only[LX]at h ⊢;exact h
 |t::ts,_,e,h=>by
  simp only[LX,R.rfs,zC]at h e ⊢;obtain⟨v,ws,e',r,q⟩:=h;exact⟨v,ws,e',RA.rf e.1 r,LX.rf e.2 q⟩
end
abbrev NF:=Sl->aa->Option (List AV×aa)
def rN[LS](mg:Gm)(f:NF):TE:=fun σ H Q=>∃P φ sl st,L3 mg P H φ sl σ/\Sim mg P φ st H/\∃xs st',f sl st=some (xs,st') /\
 ∀P' φ' H' p vs,Frm P φ H P' φ' H'->Sim mg P' φ' st' H'->H' p=none->LX mg P' H' φ' xs vs->Q (.ref p) (ae H' p (.lst vs))
def QN[LS](X:Cx)(e:Expr)(f:NF):Prop:=PE X e (rN X.gm f)
def Kq(f:NF):EF:=fun sl st=>(f sl st).bind fun p=>if rfs p.1=true then some (.fz p.1,p.2) else none
def Ko(f:NF):EF:=fun sl st=>(f sl st).bind fun p=>some (.ref p.2.length,p.2++[.lst p.1])
theorem E3[LS]{mg:Gm}{P:Pr}{φ:List Addr}{st:aa}{H:Hp}{p:Addr}{xs:List AV}{vs:List V}(s:Sim mg P φ st H)(hp:H p=none)(hr:rfs xs=true)(r:LX mg P H φ xs vs) :
  ∃P3,Frm P φ H P3 φ (ae H p (.lst vs))/\Sim mg P3 φ st (ae H p (.lst vs))/\RA mg P3 (ae H p (.lst vs)) φ (.fz xs) (.ref p):=by
 obtain⟨f3,s3⟩:=lU (o:=.lst vs) s hp;refine⟨_,f3,s3,?_⟩;simp only[RA];exact⟨p,vs,rfl,.inl ⟨.inr rfl,.inl aw⟩,LX.rf hr (r.frm f3)⟩
theorem El[LS]{mg:Gm}{P:Pr}{φ:List Addr}{st:aa}{H:Hp}{p:Addr}{xs:List AV}{vs:List V}(s:Sim mg P φ st H)(hp:H p=none)(r:LX mg P H φ xs vs) :
  Frm P φ H P (φ++[p]) (ae H p (.lst vs))/\Sim mg P (φ++[p]) (st++[.lst xs]) (ae H p (.lst vs))/\RA mg P (ae H p (.lst vs)) (φ++[p]) (.ref st.length) (.ref p):=by
 have ne:∀a,H a≠none->a≠p:=fun a h e=>h (by rw[e];exact hp)
 obtain⟨f3,s3⟩:=ly (c:=.lst xs) (o:=.lst vs) s hp ⟨fun z=>s.dom p z hp,vs,aw,r.mono (fun a h=>⟨h,ad (ne a (s.dom a h))⟩) fun k a e=>by rw[zN (zB.mp e).1];exact e⟩;refine⟨f3,s3,?_⟩;simp only[RA];exact⟨p,by rw[<- s.len];simp,rfl⟩
section
variable{X:Cx}{e a b:Expr}{es:List Expr}{pos:Pos}{f:NF}
noncomputable def cj(n:Nat):Bool:=Nat.ble n 1000000
theorem iT{n:Nat}(h:cj n=true):n<=sizeLine:=z5 (zS h) dC
def HG(g:AF):NF:=fun sl st=>(g sl st).bind fun p=>if cj p.1.length=true then some p else none
theorem Br[LS](h:QA X es g):QN X (.List es pos) (HG g) :=
 PE_imp (vq h) fun σ H Q hq0=>by
  obtain⟨P,φ,sl,st,rs,s,xs,st',ef,k⟩:=hq0;obtain⟨q,e1,e2⟩:=zA ef;split at e2
  ·rename_i hz
   cases e2;exact⟨P,φ,sl,st,rs,s,xs,st',e1,fun P1 φ1 H1 vs f1 s1 r1=>⟨by rw[<- r1.length];exact iT hz,fun p hp=>k P1 φ1 H1 p vs f1 s1 hp r1⟩⟩
  ·cases e2
def tI(f g:EF):NF:=fun sl st=>(f sl st).bind fun p=>(g sl p.2).bind fun q=>(bA q.2 p.1).bind fun xs=>(bA q.2 q.1).bind fun ys=>if cj (xs.length+ys.length)=true then some (xs++ys,q.2) else none
theorem Dn[LS]{f g:EF}(ha:QE X a f)(hb:QE X b g):QN X (.BinOp a .Add b pos) (tI f g) :=
 PE_imp (td BW ha hb) fun σ H Q hq0=>by
  obtain⟨P,φ,sl,st,rs,s,xs,st',ef,k⟩:=hq0;obtain⟨q,e1,e2⟩:=zA ef;obtain⟨r,e3,e4⟩:=zA e2;obtain⟨x,e5,e6⟩:=zA e4;obtain⟨y,e7,e8⟩:=zA e6;split at e8
  ·rename_i hz
   cases e8;refine⟨P,φ,sl,st,rs,s,q.1,q.2,e1,fun P1 φ1 H1 w f1 s1 r1=>⟨P1,φ1,sl,q.2,rs.frm f1,s1,r.1,r.2,e3,fun P2 φ2 H2 w2 f2 s2 r2=>?_⟩⟩;obtain⟨a1,vs,rfl,d1,q1⟩:=(r1.frm f2).ls s2 e5;obtain⟨a2,us,rfl,d2,q2⟩:=r2.ls s2 e7;exact⟨a1,a2,vs,us,rfl,rfl,d1,d2,by rw[<- q1.length,<- q2.length];exact iT hz,fun p hp=>k P2 φ2 H2 p _ (f1.trans f2) s2 hp (q1.app q2)⟩
  ·cases e8
def tF(g:AF)(f:EF):NF:=fun sl st=>(g sl st).bind fun p=>(f sl p.2).bind fun q=>match q.1 with
 |.int k=>if(eM k&&cj (p.1.length*k.toNat)&&cj p.1.length)=true then some ((List.replicate k.toNat p.1).flatten,q.2) else none
 |_=>none
theorem LX.rep(h:LX mg P H φ xs vs):∀k:Nat,LX mg P H φ (List.replicate k xs).flatten (List.replicate k vs).flatten
 |0=>bo
 |k+1=>by rw[List.replicate_succ,List.replicate_succ,List.flatten_cons,List.flatten_cons];exact h.app (LX.rep h k)
theorem Dj[LS]{g:AF}{f:EF}{pos':Pos}(h:QA X es g)(hb:QE X b f):QN X (.BinOp (.List es pos') .Mult b pos) (tF g f) :=
 PE_imp (td Ea (vq h) hb) fun σ H Q hq0=>by
  obtain⟨P,φ,sl,st,rs,s,xs,st',ef,k⟩:=hq0;obtain⟨q,e1,e2⟩:=zA ef;obtain⟨r,e3,e4⟩:=zA e2;split at e4
  ·rename_i j ej
   split at e4
   ·rename_i hc
    cases e4;simp only[zC]at hc;refine⟨P,φ,sl,st,rs,s,q.1,q.2,e1,fun P1 φ1 H1 vs f1 s1 r1=>⟨by rw[<- r1.length];exact iT hc.2,fun p hp=>?_⟩⟩
    -- the list itself is a cell that nobody has
    obtain⟨f2,s2⟩:=lU (o:=.lst vs) s1 hp;refine⟨_,φ1,sl,q.2,(rs.frm f1).frm f2,s2,r.1,r.2,e3,fun P3 φ3 H3 w f3 s3 r3=>?_⟩;rw[ej]at r3;simp only[RA]at r3;subst r3;have hH:H3 p=some (.lst vs):=by rw[(f3.ext p (.inr rfl)).2,aw]
    have hj:=fJ hc.1.1;refine⟨p,j,vs,rfl,rfl,hH,by lia,by lia,by rw[<- r1.length];exact iT hc.1.2,fun p' hp'=>?_⟩;exact k P3 φ3 H3 p' _ ((f1.trans f2).trans f3) s3 hp' (LX.rep ((r1.frm f2).frm f3) _)
   ·cases e4
  ·cases e4
abbrev OF:=Sl->aa->Option (Option Int×aa)
def rO[LS](mg:Gm)(f:OF):TO:=fun σ H Q=>∃P φ sl st,L3 mg P H φ sl σ/\Sim mg P φ st H/\KG mg RB P φ H (f sl st) Q
def QO[LS](X:Cx)(e:Option Expr)(f:OF):Prop:=PO X e (rO X.gm f)
def Ee:OF:=fun _ st=>some (none,st)
def lS(f:EF):OF:=fun sl st=>(f sl st).bind fun p=>match p.1 with
 |.int i=>some (some i,p.2)
 |_=>none
theorem sy(h:PO X eo t)(i:∀σ H Q,t' σ H Q->t σ H Q):PO X eo t':=fun LP s σ H Q I h'=>h LP s σ H Q I (i σ H Q h')
theorem Bq[LS]:QO X none Ee:=sy BJ fun σ H Q ⟨P,φ,sl,st,rs,s,k⟩=>k.pure s rfl
theorem Bp[LS]{f:EF}(h:QE X e f):QO X (some e) (lS f):=sy (BI h) fun σ H Q ⟨P,φ,sl,st,rs,s,k⟩=>⟨P,φ,sl,st,rs,s,by
 obtain⟨a,st',e1,q⟩:=k.bind (Ra:=RA);refine⟨a,st',e1,fun P1 φ1 H1 c f1 s1 r1=>?_⟩;obtain⟨P2,φ2,st2,x,f2,s2,r2,k2⟩:=q P1 φ1 H1 c f1 s1 r1;cases x<;>first|exact k2.no.elim|skip
 rename_i i;simp only[RA]at r2;exact⟨i,r2,k2.pure s2 rfl⟩⟩
def cut{α:Type}(xs:List α)(lo hi:Option Int):List α:=(xs.drop (HT.L6 xs.length 0 lo)).take (HT.L6 xs.length xs.length hi-HT.L6 xs.length 0 lo)
theorem LX.cut(h:LX mg P H φ xs vs)(lo hi:Option Int):LX mg P H φ (R.cut xs lo hi) (nR vs lo hi):=by
 unfold R.cut nR;rw[h.length];exact(h.drop _).take _
theorem IR[LS]{mg:Gm}{f:EF}{l h:OF}{σ:St}{H:Hp}{P:Pr}{φ:List Addr}{sl:Sl}{st:aa}(rs:L3 mg P H φ sl σ)(s:Sim mg P φ st H){r:V->Option Int->Option Int->Hp->VK->Prop}{Q:VK}
  (k:∃v st1 lo st2 hi st3,f sl st=some (v,st1)/\l sl st1=some (lo,st2)/\h sl st2=some (hi,st3)/\∀P' φ' H' w,Frm P φ H P' φ' H'->Sim mg P' φ' st3 H'->RA mg P' H' φ' v w->r w lo hi H' Q):Hr r (rE mg f) (rO mg l) (rO mg h) σ H Q:=by
 obtain⟨v,st1,lo,st2,hi,st3,e1,e2,e3,k⟩:=k;refine⟨P,φ,sl,st,rs,s,v,st1,e1,fun P1 φ1 H1 w f1 s1 r1=>⟨P1,φ1,sl,st1,rs.frm f1,s1,lo,st2,e2,fun P2 φ2 H2 lo' f2 s2 r2=>⟨P2,φ2,sl,st2,(rs.frm f1).frm f2,s2,hi,st3,e3,fun P3 φ3 H3 hi' f3 s3 r3=>?_⟩⟩⟩;cases r2;cases r3;exact k P3 φ3 H3 w ((f1.trans f2).trans f3) s3 ((r1.frm f2).frm f3)
def lV(f:EF)(l h:OF):NF:=fun sl st=>(f sl st).bind fun p=>(l sl p.2).bind fun q=>(h sl q.2).bind fun r=>(bA r.2 p.1).map fun xs=>(cut xs q.1 r.1,r.2)
theorem F1[LS]{f:EF}{l h:OF}{lo hi:Option Expr}{p2:Pos}(ha:QE X a f)(hl:QO X lo l)(hh:QO X hi h):QN X (.Subscript a (.Slice lo hi none p2) pos) (lV f l h) :=
 PE_imp (xE Ba ha hl hh) fun σ H Q hq0=>by
  obtain⟨P,φ,sl,st,rs,s,xs,st',ef,k⟩:=hq0;obtain⟨q,e1,e2⟩:=zA ef;obtain⟨r,e3,e4⟩:=zA e2;obtain⟨t,e5,e6⟩:=zA e4;obtain⟨ys,e7,e8⟩:=zE.mp e6;cases e8;refine IR rs s ⟨q.1,q.2,r.1,r.2,t.1,t.2,e1,e3,e5,fun P1 φ1 H1 w f1 s1 r1=>?_⟩;obtain⟨a1,vs,rfl,d1,q1⟩:=r1.ls s1 e7;exact⟨a1,vs,rfl,d1,fun p hp=>k P1 φ1 H1 p _ f1 s1 hp (q1.cut _ _)⟩
def ny(f:EF):NF:=fun sl st=>(f sl st).bind fun p=>match bA p.2 p.1 with
 |some xs=>some (xs,p.2)
 |none=>(ib p.2 p.1).map fun xs=>(xs,p.2)
theorem Dm[LS]{f:EF}{p pos:Pos}(hg:Gl X "list")(hm:X.mg "list"=none)(ha:QE X a f)(hs:starEach [a] X.env=[(false,eval a X.env)]):QN X (.Call (.Name "list" p) [a] [] pos) (ny f) :=
 PE_imp (oh qv hg hm jo (cK ha eB (by rw[hs];rfl)) (he:=by rw[hs];rfl) (hpl:=rfl)) fun σ H Q hq0=>by
  obtain⟨P,φ,sl,st,rs,s,xs,st',ef,k⟩:=hq0;obtain⟨q,e1,e2⟩:=zA ef;refine vc rs s ⟨q.1,q.2,e1,fun P1 φ1 H1 w f1 s1 r1=>?_⟩;split at e2
  ·rename_i ys e3
   cases e2;obtain⟨a1,vs,rfl,d1,q1⟩:=r1.ls s1 e3;exact⟨a1,vs,rfl,.inl d1,fun p hp=>k P1 φ1 H1 p vs f1 s1 hp q1⟩
  ·obtain⟨ys,e3,e4⟩:=zE.mp e2
   cases e4;obtain⟨a1,vs,rfl,d1,q1⟩:=r1.tp s1 e3;exact⟨a1,vs,rfl,.inr (.inl (.inl d1)),fun p hp=>k P1 φ1 H1 p vs f1 s1 hp q1⟩
end
abbrev GF:=AV->Sl->aa->Option (Sl×aa)
abbrev qI:=List AV->Sl->aa->Option (Sl×aa)
def KS[LS](mg:Gm)(P:Pr)(φ:List Addr)(H:Hp)(r:Option (Sl×aa))(Q:St->Hp->Prop):Prop :=
 ∃sl' st',r=some (sl',st')/\∀P' φ' H' σ',Frm P φ H P' φ' H'->Sim mg P' φ' st' H'->L3 mg P' H' φ' sl' σ'->Q σ' H'
def rG[LS](mg:Gm)(f:GF):TG:=fun v σ H Q=>∃P φ sl st x,L3 mg P H φ sl σ/\Sim mg P φ st H/\RA mg P H φ x v/\KS mg P φ H (f x sl st) Q
def JY[LS](mg:Gm)(f:qI):k6:=fun vs σ H Q=>∃P φ sl st xs,L3 mg P H φ sl σ/\Sim mg P φ st H/\LX mg P H φ xs vs/\KS mg P φ H (f xs sl st) Q
def QG[LS](X:Cx)(tg:Expr)(f:GF):Prop:=PG X tg (rG X.gm f)
def wF[LS](X:Cx)(tgs:List Expr)(f:qI):Prop:=oJ X tgs (JY X.gm f)
def v6(i:Nat):GF:=fun x sl st=>some (sl.set i (some x),st)
def EX:qI:=fun xs sl st=>match xs with
 |[]=>some (sl,st)
 |_=>none
def E1(f:GF)(g:qI):qI:=fun xs sl st=>match xs with
 |x::xs=>(f x sl st).bind fun p=>g xs p.1 p.2
 |[]=>none
def vY(n:Nat)(g:qI):GF:=fun x sl st=>match ib st x with
 |some xs=>if xs.length=n then g xs sl st else none
 |none=>match bA st x with
  |some xs=>if xs.length=n then g xs sl st else none
  |none=>none
theorem qF(h:oJ X tgs t)(i:∀v σ H Q,t' v σ H Q->t v σ H Q):oJ X tgs t':=fun LP s σ H v u Q I rv h'=>h LP s σ H v u Q I rv (i v σ H Q h')
section
variable{X:Cx}{e a b:Expr}{es:List Expr}{pos:Pos}
theorem KS.pure[LS]{mg:Gm}{P:Pr}{φ:List Addr}{H:Hp}{sl:Sl}{st:aa}{σ:St}{Q:St->Hp->Prop}(h:KS mg P φ H (some (sl,st)) Q)(s:Sim mg P φ st H)(r:L3 mg P H φ sl σ):Q σ H:=by
 obtain⟨_,_,e,q⟩:=h;cases e;exact q P φ H σ Frm.refl s r
theorem Bv[LS]{i:Nat}(hN:X.N.Nodup)(hi:X.N[i]?=some x)(hx:Loc X.env.scope x)(hf:X.fn x=true\/X.env.scope.names.lookup x=some .local):QG X (.Name x pos) (v6 i) :=
 PG_imp (BQ hN hi hx hf) fun v σ H Q ⟨P,φ,sl,st,x,rs,s,rx,k⟩=>k.pure s (rs.set rx i)
theorem Bu[LS]:wF X [] EX:=qF BO fun v σ H Q hq0=>by
 obtain⟨P,φ,sl,st,xs,rs,s,rx,k⟩:=hq0;cases xs with
 |nil=>simp only[LX]at rx;exact⟨rx,k.pure s rs⟩
 |cons _ _=>obtain⟨_,_,e,_⟩:=k;cases e
theorem xm[LS](h1:QG X e f)(h2:wF X es g)(hs:(assignEach (e::es) X.env).map (·.2)=assign e X.env::(assignEach es X.env).map (·.2)):wF X (e::es) (E1 f g) :=
 qF (xy h1 h2 hs) fun v σ H Q hq0=>by
  obtain⟨P,φ,sl,st,xs,rs,s,rx,k⟩:=hq0;cases xs with
  |nil=>obtain⟨_,_,e,_⟩:=k;cases e
  |cons x xs =>
   simp only[LX]at rx;obtain⟨w,ws,rfl,r1,r2⟩:=rx;obtain⟨sl',st',e,q⟩:=k;obtain⟨p,e1,e2⟩:=zA e;exact⟨w,ws,rfl,P,φ,sl,st,x,rs,s,r1,p.1,p.2,e1,fun P1 φ1 H1 σ1 f1 s1 rs1=>⟨P1,φ1,p.1,p.2,xs,rs1,s1,r2.frm f1,sl',st',e2,fun P2 φ2 H2 σ2 f2 s2 rs2=>q P2 φ2 H2 σ2 (f1.trans f2) s2 rs2⟩⟩
theorem Gg(h:PG X tg t)(h':PG X tg t'):PG X tg (fun v σ H Q=>t v σ H Q\/t' v σ H Q):=fun LP s σ H v u Q I r q=>by
 rcases q with q|q
 ·exact h LP s σ H v u Q I r q
 ·exact h' LP s σ H v u Q I r q
theorem Dq[LS]{k n:Nat}(hc:X.calm=true)(h:wF X es g)(hn:(assignEach es X.env).length=n)(hst:(assignEach es X.env).findIdx? (·.1)=none):QG X (.Tuple es k pos) (vY n g) :=
 PG_imp (Gg (DM (k:=k) hc h hn hst) (BP (k:=k) hc h hn hst)) fun v σ H Q hq0=>by
  obtain⟨P,φ,sl,st,x,rs,s,rx,kk⟩:=hq0;obtain⟨sl',st',e,q⟩:=kk;unfold vY at e;split at e
  ·rename_i xs ex
   split at e
   ·rename_i hl
    obtain⟨a1,vs,rfl,d1,q1⟩:=rx.tp s ex;exact .inl ⟨a1,vs,rfl,.inl (.inl d1),by rw[<- q1.length];exact hl,P,φ,sl,st,xs,rs,s,q1,sl',st',e,q⟩
   ·cases e
  ·split at e
   ·rename_i xs ex
    split at e
    ·rename_i hl
     obtain⟨a1,vs,rfl,d1,q1⟩:=rx.ls s ex;exact .inr ⟨a1,vs,rfl,d1,by rw[<- q1.length];exact hl,P,φ,sl,st,xs,rs,s,q1,sl',st',e,q⟩
    ·cases e
   ·cases e
noncomputable def lx{κ:Type}[DecidableEq κ](LR:List (κ×AV))(k:κ)(v:AV):List (κ×AV) :=
 if(LR.any fun kv=>decide (kv.1=k))=true then LR.map fun kv=>if kv.1=k then(kv.1,v) else kv else LR++[(k,v)]
theorem pD{P:Pr}{H:Hp}{φ:List Addr}{κ:Type}[DecidableEq κ]{LR:List (κ×AV)}{ws:List (κ×V)}{k:κ}{v:AV}{w:V}(h:KVR mg P H φ LR ws)(r:RA mg P H φ v w):KVR mg P H φ (lx LR k v) (d4 ws k w):=by
 have hany:(LR.any fun kv=>decide (kv.1=k))=(ws.any fun kv=>decide (kv.1=k)):=by
  have h1:∀{α:Type} (l:List (κ×α)),(l.any fun kv=>decide (kv.1=k))=((l.map (·.1)).any fun x=>decide (x=k)):=fun l=>by rw[List.any_map];rfl
  rw[h1 LR,h1 ws,h.1]
 unfold lx d4;rw[hany];split
 ·clear hany
  rename_i hh;clear hh
  induction LR generalizing ws with
  |nil =>
   have:ws=[]:=by simpa using h.1.symm
   subst this;exact⟨rfl,bo⟩
  |cons p LR ih =>
   cases ws with
   |nil=>exact absurd h.1 (by simp)
   |cons q ws =>
    obtain⟨h1,h2⟩:=h;rw[zO,zO]at h1 h2;injection h1 with h3 h4;simp only[LX]at h2;obtain⟨u,us,h5,h6,h7⟩:=h2;injection h5 with h8 h9;subst h8;subst h9;have ih:=ih (ws:=ws) ⟨h4,h7⟩;have h3':p.1=q.1:=h3;by_cases e:q.1=k
    ·rw[zO,zO,yI e,yI (h3'.trans e)]
     exact⟨by rw[zO,zO,ih.1,h3'],aR r ih.2⟩
    ·rw[zO,zO,yH e,yH (fun z=>e (h3'.symm.trans z))]
     exact⟨by rw[zO,zO,ih.1,h3'],aR h6 ih.2⟩
 ·refine⟨by rw[List.map_append,List.map_append,h.1];rfl,?_⟩
  rw[List.map_append,List.map_append];exact h.2.app (aR r bo)
def gQ(st:aa)(o i v:AV):Option aa:=match o with
 |.ref k=>match st[k]? with
  |some (.lst xs)=>match i with
   |.int j=>(kI xs.length j).map fun n=>st.set k (.lst (xs.set n v))
   |_=>none
  |some (.dK LR)=>(jj i).bind fun x=>if cj LR.length=true then some (st.set k (.dK (lx LR x v))) else none
  |some (.dT LR)=>match i with
   |.tup is=>(bI jj is).bind fun x=>if cj LR.length=true then some (st.set k (.dT (lx LR x v))) else none
   |_=>none
  |_=>none
 |_=>none
theorem zv[LS](hu:X.A.units+64<cLine):ui X (fun o i v H Q=>∃P φ st x y z st',Sim X.gm P φ st H/\RA X.gm P H φ x o/\RA X.gm P H φ y i/\RA X.gm P H φ z v/\gQ st x y z=some st'/\∀P' φ' H',Frm P φ H P' φ' H'->Sim X.gm P' φ' st' H'->Q H'):=by
 rintro LP s σ H o i v ov iv u Q I ro ri rv ⟨P,φ,st,x,y,z,st',sm,rx,ry,rz,e,k⟩;unfold gQ at e;cases x with
 |ref j =>
  simp only[RA]at rx;obtain⟨a,ea,rfl⟩:=rx;dsimp only at e;split at e
  ·rename_i xs hk
   obtain⟨a',ea',c⟩:=sm.at hk;rw[ea]at ea';cases ea';obtain⟨na,vs,q1,q2⟩:=c;cases y with
   |int n =>
    simp only[RA]at ry;subst ry;obtain⟨m,e1,e2⟩:=zE.mp e;subst e2;have hp:P a->False:=na;obtain⟨f3,s3⟩:=gG (c:=.lst (xs.set m z)) (o:=.lst (vs.set m v)) sm ea na ⟨na,_,aw,(q2.set rz m).mono (fun b h=>⟨h,ad fun e=>na (e▸h)⟩) fun _ _ z=>z⟩ (fun _ _ z=>by rw[q1]at z;cases z);exact xa LP s σ H _ _ v ov iv u Q I ro ri rv ⟨a,vs,n,m,rfl,rfl,q1,by rw[<- q2.length];exact e1,k P φ _ f3 s3⟩
   |_=>cases e
  ·rename_i LR hk
   obtain⟨a',ea',c⟩:=sm.at hk;rw[ea]at ea';cases ea';obtain⟨na,ws,q1,q2⟩:=c;obtain⟨x,e1,e2⟩:=zA e;split at e2
   ·rename_i hz
    cases e2
    have:=lD e1 ry
    subst this;cases ro;obtain⟨f3,s3⟩:=gG (c:=.dK (lx LR x z)) (o:=.dK (d4 ws x v)) sm ea na ⟨na,_,aw,(pD q2 rz).mono (fun b h=>⟨h,ad fun e=>na (e▸h)⟩) fun _ _ z=>z⟩ (fun _ _ z=>by rw[q1]at z;cases z);refine oz oM I (DPut.k q1 ?_) ri rv fun s' I'=>⟨_,I',k P φ _ f3 s3⟩
    have:=congrArg List.length q2.1
    rw[zH,zH]at this;rw[<- this];have h1:=zS hz;have h2:(1000000:Nat)<sizeLine:=by decide
    lia
   ·cases e2
  ·rename_i LR hk
   obtain⟨a',ea',c⟩:=sm.at hk;rw[ea]at ea';cases ea';obtain⟨na,ws,q1,q2⟩:=c;cases y with
   |tup is =>
    dsimp only at e;obtain⟨x,e1,e2⟩:=zA e;split at e2
    ·rename_i hz
     cases e2;simp only[RA]at ry;obtain⟨b,us,rfl,_,hb,rr⟩:=ry;rw[oj e1 rr]at hb;cases ro;obtain⟨f3,s3⟩:=gG (c:=.dT (lx LR x z)) (o:=.dT (d4 ws x v)) sm ea na ⟨na,_,aw,(pD q2 rz).mono (fun b h=>⟨h,ad fun e=>na (e▸h)⟩) fun _ _ z=>z⟩ (fun _ _ z=>by rw[q1]at z;cases z);refine oz oM I (DPut.t q1 hb ?_) ri rv fun s' I'=>⟨_,I',k P φ _ f3 s3⟩
     have:=congrArg List.length q2.1
     rw[zH,zH]at this;rw[<- this];have h1:=zS hz;have h2:(1000000:Nat)<sizeLine:=by decide
     lia
    ·cases e2
   |_=>cases e
  ·cases e
 |_=>cases e
def HP(f g:EF):GF:=fun x sl st=>(f sl st).bind fun p=>(g sl p.2).bind fun q=>(gQ q.2 p.1 q.1 x).map fun st'=>(sl,st')
theorem Dr[LS](hu:X.A.units+64<cLine)(ho:QE X o f)(hi:QE X i g)
  (ha:∀v,assign (.Subscript o i pos) X.env v=(do
   let ov <- holding [v] (eval o X.env)
   let iv <- holding [v,ov] (eval i X.env)
   standAt pos
   holding [v,ov,iv] (setItem ov iv v)
   release [v,ov,iv] [])):QG X (.Subscript o i pos) (HP f g) :=
 PG_imp (DN ho hi (zv hu) ha) fun v σ H Q hq0=>by
  obtain⟨P,φ,sl,st,x,rs,s,rx,sl',st',e,k⟩:=hq0;obtain⟨q,e1,e2⟩:=zA e;obtain⟨r,e3,e4⟩:=zA e2;obtain⟨z,e5,e6⟩:=zE.mp e4;cases e6;exact⟨P,φ,sl,st,rs,s,q.1,q.2,e1,fun P1 φ1 H1 w f1 s1 r1=>⟨P1,φ1,sl,q.2,rs.frm f1,s1,r.1,r.2,e3,fun P2 φ2 H2 w2 f2 s2 r2=>⟨P2,φ2,r.2,q.1,r.1,x,st',s2,r1.frm f2,r2,(rx.frm f1).frm f2,e5,fun P3 φ3 H3 f3 s3=>k P3 φ3 H3 σ ((f1.trans f2).trans f3) s3 (((rs.frm f1).frm f2).frm f3)⟩⟩⟩
end
def hid(H:Hp)(p:Addr):Hp:=fun b=>if b=p then none else H b
theorem bj(h:b≠p):hid H p b=H b:=yH h
theorem cV:hid H p p=none:=yI rfl
theorem AT(h:H p=some o):ae (hid H p) p o=H:=by
 funext b;by_cases e:b=p
 ·subst e;rw[aw,h]
 ·rw[ad e,bj e]
theorem rR:hid (ae H p o) p=hid H p:=by
 funext b;by_cases e:b=p
 ·subst e;rw[cV,cV]
 ·rw[bj e,bj e,ad e]
theorem yg(h:H p=none):hid H p=H:=by
 funext b;by_cases e:b=p
 ·subst e;rw[cV,h]
 ·rw[bj e]
section
variable{mg:Gm}{P P':Pr}{φ φ':List Addr}{st st':aa}{H H':Hp}{p:Addr}
theorem _root_.L2.ff.sh{P:Addr}{pos:Pos}{q:Str}(h:ff (hid H p) P pos q):ff H P pos q:=by
 obtain⟨ps,e,t,c⟩:=h;have ne:∀{a o},hid H p a=some o->H a=some o:=fun {a o} e=>by
  by_cases z:a=p
  ·rw[z,cV]at e;cases e
  ·rw[bj z]at e;exact e
 refine⟨ps,ne e,t,?_⟩;rcases c with c|⟨c',c1,c2⟩
 ·exact .inl c
 ·exact .inr ⟨c',c1,ne c2⟩
theorem _root_.L2.ff.hd{P:Addr}{pos:Pos}{q:Str}(h:ff H P pos q)(hl:∃vs,H p=some (.lst vs)):ff (hid H p) P pos q:=by
 obtain⟨ps,e,t,c⟩:=h;obtain⟨vs,hv⟩:=hl;refine⟨ps,by rw[bj (tD e hv fun z=>nomatch z)];exact e,t,?_⟩;rcases c with c|⟨c',c1,c2⟩
 ·exact .inl c
 ·exact .inr ⟨c',c1,by rw[bj (tD c2 hv fun z=>nomatch z)];exact c2⟩
theorem Sim.sh[LS](s:Sim mg P φ st (hid H p))(o:HO)(ho:H p=some o):Sim mg P φ st H/\∀a,P a->P a/\H a=hid H p a:=by
 have nP:∀a,P a->a≠p:=fun a h e=>s.dom a h (by rw[e];exact cV)
 have nC:∀a∈φ,a≠p:=fun a h e=>s.cd a h (by rw[e];exact cV)
 have ex:∀a,P a->P a/\H a=hid H p a:=fun a h=>⟨h,(bj (nP a h)).symm⟩
 exact⟨s.stay ex (fun a h=>(bj (nC a h)).symm) (fun _ _ h=>h) (fun a h=>by rw[(ex a h).2];exact s.dom a h) fun t ht=>⟨(s.tb t ht).1.sh,(s.tb t ht).2⟩,ex⟩
theorem Frm.hd[LS](s0:Sim mg P φ st (hid H p))(hl:∃vs,H p=some (.lst vs))(f:Frm P φ H P' φ' H')(s:Sim mg P' φ' st' H'):Frm P φ (hid H p) P' φ' (hid H' p)/\Sim mg P' φ' st' (hid H' p)/\(∀a,P' a->P' a/\hid H' p a=H' a)/\H' p=H p:=by
 have nP:∀a,P a->a≠p:=fun a h e=>s0.dom a h (by rw[e];exact cV)
 have nC:∀a∈φ,a≠p:=fun a h e=>s0.cd a h (by rw[e];exact cV)
 have hp:H p≠none:=fun z=>by obtain⟨vs,e⟩:=hl;rw[z]at e;cases e
 have kp:H' p=H p:=f.keep p hp (fun h=>nC p h rfl) fun ps z=>by obtain⟨vs,e⟩:=hl;rw[z]at e;cases e
 obtain⟨m,em,nm⟩:=f.new;have nP':∀a,P' a->a≠p:=fun a h e=>by
  rcases f.pn a h with z|z|z
  ·exact nP a z e
  ·exact hp (by rw[<- e];exact z)
  ·exact nC a z e
 have nC':∀a∈φ',a≠p:=fun a h e=>by
  rw[em]at h;rcases zZ.mp h with z|z
  ·exact nC a z e
  ·exact hp (by rw[<- e];exact nm a z)
 have hn:∀a,hid H p a≠none->a≠p:=fun a h e=>h (by rw[e];exact cV)
 have ex:∀a,P' a->P' a/\hid H' p a=H' a:=fun a h=>⟨h,bj (nP' a h)⟩
 refine⟨⟨fun a h=>⟨(f.ext a h).1,by rw[bj (nP a h),bj (nP a h)];exact(f.ext a h).2⟩,⟨m,em,fun a h=>?_⟩,fun a h n z=>?_,fun a h=>?_,fun a h=>?_,fun a o u h=>?_⟩,s.stay ex (fun a h=>bj (nC' a h)) (fun _ _ h=>h) (fun a h=>by rw[(ex a h).2];exact s.dom a h) (fun t ht=>⟨(s.tb t ht).1.hd (by rw[kp];exact hl),(s.tb t ht).2⟩),ex,kp⟩
 ·rw[bj (nC' a (by rw[em];exact zK _ h))];exact nm a h
 ·rw[bj (hn a h),bj (hn a h)]
  rw[bj (hn a h)]at z;rw[bj (hn a h)]at h;exact f.keep a h n z
 ·rcases f.pn a h with z|z|z
  ·exact .inl z
  ·exact .inr (.inl (by rw[bj (nP' a h)];exact z))
  ·exact .inr (.inr z)
 ·rw[bj (hn a h)]
  rw[bj (hn a h)]at h;exact f.sm a h
 ·have ne:=hn a (by rw[h];exact fun z=>nomatch z)
  rw[bj ne]at h ⊢;exact f.fz a o u h
end
def f8(gd:Gd)(g:GF)(t:TF)(f:EF)(sl:Sl):List AV->aa->Option (List AV×aa)
 |[],st=>if bQ gd st=true then some ([],st) else none
 |x::xs,st=>if bQ gd st=true then(g x sl st).bind fun p=>(t p.1 p.2).bind fun q=>if q.1=true then(f p.1 q.2).bind fun r=>(f8 gd g t f sl xs r.2).map fun z=>(r.1::z.1,z.2) else f8 gd g t f sl xs q.2 else none
def Ac(k:Nat)(it:IF)(g:GF)(t:TF)(f:EF):NF:=fun sl st=>(it sl st).bind fun p=>if cj p.1.LU.length=true then f8 p.1.gd g t f (sl++List.replicate k none) p.1.LU p.2 else none
def Hq:TF:=fun _ st=>some (true,st)
theorem L3.ext0(h:L3 mg P H φ sl σ)(k:Nat):L3 mg P H φ (sl++List.replicate k none) (σ++List.replicate k none):=by
 refine⟨by rw[zV,zV,h.1,List.length_replicate,List.length_replicate],fun i v e=>?_⟩;have hi:i<sl.length:=by
  rcases yU i sl.length with z|z
  ·exact z
  ·rw[z6 z,List.getElem?_replicate]at e
   split at e<;>cases e
 rw[zN hi]at e;rw[zN (by rw[<- h.1];exact hi)];exact h.2 i v e
def mR(n:Nat)(g:GF):Prop:=∀x sl st sl' st',g x sl st=some (sl',st')->sl'.length=sl.length/\∀j,j<n->sl'[j]?=sl[j]?
theorem L3.back{k:Nat}(h:L3 mg P H φ sl' σ)(hl:sl'.length=(sl++List.replicate k none).length)(hj:∀j,j<sl.length->sl'[j]?=(sl++List.replicate k none)[j]?):L3 mg P H φ (sl++List.replicate k none) σ:=by
 refine⟨by rw[<- hl];exact h.1,fun i v e=>?_⟩;have hi:i<sl.length:=by
  rcases yU i sl.length with z|z
  ·exact z
  ·rw[z6 z,List.getElem?_replicate]at e
   split at e<;>cases e
 exact h.2 i v (by rw[hj i hi];exact e)
theorem EE[LS]{n k:Nat}(hk:mR n g)(hn:σ.length=n)(h:rN mg (Ac k it g t f) σ H Q):CU k (rI mg it) (rG mg g) (rT mg t) (rE mg f) σ H Q:=by
 obtain⟨P,φ,sl,st,rs,s,out,stE,ef,kk⟩:=h;obtain⟨q,e1,e2⟩:=zA ef;split at e2
 ·rename_i hz
  refine⟨P,φ,sl,st,rs,s,q.1,q.2,e1,fun P1 φ1 H1 J f1 s1 ij=>fun p hp=>?_⟩;have hsl:sl.length=n:=by rw[rs.1];exact hn
  refine⟨fun i m σ' H'=>m=q.1.LU.length-i/\i<=q.1.LU.length/\∃P' φ' st' xs vs zs,Frm P1 φ1 H1 P' φ' (hid H' p)/\Sim mg P' φ' st' (hid H' p)/\L3 mg P' (hid H' p) φ' (sl++List.replicate k none) σ'/\H' p=some (.lst vs)/\LX mg P' (hid H' p) φ' xs vs/\xs.length<=i /\
    f8 q.1.gd g t f (sl++List.replicate k none) (q.1.LU.drop i) st'=some (zs,stE)/\out=xs++zs,⟨_,rfl,Nat.zero_le _,P1,φ1,q.2,[],[],out,?_⟩,?_⟩
  ·have e:hid (ae H1 p (.lst [])) p=H1:=by rw[rR,yg hp]
   rw[e];exact⟨Frm.refl,s1,(rs.frm f1).ext0 k,aw,bo,zP _,by simpa using e2,rfl⟩
  ·rintro i m σ' H' ⟨rfl,hle,P2,φ2,st2,xs,vs,zs,f2,s2,rs2,hv,rx,hlen,eg,eo⟩
   obtain⟨s2v,ex2⟩:=s2.sh _ hv;have rs2v:L3 mg P2 H' φ2 (sl++List.replicate k none) σ':=⟨rs2.1,fun i v e=>let⟨w,e',r⟩:=rs2.2 i v e;⟨w,e',r.mono ex2 fun _ _ z=>z⟩⟩;have hpn:H' p≠none:=by rw[hv];exact fun z=>nomatch z
   -- the iterator's rules hold at the whole heap: it keeps what is out of sight as it is
   have f2v:Frm P1 φ1 H1 P2 φ2 H':=by
    refine⟨fun a h=>⟨(f2.ext a h).1,?_⟩,f2.new,fun a h n z=>?_,fun a h=>f2.pn a h,fun a h=>?_,fun a o u h=>?_⟩
    ·have ne:a≠p:=fun e=>s1.dom a h (by rw[e];exact hp)
     rw[<- bj (H:=H') ne];exact(f2.ext a h).2
    ·have ne:a≠p:=fun e=>h (by rw[e];exact hp)
     rw[<- bj (H:=H') ne];exact f2.keep a h n z
    ·have ne:a≠p:=fun e=>h (by rw[e];exact hp)
     rw[<- bj (H:=H') ne];exact f2.sm a h
    ·have ne:a≠p:=aT h hp
     rw[<- bj (H:=H') ne];exact f2.fz a o u h
   rcases yU i q.1.LU.length with hi|hi
   ·right
    rw[List.drop_eq_getElem_cons hi]at eg;simp only[f8]at eg;split at eg
    ·rename_i hgd
     obtain⟨go,yl⟩:=ij.go P2 φ2 H' st2 i _ f2v s2v hgd (zF hi);refine⟨go,fun x H3 hy=>?_⟩;obtain⟨P3,f3,s3,r3⟩:=yl x H3 hy;obtain⟨q4,e4,e5⟩:=zA eg;obtain⟨q6,e6,e7⟩:=zA e5;obtain⟨kl,kj⟩:=hk _ _ _ _ _ e4;refine⟨P3,φ2,sl++List.replicate k none,st2,q.1.LU[i],rs2v.frm f3,s3,r3,q4.1,q4.2,e4,fun P4 φ4 H4 σ4 f4 s4 rs4=>⟨P4,φ4,q4.1,q4.2,rs4,s4,q6.1,q6.2,e6,fun P5 φ5 H5 c f5 s5 r5=>?_⟩⟩;cases r5;have f35:=(f3.trans f4).trans f5;have back:∀{P6:Pr}{φ6:List Addr}{H6:Hp},Frm P5 φ5 H5 P6 φ6 H6->L3 mg P6 H6 φ6 (sl++List.replicate k none) σ4:=fun f6=>((rs4.frm f5).frm f6).back kl fun j hj=>kj j oM
     cases hc:q6.1 with
     |true =>
      rw[hc]at e7;simp only[if_true]at e7 ⊢;obtain⟨q8,e8,e9⟩:=zA e7;obtain⟨z,e10,e11⟩:=zE.mp e9;cases e11;refine⟨P5,φ5,q4.1,q6.2,rs4.frm f5,s5,q8.1,q8.2,e8,fun P6 φ6 H6 y f6 s6 r6=>?_⟩;obtain⟨fh,sh,exh,hpe⟩:=Frm.hd s2 ⟨_,hv⟩ (f35.trans f6) s6;refine⟨vs,by rw[hpe];exact hv,?_,q.1.LU.length-(i+1),by lia,rfl,hi,P6,φ6,q8.2,xs++[q8.1],vs++[y],z.1,?_⟩
      ·rw[<- rx.length]
       have h1:=zS hz;have h2:(1000000:Nat)<sizeLine:=by decide
       lia
      ·have eh:hid (ae H6 p (.lst (vs++[y]))) p=hid H6 p:=rR
       rw[eh];refine⟨f2.trans fh,sh,?_,aw,(rx.frm fh).app (aR (r6.mono exh fun _ _ z=>z) bo),by rw[zV];simp;lia,e10,by rw[eo,yN];rfl⟩
       have:=back f6
       exact⟨this.1,fun i v e=>let⟨w,e',r⟩:=this.2 i v e;⟨w,e',r.mono exh fun _ _ z=>z⟩⟩
     |false =>
      rw[hc]at e7;simp only[yB,if_false]at e7 ⊢;obtain⟨fh,sh,exh,hpe⟩:=Frm.hd s2 ⟨_,hv⟩ f35 s5;refine⟨q.1.LU.length-(i+1),by lia,rfl,hi,P5,φ5,q6.2,xs,vs,zs,f2.trans fh,sh,?_,by rw[hpe];exact hv,rx.frm fh,by lia,e7,eo⟩
      have:=back Frm.refl
      exact⟨this.1,fun i v e=>let⟨w,e',r⟩:=this.2 i v e;⟨w,e',r.mono exh fun _ _ z=>z⟩⟩
    ·cases eg
   ·left
    have ei:i=q.1.LU.length:=Nat.le_antisymm hle hi;subst ei;rw[List.drop_length]at eg;simp only[f8]at eg;split at eg
    ·rename_i hgd
     cases eg;refine⟨ij.stop P2 φ2 H' _ f2v s2v hgd,?_⟩
     have:=kk P2 φ2 (hid H' p) p vs (f1.trans f2) s2 cV (by rw[eo,List.append_nil];exact rx)
     rw[AT hv]at this;exact this
    ·cases eg
 ·cases e2
def sx[LS](X:Cx)(ifs:List Expr)(t:TF):Prop:=sA X ifs (rT X.gm t)
section
variable{X:Cx}{elt iter tg:Expr}{ifs:List Expr}{N':List Str}{scope:Scope}{pos:Pos}{it:IF}{g:GF}{t:TF}{f:EF}
theorem Bt[LS]:sx X [] Hq:=fun LP s σ H Q I ⟨P,φ,sl,st,rs,sm,k⟩=>BL LP s σ H Q I (k.pure sm rfl)
theorem Bs[LS](h:QT X e t):sx X [e] t:=BK h
theorem Fy{e:Expr}{t t':TE}(h:PE X e t)(i:∀σ H Q,σ.length=X.N.length->t' σ H Q->t σ H Q):PE X e t':=fun LP s σ H Q I h'=>h LP s σ H Q I (i σ H Q I.len h')
theorem Fw{st:Stmt}{t t':TS}(h:PS X st t)(i:∀D σ H,σ.length=X.N.length->t' D σ H->t D σ H):PS X st t':=fun LP s σ H D I h'=>h LP s σ H D I (i D σ H I.len h')
theorem zz[LS](hc:X.calm=true)(T:iR X N' scope)(hi:QI X tg iter it)(hg:∀cl s H fp LP,QG (bW X N' scope cl s H fp LP) tg g)(ht:∀cl s H fp LP,sx (bW X N' scope cl s H fp LP) ifs t)
  (he:∀cl s H fp LP,QE (bW X N' scope cl s H fp LP) elt f) (hk:mR X.N.length g) (hs:∀x,foldedSetIterable iter X.env x=pure x):QN X (.ListComp elt [⟨tg,iter,ifs,0⟩] scope pos) (Ac (N'.length-X.N.length) it g t f) :=
 Fy (Gj (g:=rG X.gm g) (tt:=rT X.gm t) (te:=rE X.gm f) hc T hi (fun cl s H fp LP=>hg cl s H fp LP) (fun cl s H fp LP=>ht cl s H fp LP) (fun cl s H fp LP=>he cl s H fp LP) hs) fun σ H Q hl h=>EE hk hl h
end
inductive Out where
 |nx (sl:Sl) (st:aa)|rt (v:AV) (st:aa)|bk (sl:Sl) (st:aa)|ct (sl:Sl) (st:aa)
abbrev SF:=Sl->aa->Option Out
def ThO[LS](mg:Gm)(P:Pr)(φ:List Addr)(H:Hp)(D:iQ):Out->Prop
 |.nx sl st=>∀P' φ' H' σ',Frm P φ H P' φ' H'->Sim mg P' φ' st H'->L3 mg P' H' φ' sl σ'->D.nx σ' H'
 |.bk sl st=>∀P' φ' H' σ',Frm P φ H P' φ' H'->Sim mg P' φ' st H'->L3 mg P' H' φ' sl σ'->D.bk σ' H'
 |.ct sl st=>∀P' φ' H' σ',Frm P φ H P' φ' H'->Sim mg P' φ' st H'->L3 mg P' H' φ' sl σ'->D.ct σ' H'
 |.rt v st=>∀P' φ' H' w,Frm P φ H P' φ' H'->Sim mg P' φ' st H'->RA mg P' H' φ' v w->D.rt w H'
def KO[LS](mg:Gm)(P:Pr)(φ:List Addr)(H:Hp)(r:Option Out)(D:iQ):Prop:=∃o,r=some o/\ThO mg P φ H D o
def rS[LS](mg:Gm)(f:SF):TS:=fun D σ H=>∃P φ sl st,L3 mg P H φ sl σ/\Sim mg P φ st H/\KO mg P φ H (f sl st) D
def QS[LS](X:Cx)(st:Stmt)(f:SF):Prop:=PS X st (rS X.gm f)
def k7[LS](X:Cx)(sts:List Stmt)(f:SF):Prop:=PSs X sts (rS X.gm f)
theorem ThO.frm[LS](h:ThO mg P φ H D o)(f:Frm P φ H P1 φ1 H1):ThO mg P1 φ1 H1 D o:=by
 cases o with
 |nx sl st=>exact fun P' φ' H' σ' f'=>h P' φ' H' σ' (f.trans f')
 |bk sl st=>exact fun P' φ' H' σ' f'=>h P' φ' H' σ' (f.trans f')
 |ct sl st=>exact fun P' φ' H' σ' f'=>h P' φ' H' σ' (f.trans f')
 |rt v st=>exact fun P' φ' H' σ' f'=>h P' φ' H' σ' (f.trans f')
theorem KO.bindE[LS]{α β:Type}{Ra:Gm->Pr->Hp->List Addr->α->β->Prop}{m:Option (α×aa)}{k:α×aa->Option Out}(h:KO mg P φ H (m.bind k) D) :
  KG mg Ra P φ H m fun b H1=>∃P1 φ1 st1 a,Frm P φ H P1 φ1 H1/\Sim mg P1 φ1 st1 H1/\Ra mg P1 H1 φ1 a b/\KO mg P1 φ1 H1 (k (a,st1)) D:=by
 obtain⟨o,e,q⟩:=h;cases m with
 |none=>cases e
 |some p=>exact⟨p.1,p.2,rfl,fun P1 φ1 H1 b f s r=>⟨P1,φ1,p.2,p.1,f,s,r,o,e,q.frm f⟩⟩
theorem KO.nx[LS]{mg:Gm}{P:Pr}{φ:List Addr}{H:Hp}{sl:Sl}{st:aa}{D:iQ}{σ:St}(h:KO mg P φ H (some (.nx sl st)) D)(s:Sim mg P φ st H)(r:L3 mg P H φ sl σ):D.nx σ H:=by
 obtain⟨o,e,q⟩:=h;cases e;exact q P φ H σ Frm.refl s r
theorem KO.no[LS](h:KO mg P φ H none D):False:=by obtain⟨_,e,_⟩:=h;cases e
section
variable{X:Cx}{st:Stmt}{rest:List Stmt}{e c tg:Expr}{pos:Pos}{s t:SF}{f:EF}{g:GF}{b:TF}
def Hy:SF:=fun sl st=>some (.nx sl st)
def Hw(s t:SF):SF:=fun sl st=>(s sl st).bind fun o=>match o with
 |.nx sl st=>t sl st
 |o=>some o
theorem Bj[LS]:k7 X [] Hy:=PSs_imp BD fun D σ H ⟨P,φ,sl,st,rs,s,k⟩=>k.nx s rs
theorem xj[LS](h1:QS X st s)(h2:k7 X rest t):k7 X (st::rest) (Hw s t):=PSs_imp (xq h1 h2) fun D σ H hq0=>by
 obtain⟨P,φ,sl,st,rs,sm,o,e,q⟩:=hq0;obtain⟨o1,e1,e2⟩:=zA e;refine⟨P,φ,sl,st,rs,sm,o1,e1,?_⟩;cases o1 with
 |nx sl1 st1=>exact fun P' φ' H' σ' f' s' rs'=>⟨P',φ',sl1,st1,rs',s',o,e2,q.frm f'⟩
 |bk sl1 st1=>cases e2;exact q
 |ct sl1 st1=>cases e2;exact q
 |rt v st1=>cases e2;exact q
def C5:SF:=fun _ _=>none
theorem Bn[LS]:QS X st C5:=PS_imp xu fun D σ H ⟨P,φ,sl,st,rs,s,k⟩=>k.no
def HC(f:EF):SF:=fun sl st=>(f sl st).bind fun p=>some (.nx sl p.2)
theorem Bm[LS](he:QE X e f)(hs:swapsWith e none pos.line X.env=pure false):QS X (.Expr e pos) (HC f):=PS_imp (BG he hs) fun D σ H ⟨P,φ,sl,st,rs,s,k⟩=>⟨P,φ,sl,st,rs,s,by
 obtain⟨a,st',e1,q⟩:=k.bindE (Ra:=RA);refine⟨a,st',e1,fun P1 φ1 H1 w f1 s1 r1=>?_⟩;obtain⟨P2,φ2,st2,x,f2,s2,r2,k2⟩:=q P1 φ1 H1 w f1 s1 r1;exact k2.nx s2 (rs.frm f2)⟩
def Hx(f:EF):SF:=fun sl st=>(f sl st).bind fun p=>some (.rt p.1 p.2)
theorem Dg[LS](he:QE X e f):QS X (.Return (some e) pos) (Hx f):=PS_imp (DG he) fun D σ H ⟨P,φ,sl,st,rs,s,k⟩=>⟨P,φ,sl,st,rs,s,by
 obtain⟨a,st',e1,q⟩:=k.bindE (Ra:=RA);refine⟨a,st',e1,fun P1 φ1 H1 w f1 s1 r1=>?_⟩;obtain⟨P2,φ2,st2,x,f2,s2,r2,o,eo,q2⟩:=q P1 φ1 H1 w f1 s1 r1;cases eo;exact q2 P2 φ2 H1 w Frm.refl s2 r2⟩
def Hz(b:TF)(s t:SF):SF:=fun sl st=>(b sl st).bind fun p=>if p.1=true then s sl p.2 else t sl p.2
theorem F0[LS](hc:QT X c b)(ha:k7 X x s)(hb:k7 X y t):QS X (.If c x y pos) (Hz b s t):=PS_imp (Gc hc ha hb) fun D σ H ⟨P,φ,sl,st,rs,sm,k⟩=>⟨P,φ,sl,st,rs,sm,by
 obtain⟨a,st',e1,q⟩:=k.bindE (Ra:=RB);refine⟨a,st',e1,fun P1 φ1 H1 w f1 s1 r1=>?_⟩;obtain⟨P2,φ2,st2,x,f2,s2,r2,k2⟩:=q P1 φ1 H1 w f1 s1 r1;cases r2;cases w with
 |true=>exact⟨P2,φ2,sl,st2,rs.frm f2,s2,k2⟩
 |false=>exact⟨P2,φ2,sl,st2,rs.frm f2,s2,k2⟩⟩
def u9(f:EF)(g:GF):SF:=fun sl st=>(f sl st).bind fun p=>(g p.1 sl p.2).bind fun q=>some (.nx q.1 q.2)
theorem ug[LS](h:rS mg (u9 f g) D σ H):sP (rE mg f) (rG mg g) D σ H:=by
 obtain⟨P,φ,sl,st,rs,s,o,e,q⟩:=h;obtain⟨p,e1,e2⟩:=zA e;obtain⟨r,e3,e4⟩:=zA e2;cases e4;exact⟨P,φ,sl,st,rs,s,p.1,p.2,e1,fun P1 φ1 H1 w f1 s1 r1=>⟨P1,φ1,sl,p.2,p.1,rs.frm f1,s1,r1,r.1,r.2,e3,fun P2 φ2 H2 σ2 f2 s2 rs2=>q P2 φ2 H2 σ2 (f1.trans f2) s2 rs2⟩⟩
theorem vg[LS](he:QE X e f)(hg:QG X tg g)(hs:swapsWithSole [tg] e pos.line X.env=pure false)(hw:swappedStores [tg] e X.env=pure none)(h1:(assignEach [tg] X.env).map (·.2)=[assign tg X.env]):QS X (.Assign [tg] e pos) (u9 f g) :=
 PS_imp (DI he hg hs hw h1) fun D σ H h=>ug h
theorem Ej[LS]{i:Nat}(h:rG mg (v6 i) v σ H Q):my i v σ H Q:=by
 obtain⟨P,φ,sl,st,x,rs,s,rx,k⟩:=h;exact k.pure s (rs.set rx i)
theorem vf[LS]{i:Nat}(hN:X.N.Nodup)(hi:X.N[i]?=some x)(hx:Loc X.env.scope x)(he:QE X e f)(hs:swapsWith e (some (.Name x pos')) pos.line X.env=pure false)(hf:X.fn x=true\/X.env.scope.names.lookup x=some .local) :
  QS X (.Assign [.Name x pos'] e pos) (u9 f (v6 i)):=PS_imp (DF hN hi hx he hs hf) fun D σ H h=>by
 obtain⟨P,φ,sl,st,rs,s,p1,p2,e1,k⟩:=ug h;exact⟨P,φ,sl,st,rs,s,p1,p2,e1,fun P1 φ1 H1 w f1 s1 r1=>Ej (k P1 φ1 H1 w f1 s1 r1)⟩
def AA(m:Bool)(f:NF):EF:=if m=true then Ko f else Kq f
theorem Eh[LS]{mg:Gm}{m:Bool}{f:NF}{σ:St}{H:Hp}{Q:VK}(h:rE mg (AA m f) σ H Q):rN mg f σ H Q:=by
 obtain⟨P,φ,sl,st,rs,s,v,st',ev,k⟩:=h;cases m with
 |true =>
  obtain⟨q,e1,e2⟩:=zA ev;cases e2;refine⟨P,φ,sl,st,rs,s,q.1,q.2,e1,fun P1 φ1 H1 p vs f1 s1 hp r1=>?_⟩;obtain⟨f3,s3,r3⟩:=El s1 hp r1;exact k P1 _ _ _ (f1.trans f3) s3 r3
 |false =>
  obtain⟨q,e1,e2⟩:=zA ev;split at e2
  ·rename_i hr
   cases e2;refine⟨P,φ,sl,st,rs,s,q.1,q.2,e1,fun P1 φ1 H1 p vs f1 s1 hp r1=>?_⟩;obtain⟨P3,f3,s3,r3⟩:=E3 s1 hp hr r1;exact k P3 φ1 _ _ (f1.trans f3) s3 r3
  ·cases e2
theorem gB[LS]{m:Bool}{f:NF}(h:QN X e f):QE X e (AA m f):=PE_imp h fun _ _ _ q=>Eh q
theorem ve[LS]{i:Nat}{y:Str}{py:Pos}{elt iter tg:Expr}{ifs:List Expr}{N':List Str}{scope:Scope}{pos spos:Pos}{it:IF}{g:GF}{t:TF}{f:EF}{m:Bool}(hN:X.N.Nodup)(hiN:X.N[i]?=some y)(hx:Loc X.env.scope y)
  (hsw:swapsWith (.ListComp elt [⟨tg,iter,ifs,0⟩] scope pos) (some (.Name y py)) spos.line X.env=pure true)
  (hc:X.calm=true) (T:iR X N' scope) (hi:QI X tg iter it) (hg:∀cl s H fp LP,QG (bW X N' scope cl s H fp LP) tg g) (ht:∀cl s H fp LP,sx (bW X N' scope cl s H fp LP) ifs t)
  (he:∀cl s H fp LP,QE (bW X N' scope cl s H fp LP) elt f) (hk:mR X.N.length g) (hs:∀x,foldedSetIterable iter X.env x=pure x) (hf:X.fn y=true\/X.env.scope.names.lookup y=some .local) :
  QS X (.Assign [.Name y py] (.ListComp elt [⟨tg,iter,ifs,0⟩] scope pos) spos) (u9 (AA m (Ac (N'.length-X.N.length) it g t f)) (v6 i)) :=
 Fw (vi (g:=rG X.gm g) (tt:=rT X.gm t) (te:=rE X.gm f) hN hiN hx hsw hc T hi (fun cl s H fp LP=>hg cl s H fp LP) (fun cl s H fp LP=>ht cl s H fp LP) (fun cl s H fp LP=>he cl s H fp LP) hs hf) fun D σ H hl h=>by
  obtain⟨P,φ,sl,st,rs,s,p1,p2,e1,k⟩:=ug h;exact EE hk hl (Eh (m:=m) ⟨P,φ,sl,st,rs,s,p1,p2,e1,fun P1 φ1 H1 w f1 s1 r1=>Ej (k P1 φ1 H1 w f1 s1 r1)⟩)
def uf(o:Operator)(_:aa):AV->AV->Option AV
 |.int a,.int b=>match o with
  |.Add=>some (.int (a+b))
  |.Sub=>some (.int (a-b))
  |_=>none
 |_,_=>none
theorem Jj[LS](o:Operator):AH X o (fun x y H Q=>∃P φ st a b c,Sim X.gm P φ st H/\RA X.gm P H φ a x/\RA X.gm P H φ b y/\uf o st a b=some c/\∀w,RA X.gm P H φ c w->Q w H):=by
 rintro LP s σ H x y v u Q I rx ry ⟨P,φ,st,a,b,c,sm,ra,rb,e,k⟩;cases a <;> cases b <;> simp only [uf] at e <;> first | (cases e;done) | skip
 rename_i i j;simp only [RA] at ra rb;subst ra;subst rb;cases o <;> first | (cases e;done) | skip
 ·cases e
  exact ER LP s σ H _ _ v u Q I rx ry ⟨i,j,rfl,rfl,k _ (by simp only[RA])⟩
 ·cases e
  exact EQ LP s σ H _ _ v u Q I rx ry ⟨i,j,rfl,rfl,k _ (by simp only[RA])⟩
theorem GO[LS]:zf X (fun x y H Q=>∃P φ st a b c,Sim X.gm P φ st H/\RA X.gm P H φ a x/\RA X.gm P H φ (.int b) y/\(∃xs,bA st a=some xs/\fD xs b=some c)/\∀w,RA X.gm P H φ c w->Q w H):=by
 rintro LP s σ H x y v u Q I rx ry ⟨P,φ,st,a,b,c,sm,ra,rb,⟨xs,e1,e2⟩,k⟩;obtain⟨p,vs,rfl,d1,q1⟩:=ra.ls sm e1;obtain⟨w,e3,r3⟩:=nU q1 e2;simp only[RA]at rb;exact yk LP s σ H _ y v u Q I rx ry ⟨p,vs,b,w,rfl,rb,d1,e3,k w r3⟩
def sU(o:Operator)(f g h:EF):SF:=fun sl st=>(f sl st).bind fun p=>(g sl p.2).bind fun q=>match q.1 with
 |.int i=>(bA q.2 p.1).bind fun xs=>(fD xs i).bind fun x=>(h sl q.2).bind fun r=>(uf o r.2 x r.1).bind fun z=>(gQ r.2 p.1 (.int i) z).bind fun st'=>some (.nx sl st')
 |_=>none
theorem Bo[LS]{a i:Expr}{f g h:EF}{o:Operator}{tpos:Pos}(hu:X.A.units+64<cLine)(ho:QE X a f)(hi:QE X i g)(he:QE X e h)
  (ha:∀ov iv new,augStore i ov iv new=(do holding [new,ov,iv] (setItem ov iv new);release [new,ov,iv] [];pure .next)):QS X (.AugAssign (.Subscript a i tpos) o e pos) (sU o f g h) :=
 PS_imp (BH ho hi GO he (Jj o) (zv hu) ha) fun D σ H hq0=>by
  obtain⟨P,φ,sl,st,rs,s,out,eo,q⟩:=hq0;obtain⟨p,e1,e2⟩:=zA eo;obtain⟨r,e3,e4⟩:=zA e2;split at e4
  ·rename_i j hj
   obtain⟨xs,e5,e6⟩:=zA e4;obtain⟨x,e7,e8⟩:=zA e6;obtain⟨t,e9,e10⟩:=zA e8;obtain⟨z,e11,e12⟩:=zA e10;obtain⟨st',e13,e14⟩:=zA e12;cases e14;refine⟨P,φ,sl,st,rs,s,p.1,p.2,e1,fun P1 φ1 H1 w1 f1 s1 r1=>⟨P1,φ1,sl,p.2,rs.frm f1,s1,r.1,r.2,e3,fun P2 φ2 H2 w2 f2 s2 r2=>?_⟩⟩;rw[hj]at r2;refine⟨P2,φ2,r.2,p.1,j,x,s2,r1.frm f2,r2,⟨xs,e5,e7⟩,fun w3 r3=>⟨P2,φ2,sl,r.2,(rs.frm f1).frm f2,s2,t.1,t.2,e9,fun P3 φ3 H3 w4 f3 s3 r4=>⟨P3,φ3,t.2,x,t.1,z,s3,r3.frm f3,r4,e11,fun w5 r5=>⟨P3,φ3,t.2,p.1,.int j,z,st',s3,(r1.frm f2).frm f3,r2.frm f3,r5,e13,fun P4 φ4 H4 f4 s4=>?_⟩⟩⟩⟩;exact q P4 φ4 H4 σ (((f1.trans f2).trans f3).trans f4) s4 ((((rs.frm f1).frm f2).frm f3).frm f4)
  ·cases e4
end
def cW(gd:Gd)(g:GF)(s:SF):List AV->Sl->aa->Option Out
 |[],sl,st=>if bQ gd st=true then some (.nx sl st) else none
 |x::xs,sl,st=>if bQ gd st=true then(g x sl st).bind fun p=>(s p.1 p.2).bind fun o=>match o with
  |.nx sl st=>cW gd g s xs sl st
  |.ct sl st=>cW gd g s xs sl st
  |.bk sl st=>some (.nx sl st)
  |.rt v st=>some (.rt v st) else none
def HB(it:IF)(g:GF)(s:SF):SF:=fun sl st=>(it sl st).bind fun p=>cW p.1.gd g s p.1.LU sl p.2
def cP(t:TF)(s:SF):Nat->Sl->aa->Option Out
 |0,_,_=>none
 |n+1,sl,st=>(t sl st).bind fun p=>if p.1=true then(s sl p.2).bind fun o=>match o with
  |.nx sl st=>cP t s n sl st
  |.ct sl st=>cP t s n sl st
  |.bk sl st=>some (.nx sl st)
  |.rt v st=>some (.rt v st) else some (.nx sl p.2)
open Classical in
def kC(t:TF)(s:SF):SF:=fun sl st=>if h:∃n,(cP t s n sl st).isSome=true then cP t s (Classical.choose h) sl st else none
theorem nY:∀{n m:Nat}{sl:Sl}{st:aa}{o:Out},n<=m->cP t s n sl st=some o->cP t s m sl st=some o:=by
 intro n
 induction n with
 |zero=>intro m sl st o _ h;cases h
 |succ n ih =>
  intro m sl st o hm h;cases m with
  |zero=>lia
  |succ m =>
   simp only[cP]at h ⊢;obtain⟨p,e1,e2⟩:=zA h;rw[e1,bind_some];split at e2
   ·rename_i hc
    rw[yI hc];obtain⟨q,e3,e4⟩:=zA e2;rw[e3,bind_some];cases q with
    |nx sl st=>exact ih oM e4
    |ct sl st=>exact ih oM e4
    |bk sl st=>exact e4
    |rt v st=>exact e4
   ·rename_i hc
    rw[yH hc];exact e2
theorem lM{t:TF}{s:SF}{n:Nat}{sl:Sl}{st:aa}{o:Out}(h:cP t s n sl st=some o):kC t s sl st=some o:=by
 have hx:∃n,(cP t s n sl st).isSome=true:=⟨n,by rw[h];rfl⟩;unfold kC;rw[dif_pos hx];obtain⟨o',e'⟩:=Option.isSome_iff_exists.mp (Classical.choose_spec hx);have h1:=nY (Nat.le_max_left n (Classical.choose hx)) h;have h2:=nY (Nat.le_max_right n (Classical.choose hx)) e';rw[e',<- h1,h2]
theorem vx{t:TF}{s:SF}{sl:Sl}{st:aa}{o:Out}(h:kC t s sl st=some o):∃n,cP t s n sl st=some o:=by
 unfold kC at h;split at h
 ·exact⟨_,h⟩
 ·cases h
section
variable{X:Cx}{tg iter c:Expr}{body:List Stmt}{pos:Pos}{it:IF}{g:GF}{s:SF}{t:TF}
theorem Dh[LS](hp:PassesOwn (model X.prog X.w) X.A X.env X.xe)(hc:X.calm=true)(hi:QI X tg iter it)(hg:QG X tg g)(hb:k7 X body s)(hs:∀x,foldedSetIterable iter X.env x=pure x):QS X (.For tg iter body [] pos) (HB it g s) :=
 PS_imp (vj hp hc hi hg hb hs) fun D σ H hq0=>by
  obtain⟨P,φ,sl,st,rs,sm,o,e,q⟩:=hq0;obtain⟨p,e1,e2⟩:=zA e;refine⟨P,φ,sl,st,rs,sm,p.1,p.2,e1,fun P1 φ1 H1 J f1 s1 ij=>?_⟩;have q1:=q.frm f1;refine⟨fun i m σ' H'=>m=p.1.LU.length-i/\i<=p.1.LU.length/\∃P' φ' sl' st',Frm P1 φ1 H1 P' φ' H'/\Sim X.gm P' φ' st' H'/\L3 X.gm P' H' φ' sl' σ'/\cW p.1.gd g s (p.1.LU.drop i) sl' st'=some o,⟨_,rfl,Nat.zero_le _,P1,φ1,sl,p.2,Frm.refl,s1,rs.frm f1,by simpa using e2⟩,?_⟩;rintro i m σ' H' ⟨rfl,hle,P2,φ2,sl2,st2,f2,s2,rs2,eg⟩;rcases yU i p.1.LU.length with hlt|hge
  ·right
   rw[List.drop_eq_getElem_cons hlt]at eg;simp only[cW]at eg;split at eg
   ·rename_i hgd
    obtain⟨go,yl⟩:=ij.go P2 φ2 H' st2 i _ f2 s2 hgd (zF hlt);obtain⟨q4,e4,e5⟩:=zA eg;obtain⟨o1,e6,e7⟩:=zA e5;refine⟨go,fun σ' H'=>∃P' φ' sl' st',Frm P1 φ1 H1 P' φ' H'/\Sim X.gm P' φ' st' H'/\L3 X.gm P' H' φ' sl' σ'/\cW p.1.gd g s (p.1.LU.drop (i+1)) sl' st'=some o,fun σ' H' z=>⟨_,by lia,rfl,hlt,z⟩,fun x H3 hy=>?_⟩;obtain⟨P3,f3,s3,r3⟩:=yl x H3 hy;refine⟨P3,φ2,sl2,st2,_,rs2.frm f3,s3,r3,q4.1,q4.2,e4,fun P4 φ4 H4 σ4 f4 s4 rs4=>⟨P4,φ4,q4.1,q4.2,rs4,s4,o1,e6,?_⟩⟩;have fa:=(f2.trans f3).trans f4;cases o1 with
    |nx sl5 st5=>exact fun P5 φ5 H5 σ5 f5 s5 rs5=>⟨P5,φ5,sl5,st5,fa.trans f5,s5,rs5,e7⟩
    |ct sl5 st5=>exact fun P5 φ5 H5 σ5 f5 s5 rs5=>⟨P5,φ5,sl5,st5,fa.trans f5,s5,rs5,e7⟩
    |bk sl5 st5=>cases e7;exact fun P5 φ5 H5 σ5 f5 s5 rs5=>q1 P5 φ5 H5 σ5 (fa.trans f5) s5 rs5
    |rt v st5=>cases e7;exact fun P5 φ5 H5 w f5 s5 r5=>q1 P5 φ5 H5 w (fa.trans f5) s5 r5
   ·cases eg
  ·left
   have ei:i=p.1.LU.length:=Nat.le_antisymm hle hge;subst ei;rw[List.drop_length]at eg;simp only[cW]at eg;split at eg
   ·rename_i hgd
    cases eg;exact⟨ij.stop P2 φ2 H' _ f2 s2 hgd,q1 P2 φ2 H' σ' f2 s2 rs2⟩
   ·cases eg
theorem xk[LS](hp:PassesOwn (model X.prog X.w) X.A X.env X.xe)(hc:QT X c t)(hb:k7 X body s):QS X (.While c body [] pos) (kC t s) :=
 PS_imp (xt hp hc hb) fun D σ H hq0=>by
  obtain⟨P,φ,sl,st,rs,sm,o,e,q⟩:=hq0;obtain⟨n0,e0⟩:=vx e;refine⟨fun m σ' H'=>∃P' φ' sl' st',Frm P φ H P' φ' H'/\Sim X.gm P' φ' st' H'/\L3 X.gm P' H' φ' sl' σ'/\cP t s m sl' st'=some o,⟨n0,P,φ,sl,st,Frm.refl,sm,rs,e0⟩,?_⟩;rintro m σ' H' ⟨P2,φ2,sl2,st2,f2,s2,rs2,eg⟩;cases m with
  |zero=>cases eg
  |succ m =>
   simp only[cP]at eg;obtain⟨p,e1,e2⟩:=zA eg;refine⟨P2,φ2,sl2,st2,rs2,s2,p.1,p.2,e1,fun P3 φ3 H3 b f3 s3 r3=>?_⟩;cases r3;cases hb':p.1 with
   |true =>
    rw[hb']at e2;simp only[if_true]at e2 ⊢;obtain⟨o1,e6,e7⟩:=zA e2;refine⟨fun σ' H'=>∃P' φ' sl' st',Frm P φ H P' φ' H'/\Sim X.gm P' φ' st' H'/\L3 X.gm P' H' φ' sl' σ'/\cP t s m sl' st'=some o,fun σ' H' z=>⟨m,Nat.lt_succ_self m,z⟩,P3,φ3,sl2,p.2,rs2.frm f3,s3,o1,e6,?_⟩;have fa:=f2.trans f3;cases o1 with
    |nx sl5 st5=>exact fun P5 φ5 H5 σ5 f5 s5 rs5=>⟨P5,φ5,sl5,st5,fa.trans f5,s5,rs5,e7⟩
    |ct sl5 st5=>exact fun P5 φ5 H5 σ5 f5 s5 rs5=>⟨P5,φ5,sl5,st5,fa.trans f5,s5,rs5,e7⟩
    |bk sl5 st5=>cases e7;exact fun P5 φ5 H5 σ5 f5 s5 rs5=>q P5 φ5 H5 σ5 (fa.trans f5) s5 rs5
    |rt v st5=>cases e7;exact fun P5 φ5 H5 w f5 s5 r5=>q P5 φ5 H5 w (fa.trans f5) s5 r5
   |false =>
    rw[hb']at e2;simp only[yB,if_false]at e2 ⊢;cases e2;exact q P3 φ3 H3 σ' (f2.trans f3) s3 (rs2.frm f3)
end
abbrev Fn:=List AV->aa->Option (AV×aa)
def c5[LS](mg:Gm)(n:Nat)(fn:Fn):Sp:=fun vs H Q _=>vs.length=n/\∃P φ args st,LX mg P H φ args vs/\Sim mg P φ st H/\KG mg RA P φ H (fn args st) Q
def dZ:Nat->aa->AV->Option AV
 |n+1,st,.ref k=>match st[k]? with
  |some (.lst xs)=>(bI (dZ n st) xs).map .fz
  |some (.al t)=>some t
  |_=>none
 |n+1,st,.tup xs=>(bI (dZ n st) xs).map .tup
 |0,_,.ref _=>none
 |0,_,.tup _=>none
 |_,_,t=>some t
def eA:aa->AV->Option AV:=dZ 6
mutual
noncomputable def flat:AV->Bool
 |.ref _=>false
 |.fz _=>false
 |.tup xs=>mE xs
 |_=>true
noncomputable def mE:List AV->Bool
 |[]=>true
 |x::xs=>flat x&&mE xs
end
def oq(st:aa)(x:AV):Option (AV×aa):=if rf x=true then some (x,st) else match x with
 |.ref k=>match st[k]? with
  |some (.lst xs)=>if rfs xs=true then some (.fz xs,st.set k (.al (.fz xs))) else none
  |some (.al t)=>some (t,st)
  |_=>none
 |_=>none
def mB:aa->List AV->Option (List AV×aa)
 |st,[]=>some ([],st)
 |st,x::xs=>(oq st x).bind fun p=>(mB p.2 xs).map fun q=>(p.1::q.1,q.2)
def pm(fn:Fn):Fn:=fun args st=>if rfs args=true then(fn args []).bind fun p=>(eA p.2 p.1).map fun t=>(t,st)
 else(bI (eA st) args).bind fun ts=>(fn ts []).bind fun p=>(eA p.2 p.1).bind fun t=>if flat t=true then some (t,st) else
  (mB st args).bind fun q=>(fn q.1 []).bind fun p=>(eA p.2 p.1).map fun t=>(t,q.2)
section
variable{mg:Gm}{P:Pr}{φ:List Addr}{st:aa}{H:Hp}
theorem xg[LS]{n:Nat}(ih:∀v w t,dZ n st v=some t->RA mg P H φ v w->RA mg P' H [] t w):∀{xs:List AV}{vs:List V}{ts:List AV},bI (dZ n st) xs=some ts->LX mg P H φ xs vs->LX mg P' H [] ts vs:=by
 intro xs
 induction xs with
 |nil=>intro vs ts e r;cases e;simp only[LX]at r ⊢;exact r
 |cons x xs ihx =>
  intro vs ts e r;simp only[bI]at e;obtain⟨y,e1,e2⟩:=zA e;obtain⟨ys,e3,e4⟩:=zE.mp e2;subst e4;simp only[LX]at r;obtain⟨v,ws,rfl,r1,r2⟩:=r;exact aR (ih x v y e1 r1) (ihx e3 r2)
theorem pw[LS](s:Sim mg P φ st H):∀(n:Nat)(v:AV)(w:V)(t:AV),dZ n st v=some t->RA mg P H φ v w->RA mg (fun a=>P a\/a∈φ) H [] t w:=by
 have ex:∀a,P a->(P a\/a∈φ)/\H a=H a:=fun a h=>⟨.inl h,rfl⟩
 have pl:∀{t:AV}{w:V},R.rf t=true->RA mg P H φ t w->RA mg (fun a=>P a\/a∈φ) H [] t w:=fun h r=>(RA.rf (ψ:=[]) h r).mono ex fun _ _ z=>z
 intro n
 induction n with
 |zero =>
  intro v w t e r;cases v <;> simp only [dZ] at e <;> first | (cases e;done) | skip
  all_goals cases e;exact pl rfl r
 |succ n ih =>
  intro v w t e r;cases v with
  |ref k =>
   simp only[dZ]at e;simp only[RA]at r;obtain⟨a,ea,rfl⟩:=r;split at e
   ·rename_i xs hk
    obtain⟨ts,e1,e2⟩:=zE.mp e;subst e2;obtain⟨a',ea',c⟩:=s.at hk;rw[ea]at ea';cases ea';obtain⟨_,vs,h1,h2⟩:=c;simp only[RA];exact⟨a,vs,rfl,.inl ⟨.inr (zW ea),.inl h1⟩,xg ih e1 h2⟩
   ·rename_i t' hk
    cases e;obtain⟨a',ea',c⟩:=s.at hk;rw[ea]at ea';cases ea';exact c.2.mono ex fun _ _ z=>z
   ·cases e
  |tup xs =>
   simp only[dZ]at e;obtain⟨ts,e1,e2⟩:=zE.mp e;subst e2;simp only[RA]at r;obtain⟨a,vs,rfl,p,h1,h2⟩:=r;simp only[RA];exact⟨a,vs,rfl,.inl p,h1,xg ih e1 h2⟩
  |_=>simp only[dZ]at e;cases e;exact pl rfl r
mutual
theorem RA.fl[LS](h:∀a vs,P a->H a=some (.tup vs)->P' a):∀{t:AV}{w:V},flat t=true->RA mg P H φ t w->RA mg P' H ψ t w
 |.non,_,_,r=>by simp only[RA]at r ⊢;exact r
 |.bl _,_,_,r=>by simp only[RA]at r ⊢;exact r
 |.int _,_,_,r=>by simp only[RA]at r ⊢;exact r
 |.str _,_,_,r=>by simp only[RA]at r ⊢;exact r
 |.ref _,_,e,_=>by simp only[flat]at e;cases e
 |.fz _,_,e,_=>by simp only[flat]at e;cases e
 |.tup xs,_,e,r=>by
  simp only[RA,flat]at r e ⊢;obtain⟨a,vs,rfl,p,h1,h2⟩:=r;exact⟨a,vs,rfl,h a vs p h1,h1,LX.fl h e h2⟩
theorem LX.fl[LS](h:∀a vs,P a->H a=some (.tup vs)->P' a):∀{ts:List AV}{ws:List V},mE ts=true->LX mg P H φ ts ws->LX mg P' H ψ ts ws
 |[],_,_,r=>by simp only[LX]at r ⊢;exact r
 |t::ts,_,e,r=>by
  simp only[LX,mE,zC]at r e ⊢;obtain⟨v,ws,rfl,r1,r2⟩:=r;exact⟨v,ws,rfl,RA.fl h e.1 r1,LX.fl h e.2 r2⟩
end
theorem E4[LS](s:Sim mg P φ st H)(e:oq st x=some (t,st'))(r:RA mg P H φ x v):∃P',Frm P φ H P' φ H/\Sim mg P' φ st' H/\RA mg P' H [] t v:=by
 unfold oq at e;split at e
 ·rename_i h
  cases e;exact⟨P,Frm.refl,s,RA.rf h r⟩
 ·cases x with
  |ref k =>
   simp only[RA]at r;obtain⟨a,ea,rfl⟩:=r;dsimp only at e;split at e
   ·rename_i xs hk
    split at e
    ·rename_i hr
     cases e;obtain⟨a',ea',c⟩:=s.at hk;rw[ea]at ea';cases ea';obtain⟨na,vs,h1,h2⟩:=c;have ex:∀b,P b->(P b\/b=a)/\H b=H b:=fun b h=>⟨.inl h,rfl⟩
     have hm:=zW ea;have rr:RA mg (fun b=>P b\/b=a) H [] (.fz xs) (.ref a):=by
      simp only[RA];exact⟨a,vs,rfl,.inl ⟨.inr rfl,.inl h1⟩,(LX.rf hr h2).mono ex fun _ _ z=>z⟩
     have dm:∀b,(P b\/b=a)->H b≠none:=fun b h=>by
      rcases h with h|h
      ·exact s.dom b h
      ·rw[h];exact s.cd a hm
     refine⟨fun b=>P b\/b=a,⟨ex,⟨[],by simp,by simp⟩,fun _ _ _ _=>rfl,fun b h=>?_,fun _ h=>h,fun _ _ _ h=>h⟩,⟨by rw[List.length_set];exact s.len,s.nd,dm,s.cd,fun j c b e1 e2=>?_,fun t ht=>⟨(s.tb t ht).1,fun z=>z.elim (s.tb t ht).2 fun z=>s.tnc ht (by rw[z];exact hm)⟩⟩,rr⟩
     ·rcases h with h|h
      ·exact .inl h
      ·exact .inr (.inr (by rw[h];exact hm))
     ·by_cases hj:j=k
      ·subst hj
       rw[ea]at e2;cases e2;rw[List.getElem?_set_self (by rw[<- s.len];exact(zB.mp ea).1)]at e1;cases e1;exact⟨.inr rfl,rr⟩
      ·rw[List.getElem?_set_ne (Ne.symm hj)]at e1
       refine(s.cell j c b e1 e2).mono ex (fun _ _ z=>z) rfl fun n z=>?_
       rcases z with z|z
       ·exact n z
       ·refine hj ?_
        subst z;obtain⟨h1,e1⟩:=zB.mp e2;obtain⟨h2,e2⟩:=zB.mp ea;exact(List.getElem_inj s.nd).mp (e1.trans e2.symm)
    ·cases e
   ·rename_i t' hk
    cases e;obtain⟨a',ea',c⟩:=s.at hk;rw[ea]at ea';cases ea';exact⟨P,Frm.refl,s,c.2⟩
   ·cases e
  |_=>cases e
theorem E2[LS]:∀{xs ts:List AV}{st st':aa}{P:Pr}{vs:List V},Sim mg P φ st H->mB st xs=some (ts,st')->LX mg P H φ xs vs->∃P',Frm P φ H P' φ H/\Sim mg P' φ st' H/\LX mg P' H [] ts vs:=by
 intro xs
 induction xs with
 |nil=>intro ts st st' P vs s e r;cases e;simp only[LX]at r;subst r;exact⟨P,Frm.refl,s,bo⟩
 |cons x xs ih =>
  intro ts st st' P vs s e r;simp only[mB]at e;obtain⟨p,e1,e2⟩:=zA e;obtain⟨q,e3,e4⟩:=zE.mp e2;cases e4;simp only[LX]at r;obtain⟨v,ws,rfl,r1,r2⟩:=r;obtain⟨P1,f1,s1,q1⟩:=E4 s e1 r1;obtain⟨P2,f2,s2,q2⟩:=ih s1 e3 (r2.frm f1);exact⟨P2,f1.trans f2,s2,aR (q1.mono f2.ext fun _ _ z=>z) q2⟩
theorem HE[LS]{fn:Fn}{args:List AV}{vs:List V}{Q:VK}(s:Sim mg P φ st H)(r:LX mg P H [] args vs)(h:KG mg RA P φ H ((fn args []).bind fun p=>(eA p.2 p.1).map fun t=>(t,st)) Q):∃P φ args st,LX mg P H φ args vs/\Sim mg P φ st H/\KG mg RA P φ H (fn args st) Q:=by
 obtain⟨t,st',e,k⟩:=h;obtain⟨p,e1,e2⟩:=zA e;obtain⟨t',e3,e4⟩:=zE.mp e2;cases e4;refine⟨P,[],args,[],r,Sim.nil s.dom s.tb,p.1,p.2,e1,fun P1 φ1 H1 w f1 s1 r1=>?_⟩;obtain⟨m,em,nm⟩:=f1.new;have kp:∀a,H a≠none->(∀ps,H a≠some (.tbl ps))->H1 a=H a:=fun a h=>f1.keep a h (by simp)
 have kc:=s.ckeep (fun a h=>(f1.ext a h).2) kp;have nn:∀a,(P1 a\/a∈φ1)->P a\/H a=none:=fun a h=>by
  rcases h with h|h
  ·rcases f1.pn a h with z|z|z
   ·exact .inl z
   ·exact .inr z
   ·cases z
  ·rw[em]at h;exact .inr (nm a h)
 refine k (fun a=>P1 a\/a∈φ1) φ H1 w ⟨fun a h=>⟨.inl (f1.ext a h).1,(f1.ext a h).2⟩,⟨[],by simp,by simp⟩,fun a h _ z=>kp a h z,fun a h=>?_,f1.sm,f1.fz⟩ (s.stay (fun a h=>⟨.inl (f1.ext a h).1,(f1.ext a h).2⟩) kc (fun a h n z=>?_) (fun a h=>?_) fun t ht=>⟨(s1.tb t ht).1,fun z=>z.elim (s1.tb t ht).2 (s1.tnc ht)⟩) (RA.lift (pw s1 6 _ _ _ e3 r1))
 ·rcases nn a h with z|z
  ·exact .inl z
  ·exact .inr (.inl z)
 ·rcases nn a z with z|z
  ·exact n z
  ·exact s.cd a h z
 ·rcases h with h|h
  ·exact s1.dom a h
  ·exact s1.cd a h
theorem Gf[LS]{n:Nat}(h:c5 mg n (pm fn) vs H Q E):c5 mg n fn vs H Q E:=by
 obtain⟨hl,P,φ,args,st,r,s,k⟩:=h;refine⟨hl,?_⟩;unfold pm at k;split at k
 ·rename_i hr
  exact HE s (LX.rf hr r) k
 ·obtain⟨t,st',e,k⟩:=k
  obtain⟨ts,e1,e2⟩:=zA e;obtain⟨p,e3,e4⟩:=zA e2;obtain⟨t',e5,e6⟩:=zA e4;split at e6
  ·rename_i hf
   cases e6;have dm:∀a,(P a\/a∈φ)->H a≠none:=fun a h=>by
    rcases h with h|h
    ·exact s.dom a h
    ·exact s.cd a h
   refine⟨fun a=>P a\/a∈φ,[],ts,[],xg (fun v w t e r=>pw s 6 v w t e r) e1 r,Sim.nil dm (fun t ht=>⟨(s.tb t ht).1,fun z=>z.elim (s.tb t ht).2 (s.tnc ht)⟩),p.1,p.2,e3,fun P1 φ1 H1 w f1 s1 r1=>?_⟩;obtain⟨m,em,nm⟩:=f1.new;have kp:∀a,H a≠none->(∀ps,H a≠some (.tbl ps))->H1 a=H a:=fun a h=>f1.keep a h (by simp)
   have kc:=s.ckeep (fun a h=>(f1.ext a (.inl h)).2) kp;have ext:∀a,P a->((P1 a\/a∈φ1)/\(a∈φ->P a))/\H1 a=H a:=fun a h=>⟨⟨.inl (f1.ext a (.inl h)).1,fun _=>h⟩,(f1.ext a (.inl h)).2⟩
   refine k (fun a=>(P1 a\/a∈φ1)/\(a∈φ->P a)) φ H1 w ⟨ext,⟨[],by simp,by simp⟩,fun a h _ z=>kp a h z,fun a h=>?_,f1.sm,f1.fz⟩ (s.stay ext kc (fun a h n z=>n (z.2 h)) (fun a h=>?_) fun t ht=>⟨(s1.tb t ht).1,fun z=>z.1.elim (s1.tb t ht).2 (s1.tnc ht)⟩) (RA.fl (fun a us hP hT=>⟨hP,fun hm=>?_⟩) hf (pw s1 6 _ _ _ e5 r1))
   ·rcases h.1 with z|z
    ·rcases f1.pn a z with z|z|z
     ·rcases z with z|z
      ·exact .inl z
      ·exact .inr (.inr z)
     ·exact .inr (.inl z)
     ·cases z
    ·rw[em]at z;exact .inr (.inl (nm a z))
   ·rcases h.1 with h|h
    ·exact s1.dom a h
    ·exact s1.cd a h
   ·obtain⟨j,hj⟩:=z9 hm
    obtain⟨c,hc⟩:∃c,st[j]?=some c:=⟨_,zF (by rw[<- s.len];exact(zB.mp hj).1)⟩;have cr:=s.cell j c a hc hj;have hT':H a=some (.tup us):=by rw[<- kc a hm];exact hT
    cases c with
    |lst xs=>obtain⟨_,_,z,_⟩:=cr;rw[hT']at z;cases z
    |al t=>exact cr.1
    |dK LR=>obtain⟨_,_,z,_⟩:=cr;rw[hT']at z;cases z
    |dT LR=>obtain⟨_,_,z,_⟩:=cr;rw[hT']at z;cases z
    |ins c fs=>obtain⟨_,_,_,_,_,z,_⟩:=cr;rw[hT']at z;cases z
    |wk LR=>obtain⟨_,_,_,z,_⟩:=cr;rw[hT']at z;cases z
  ·obtain⟨q,e7,e8⟩:=zA e6
   obtain⟨P1,f1,s1,r1⟩:=E2 s e7 r;exact HE s1 r1 ⟨t,st',e8,fun P2 φ2 H2 w f2 s2 r2=>k P2 φ2 H2 w (f1.trans f2) s2 r2⟩
end
theorem FnOk.pm[LS]{P:Program}{w:World}{K:Frag}{mg:Str->Option Value}{base:Heap}{k:Nat}{f:Addr}{fd:FuncData}{ps:List Str}{n:Nat}{fn:Fn}(F:FnOk P w K mg base dW k f fd ps (c5 ⟨K,mg⟩ n fn)):FnOk P w K mg base dW k f fd ps (c5 ⟨K,mg⟩ n (R.pm fn)) :=
 F.imp fun _ _ _ _ h=>Gf h
def run(n:Nat)(b:SF):Fn:=fun args st=>(b (args.map some++List.replicate (n-args.length) none) st).bind fun o=>match o with
 |.rt v st=>some (v,st)
 |.nx _ st=>some (.non,st)
 |_=>none
theorem A9[LS](h:LX mg P H φ args vs):L3 mg P H φ (args.map some++List.replicate (N.length-args.length) none) (L2.start N vs):=by
 have hl:=h.length;unfold L2.start;refine⟨by simp[hl],fun i v e=>?_⟩;have hi:i<args.length:=by
  rcases yU i args.length with z|z
  ·exact z
  ·rw[z6 (by simpa using z),List.getElem?_replicate]at e
   split at e<;>cases e
 rw[zN (by simpa using hi),zR]at e;rw[zN (by rw[zH,<- hl];exact hi),zR];cases ha:args[i]? with
 |none=>rw[ha]at e;cases e
 |some x =>
  rw[ha]at e;cases e;obtain⟨w,e1,r1⟩:=h.get ha;exact⟨w,by rw[e1];rfl,r1⟩
def AC(fn:Fn)(g:AF):EF:=fun sl st=>(g sl st).bind fun p=>fn p.1 p.2
section
variable{X:Cx}{x:Str}{p pos:Pos}{e o:Expr}{es:List Expr}{k:Nat}{f:Addr}{fd:FuncData}{ps:List Str}{fn:Fn}{g:AF}{h:EF}
theorem Ju[LS]{n:Nat}(hn:∀sl st xs st',g sl st=some (xs,st')->xs.length=n)(q:rE mg (AC fn g) σ H Q):sO (c5 mg n fn) [] E (rA mg g) σ H Q:=by
 obtain⟨P,φ,sl,st,rs,s,kk⟩:=q;refine⟨P,φ,sl,st,rs,s,?_⟩;obtain⟨a,st',e1,q⟩:=kk.bind (Ra:=LX);refine⟨a,st',e1,fun P1 φ1 H1 b f1 s1 r1=>?_⟩;obtain⟨P2,φ2,st2,xs,f2,s2,r2,k2⟩:=q P1 φ1 H1 b f1 s1 r1;rw[List.append_nil];exact⟨by rw[<- r1.length];exact hn _ _ _ _ e1,P2,φ2,xs,st2,r2,s2,k2⟩
theorem BA[LS](F:FnOk X.prog X.w X.K X.mg X.base dW k f fd ps (c5 X.gm ps.length fn))(hr:Room k X.A)(hg:Gl X x)(hm:X.mg x=some (.ref f))(hk:keepIn X.K (.ref f)=true)(hb:Binds X.K fd ps [])
  (ha:QA X (e::es) g) (hn:∀sl st xs st',g sl st=some (xs,st')->xs.length=ps.length) (hdb:(x==("__debug__":Str))=false) (he:starEach (e::es) X.env=(false,eval e X.env)::starEach es X.env) (hpl:(backTo pos (starEach es X.env)).any (·.1)=false) :
  QE X (.Call (.Name x p) (e::es) [] pos) (AC fn g):=PE_imp (BV (E:=E0) F hr hg hm hk hb .nil lR ha hdb he hpl) fun _ _ _ q=>Ju hn q
theorem xo[LS](F:FnOk X.prog X.w X.K X.mg X.base dW k f fd ps (c5 X.gm ps.length fn))(hr:Room k X.A)(hg:Gl X x)(hm:X.mg x=some (.ref f))(hk:keepIn X.K (.ref f)=true)(hb:Binds X.K fd ps [])
  (hn:ps.length=0) (hdb:(x==("__debug__":Str))=false):QE X (.Call (.Name x p) [] [] pos) (AC fn d9):=PE_imp (xK (E:=E0) F hr hg hm hk hb .nil lR hdb) fun σ H Q q=>by
 obtain⟨P,φ,sl,st,rs,s,kk⟩:=q;exact⟨by simp[hn],P,φ,[],st,bo,s,kk⟩
def iJ(st:aa)(c:Str):AV->Option (List (Str×AV))
 |.ref k=>match st[k]? with
  |some (.ins c' fs)=>if c'=c then some fs else none
  |_=>none
 |_=>none
theorem l7(h:KVR mg P H φ fs ws)(f:Str):(fs.lookup f=none->ws.lookup f=none)/\∀v,fs.lookup f=some v->∃w,ws.lookup f=some w/\RA mg P H φ v w:=by
 induction fs generalizing ws with
 |nil =>
  have:ws=[]:=by simpa using h.1.symm
  subst this;exact⟨fun _=>rfl,fun v e=>by cases e⟩
 |cons p fs ih =>
  cases ws with
  |nil=>exact absurd h.1 (by simp)
  |cons q ws =>
   obtain⟨h1,h2⟩:=h;rw[zO,zO]at h1 h2;injection h1 with h3 h4;simp only[LX]at h2;obtain⟨v,vs,h5,h6,h7⟩:=h2;injection h5 with h8 h9;subst h8;subst h9;obtain⟨a,b⟩:=p;obtain⟨c,d⟩:=q;dsimp only at h3 h6;subst h3;rw[yO,yO];cases hb:f==a with
   |true=>exact⟨fun z=>(by cases z),fun v z=>(by cases z;exact⟨d,rfl,h6⟩)⟩
   |false=>exact ih ⟨h4,h7⟩
theorem lE[LS]{mg:Gm}{P:Pr}{φ:List Addr}{st:aa}{H:Hp}{c:Str}{v:AV}{w:V}{fs:List (Str×AV)}(s:Sim mg P φ st H)(h:iJ st c v=some fs)(r:RA mg P H φ v w) :
  ∃k a C dx ws,v=.ref k/\φ[k]?=some a/\¬P a/\w=.ref a/\mg.mg c=some (.ref C)/\H a=some (.ins C dx ws)/\KVR mg P H φ fs ws:=by
 cases v with
 |ref k =>
  simp only[iJ]at h;split at h
  ·rename_i c' fs' hk
   split at h
   ·rename_i hc
    cases h;subst hc;simp only[RA]at r;obtain⟨a,ea,rfl⟩:=r;obtain⟨a',ea',cr⟩:=s.at hk;rw[ea]at ea';cases ea';obtain⟨na,C,dx,ws,h1,h2,h3⟩:=cr;exact⟨k,a,C,dx,ws,rfl,ea,na,rfl,h1,h2,h3⟩
   ·cases h
  ·cases h
 |_=>cases h
def AB(c m:Str)(fn:Fn)(h:EF)(g:AF):EF:=fun sl st=>(h sl st).bind fun p=>(iJ p.2 c p.1).bind fun fs=>if(fs.lookup m).isNone=true then(g sl p.2).bind fun q=>fn (p.1::q.1) q.2 else none
theorem Et[LS]{n:Nat}(hC:mg.mg c=some (.ref C))(hn:∀sl st xs st',g sl st=some (xs,st')->xs.length+1=n)(q:rE mg (AB c m fn h g) σ H Q):sN C m (c5 mg n fn) [] E (rE mg h) (rA mg g) σ H Q:=by
 obtain⟨P,φ,sl,st,rs,s,v,st',e,k⟩:=q;obtain⟨p,e1,e2⟩:=zA e;obtain⟨fs,e3,e4⟩:=zA e2;split at e4
 ·rename_i hm
  obtain⟨q,e5,e6⟩:=zA e4;refine⟨P,φ,sl,st,rs,s,p.1,p.2,e1,fun P1 φ1 H1 w f1 s1 r1=>?_⟩;obtain⟨j,a,C',dx,ws,h1,h2,h3,rfl,h5,h6,h7⟩:=lE s1 e3 r1;rw[hC]at h5;cases h5;refine⟨a,dx,ws,rfl,h6,(l7 h7 m).1 (by simpa using hm),P1,φ1,sl,p.2,rs.frm f1,s1,q.1,q.2,e5,fun P2 φ2 H2 vs f2 s2 r2=>?_⟩;show c5 mg n fn (V.ref a::(vs++[])) H2 Q E;rw[List.append_nil];exact⟨by rw[yY,<- r2.length];exact hn _ _ _ _ e5,P2,φ2,p.1::q.1,q.2,aR (r1.frm f2) r2,s2,v,st',e6,fun P3 φ3 H3 w3 f3 s3 r3=>k P3 φ3 H3 w3 ((f1.trans f2).trans f3) s3 r3⟩
 ·cases e4
theorem By[LS](ho:QE X o h)(cl:Cls X.K C)(hC:X.mg c=some (.ref C))(hm:jt X.K C m f)(F:FnOk X.prog X.w X.K X.mg X.base dW k f fd ps (c5 X.gm ps.length fn))(hr:Room k X.A)(hb:Binds X.K fd ps [])
  (ha:QA X (e::es) g) (hn:∀sl st xs st',g sl st=some (xs,st')->xs.length+1=ps.length) (hst:starEach (e::es) X.env=(false,eval e X.env)::starEach es X.env) (hpl:(backTo pos (starEach es X.env)).any (·.1)=false)
  (ht:eval (.Call (.Attribute o m apos) (e::es) [] pos) X.env=(do
   let ov <- eval o X.env
   standAt apos.atName
   let(f,first) <- holding [ov] (getMethod ov m pl)
   callWith pos f first (backTo pos (starEach (e::es) X.env)) (backToKw pos (keywordEach [] X.env)))):QE X (.Call (.Attribute o m apos) (e::es) [] pos) (AB c m fn h g) :=
 PE_imp (BR (E:=E0) ho cl hm F hr hb .nil lR ha hst hpl ht) fun _ _ _ q=>Et hC hn q
theorem xn[LS](ho:QE X o h)(cl:Cls X.K C)(hC:X.mg c=some (.ref C))(hm:jt X.K C m f)(F:FnOk X.prog X.w X.K X.mg X.base dW k f fd ps (c5 X.gm ps.length fn))(hr:Room k X.A)(hb:Binds X.K fd ps [])
  (hn:ps.length=1)
  (ht:eval (.Call (.Attribute o m apos) [] [] pos) X.env=(do
   let ov <- eval o X.env
   standAt apos.atName
   let(f,first) <- holding [ov] (getMethod ov m pl)
   callWith pos f first (backTo pos (starEach [] X.env)) (backToKw pos (keywordEach [] X.env)))):QE X (.Call (.Attribute o m apos) [] [] pos) (AB c m fn h d9) :=
 PE_imp (xF (E:=E0) ho cl hm F hr hb .nil lR ht) fun σ H Q q=>by
  obtain⟨P,φ,sl,st,rs,s,v,st',e,k⟩:=Et (E:=E0) (C:=C) hC (g:=d9) (n:=1) (fun sl st xs st' e=>by cases e;rfl) q;refine⟨P,φ,sl,st,rs,s,v,st',e,fun P1 φ1 H1 w f1 s1 r1=>?_⟩;obtain⟨a,dx,fs,h1,h2,h3,h4⟩:=k P1 φ1 H1 w f1 s1 r1;refine⟨a,dx,fs,h1,h2,h3,?_⟩;obtain⟨P2,φ2,sl2,st2,rs2,s2,xs,st3,e3,k3⟩:=h4;cases e3
  have:=k3 P2 φ2 H1 [] Frm.refl s2 bo
  rw[hn];exact this
def wC(c:Str)(fn:Fn)(g:AF):EF:=fun sl st=>(g sl st).bind fun p=>(fn (.ref p.2.length::p.1) (p.2++[.ins c []])).bind fun q=>match q.1 with
 |.non=>some (.ref p.2.length,q.2)
 |_=>none
theorem BZ[LS]{mg:Gm}{P:Pr}{φ:List Addr}{st:aa}{H:Hp}{c:Str}{C x dx:Addr}(s:Sim mg P φ st H)(hC:mg.mg c=some (.ref C))(hx:H x=none)(hd:H dx=none)(ne:dx≠x) :
  Frm P φ H P (φ++[x]) (ae (ae H dx (.own x)) x (.ins C dx []))/\Sim mg P (φ++[x]) (st++[.ins c []]) (ae (ae H dx (.own x)) x (.ins C dx [])):=by
 have nd:∀a,H a≠none->a≠dx:=fun a h e=>h (by rw[e];exact hd)
 have f1:Frm P φ H P φ (ae H dx (.own x)):=⟨fun a h=>⟨h,ad (nd a (s.dom a h))⟩,⟨[],by simp,by simp⟩,fun a h _ _=>ad (nd a h),fun a h=>.inl h,fun a h=>by rw[ad (nd a h)];exact h,fun a o u h=>by rw[ad (aT h hd)];exact h⟩;have s1:Sim mg P φ st (ae H dx (.own x)):=s.stay f1.ext (fun a h=>ad (nd a (s.cd a h))) (fun _ _ h=>h) (fun a h=>f1.sm a (s.dom a h)) fun t ht=>⟨(s.tb t ht).1.new hd,(s.tb t ht).2⟩
 have hx1:ae H dx (.own x) x=none:=by rw[ad (Ne.symm ne)];exact hx
 obtain⟨f2,s2⟩:=ly (c:=.ins c []) (o:=.ins C dx []) s1 hx1 ⟨fun z=>s1.dom x z hx1,C,dx,[],hC,aw,rfl,bo⟩;exact⟨f1.trans f2,s2⟩
theorem Ja[LS]{mg:Gm}{c:Str}{C:Addr}{n:Nat}{E:XK}{σ:St}{H:Hp}{Q:VK}(hC:mg.mg c=some (.ref C))(hn:∀sl st xs st',g sl st=some (xs,st')->xs.length+1=n)(q:rE mg (wC c fn g) σ H Q):zt C (c5 mg n fn) [] E (rA mg g) σ H Q:=by
 obtain⟨P,φ,sl,st,rs,s,v,st',e,k⟩:=q;obtain⟨p,e1,e2⟩:=zA e;obtain⟨q,e3,e4⟩:=zA e2;refine⟨P,φ,sl,st,rs,s,p.1,p.2,e1,fun P1 φ1 H1 vs f1 s1 r1=>fun x dx hx hd ne=>?_⟩;obtain⟨f2,s2⟩:=BZ s1 hC hx hd ne;have rx:RA mg P1 (ae (ae H1 dx (.own x)) x (.ins C dx [])) (φ1++[x]) (.ref p.2.length) (.ref x):=by simp only[RA];exact⟨x,by rw[<- s1.len];simp,rfl⟩
 rw[List.append_nil];refine⟨by rw[yY,<- r1.length];exact hn _ _ _ _ e1,P1,φ1++[x],_,_,aR rx (r1.frm f2),s2,q.1,q.2,e3,fun P3 φ3 H3 w f3 s3 r3=>?_⟩;cases hq:q.1 with
 |non =>
  rw[hq]at e4 r3;cases e4;simp only[RA]at r3;exact⟨r3,k P3 φ3 H3 (.ref x) ((f1.trans f2).trans f3) s3 (rx.frm f3)⟩
 |_=>rw[hq]at e4;cases e4
theorem Dv[LS](M:Mk X.K C f)(F:FnOk X.prog X.w X.K X.mg X.base dW k f fd ps (c5 X.gm ps.length fn))(hr:Room (k+1) X.A)(hg:Gl X c)(hm:X.mg c=some (.ref C))(hb:Binds X.K fd ps [])
  (ha:QA X (e::es) g) (hn:∀sl st xs st',g sl st=some (xs,st')->xs.length+1=ps.length) (hdb:(c==("__debug__":Str))=false) (he:starEach (e::es) X.env=(false,eval e X.env)::starEach es X.env) (hpl:(backTo pos (starEach es X.env)).any (·.1)=false) :
  QE X (.Call (.Name c p) (e::es) [] pos) (wC c fn g):=PE_imp (BS (E:=E0) M F hr hg hm hb .nil lR ha hdb he hpl) fun _ _ _ q=>Ja hm hn q
def Ia(c fl:Str)(h:EF):EF:=fun sl st=>(h sl st).bind fun p=>(iJ p.2 c p.1).bind fun fs=>(fs.lookup fl).map fun v=>(v,p.2)
theorem Dw[LS](ho:QE X o h)(cl:Cls X.K C)(hC:X.mg c=some (.ref C))(na:NoAttr X.K C fl)(hb:attributeBase o fl X.env (eval o X.env)=eval o X.env):QE X (.Attribute o fl apos) (Ia c fl h) :=
 PE_imp (DW ho hb) fun σ H Q hq0=>by
  obtain⟨P,φ,sl,st,rs,s,v,st',e,k⟩:=hq0;obtain⟨p,e1,e2⟩:=zA e;obtain⟨fs,e3,e4⟩:=zA e2;obtain⟨t,e5,e6⟩:=zE.mp e4;cases e6;refine⟨P,φ,sl,st,rs,s,p.1,p.2,e1,fun P1 φ1 H1 w f1 s1 r1=>?_⟩;obtain⟨j,a,C',dx,ws,h1,h2,h3,rfl,h5,h6,h7⟩:=lE s1 e3 r1;have:C'=C:=by rw[show X.gm.mg c=X.mg c from rfl,hC]at h5;cases h5;rfl
  subst this;obtain⟨w,hw,rw'⟩:=(l7 h7 fl).2 _ e5;exact⟨a,C',dx,ws,w,rfl,h6,cl,na,hw,k P1 φ1 H1 w f1 s1 rw'⟩
noncomputable def ic(f:Str)(v:AV):List (Str×AV)->List (Str×AV)
 |[]=>[(f,v)]
 |(g,x)::r=>if g=f then(g,v)::r else(g,x)::ic f v r
theorem vh{mg:Gm}{P:Pr}{H:Hp}{φ:List Addr}{f:Str}{v:AV}{w:V}(r:RA mg P H φ v w):∀{fs:List (Str×AV)}{ws:List (Str×V)},KVR mg P H φ fs ws->KVR mg P H φ (ic f v fs) (dq f w ws):=by
 intro fs
 induction fs with
 |nil =>
  intro ws h;have:ws=[]:=by simpa using h.1.symm
  subst this;exact⟨rfl,aR r bo⟩
 |cons p fs ih =>
  intro ws h;cases ws with
  |nil=>exact absurd h.1 (by simp)
  |cons q ws =>
   obtain⟨h1,h2⟩:=h;rw[zO,zO]at h1 h2;injection h1 with h3 h4;simp only[LX]at h2;obtain⟨u,us,h5,h6,h7⟩:=h2;injection h5 with h8 h9;subst h8;subst h9;obtain⟨a,b⟩:=p;obtain⟨c,d⟩:=q;dsimp only at h3 h6;subst h3;have i:=ih (ws:=ws) ⟨h4,h7⟩;unfold ic dq;by_cases e:a=f
   ·rw[yI e,yI e]
    exact⟨by rw[zO,zO,h4],aR r h7⟩
   ·rw[yH e,yH e]
    exact⟨by rw[zO,zO,i.1],aR h6 i.2⟩
def u8(c fl:Str)(h f:EF):SF:=fun sl st=>(f sl st).bind fun p=>(h sl p.2).bind fun q=>match q.1 with
 |.ref k=>(iJ q.2 c (.ref k)).bind fun fs=>if Nat.ble fs.length 900=true then some (.nx sl (q.2.set k (.ins c (ic fl p.1 fs)))) else none
 |_=>none
theorem Di[LS](ho:QE X o h)(hv:QE X e f')(cl:Cls X.K C)(hC:X.mg c=some (.ref C))(na:NoAttr X.K C fl)(hs:swapsWith e (some (.Attribute o fl pos')) pos.line X.env=pure false):QS X (.Assign [.Attribute o fl pos'] e pos) (u8 c fl h f') :=
 PS_imp (DH ho hv hs) fun D σ H hq0=>by
  obtain⟨P,φ,sl,st,rs,s,out,eo,q⟩:=hq0;obtain⟨p,e1,e2⟩:=zA eo;obtain⟨r,e3,e4⟩:=zA e2;split at e4
  ·rename_i j hj
   obtain⟨fs,e5,e6⟩:=zA e4;split at e6
   ·rename_i hl
    cases e6;refine⟨P,φ,sl,st,rs,s,p.1,p.2,e1,fun P1 φ1 H1 w1 f1 s1 r1=>⟨P1,φ1,sl,p.2,rs.frm f1,s1,r.1,r.2,e3,fun P2 φ2 H2 w2 f2 s2 r2=>?_⟩⟩;rw[hj]at r2;obtain⟨j',a,C',dx,ws,h1,h2,h3,rfl,h5,h6,h7⟩:=lE s2 e5 r2;cases h1;have:C'=C:=by rw[show X.gm.mg c=X.mg c from rfl,hC]at h5;cases h5;rfl
    subst this;have ln:ws.length<1000:=by
     have z:=congrArg List.length h7.1;rw[zH,zH]at z
     have:=zS hl
     lia
    obtain⟨f3,s3⟩:=gG (c:=.ins c (ic fl p.1 fs)) (o:=.ins C' dx (dq fl w1 ws)) s2 h2 h3 ⟨h3,C',dx,_,hC,aw,(vh (r1.frm f2) h7).mono (fun b h=>⟨h,ad fun e=>h3 (e▸h)⟩) fun _ _ z=>z⟩ (fun _ _ z=>by rw[h6]at z;cases z);exact⟨a,C',dx,ws,rfl,h6,cl,na,ln,q P2 φ2 _ σ ((f1.trans f2).trans f3) s3 (((rs.frm f1).frm f2).frm f3)⟩
   ·cases e6
  ·cases e4
end
open DD (obj_list obj_tup minL minL_eq cnt_vals)
abbrev BF:=List AV->aa->Option (AV×aa)
def rB[LS](mg:Gm)(k:BF):List V->Hp->VK->Prop:=fun vs H Q=>∃P φ st xs,Sim mg P φ st H/\LX mg P H φ xs vs/\KG mg RA P φ H (k xs st) Q
def qD(k:BF)(g:AF):EF:=fun sl st=>(g sl st).bind fun p=>k p.1 p.2
theorem zb[LS](q:rE mg (qD k g) σ H Q):CV (rB mg k) (rA mg g) σ H Q:=by
 obtain⟨P,φ,sl,st,rs,s,kk⟩:=q;refine⟨P,φ,sl,st,rs,s,?_⟩;obtain⟨a,st',e1,q⟩:=kk.bind (Ra:=LX);refine⟨a,st',e1,fun P1 φ1 H1 b f1 s1 r1=>?_⟩;obtain⟨P2,φ2,st2,xs,f2,s2,r2,k2⟩:=q P1 φ1 H1 b f1 s1 r1;exact⟨P2,φ2,st2,xs,s2,r2,k2⟩
def bZ(h:aa->List AV->Option AV):BF:=fun xs st=>(h st xs).map fun z=>(z,st)
section
variable{X:Cx}{x:Str}{p pos:Pos}{e o a:Expr}{es:List Expr}{g:AF}{k:BF}{bid T:String}
theorem lQ[LS](hc:cw X (.builtin bid) (rB X.gm k))(hg:Gl X x)(hm:X.mg x=none)(hv:bootBuiltins x=some (.builtin bid))(ha:QA X (e::es) g)(hn:x≠"__name__")(hdb:(x==("__debug__":Str))=false)
  (he:starEach (e::es) X.env=(false,eval e X.env)::starEach es X.env) (hpl:(backTo pos (starEach es X.env)).any (·.1)=false):QE X (.Call (.Name x p) (e::es) [] pos) (qD k g) :=
 PE_imp (xJ hc hg hm hv ha hn hdb he hpl) fun _ _ _ q=>zb q
theorem F6[LS](hc:cw X (.type T) (rB X.gm k))(hg:Gl X x)(hm:X.mg x=none)(hv:bootBuiltins x=some (.type T))(ha:QA X (e::es) g)(hn:x≠"__name__")(hdb:(x==("__debug__":Str))=false)
  (he:starEach (e::es) X.env=(false,eval e X.env)::starEach es X.env) (hpl:(backTo pos (starEach es X.env)).any (·.1)=false):QE X (.Call (.Name x p) (e::es) [] pos) (qD k g) :=
 PE_imp (oh hc hg hm hv ha hn hdb he hpl) fun _ _ _ q=>zb q
theorem LX.one{mg:Gm}{P:Pr}{H:Hp}{φ:List Addr}{x:AV}{vs:List V}(h:LX mg P H φ [x] vs):∃v,vs=[v]/\RA mg P H φ x v:=by
 simp only[LX]at h;obtain⟨v,ws,rfl,r,rfl⟩:=h;exact⟨v,rfl,r⟩
theorem LX.two{mg:Gm}{P:Pr}{H:Hp}{φ:List Addr}{x y:AV}{vs:List V}(h:LX mg P H φ [x,y] vs):∃v w,vs=[v,w]/\RA mg P H φ x v/\RA mg P H φ y w:=by
 simp only[LX]at h;obtain⟨v,ws,rfl,r,w,us,rfl,r',rfl⟩:=h;exact⟨v,w,rfl,r,r'⟩
theorem mW(h:cw X f r)(i:∀xs H Q,r' xs H Q->r xs H Q):cw X f r':=fun LP s σ H xs us Q I rv h'=>h LP s σ H xs us Q I rv (i xs H Q h')
def d5(st:aa):List AV->Option AV
 |[v]=>match bA st v with
  |some xs=>some (.int xs.length)
  |none=>match ib st v with
   |some xs=>some (.int xs.length)
   |none=>match v with
    |.str x=>if cj x.length=true then some (.int x.length) else none
    |v=>match iA st v with
     |some LR=>some (.int LR.length)
     |none=>(kR st v).map fun LR=>.int LR.length
 |_=>none
theorem uc:cw X (.builtin "len") (fun xs H Q=>∃a LR,xs=[V.ref a]/\H a=some (.dK LR)/\Q (.int LR.length) H):=by
 intro LP s σ H xs us Q I r h;obtain⟨a,LR,rfl,ha,q⟩:=h;obtain⟨u,rfl,ru⟩:=dQ r;cases ru;obtain⟨z,hd,vs,rel,dd⟩:=Ap I.LZ ha;have hl:LR.length=vs.length:=Paired.length rel;have hz:sizeLine=16777216:=sizeLine_eq;exact call_len_dict hd dd oM ⟨.int _,H,I.tok _,⟨_,by rw[hl]⟩,q⟩
theorem G9[LS]:cw X (.builtin "len") (rB X.gm (bZ d5)):=by
 rintro LP s σ H vs us Q I rv ⟨P,φ,st,xs,sm,r,k0⟩;obtain⟨z,e,k⟩:=k0.map;clear k0;unfold d5 at e;split at e
 ·rename_i v
  obtain⟨w,ew,r9⟩:=r.one;clear r;subst ew;have r:=r9;clear r9;have ax:∀n:Nat,z=.int n->Q (.int n) H:=fun n h=>by subst h;exact k.pure sm (by simp only[RA])
  split at e
  ·rename_i ys e1
   cases e;obtain⟨a,vs,rfl,d1,q1⟩:=r.ls sm e1;exact jU LP s σ H _ us Q I rv ⟨a,vs,rfl,.inl d1,by rw[<- q1.length];exact ax _ rfl⟩
  ·split at e
   ·rename_i ys e1
    cases e;obtain⟨a,vs,rfl,d1,q1⟩:=r.tp sm e1;exact jU LP s σ H _ us Q I rv ⟨a,vs,rfl,.inr (.inl (.inl d1)),by rw[<- q1.length];exact ax _ rfl⟩
   ·cases v with
    |str x =>
     dsimp only at e;split at e
     ·rename_i hz
      cases e;simp only[RA]at r;subst r;exact qw LP s σ H _ us Q I rv ⟨x,rfl,iT hz,ax _ rfl⟩
     ·cases e
    |ref j =>
     simp only[RA]at r;obtain⟨a,ea,rfl⟩:=r;dsimp only[iA,kR]at e;cases hj:st[j]? with
     |none=>rw[hj]at e;cases e
     |some c =>
      rw[hj]at e;obtain⟨a',ea',c'⟩:=sm.at hj;rw[ea]at ea';cases ea';cases c with
      |dK LR =>
       cases e;obtain⟨_,ws,q1,q2⟩:=c'
       have:=congrArg List.length q2.1
       rw[zH,zH]at this;exact uc LP s σ H _ us Q I rv ⟨a,ws,rfl,q1,by rw[<- this];exact ax _ rfl⟩
      |dT LR =>
       cases e;obtain⟨_,ws,q1,q2⟩:=c'
       have:=congrArg List.length q2.1
       rw[zH,zH]at this;exact wu LP s σ H _ us Q I rv ⟨a,ws,rfl,q1,by rw[<- this];exact ax _ rfl⟩
      |_=>cases e
    |_=>cases e
 ·cases e
def kb:List AV->Option (List Int):=bI fun x=>match x with
 |.int i=>some i
 |_=>none
theorem vS(h:kb xs=some ns):xs=ns.map .int:=by
 unfold kb at h
 induction xs generalizing ns with
 |nil=>cases h;rfl
 |cons x xs ih =>
  simp only [bI] at h;obtain ⟨y,e1,e2⟩:=zA h;obtain ⟨ys,e3,e4⟩:=zE.mp e2;subst e4;cases x <;> first | (cases e1;done) | skip
  cases e1;rw[ih e3];rfl
def lsI(st:aa)(v:AV):Option (List Int):=(bA st v).bind kb
theorem RA.lsI[LS]{mg:Gm}{P:Pr}{H:Hp}{φ:List Addr}{st:aa}{v:AV}{w:V}{ns:List Int}(s:Sim mg P φ st H)(r:RA mg P H φ v w)(h:R.lsI st v=some ns):∃a,w=.ref a/\bB mg.K H a (ns.map .int):=by
 obtain⟨xs,e1,e2⟩:=zA h;obtain⟨a,vs,rfl,d1,q1⟩:=r.ls s e1
 have:=vS e2
 subst this;rw[q1.ints]at d1;exact⟨a,rfl,d1⟩
def pi(st:aa):List AV->Option AV
 |[v]=>(lsI st v).map fun ns=>.int ns.sum
 |_=>none
theorem G6[LS](hc:X.calm=true):cw X (.builtin "sum") (rB X.gm (bZ pi)):=by
 rintro LP s σ H vs us Q I rv ⟨P,φ,st,xs,sm,r,k0⟩;obtain⟨z,e,k⟩:=k0.map;clear k0;unfold pi at e;split at e
 ·rename_i v
  obtain⟨w,ew,r9⟩:=r.one;clear r;subst ew;have r:=r9;clear r9;obtain⟨ns,e1,rfl⟩:=zE.mp e;obtain⟨a,rfl,d1⟩:=r.lsI sm e1;obtain⟨u,rfl,ru⟩:=dQ rv;cases ru;obtain⟨LU,r',pl,_⟩:=I.list d1;have hi:IntsAre LU ns:=jk r';obtain⟨ys,hy⟩:=hi.allInts.items;refine sum_intListG (xs:=ys) (I.ok.hd hc) (by rw[<- hy];exact pl.isList) fun h' tk t' hk=>⟨.int ns.sum,H,I.kept hk,?_,k.pure sm (by simp only[RA])⟩
  have:(preSum (numAt ys) ys.size)=ns.sum:=by
   rw[preSum_eq,List.take_of_length_le (by simp),<- nums_intItems,<- hy];rw[show LU.toArray.toList=LU from rfl,hi.numsOf]
  rw[this];exact⟨t',rfl⟩
 ·cases e
def qC(_:aa):List AV->Option AV
 |[.int i]=>some (.int (if i<0 then -i else i))
 |_=>none
theorem Hc[LS]:cw X (.builtin "abs") (rB X.gm (bZ qC)):=mW yz fun vs H Q hq0=>by
 obtain⟨P,φ,st,xs,sm,r,k0⟩:=hq0;obtain⟨z,e,k⟩:=k0.map;unfold qC at e;split at e
 ·cases e
  obtain⟨w,ew,r9⟩:=r.one;clear r;subst ew;have r:=r9;clear r9;simp only[RA]at r;exact⟨_,by rw[r],k.pure sm (by simp only[RA])⟩
 ·cases e
def nA(st:aa):List AV->Option AV
 |[.int i,.int j]=>some (.int (if j<i then j else i))
 |[v]=>(lsI st v).bind fun ns=>(minL ns).map .int
 |_=>none
noncomputable def Eu:List Int->Option Int
 |[]=>none
 |x::xs=>some (xs.foldl (fun a b=>if a<b then b else a) x)
theorem Jb:∀(xs:List Int)(x:Int),(xs.foldl (fun a b=>if a<b then b else a) x∈x::xs)/\∀a∈x::xs,a<=xs.foldl (fun a b=>if a<b then b else a) x:=by
 intro xs
 induction xs with
 |nil=>intro x;exact⟨by simp,by simp⟩
 |cons y xs ih =>
  intro x;rw[List.foldl_cons];obtain⟨h1,h2⟩:=ih (if x<y then y else x);refine⟨?_,fun a ha=>?_⟩
  ·rcases zT.mp h1 with h|h
   ·rw[h];split<;>simp
   ·exact zQ _ (zQ _ h)
  ·have h3:=h2 _ z7
   rcases zT.mp ha with rfl|ha
   ·refine Int.le_trans ?_ h3;split<;>lia
   ·rcases zT.mp ha with rfl|ha
    ·refine Int.le_trans ?_ h3;split<;>lia
    ·exact h2 a (zQ _ ha)
theorem B5{m x:Int}(h:Eu ns=some m)(h1:x∈ns)(h2:∀a∈ns,a<=x):x=m:=by
 cases ns with
 |nil=>cases h
 |cons y ns =>
  obtain⟨a,b⟩:=Jb ns y;have e:ns.foldl (fun a b=>if a<b then b else a) y=m:=by injection h
  rw[e]at a b
  have:=h2 m a
  have:=b x h1
  lia
def tK(st:aa):List AV->Option AV
 |[.int i,.int j]=>some (.int (if j > i then j else i))
 |[v]=>(lsI st v).bind fun ns=>(Eu ns).map .int
 |_=>none
theorem G7[LS](hc:X.calm=true):cw X (.builtin "min") (rB X.gm (bZ nA)):=by
 rintro LP s σ H vs us Q I rv ⟨P,φ,st,xs,sm,r,k0⟩;obtain⟨z,e,k⟩:=k0.map;clear k0;unfold nA at e;split at e
 ·rename_i i j
  cases e;obtain⟨w,w',ew,r8,r9⟩:=r.two;clear r;subst ew;have r:=r8;have r':=r9;clear r8 r9;simp only[RA]at r r';subst r;subst r';exact wp hc LP s σ H _ us Q I rv ⟨i,j,rfl,k.pure sm (by simp only[RA])⟩
 ·rename_i v
  obtain⟨w,ew,r9⟩:=r.one;clear r;subst ew;have r:=r9;clear r9;obtain⟨ns,e1,e2⟩:=zA e;obtain⟨m,hm,rfl⟩:=zE.mp e2;obtain⟨a,rfl,d1⟩:=r.lsI sm e1;obtain⟨u,rfl,ru⟩:=dQ rv;cases ru;obtain⟨LU,r',pl,_⟩:=I.list d1;have hi:IntsAre LU ns:=jk r';obtain⟨ys,hy⟩:=hi.allInts.items;have hns':ns=ys.toList.map (·.1):=by rw[<- hi.numsOf,<- nums_intItems,<- hy]
  have hsz:0<ys.size:=by
   cases ns with
   |nil=>cases hm
   |cons n ns =>
    have:(n::ns).length=ys.size:=by rw[hns',zH,Array.length_toList]
    simp at this;lia
  refine min_intList (xs:=ys) (I.ok.hd hc) (by rw[<- hy];exact pl.isList) hsz fun v h' tk hv hk=>?_
  obtain⟨t,rfl⟩:=intItems_at hv;obtain⟨h1,h2⟩:=argBest_lt (numAt ys) (ys.size-1);refine⟨.int m,H,I.kept hk,?_,k.pure sm (by simp only[RA])⟩;have e:numAt ys (argBest (fun i j=>decide (numAt ys i<numAt ys j)) (ys.size-1))=m:=by
   refine minL_eq hm ?_ fun a ha=>?_
   ·rw[hns',numAt_eq];exact getD_mem (by rw[zH,Array.length_toList];lia)
   ·rw[hns']at ha
    obtain⟨j,hj,rfl⟩:=mem_getD ha;rw[zH,Array.length_toList]at hj;rw[<- numAt_eq];exact h2 j oM
  exact⟨t,by rw[e]⟩
 ·cases e
theorem G8[LS](hc:X.calm=true):cw X (.builtin "max") (rB X.gm (bZ tK)):=by
 rintro LP s σ H vs us Q I rv ⟨P,φ,st,xs,sm,r,k0⟩;obtain⟨z,e,k⟩:=k0.map;clear k0;unfold tK at e;split at e
 ·rename_i i j
  cases e;obtain⟨w,w',ew,r8,r9⟩:=r.two;clear r;subst ew;have r:=r8;have r':=r9;clear r8 r9;simp only[RA]at r r';subst r;subst r';exact wq hc LP s σ H _ us Q I rv ⟨i,j,rfl,k.pure sm (by simp only[RA])⟩
 ·rename_i v
  obtain⟨w,ew,r9⟩:=r.one;clear r;subst ew;have r:=r9;clear r9;obtain⟨ns,e1,e2⟩:=zA e;obtain⟨m,hm,rfl⟩:=zE.mp e2;obtain⟨a,rfl,d1⟩:=r.lsI sm e1;obtain⟨u,rfl,ru⟩:=dQ rv;cases ru;obtain⟨LU,r',pl,_⟩:=I.list d1;have hi:IntsAre LU ns:=jk r';obtain⟨ys,hy⟩:=hi.allInts.items;have hns':ns=ys.toList.map (·.1):=by rw[<- hi.numsOf,<- nums_intItems,<- hy]
  have hsz:0<ys.size:=by
   cases ns with
   |nil=>cases hm
   |cons n ns =>
    have:(n::ns).length=ys.size:=by rw[hns',zH,Array.length_toList]
    simp at this;lia
  refine max_intList (xs:=ys) (I.ok.hd hc) (by rw[<- hy];exact pl.isList) hsz fun v h' tk hv hk=>?_
  obtain⟨t,rfl⟩:=intItems_at hv;obtain⟨h1,h2⟩:=argBest_gt (numAt ys) (ys.size-1);refine⟨.int m,H,I.kept hk,?_,k.pure sm (by simp only[RA])⟩;have e:numAt ys (argBest (fun i j=>decide (numAt ys i > numAt ys j)) (ys.size-1))=m:=by
   refine B5 hm ?_ fun a ha=>?_
   ·rw[hns',numAt_eq];exact getD_mem (by rw[zH,Array.length_toList];lia)
   ·rw[hns']at ha
    obtain⟨j,hj,rfl⟩:=mem_getD ha;rw[zH,Array.length_toList]at hj;rw[<- numAt_eq];exact h2 j oM
  exact⟨t,by rw[e]⟩
 ·cases e
def p4(_:aa):List AV->Option AV
 |[.int i]=>some (.int i)
 |[.bl b]=>some (.int (if b then 1 else 0))
 |_=>none
theorem Ha[LS]:cw X (.type "int") (rB X.gm (bZ p4)):=mW ww fun vs H Q hq0=>by
 obtain⟨P,φ,st,xs,sm,r,k0⟩:=hq0;obtain⟨z,e,k⟩:=k0.map;unfold p4 at e;split at e
 ·cases e
  obtain⟨w,ew,r9⟩:=r.one;clear r;subst ew;have r:=r9;clear r9;simp only[RA]at r;exact .inl ⟨_,by rw[r],k.pure sm (by simp only[RA])⟩
 ·cases e
  obtain⟨w,ew,r9⟩:=r.one;clear r;subst ew;have r:=r9;clear r9;simp only[RA]at r;exact .inr ⟨_,by rw[r],k.pure sm (by simp only[RA])⟩
 ·cases e
end
open DD (reads_each)
abbrev MF:=AV->List AV->aa->Option (AV×aa)
def rM[LS](mg:Gm)(k:MF):V->List V->Hp->VK->Prop:=fun x vs H Q=>∃P φ st a xs,Sim mg P φ st H/\RA mg P H φ a x/\LX mg P H φ xs vs/\KG mg RA P φ H (k a xs st) Q
def ph(T:String)(st:aa)(v:AV):Bool:=match v with
 |.str _=>T=="str"
 |.int _=>T=="int"
 |v=>if T="list" then(bA st v).isSome else if T="dict" then(iA st v).isSome||(kR st v).isSome else false
def k4(T:String)(k:MF)(f:EF)(g:AF):EF:=fun sl st=>(f sl st).bind fun p=>if ph T p.2 p.1=true then(g sl p.2).bind fun q=>k p.1 q.1 q.2 else none
section
variable{X:Cx}{e o:Expr}{es:List Expr}{f:EF}{g:AF}{k:MF}{name:Str}{apos cpos:Pos}{T mid:String}
theorem AW[LS]{P:Pr}{φ:List Addr}{st:aa}{H:Hp}{v:AV}{w:V}(s:Sim X.gm P φ st H)(r:RA X.gm P H φ v w)(h:ph T st v=true):uw X.K T w H:=by
 have gen:(if T="list" then(bA st v).isSome else if T="dict" then(iA st v).isSome||(kR st v).isSome else false)=true->uw X.K T w H:=fun h=>by
  split at h
  ·rename_i hT
   obtain⟨xs,e⟩:=Option.isSome_iff_exists.mp h;obtain⟨a,vs,rfl,d1,_⟩:=r.ls s e;exact .inl ⟨hT,vs,d1⟩
  ·split at h
   ·rename_i hT
    cases v with
    |ref j =>
     simp only[RA]at r;obtain⟨a,ea,rfl⟩:=r;simp only[iA,kR]at h;cases hj:st[j]? with
     |none=>rw[hj]at h;simp at h
     |some c =>
      rw[hj]at h;obtain⟨a',ea',c'⟩:=s.at hj;rw[ea]at ea';cases ea';cases c with
      |dK LR=>obtain⟨_,ws,q1,_⟩:=c';exact .inr (.inr (.inl ⟨hT,.inl ⟨ws,q1⟩⟩))
      |dT LR=>obtain⟨_,ws,q1,_⟩:=c';exact .inr (.inr (.inl ⟨hT,.inr ⟨ws,q1⟩⟩))
      |_=>simp at h
    |_=>simp[iA,kR]at h
   ·cases h
 unfold ph at h;cases v with
 |str x=>simp only[RA]at r;subst r;exact yK h
 |int x=>simp only[RA]at r;subst r;exact yK h
 |_=>exact gen h
theorem Em[LS](q:rE X.gm (k4 T k f g) σ H Q):Ht X.K T (rM X.gm k) (rE X.gm f) (rA X.gm g) σ H Q:=by
 obtain⟨P,φ,sl,st,rs,s,v,st',ev,kk⟩:=q;obtain⟨p,e1,e2⟩:=zA ev;split at e2
 ·rename_i hT
  obtain⟨r,e3,e4⟩:=zA e2;exact⟨P,φ,sl,st,rs,s,p.1,p.2,e1,fun P1 φ1 H1 w f1 s1 r1=>⟨AW s1 r1 hT,P1,φ1,sl,p.2,rs.frm f1,s1,r.1,r.2,e3,fun P2 φ2 H2 ws f2 s2 r2=>⟨P2,φ2,r.2,p.1,r.1,s2,r1.frm f2,r2,v,st',e4,fun P3 φ3 H3 w3 f3 s3 r3=>kk P3 φ3 H3 w3 ((f1.trans f2).trans f3) s3 r3⟩⟩⟩
 ·cases e2
theorem oS[LS](pa:PlainAttrs T)(slot:Slot T name mid)(hty:typeOf (.builtin mid)=pure (.type "method_descriptor"))(hm:k8 X mid (rM X.gm k))(ho:QE X o f)(ha:QA X (e::es) g)
  (hbase:attributeBase o name X.env (eval o X.env)=eval o X.env)
  (hfew:((backTo cpos (starEach (e::es) X.env)).all (fun x=>!x.1)&&(backToKw cpos (keywordEach [] X.env)).all (fun x=>x.1.isSome)
   && decide ((e::es).length+([]:List Keyword).length+(if([]:List Keyword).isEmpty then 0 else 1)<30))=true)
  (hline:(apos.endLine==cpos.line)=true) (hs:starEach (e::es) X.env=(false,eval e X.env)::starEach es X.env) (hplain:(backTo cpos (starEach es X.env)).any (·.1)=false) :
  QE X (.Call (.Attribute o name apos) (e::es) [] cpos) (k4 T k f g):=PE_imp (Gn pa slot hty hm ho ha hbase hfew hline hs hplain) fun _ _ _ q=>Em q
theorem lP[LS](pa:PlainAttrs T)(slot:Slot T name mid)(hty:typeOf (.builtin mid)=pure (.type "method_descriptor"))(hm:k8 X mid (rM X.gm k))(ho:QE X o f)
  (hbase:attributeBase o name X.env (eval o X.env)=eval o X.env) (hline:(apos.endLine==cpos.line)=true):QE X (.Call (.Attribute o name apos) [] [] cpos) (k4 T k f d9) :=
 PE_imp (DX pa slot hty hm ho hbase hline) fun σ H Q q=>by
  obtain⟨P,φ,sl,st,rs,s,v,st',ev,kk⟩:=Em q;refine⟨P,φ,sl,st,rs,s,v,st',ev,fun P1 φ1 H1 w f1 s1 r1=>?_⟩;obtain⟨h1,P2,φ2,sl2,st2,rs2,s2,xs,st3,e3,k3⟩:=kk P1 φ1 H1 w f1 s1 r1;cases e3;exact⟨h1,k3 P2 φ2 H1 [] Frm.refl s2 bo⟩
theorem lI(h:k8 X mid r)(i:∀x xs H Q,r' x xs H Q->r x xs H Q):k8 X mid r':=fun LP s σ H x xs v us Q I rx rv h'=>h LP s σ H x xs v us Q I rx rv (i x xs H Q h')
def gD(st:aa):AV->Option (Nat×List AV)
 |.ref k=>match st[k]? with
  |some (.lst xs)=>some (k,xs)
  |_=>none
 |_=>none
theorem jT[LS]{mg:Gm}{P:Pr}{φ:List Addr}{st:aa}{H:Hp}{v:AV}{w:V}{j:Nat}{xs:List AV}(s:Sim mg P φ st H)(r:RA mg P H φ v w)(h:gD st v=some (j,xs)):∃a vs,w=.ref a/\φ[j]?=some a/\¬P a/\H a=some (.lst vs)/\LX mg P H φ xs vs:=by
 cases v with
 |ref i =>
  simp only[gD]at h;split at h
  ·rename_i ys hj
   cases h;simp only[RA]at r;obtain⟨a,ea,rfl⟩:=r;obtain⟨a',ea',na,vs,h1,h2⟩:=s.at hj;rw[ea]at ea';cases ea';exact⟨a,vs,rfl,ea,na,h1,h2⟩
  ·cases h
 |_=>cases h
theorem mY[LS]{mg:Gm}{P:Pr}{φ:List Addr}{st:aa}{H:Hp}{j:Nat}{a:Addr}{ys:List AV}{us:List V}(s:Sim mg P φ st H)(ea:φ[j]?=some a)(na:¬P a)(nz:∃vs,H a=some (.lst vs))(r:LX mg P H φ ys us) :
  Frm P φ H P φ (ae H a (.lst us))/\Sim mg P φ (st.set j (.lst ys)) (ae H a (.lst us))/\∀{t:AV}{w:V},RA mg P H φ t w->RA mg P (ae H a (.lst us)) φ t w:=by
 have ex:∀b,P b->P b/\ae H a (.lst us) b=H b:=fun b h=>⟨h,ad fun e=>na (e▸h)⟩
 obtain⟨f3,s3⟩:=gG (c:=.lst ys) (o:=.lst us) s ea na ⟨na,us,aw,r.mono ex fun _ _ z=>z⟩ (fun _ _ z=>by obtain⟨vs,q⟩:=nz;rw[q]at z;cases z);exact⟨f3,s3,fun h=>h.mono ex fun _ _ z=>z⟩
def pP:MF:=fun x xs st=>match xs with
 |[y]=>(gD st x).bind fun c=>if cj c.2.length=true then some (.non,st.set c.1 (.lst (c.2++[y]))) else none
 |_=>none
theorem FT{n:Nat}(h:cj n=true):n<sizeLine:=yM (zS h) dC
theorem Ag[LS]:k8 X "list.append" (rM X.gm pP):=lI oi fun x vs H Q hq0=>by
 obtain⟨P,φ,st,a,xs,s,r,rr,v,st',e,kk⟩:=hq0;unfold pP at e;split at e
 ·rename_i y
  obtain⟨c,e1,e2⟩:=zA e;split at e2
  ·rename_i hz
   cases e2;obtain⟨b,us,rfl,ea,na,h1,h2⟩:=jT s r e1;obtain⟨w,rfl,r1⟩:=rr.one;obtain⟨f3,s3,_⟩:=mY s ea na ⟨_,h1⟩ (h2.app (aR r1 bo));exact⟨b,us,w,rfl,rfl,h1,by rw[<- h2.length];exact FT hz,kk P φ _ _ f3 s3 (by simp only[RA])⟩
  ·cases e2
 ·cases e
def tO:MF:=fun x xs st=>match xs with
 |[]=>(gD st x).bind fun c=>(c.2[c.2.length-1]?).map fun y=>(y,st.set c.1 (.lst c.2.dropLast))
 |_=>none
theorem LX.dropLast(h:LX mg P H φ xs vs):LX mg P H φ xs.dropLast vs.dropLast:=by
 rw[List.dropLast_eq_take,List.dropLast_eq_take,h.length];exact h.take _
theorem Ad[LS]:k8 X "list.pop" (rM X.gm tO):=lI En fun x vs H Q hq0=>by
 obtain⟨P,φ,st,a,xs,s,r,rr,v,st',e,kk⟩:=hq0;unfold tO at e;split at e
 ·obtain⟨c,e1,e2⟩:=zA e
  obtain⟨y,e3,e4⟩:=zE.mp e2;cases e4;obtain⟨b,us,rfl,ea,na,h1,h2⟩:=jT s r e1;simp only[LX]at rr;obtain⟨w,e5,r5⟩:=h2.get e3;obtain⟨f3,s3,lf⟩:=mY s ea na ⟨_,h1⟩ h2.dropLast;exact⟨b,us,w,rfl,rr,h1,by rw[<- h2.length];exact e5,kk P φ _ _ f3 s3 (lf r5)⟩
 ·cases e
def tP:MF:=fun x xs st=>match xs with
 |[y]=>(gD st x).bind fun c=>(bA st y).bind fun ys=>if cj (c.2.length+ys.length)=true then some (.non,st.set c.1 (.lst (c.2++ys))) else none
 |_=>none
theorem Ae[LS]:k8 X "list.extend" (rM X.gm tP):=lI B4 fun x vs H Q hq0=>by
 obtain⟨P,φ,st,a,xs,s,r,rr,v,st',e,kk⟩:=hq0;unfold tP at e;split at e
 ·rename_i y
  obtain⟨c,e1,e2⟩:=zA e;obtain⟨ys,e3,e4⟩:=zA e2;split at e4
  ·rename_i hz
   cases e4;obtain⟨b,us,rfl,ea,na,h1,h2⟩:=jT s r e1;obtain⟨w,rfl,r1⟩:=rr.one;obtain⟨b2,us2,rfl,d2,q2⟩:=r1.ls s e3;obtain⟨f3,s3,_⟩:=mY s ea na ⟨_,h1⟩ (h2.app q2);exact⟨b,b2,us,us2,rfl,rfl,h1,d2,by rw[<- h2.length,<- q2.length];exact iT hz,kk P φ _ _ f3 s3 (by simp only[RA])⟩
  ·cases e4
 ·cases e
def xU:MF:=fun x xs st=>match xs with
 |[y]=>(ce 9 st x).bind fun p=>(ce 9 st y).bind fun q=>match p with
  |.list ps=>if(ps.all fun r=>pyOk r q)=true then some (.int ((ps.countP fun r=>PyData.eqv r q:Nat):Int),st) else none
  |_=>none
 |_=>none
theorem Af[LS](hu:X.A.units+64<cLine):k8 X "list.count" (rM X.gm xU):=by
 rintro LP s σ H x vs v us Q I rx rv ⟨P,φ,st,a,xs,sm,r,rr,z,st',e,kk⟩;unfold xU at e;split at e
 ·rename_i y
  obtain⟨p,e1,e2⟩:=zA e;obtain⟨q,e3,e4⟩:=zA e2;split at e4
  ·rename_i ps
   split at e4
   ·rename_i LZ
    cases e4;obtain⟨w,rfl,r1⟩:=rr.one;obtain⟨u,rfl,ru⟩:=rv.one;obtain⟨as,ra⟩:=fY I sm 9 _ _ _ _ r e1 rx;obtain⟨bs,rb⟩:=fY I sm 9 _ _ _ _ r1 e3 ru;cases ra with
    |@list a o items n xs as' hg hc hdt rall =>
     obtain⟨ocl,odi,oda,osl⟩:=o;dsimp only at hc hdt;subst hc;subst hdt
     classical
     have uq:∀z p' az,Reads s.heap z p' az->decide (∃p as,Reads s.heap z p as/\PyData.eqv p q=true)=PyData.eqv p' q:=by
      intro z p' az rz;rcases he:PyData.eqv p' q with _|_
      ·refine yA ?_
       rintro⟨p2,as',r',e'⟩
       have:=(PySem.Reads.unique rz p2 as' r').1
       rw[<- this,he]at e';cases e'
      ·exact yW ⟨p',az,rz,he⟩
     refine call_meets PySem.F.slot_list_count ⟨_,hg,rfl⟩ PySem.F.entry_list_count (PySem.F.args_list_count_2 _ _) (PySem.SeqAt.list_countAt a items n odi osl u (fun z=>decide (∃p as,Reads s.heap z p as/\PyData.eqv p q=true))) ⟨hg,?_,?_⟩
     ·intro z hz
      obtain⟨pz,az,hpz,rz⟩:=reads_each rall z (by simpa using hz);obtain⟨k1,k2,k3⟩:=nq (yR.mp LZ pz hpz);rw[uq z pz az rz];exact PySem.SeqAt.eqAt_reads pz q _ s z u az bs rz rb k1 k2 (by simp only[Around.in1_units];lia)
     ·have hc:=cnt_vals (q:=q) (e:=fun z=>decide (∃p as,Reads s.heap z p as/\PyData.eqv p q=true)) (h:=s.heap) (vs:=items.toList) (ps:=ps) (fun v p as rv=>uq v p as rv) rall
      rw[hc];exact⟨.int _,H,I.kept (fun _ _ e=>e),⟨_,rfl⟩,kk P φ H _ Frm.refl sm (by simp only[RA])⟩
   ·cases e4
  ·cases e4
 ·cases e
def Ib(t:Bool):EF:=fun _ st=>some (.ref st.length,st++[if t=true then .dT [] else .dK []])
theorem Bz[LS](hm:PE X (.Dict [] [] pos) uW):QE X (.Dict [] [] pos) (Ib false):=PE_imp hm fun σ H Q hq0=>by
 obtain⟨P,φ,sl,st,rs,s,v,st',e,kk⟩:=hq0;cases e;intro d hd;obtain⟨f3,s3⟩:=ly (c:=.dK []) (o:=.dK []) s hd ⟨fun z=>s.dom d z hd,[],aw,rfl,bo⟩;refine kk P _ _ _ f3 s3 ?_;simp only[RA];exact⟨d,by rw[<- s.len];simp,rfl⟩
end
theorem qy:bootBuiltins "min"=some (.builtin "min"):=by decide +kernel
def xR(ns:List Int):AV:=match minL ns with
 |some m=>.int m
 |none=>.non
def lY(st:aa):List AV->Option AV
 |[v]=>(lsI st v).map xR
 |_=>none
theorem Er(a:Value):argsOk "min" ⟨[a],[(Str.ofString "default",.none)]⟩:=by unfold argsOk;kernel_rfl
theorem Ep(a v:Value):argsOk "min" ⟨[a],[(Str.ofString "key",v),(Str.ofString "default",.none)]⟩:=by unfold argsOk;kernel_rfl
theorem Es{α:Type}{l:List α}{x:α}(h:x∈l):∃i:Nat,l[i]?=some x:=z9 h
section
variable{X:Cx}{a:Expr}{f:EF}{p pos kp pc:Pos}{j:Nat}
theorem Bx[LS](hc:X.calm=true)(hg:Gl X "min")(hm:X.mg "min"=none)(ha:QE X a f)(hs:starEach [a] X.env=[(false,eval a X.env)]) :
  QE X (.Call (.Name "min" p) [a] [⟨some "default",.Constant .none j pc,kp⟩] pos) (qD (bZ lY) (eI f d9)):=by
 intro LP s σ H Q I h;have hb:=zb h;refine wpAny_Call_Name_kw (c7 I hg hm qy (callWith_kw (aA ((cK ha eB (by rw[hs];rfl)) pos LP s σ H _ I hb) fun us s1 ⟨vs,H1,I1,r1,q1⟩=>?_) (by rw[hs];rfl) (by rw[hs];rfl) (by rfl) (by rfl)));refine kws_cons (Constant_none (kws_nil ?_));obtain⟨P,φ,st,xs,sm,r,k0⟩:=q1;obtain⟨z,e,k⟩:=k0.map;unfold lY at e;split at e
 ·rename_i v
  obtain⟨w,rfl,rv⟩:=r.one;obtain⟨ns,e1,e2⟩:=zE.mp e;obtain⟨l,rfl,hl⟩:=rv.lsI sm e1;obtain⟨u,rfl,ru⟩:=dQ r1;cases ru;refine pK (ko:=none) (ns:=ns) (I.ok.hd hc) (fun i=>ns.getD i 0) (fun _ H=>H=H1) (fun i H e=>by rw[e];exact hl) rfl (Er _) (fun i n u pl s H en ru eH I=>.inl ⟨rfl,by simp[en],eH⟩) (fun i n H en hmin eH=>?_) (fun en=>?_) I1 rfl
  ·subst eH
   have:minL ns=some n:=by
    cases hM:minL ns with
    |none =>
     cases ns with
     |nil=>simp at en
     |cons _ _=>cases hM
    |some m =>
     rw[minL_eq hM (zW en) fun b hb=>?_];obtain⟨i',hi'⟩:=Es hb;have h1:=(hmin i' (zB.mp hi').1).1;simpa [en,hi'] using h1
   have ez:z=.int n:=by rw[<- e2];unfold xR;rw[this]
   subst ez;exact k.pure sm (by simp only[RA])
  ·subst en
   have ez:z=.non:=by rw[<- e2];rfl
   subst ez;exact k.pure sm (by simp only[RA])
 ·cases e
end
def vM(key:EF)(sl:Sl)(st:aa)(n:Int):Option Int:=match key (sl++[some (.int n)]) st with
 |some (.int k,_)=>some k
 |_=>none
noncomputable def jW:Int->Int->List (Int×Int)->Int
 |n,_,[]=>n
 |n,k,(m,j)::r=>if j<k then jW m j r else jW n k r
def nV:List (Int×Int)->AV
 |[]=>.non
 |(n,k)::r=>.int (jW n k r)
def o0(f key:EF):EF:=fun sl st=>(f sl st).bind fun p=>(lsI p.2 p.1).bind fun ns=>(bI (vM key sl p.2) ns).map fun ks=>(nV (ns.zip ks),p.2)
def AG(f:EF):Prop:=∀sl st v st',f sl st=some (v,st')->st'=st
theorem kz:∀(r:List (Int×Int))(n k:Int),∃(i:Nat)(κ:Int),((n,k)::r)[i]?=some (jW n k r,κ)/\∀(j:Nat) q,((n,k)::r)[j]?=some q->κ<=q.2/\(j<i->κ<q.2)
 |[],n,k=>⟨0,k,rfl,fun j q e=>by
   cases j with
   |zero=>cases e;exact⟨Int.le_refl _,fun h=>absurd h (xB _)⟩
   |succ j=>simp at e⟩
 |(m,j0)::r,n,k=>by
  by_cases hb:j0<k
  ·obtain⟨i,κ,e1,e2⟩:=kz r m j0
   refine⟨i+1,κ,by rw[List.getElem?_cons_succ];simpa [jW,hb] using e1,fun j q e=>?_⟩;cases j with
   |zero =>
    cases e
    have:=(e2 0 (m,j0) rfl).1
    exact⟨by show κ<=k;lia,fun _=>by show κ<k;lia⟩
   |succ j =>
    rw[List.getElem?_cons_succ]at e;exact⟨(e2 j q e).1,fun h=>(e2 j q e).2 oM⟩
  ·obtain⟨i,κ,e1,e2⟩:=kz r n k
   have ea:jW n k ((m,j0)::r)=jW n k r:=by simp[jW,hb]
   have hk:=(e2 0 (n,k) rfl).1;refine⟨if i=0 then 0 else i+1,κ,?_,fun j q e=>?_⟩
   ·rw[ea]
    cases i with
    |zero=>simpa using e1
    |succ i=>simpa using e1
   ·cases j with
    |zero =>
     cases e;refine⟨hk,fun h=>?_⟩;cases i with
     |zero=>simp at h
     |succ i=>exact(e2 0 (n,k) rfl).2 (Nat.succ_pos i)
    |succ j =>
     rw[List.getElem?_cons_succ]at e;cases j with
     |zero =>
      cases e;refine⟨by show κ<=j0;lia,fun h=>?_⟩;cases i with
      |zero=>simp at h
      |succ i =>
       have:=(e2 0 (n,k) rfl).2 (Nat.succ_pos i)
       show κ<j0;have:κ<k:=this;lia
     |succ j =>
      rw[List.getElem?_cons_succ]at e
      have:=e2 (j+1) q (by rw[List.getElem?_cons_succ];exact e)
      refine⟨this.1,fun h=>this.2 ?_⟩;cases i with
      |zero=>simp at h
      |succ i=>simp at h;lia
theorem Cq{ns ks:List Int}{i:Nat}{n:Int}(hl:ns.length=ks.length)(hn:ns[i]?=some n)(hm:∀j,j<ns.length->ks.getD i 0<=ks.getD j 0/\(j<i->ks.getD i 0<ks.getD j 0)):nV (ns.zip ks)=.int n:=by
 have hi:i<ns.length:=(zB.mp hn).1;obtain⟨k,hk⟩:∃k,ks[i]?=some k:=⟨_,zF oM⟩;have hz:(ns.zip ks)[i]?=some (n,k):=by rw[List.getElem?_zip_eq_some];exact⟨hn,hk⟩
 have hd:ks.getD i 0=k:=by simp[hk]
 cases e:ns.zip ks with
 |nil=>rw[e]at hz;simp at hz
 |cons q r =>
  obtain⟨n0,k0⟩:=q;obtain⟨i',κ,e1,e2⟩:=kz r n0 k0;rw[<- e]at e1 e2;have e3:=List.getElem?_zip_eq_some.mp e1;have hi':i'<ns.length:=(zB.mp e3.1).1;have hd':ks.getD i' 0=κ:=by simp[e3.2]
  have m1:=hm i' hi';have m2:=e2 i (n,k) hz;rw[hd,hd']at m1;have m2a:κ<=k:=m2.1;have m2b:i<i'->κ<k:=m2.2;have:i=i':=by
   rcases Nat.lt_trichotomy i i' with h|h|h
   ·have:=m2b h;lia
   ·exact h
   ·have:=m1.2 h;lia
  subst this;rw[hn]at e3
  have:=e3.1
  simp only[nV];cases this;rfl
theorem pO{α β:Type}{f:α->Option β}:∀{l:List α}{r:List β},bI f l=some r->l.length=r.length/\∀(i:Nat) x,l[i]?=some x->∃y,r[i]?=some y/\f x=some y
 |[],r,h=>by cases h;exact⟨rfl,fun i x e=>by simp at e⟩
 |x::l,r,h=>by
  simp only[bI]at h;obtain⟨y,e1,e2⟩:=zA h;obtain⟨ys,e3,e4⟩:=zE.mp e2;subst e4;obtain⟨h1,h2⟩:=pO e3;refine⟨by simp[h1],fun i z e=>?_⟩;cases i with
  |zero=>cases e;exact⟨y,rfl,e1⟩
  |succ i=>exact h2 i z (by simpa using e)
section
variable{X:Cx}{a body:Expr}{f key:EF}{p pos kp lp kp2 pc:Pos}{j:Nat}{params:Arguments}{scope:Scope}{N':List Str}{x:Str}{c P:Addr}
theorem L3.snoc[LS]{mg:Gm}{P:Pr}{H:Hp}{φ:List Addr}{sl:Sl}{σ:St}{v:AV}{w:V}(h:L3 mg P H φ sl σ)(r:RA mg P H φ v w):L3 mg P H φ (sl++[some v]) (σ++[some w]):=by
 refine⟨by rw[zV,zV,h.1];rfl,fun i u e=>?_⟩;rcases yU i sl.length with hi|hi
 ·rw[zN hi]at e
  rw[zN (by rw[<- h.1];exact hi)];exact h.2 i u e
 ·rw[z6 hi]at e
  rw[z6 (by rw[<- h.1];exact hi),<- h.1];cases hk:i-sl.length with
  |zero=>rw[hk]at e;cases e;exact⟨w,rfl,r⟩
  |succ m=>rw[hk]at e;simp at e
theorem Bw[LS](hc:X.calm=true)(hg:Gl X "min")(hm:X.mg "min"=none)(ha:QE X a f)(hs:starEach [a] X.env=[(false,eval a X.env)])(hdef:defaultsOf params X.env=([],[]))(hcode:X.env.code=.ref c)(C:CodeHd X.base c P)(B:iH X.mg X.base)
  (ht:(P,lp,X.env.qual++"<lambda>")∈LS.tb) (T:ul X N' scope x) (hp:plainA params=true) (hps:params.args.map (·.arg)=[x]) (hd:X.A.in1.depth<recursionLimit) (pu:AG key)
  (he:∀cl f c' s H,QE (qo X N' scope cl f (X.env.qual++"<lambda>") (.ref c') X.A.in1 s H) body key)
  (hdj:∀t∈LS.tb,t.1=P->t=(P,lp,X.env.qual++"<lambda>")) :
  QE X (.Call (.Name "min" p) [a] [⟨some "key",.Lambda params body scope lp,kp⟩,⟨some "default",.Constant .none j pc,kp2⟩] pos) (o0 f key):=by
 rintro LP s σ H Q I ⟨Pr0,φ,sl,st,rs,sm,v,st',ev,k⟩;obtain⟨p1,e1,e2⟩:=zA ev;obtain⟨ns,e3,e4⟩:=zA e2;obtain⟨ks,e5,e6⟩:=zE.mp e4;cases e6;have hra:rA X.gm (eI f d9) σ H (fun vs H1=>∃P1 φ1 w,vs=[w]/\Frm Pr0 φ H P1 φ1 H1/\Sim X.gm P1 φ1 p1.2 H1/\RA X.gm P1 H1 φ1 p1.1 w) :=
  vc rs sm ⟨p1.1,p1.2,e1,fun P1 φ1 H1 w f1 s1 r1=>⟨P1,φ1,w,rfl,f1,s1,r1⟩⟩
 refine wpAny_Call_Name_kw (c7 I hg hm qy (callWith_kw (aA ((cK ha eB (by rw[hs];rfl)) pos LP s σ H _ I hra) fun us s1 ⟨vs,H1,I1,r1,P1,φ1,w,ew,f1,s1',rw1⟩=>?_) (by rw[hs];rfl) (by rw[hs];rfl) (by rfl) (by rfl)));subst ew;obtain⟨l,rfl,hl0⟩:=rw1.lsI s1' e3;obtain⟨u,rfl,ru⟩:=dQ r1;cases ru;obtain⟨cl,hcl,hcl1,hcl2⟩:=jn (scope:=scope) (env:=X.env) (fun y hy=>by
  rcases T.cy.free y hy with h|h
  ·exact I1.ok.has y (.inl h)
  ·exact I1.ok.has y (.inr h))
 refine kws_cons (yc I1 hdef hcode C B hcl (s1'.tb _ ht).1 fun q c' ctv H2 s2 hH2 CO hx2 I2=>kws_cons (Constant_none (kws_nil ?_)))
 -- the heap behind the making
 have fs:Frm P1 φ1 H1 P1 φ1 H2/\Sim X.gm P1 φ1 p1.2 H2:=by
  rcases hH2 with rfl|⟨ps,more,hP,hn,hne,rfl⟩
  ·exact⟨Frm.refl,s1'⟩
  ·have nP:∀b,P1 b->b≠P:=fun b h e=>(s1'.tb _ ht).2 (by rw[<- e];exact h)
   have nc:∀b,H1 b≠none->b≠c':=fun b h e=>h (by rw[e];exact hn)
   have ncell:∀b∈φ1,b≠P:=fun b h e=>s1'.tnc ht (by rw[<- e];exact h)
   have eq:∀b,b≠P->b≠c'->ae (ae H1 P (.tbl (ps++more))) c' (fv c' (X.env.qual++"<lambda>")) b=H1 b:=fun b h1 h2=>by rw[ad h2,ad h1]
   have ex:∀b,P1 b->P1 b/\ae (ae H1 P (.tbl (ps++more))) c' (fv c' (X.env.qual++"<lambda>")) b=H1 b:=fun b h=>⟨h,eq b (nP b h) (nc b (s1'.dom b h))⟩
   refine⟨⟨ex,⟨[],by simp,by simp⟩,fun b h _ z=>eq b (fun e=>z ps (by rw[e];exact hP)) (nc b h),fun b h=>.inl h,fun b h=>?_,fun b o u h=>?_⟩,s1'.stay ex (fun b h=>eq b (ncell b h) (nc b (s1'.cd b h))) (fun _ _ h=>h) (fun b h=>by rw[(ex b h).2];exact s1'.dom b h) fun t ht'=>⟨?_,(s1'.tb t ht').2⟩⟩
   ·by_cases e:b=P
    ·subst e;rw[ad hne,aw];exact fun z=>nomatch z
    ·rw[eq b e (nc b h)];exact h
   ·rw[eq b (fun e=>by rw[e,hP]at h;cases h) (nc b (by rw[h];exact fun z=>nomatch z))];exact h
   ·by_cases e:t.1=P
    ·rw[hdj t ht' e];exact CO
    ·obtain⟨qs,g1,g2,g3⟩:=(s1'.tb t ht').1
     refine⟨qs,by rw[eq t.1 e (nc _ (by rw[g1];exact fun z=>nomatch z))];exact g1,g2,?_⟩;rcases g3 with g3|⟨c2,g4,g5⟩
     ·exact .inl g3
     ·exact .inr ⟨c2,g4,by rw[eq c2 (fun z=>by rw[z,hP]at g5;cases g5) (nc _ (by rw[g5];exact fun z=>nomatch z))];exact g5⟩
 obtain⟨hlen,hget⟩:=pO e5;have ax:∀H',(∃P' φ',Frm P1 φ1 H2 P' φ' H'/\Sim X.gm P' φ' p1.2 H')->∀z,nV (ns.zip ks)=z->∀w,(∀P' φ',RA X.gm P' H' φ' z w)->Q w H':=fun H' hq0 z hz w r=>by
  obtain⟨P',φ',f',s'⟩:=hq0;rw[hz]at k;exact k P' φ' H' w ((f1.trans fs.1).trans f') s' (r P' φ')
 have hmc:=pK (X:=X) (LP:=LP++[(q,tS X.mg (X.env.qual++"<lambda>") params body scope cl (.ref c') ctv)]) (σ:=σ) (ko:=some (.ref q)) (kws:=[(Str.ofString "key",.ref q),(Str.ofString "default",.none)]) (l:=l) (ns:=ns) (H:=H2) (s:=s2) (Q:=Q) (E:=X.xe)
  (I.ok.hd hc) (fun i=>ks.getD i 0) (fun _ H'=>∃P' φ',Frm P1 φ1 H2 P' φ' H'/\Sim X.gm P' φ' p1.2 H') (fun i H' ⟨P',φ',f',s'⟩=>?_) rfl (Ep _ _) (fun i n u pl s3 H3 en ru ⟨P3,φ3,f3,s3'⟩ I3=>.inr ⟨q,rfl,?_⟩) (fun i n H' en hmin hJ=>?_) (fun en=>?_) I2 ⟨P1,φ1,Frm.refl,fs.2⟩
 ·exact aA hmc fun u s9 ⟨v9,H9,I9,r9,q9⟩=>⟨v9,H9,I9.pins_of fun p hp=>I9.pin p (zK _ (zL _ hp)),r9,q9⟩
 ·obtain⟨b,eb,hb⟩:=(rw1.frm (fs.1.trans f')).lsI s' e3
  cases eb;exact hb
 ·obtain⟨kv,ek,hk⟩:=hget i n en
  unfold vM at hk;split at hk
  ·rename_i k0 st0 ekey
   cases hk
   have:=pu _ _ _ _ ekey
   subst this;have hpin:=I3.pin (q,tS X.mg (X.env.qual++"<lambda>") params body scope cl (.ref c') ctv) (zK _ (zL _ (zK _ (zM.mpr rfl))));have hcx:H3 c'=some (fv c' (X.env.qual++"<lambda>")):=fs.2.okeep f3 hx2;have hcr:s3.heap.CodeRec (.ref c') (X.env.qual++"<lambda>"):=(I3.LZ c' _ hcx).1;refine yd (te:=rE X.gm key) T I3 I.ok.frames (I.ok.hd hc) hd hcl1 hcl2 hp hps hpin.1 hcr (fun s H=>he cl q c' s H) ru ?_;have ksl:L3 X.gm P3 H3 φ3 (sl++[some (.int n)]) (σ++[some (.int n)]):=L3.snoc (((rs.frm f1).frm fs.1).frm f3) (by simp only[RA]);refine⟨P3,φ3,sl++[some (.int n)],p1.2,ksl,s3',.int kv,p1.2,ekey,fun P4 φ4 H4 b f4 s4 r4=>?_⟩;simp only[RA]at r4;exact⟨by rw[r4];simp[ek],P4,φ4,f3.trans f4,s4⟩
  ·cases hk
 ·exact ax H' hJ _ (Cq hlen en hmin) _ fun P' φ'=>by simp only[RA]
 ·subst en
  exact ax H2 ⟨P1,φ1,Frm.refl,fs.2⟩ _ rfl _ fun P' φ'=>by simp only[List.zip_nil_left,nV,RA]
end
section
variable{X:Cx}{a b:Expr}{f g:EF}{pos p1 p2 pos2:Pos}
noncomputable def oe(i:Int):Bool:=decide (0<=i)&&decide (i<=1000)
def tH(f:EF):NF:=fun sl st=>(f sl st).bind fun p=>match p.1 with
 |.int j=>if oe j=true then some (cF 0 j.toNat,p.2) else none
 |_=>none
def tG(f g:EF):NF:=fun sl st=>(f sl st).bind fun p=>(g sl p.2).bind fun q=>match p.1,q.1 with
 |.int i,.int j=>if(oe i&&oe j&&decide (i<=j))=true then some (cF i (j-i).toNat,q.2) else none
 |_,_=>none
theorem LX.rng(i:Nat):∀n:Nat,LX mg P H φ (cF (i:Int) n) ((List.range' i n).map fun(q:Nat)=>V.int (q:Int)):=by
 have key:∀(l:List Nat),LX mg P H φ (l.map fun(k:Nat)=>AV.int ((i:Int)+(k:Int))) (l.map fun(k:Nat)=>V.int ((i:Int)+(k:Int))):=by
  intro l
  induction l with
  |nil=>exact bo
  |cons x l ih=>exact aR (by simp only[RA]) ih
 intro n;have:((List.range' i n).map fun(q:Nat)=>V.int (q:Int))=(List.range n).map fun(k:Nat)=>V.int ((i:Int)+(k:Int)):=by
  rw[List.range'_eq_map_range,List.map_map];refine List.map_congr_left fun k _=>?_
  simp
 rw[this];exact key _
theorem Dl[LS](hc:X.calm=true)(hgl:Gl X "list")(hml:X.mg "list"=none)(hgr:Gl X "range")(hmr:X.mg "range"=none)(ha:QE X a f)
  (hs:starEach [a] X.env=[(false,eval a X.env)]):QN X (.Call (.Name "list" p1) [.Call (.Name "range" p2) [a] [] pos2] [] pos) (tH f) :=
 PE_imp (xG hc hgl hml hgr hmr ha hs) fun σ H Q hq0=>by
  obtain⟨P,φ,sl,st,rs,s,xs,st',ef,k⟩:=hq0;obtain⟨q,e1,e2⟩:=zA ef;refine⟨P,φ,sl,st,rs,s,q.1,q.2,e1,fun P1 φ1 H1 w f1 s1 r1=>?_⟩;show ∃j:Nat,[w]=[.int (j:Int)]/\j<=1000/\∀p,H1 p=none->Q (.ref p) (ae H1 p (.lst ((List.range' 0 j).map fun(q:Nat)=>V.int (q:Int))));split at e2
  ·rename_i j ej
   split at e2
   ·rename_i hb
    cases e2;rw[ej]at r1;simp only[RA]at r1;subst r1;obtain⟨h1,h2⟩:=Bool.and_eq_true_iff.mp hb;have h1:=of_decide_eq_true h1;have h2:=of_decide_eq_true h2;refine⟨j.toNat,by rw[Int.toNat_of_nonneg h1],by lia,fun p hp=>?_⟩;exact k P1 φ1 H1 p _ f1 s1 hp (LX.rng 0 j.toNat)
   ·cases e2
  ·cases e2
theorem Dk[LS](hc:X.calm=true)(hgl:Gl X "list")(hml:X.mg "list"=none)(hgr:Gl X "range")(hmr:X.mg "range"=none)(ha:QE X a f)(hb:QE X b g)
  (hs:starEach [a,b] X.env=[(false,eval a X.env),(false,eval b X.env)]) (hs2:starEach [b] X.env=[(false,eval b X.env)]):QN X (.Call (.Name "list" p1) [.Call (.Name "range" p2) [a,b] [] pos2] [] pos) (tG f g) :=
 PE_imp (vv hc hgl hml hgr hmr (cK ha (cK hb eB (by rw[hs2];rfl)) (by rw[hs,hs2])) hs hs2) fun σ H Q hq0=>by
  obtain⟨P,φ,sl,st,rs,s,xs,st',ef,k⟩:=hq0;obtain⟨q,e1,e2⟩:=zA ef;obtain⟨r,e3,e4⟩:=zA e2;refine Db rs s ⟨q.1,q.2,r.1,r.2,e1,e3,fun P1 φ1 H1 w w' f1 s1 r1 r2=>?_⟩;split at e4
  ·rename_i i j ei ej
   split at e4
   ·rename_i hb
    cases e4;rw[ei]at r1;rw[ej]at r2;simp only[RA]at r1 r2;subst r1;subst r2;simp only[oe,zC,yC]at hb;obtain⟨⟨⟨h1,h2⟩,h3,h4⟩,h5⟩:=hb;refine⟨i.toNat,j.toNat,by rw[Int.toNat_of_nonneg h1,Int.toNat_of_nonneg h3],by lia,by lia,fun p hp=>?_⟩;refine k P1 φ1 H1 p _ f1 s1 hp ?_;have e1:(j-i).toNat=j.toNat-i.toNat:=by lia
    have e2:i=((i.toNat:Nat):Int):=by lia
    have:=LX.rng (mg:=X.gm) (P:=P1) (H:=H1) (φ:=φ1) i.toNat (j.toNat-i.toNat)
    rw[<- e2,<- e1]at this;rw[<- e1];exact this
   ·cases e4
  ·cases e4
end
def l8:aQ->AV
 |.inl i=>.int i
 |.inr x=>.str x
noncomputable def zq(k:Nat):Out->Option Out
 |.nx sl st=>match st[k]? with
  |some (.wk LR)=>some (.nx sl (st.set k (.dK LR)))
  |_=>none
 |.rt v st=>match st[k]? with
  |some (.wk LR)=>some (.rt v (st.set k (.dK LR)))
  |_=>none
 |_=>none
def sS(f:EF)(g:GF)(s:SF):SF:=fun sl st=>(f sl st).bind fun p=>match p.1 with
 |.ref k=>match p.2[k]? with
  |some (.dK LR)=>(cW [] g s (LR.map fun q=>l8 q.1) sl (p.2.set k (.wk LR))).bind (zq k)
  |_=>none
 |_=>none
section
variable{X:Cx}{tg iter:Expr}{body:List Stmt}{pos:Pos}{f:EF}{g:GF}{s:SF}
theorem Bk[LS](hp:PassesOwn (model X.prog X.w) X.A X.env X.xe)(hc:X.calm=true)(hi:QE X iter f)(hg:QG X tg g)(hb:k7 X body s)(hs:∀x,foldedSetIterable iter X.env x=pure x):QS X (.For tg iter body [] pos) (sS f g s) :=
 PS_imp (BE (vj hp hc (BN hi) hg hb hs)) fun D σ H hq0=>by
  obtain⟨P,φ,sl,st,rs,sm,o,e,q⟩:=hq0;obtain⟨p,e1,e2⟩:=zA e;refine⟨P,φ,sl,st,rs,sm,p.1,p.2,e1,fun P1 φ1 H1 w f1 s1 r1=>?_⟩;split at e2
  ·rename_i k ek
   rw[ek]at r1;simp only[RA]at r1;obtain⟨a,ea,rfl⟩:=r1;split at e2
   ·rename_i LR hk
    obtain⟨o1,e3,e4⟩:=zA e2;obtain⟨na,ws,h1,h2⟩:=s1.cell k _ a hk ea;refine⟨a,ws,rfl,h1,fun ob hn=>?_⟩;have hkeys:(LR.map fun q=>l8 q.1).length=ws.length:=by
     have:=congrArg List.length h2.1
     rw[zH,zH]at this;rw[zH];exact this
    obtain⟨fw,sw⟩:=gG (c:=.wk LR) (o:=.frz ob (.dK ws)) s1 ea na ⟨na,ob,ws,aw,h2.mono (fun b h=>⟨h,ad fun e=>na (e▸h)⟩) fun _ _ z=>z⟩ (fun _ _ z=>by rw[h1]at z;cases z);have rsw:L3 X.gm P1 (ae H1 a (.frz ob (.dK ws))) φ1 sl σ:=(rs.frm f1).frm fw
    -- behind the loop
    have back:∀{P5 φ5 H5 st5},Frm P1 φ1 (ae H1 a (.frz ob (.dK ws))) P5 φ5 H5->Sim X.gm P5 φ5 st5 H5->∀{kvs'},st5[k]?=some (.wk kvs')->∃o5 ws5,H5 a=some (.frz o5 (.dK ws5)) /\
      Frm P φ H P5 φ5 (ae H5 a (.dK ws5))/\Sim X.gm P5 φ5 (st5.set k (.dK kvs')) (ae H5 a (.dK ws5))/\∀b,P5 b->P5 b/\ae H5 a (.dK ws5) b=H5 b:=by
     intro P5 φ5 H5 st5 f5 s5 kvs' hw;have ea5:φ5[k]?=some a:=f5.ix k a ea;obtain⟨na5,o5,ws5,g1,g2⟩:=s5.cell k _ a hw ea5;have ex5:∀b,P5 b->P5 b/\ae H5 a (.dK ws5) b=H5 b:=fun b h=>⟨h,ad fun e=>na5 (e▸h)⟩
     refine⟨o5,ws5,g1,?_,?_,ex5⟩
     ·have fall:=(f1.trans fw).trans f5
      obtain⟨m,em,nm⟩:=fall.new;have hna:H a=none\/a∈φ:=by
       rcases zZ.mp (show a ∈ φ++f1.new.choose by rw [<- f1.new.choose_spec.1];exact zW ea) with z | z
       ·exact .inr z
       ·exact .inl (f1.new.choose_spec.2 a z)
      refine⟨fun b h=>⟨(fall.ext b h).1,?_⟩,⟨m,em,nm⟩,fun b h n z=>?_,fall.pn,fun b h=>?_,fun b o u h=>?_⟩
      ·rw[(ex5 b (fall.ext b h).1).2];exact(fall.ext b h).2
      ·have nb:b≠a:=fun e=>by
        rcases hna with y|y
        ·exact h (by rw[e];exact y)
        ·exact n (by rw[e];exact y)
       rw[ad nb];exact fall.keep b h n z
      ·by_cases e:b=a
       ·rw[e,aw];exact fun z=>nomatch z
       ·rw[ad e];exact fall.sm b h
      ·have nb:b≠a:=fun e=>by
        have:=f1.fz b o u h
        rw[e,h1]at this;cases this
       rw[ad nb];exact fall.fz b o u h
     ·have hs5:st5[k]?=some (.wk kvs'):=hw
      refine⟨by rw[List.length_set];exact s5.len,s5.nd,fun b h=>by rw[(ex5 b h).2];exact s5.dom b h,fun b h=>?_,fun j c b e5 e6=>?_,fun t ht=>⟨(s5.tb t ht).1.wr (s5.notb ea5 na5),(s5.tb t ht).2⟩⟩
      ·by_cases e:b=a
       ·rw[e,aw];exact fun z=>nomatch z
       ·rw[ad e];exact s5.cd b h
      ·by_cases hj:j=k
       ·subst hj
        rw[ea5]at e6;cases e6;rw[List.getElem?_set_self (by rw[<- s5.len];exact(zB.mp ea5).1)]at e5;cases e5;exact⟨na5,ws5,aw,g2.mono ex5 fun _ _ z=>z⟩
       ·rw[List.getElem?_set_ne (Ne.symm hj)]at e5
        have hb:b≠a:=fun e=>hj (by
         subst e;obtain⟨l1,q1⟩:=zB.mp e6;obtain⟨l2,q2⟩:=zB.mp ea5;exact(List.getElem_inj s5.nd).mp (q1.trans q2.symm))
        exact(s5.cell j c b e5 e6).mono ex5 (fun _ _ z=>z) (ad hb) fun z=>z
    have endN:∀{P5 φ5 H5 σ5 sl5 st5},o1=.nx sl5 st5->Frm P1 φ1 (ae H1 a (.frz ob (.dK ws))) P5 φ5 H5->Sim X.gm P5 φ5 st5 H5->L3 X.gm P5 H5 φ5 sl5 σ5->(oQ X.H₀ D).nx σ5 H5:=by
     intro P5 φ5 H5 σ5 sl5 st5 eo f5 s5 rs5;subst eo;simp only[zq]at e4;split at e4
     ·rename_i kvs' hw
      cases e4;obtain⟨o5,ws5,g1,g2,g3,g4⟩:=back f5 s5 hw;exact⟨a,o5,ws5,g1,hn,q P5 φ5 _ σ5 g2 g3 ⟨rs5.1,fun i v e=>let⟨w,e',r⟩:=rs5.2 i v e;⟨w,e',r.mono g4 fun _ _ z=>z⟩⟩⟩
     ·cases e4
    have endR:∀{P5 φ5 H5 v5 st5 w5},o1=.rt v5 st5->Frm P1 φ1 (ae H1 a (.frz ob (.dK ws))) P5 φ5 H5->Sim X.gm P5 φ5 st5 H5->RA X.gm P5 H5 φ5 v5 w5->(oQ X.H₀ D).rt w5 H5:=by
     intro P5 φ5 H5 v5 st5 w5 eo f5 s5 r5;subst eo;simp only[zq]at e4;split at e4
     ·rename_i kvs' hw
      cases e4;obtain⟨o5,ws5,g1,g2,g3,g4⟩:=back f5 s5 hw;exact⟨a,o5,ws5,g1,hn,q P5 φ5 _ w5 g2 g3 (r5.mono g4 fun _ _ z=>z)⟩
     ·cases e4
    refine⟨fun i m σ' H'=>m=ws.length-i/\i<=ws.length/\∃P' φ' sl' st',Frm P1 φ1 (ae H1 a (.frz ob (.dK ws))) P' φ' H'/\Sim X.gm P' φ' st' H'/\L3 X.gm P' H' φ' sl' σ'/\cW [] g s ((LR.map fun q=>l8 q.1).drop i) sl' st'=some o1,
     ⟨_,rfl,Nat.zero_le _,P1,φ1,sl,_,Frm.refl,sw,rsw,by simpa using e3⟩,?_⟩
    rintro i m σ' H' ⟨rfl,hle,P2,φ2,sl2,st2,f2,s2,rs2,eg⟩;have hfz:H' a=some (.frz ob (.dK ws)):=f2.fz a _ _ aw;rcases yU i ws.length with hlt|hge
    ·right
     rw[List.drop_eq_getElem_cons (by rw[hkeys];exact hlt)]at eg;simp only[cW,bQ,if_true]at eg;obtain⟨q4,e5,e6⟩:=zA eg;obtain⟨o2,e7,e8⟩:=zA e6;refine⟨⟨hfz,hlt⟩,fun σ' H'=>∃P' φ' sl' st',Frm P1 φ1 (ae H1 a (.frz ob (.dK ws))) P' φ' H'/\Sim X.gm P' φ' st' H'/\L3 X.gm P' H' φ' sl' σ'/\cW [] g s ((LR.map fun q=>l8 q.1).drop (i+1)) sl' st'=some o1,fun σ' H' z=>⟨_,by lia,rfl,hlt,z⟩,fun x H3 hy=>?_⟩;obtain⟨rfl,hx⟩:=hy;have rx:RA X.gm P2 H3 φ2 ((LR.map fun q=>l8 q.1)[i]'(by rw[hkeys];exact hlt)) x:=by
      have hkw:LR[i]?.map (·.1)=ws[i]?.map (·.1):=by rw[<- zR,<- zR,h2.1]
      have hlt':i<LR.length:=by rw[zH]at hkeys;lia
      rw[zR,zF hlt]at hx;rw[zF hlt',zF hlt]at hkw;simp only[map_some,Option.some.injEq]at hx hkw;rw[List.getElem_map,hkw,<- hx];cases ws[i].1 with
      |inl n=>simp only[l8,RA,kV]
      |inr z=>simp only[l8,RA,kV]
     refine⟨P2,φ2,sl2,st2,_,rs2,s2,rx,q4.1,q4.2,e5,fun P4 φ4 H4 σ4 f4 s4 rs4=>⟨P4,φ4,q4.1,q4.2,rs4,s4,o2,e7,?_⟩⟩;have fa:=f2.trans f4;cases o2 with
     |nx sl5 st5=>exact fun P5 φ5 H5 σ5 f5 s5 rs5=>⟨P5,φ5,sl5,st5,fa.trans f5,s5,rs5,e8⟩
     |ct sl5 st5=>exact fun P5 φ5 H5 σ5 f5 s5 rs5=>⟨P5,φ5,sl5,st5,fa.trans f5,s5,rs5,e8⟩
     |bk sl5 st5=>exact fun P5 φ5 H5 σ5 f5 s5 rs5=>endN (yE e8).symm (fa.trans f5) s5 rs5
     |rt v st5=>exact fun P5 φ5 H5 w f5 s5 r5=>endR (yE e8).symm (fa.trans f5) s5 r5
    ·left
     have ei:i=ws.length:=Nat.le_antisymm hle hge;subst ei;rw[<- hkeys,List.drop_length]at eg;simp only[cW,bQ,if_true]at eg;exact⟨⟨hfz,zP _⟩,endN (yE eg).symm f2 s2 rs2⟩
   ·cases e2
  ·cases e2
end
noncomputable def bV:Expr->Bool
 |.Starred _ _=>false
 |_=>true
noncomputable def iU:Expr->Bool
 |.Slice _ _ _ _=>false
 |_=>true
noncomputable def xP:Expr->Bool
 |.Set _ _ _=>false
 |_=>true
noncomputable def nv:Expr->Bool
 |.Call (.Name _ _) [] [] _=>false
 |_=>true
noncomputable def lW:Expr->Bool
 |.ListComp _ _ _ _=>false
 |.SetComp _ _ _ _=>false
 |.DictComp _ _ _ _ _=>false
 |_=>true
noncomputable def pG:Expr->Bool
 |.Tuple _ _ _=>false
 |_=>true
noncomputable def vm:Expr->Bool
 |.UnaryOp .Not _ _=>false
 |.BoolOp _ _ _=>false
 |.IfExp _ _ _ _=>false
 |.Compare _ _ _ _=>false
 |_=>true
section
variable{env:Env}{e o i a b:Expr}{es:List Expr}{pos cpos apos:Pos}{f:Str}
theorem aH(h:bV e=true):starEach (e::es) env=(false,eval e env)::starEach es env:=by
 cases e<;>first|rfl|cases h
theorem gO(h:es.all bV=true):(backTo pos (starEach es env)).any (·.1)=false:=by
 induction es with
 |nil=>rfl
 |cons e es ih =>
  rw[List.all_cons,zC]at h;rw[aH h.1];show(false||(backTo pos (starEach es env)).any (·.1))=false;rw[ih h.2];rfl
theorem w6(h:es.all bV=true):(backTo pos (starEach es env)).all (fun x=>!x.1)=true:=by
 induction es with
 |nil=>rfl
 |cons e es ih =>
  rw[List.all_cons,zC]at h;rw[aH h.1];show(true&&(backTo pos (starEach es env)).all (fun x=>!x.1))=true;rw[ih h.2];rfl
theorem HU(h:es.all bV=true)(hl:es.length<30):((backTo cpos (starEach es env)).all (fun x=>!x.1)&&(backToKw cpos (keywordEach [] env)).all (fun x=>x.1.isSome)&&decide (es.length+([]:List Keyword).length+(if([]:List Keyword).isEmpty then 0 else 1)<30))=true:=by
 rw[w6 h];have:decide (es.length+([]:List Keyword).length+(if([]:List Keyword).isEmpty then 0 else 1)<30)=true:=yW (by simpa using hl);rw[this];rfl
theorem fe(w:Sem Value)(h:nv o=true):attributeBase o f env w=w:=by
 unfold attributeBase;split
 ·simp[nv]at h
 ·rfl
theorem rq(hb:nv o=true)(hs:es.all bV=true)(hl:es.length<30)(hline:(apos.endLine==pos.line)=true):eval (.Call (.Attribute o f apos) es [] pos) env=(do
   let ov <- eval o env
   standAt apos.atName
   let(f,first) <- holding [ov] (getMethod ov f (do return (<- importBound o env).getD true))
   callWith pos f first (backTo pos (starEach es env)) (backToKw pos (keywordEach [] env))):=by
 rw[arm_eval_Call,fe _ hb];have hform:methodCallForm (es.length+([]:List Keyword).length) (backTo pos (starEach es env)) (backToKw pos (keywordEach [] env))=true:=HU hs hl;have hpos:methodCallPos true o env apos pos=pure pos:=by unfold methodCallPos;simp[hline]
 unfold methodCall;rw[hform,hpos];rfl
theorem pv(h:xP e=true)(x:Value):foldedSetIterable e env x=pure x:=by
 cases e<;>first|rfl|cases h
theorem GH(h:iU i=true):nW i:=fun _ _=>by
 cases i<;>first|rfl|cases h
theorem CZ(h:iU i=true)(v:Value):assign (.Subscript o i pos) env v=(do
   let ov <- holding [v] (eval o env)
   let iv <- holding [v,ov] (eval i env)
   standAt pos
   holding [v,ov,iv] (setItem ov iv v)
   release [v,ov,iv] []):=by
 cases i<;>first|rfl|cases h
theorem Fp(h:iU i=true)(ov iv new:Value):augStore i ov iv new=(do holding [new,ov,iv] (setItem ov iv new);release [new,ov,iv] [];pure .next):=by
 cases i<;>first|rfl|cases h
theorem qW{l:Nat}(h:lW e=true):swapsWith e t l env=pure false:=by
 cases e<;>first|rfl|cases h
theorem wW{l:Nat}:swapsWith e (some (.Attribute o f p)) l env=pure false:=by
 cases e<;>rfl
noncomputable def Hv(nm:List (Str×NameKind))(t:Str)(tl:Nat)(sc:Scope)(vl:Nat):Bool:=decide (nm.lookup t=some .local)&&(tl==vl)&&!(sc.names.any fun(n,k)=>n==t&&(k==.local||k==.cell))
theorem CY{l:Nat}(hk:env.scope.kind=.function) :
  swapsWith (.ListComp elt gens sc pos) (some (.Name t p)) l env=pure (Hv env.scope.names t p.line sc pos.line):=by
 have hb:env.blockKind=.function:=by unfold Env.blockKind;rw[hk];rfl
 show(pure (env.blockKind==.function&&env.kindOf t==some .local&&p.line==pos.line&&!(sc.names.any fun(n,k)=>n==t&&(k==.local||k==.cell))):Sem Bool)=_;rw[hb];have:(env.kindOf t==some NameKind.local)=decide (env.scope.names.lookup t=some .local):=by
  show(env.scope.names.lookup t==some NameKind.local)=_;cases h:env.scope.names.lookup t with
  |none=>rfl
  |some k=>cases k<;>rfl
 rw[this];rfl
theorem wZ:swappedStores [.Subscript a b p] e env=pure none:=by cases e<;>rfl
theorem wY{k:Nat}(h:pG e=true):swappedStores [.Tuple ts k p] e env=pure none:=by cases e<;>first|rfl|cases h
theorem sf(h:bV e=true):(assignEach [e] env).map (·.2)=[assign e env]:=by
 cases e<;>first|rfl|cases h
theorem yp(h:bV e=true):(assignEach (e::es) env).map (·.2)=assign e env::(assignEach es env).map (·.2):=by
 cases e<;>first|rfl|cases h
theorem yq:(assignEach es env).length=es.length:=by
 induction es with
 |nil=>rfl
 | cons e es ih=>cases e <;> (show (assignEach es env).length + 1=es.length + 1;rw [ih])
theorem yr(h:es.all bV=true):(assignEach es env).findIdx? (·.1)=none:=by
 have:∀p∈assignEach es env,p.1=false:=by
  induction es with
  |nil=>intro p hp;cases hp
  |cons e es ih =>
   rw[List.all_cons,zC]at h;have e1:assignEach (e::es) env=(false,assign e env)::assignEach es env:=by
    cases e<;>first|rfl|cases h.1
   rw[e1];intro p hp;rcases zT.mp hp with rfl|hp
   ·rfl
   ·exact ih h.2 p hp
 rw[List.findIdx?_eq_none_iff];intro p hp;rw[this p hp]
theorem qS(h:vm e=true)(whole:Sem Value):isTrue e env whole=(do let v <- whole;standAt e.pos;holding [v] (truthy v)):=by
 cases e with
 |UnaryOp op x p=>cases op<;>first|rfl|cases h
 |BoolOp=>cases h
 |IfExp=>cases h
 |Compare=>cases h
 |_=>rfl
end
set_option genInjectivity false
set_option genSizeOf false
set_option genSizeOfSpec false
inductive Bi where
 |len|sum|abs|min|max|int
inductive Mi where
 |app|pop|ext|cnt
mutual
inductive Ex where
 |n|b (x:Bool)|i (x:Int)|s (x:Str)|v (k:Nat)|g (x:Str) (c:AV)|bin (o:Operator) (a b:Ex)|cmp (o:CmpOp) (a b:Ex)|un (o:UnaryOp) (a:Ex)|no (a:Ex)|an (a b:Ex)|or (a b:Ex)|ife (t:Tx) (a b:Ex)|ix (a b:Ex)|tu (es:Exs)|nw (m:Bool) (x:Nx)|ca (p:Bool) (j:Nat) (es:Exs)|me (c m:Str) (j:Nat) (o:Ex) (es:Exs)|ne (c:Str) (j:Nat) (es:Exs)|fd (c f:Str) (o:Ex)|bi (b:Bi) (es:Exs)|mt (m:Mi) (o:Ex) (es:Exs)|dn|mnd (a:Ex)|mnk (a key:Ex)
inductive Tx where
 |va (e:Ex)|cmp (o:CmpOp) (a b:Ex)|no (t:Tx)|an (t u:Tx)|or (t u:Tx)
inductive Exs where
 |nil|cons (e:Ex) (es:Exs)
inductive Nx where
 |li (es:Exs)|cat (a b:Ex)|rep (es:Exs) (b:Ex)|sl (a:Ex) (l h:Ox)|lof (a:Ex)|lc (k:Nat) (it:Ix) (t:Tg) (c:Cx') (e:Ex)|lr1 (a:Ex)|lr2 (a b:Ex)
inductive Ox where
 |no|so (e:Ex)
inductive Cx' where
 |no|so (t:Tx)
inductive Ix where
 |e (a:Ex)|r1 (a:Ex)|r2 (a b:Ex)|zi (a b:Ex)|en (a:Ex)|es (a b:Ex)
inductive Tg where
 |nm (k:Nat)|tu (n:Nat) (ts:Tgs)|su (a b:Ex)
inductive Tgs where
 |nil|cons (t:Tg) (ts:Tgs)
end
mutual
inductive Sx where
 |ex (e:Ex)|as (e:Ex) (t:Tg)|aus (o:Operator) (a b e:Ex)|fl (c f:Str) (o e:Ex)|rt (e:Ex)|iff (t:Tx) (a b:L5)|fo (it:Ix) (t:Tg) (b:L5)|wh (t:Tx) (b:L5)|dead|fd (a:Ex) (t:Tg) (b:L5)
inductive L5 where
 |nil|cons (s:Sx) (ss:L5)|dead
end
def mL:Bi->BF
 |.len=>bZ d5
 |.sum=>bZ pi
 |.abs=>bZ qC
 |.min=>bZ nA
 |.max=>bZ tK
 |.int=>bZ p4
def pL:Mi->MF
 |.app=>pP
 |.pop=>tO
 |.ext=>tP
 |.cnt=>xU
noncomputable def pM:Mi->String
 |_=>"list"
def kf(ks:List Fn)(j:Nat):Fn:=ks.getD j fun _ _=>none
def dF(p:Bool)(fn:Fn):Fn:=if p=true then pm fn else fn
section
variable(ks:List Fn)
mutual
noncomputable def ev:Ex->EF
 |.n=>aC .non
 |.b x=>aC (.bl x)
 |.i x=>aC (.int x)
 |.s x=>aC (.str x)
 |.v k=>aV k
 |.g _ c=>aC c
 |.bin o a b=>a2 (ev a) (ev b) (jC (bh o))
 |.cmp o a b=>a2 (ev a) (ev b) (jC (lG o))
 |.un o a=>a1 (ev a) (C4 (lJ o))
 |.no a=>HZ (ev a)
 |.an a b=>AD (ev a) (ev b)
 |.or a b=>Az (ev a) (ev b)
 |.ife t a b=>H0 (tv t) (ev a) (ev b)
 |.ix a b=>a2 (ev a) (ev b) (jC cm)
 |.tu es=>HY (dJ es)
 |.nw m x=>AA m (g7 x)
 |.ca p j es=>AC (dF p (kf ks j)) (dJ es)
 |.me c m j o es=>AB c m (kf ks j) (ev o) (dJ es)
 |.ne c j es=>wC c (kf ks j) (dJ es)
 |.fd c f o=>Ia c f (ev o)
 |.bi b es=>qD (mL b) (dJ es)
 |.mt m o es=>k4 (pM m) (pL m) (ev o) (dJ es)
 |.dn=>Ib false
 |.mnd a=>qD (bZ lY) (eI (ev a) d9)
 |.mnk a key=>o0 (ev a) (ev key)
noncomputable def tv:Tx->TF
 |.va e=>tV (ev e)
 |.cmp o a b=>CW (ev a) (ev b) o
 |.no a=>Hs (tv a)
 |.an a b=>Hu (tv a) (tv b)
 |.or a b=>CQ (tv a) (tv b)
noncomputable def dJ:Exs->AF
 |.nil=>d9
 |.cons e es=>eI (ev e) (dJ es)
noncomputable def g7:Nx->NF
 |.li es=>HG (dJ es)
 |.cat a b=>tI (ev a) (ev b)
 |.rep es b=>tF (dJ es) (ev b)
 |.sl a l h=>lV (ev a) (qg l) (qg h)
 |.lof a=>ny (ev a)
 |.lc k it t c e=>Ac k (dz it) (bM t) (iy c) (ev e)
 |.lr1 a=>tH (ev a)
 |.lr2 a b=>tG (ev a) (ev b)
noncomputable def qg:Ox->OF
 |.no=>Ee
 |.so e=>lS (ev e)
noncomputable def iy:Cx'->TF
 |.no=>Hq
 |.so e=>tv e
noncomputable def dz:Ix->IF
 |.e a=>iE (ev a)
 |.r1 a=>vT (ev a)
 |.r2 a b=>Ah (ev a) (ev b)
 |.zi a b=>iZ (ev a) (ev b)
 |.en a=>HN (ev a)
 |.es a b=>tX (ev a) (ev b)
noncomputable def bM:Tg->GF
 |.nm k=>v6 k
 |.tu n ts=>vY n (iM ts)
 |.su a b=>HP (ev a) (ev b)
noncomputable def iM:Tgs->qI
 |.nil=>EX
 |.cons t ts=>E1 (bM t) (iM ts)
end
mutual
noncomputable def cA:Sx->SF
 |.ex e=>HC (ev ks e)
 |.as e t=>u9 (ev ks e) (bM ks t)
 |.aus o a b e=>sU o (ev ks a) (ev ks b) (ev ks e)
 |.fl c f o e=>u8 c f (ev ks o) (ev ks e)
 |.rt e=>Hx (ev ks e)
 |.iff t a b=>Hz (tv ks t) (aj a) (aj b)
 |.fo it t b=>HB (dz ks it) (bM ks t) (aj b)
 |.wh t b=>kC (tv ks t) (aj b)
 |.dead=>C5
 |.fd a t b=>sS (ev ks a) (bM ks t) (aj b)
noncomputable def aj:L5->SF
 |.nil=>Hy
 |.cons s ss=>Hw (cA s) (aj ss)
 |.dead=>C5
end
end
inductive Ke where
 |f (x:Str) (n:Nat)|m (c m:Str) (n:Nat)|k (c:Str) (n:Nat)
structure SC where
 N:List Str
 nm:List (Str×NameKind)
 cf:List Str
 ke:List Ke
 gs:List (Str×AV)
 cl:List (Str×List Str)
 la:List Pos
 cn:List Str
 hs:List Nat
 ck:Bool
noncomputable def kd(C:SC)(x:Str):Option NameKind:=C.nm.lookup x
def wO(C:SC)(x:Str):Bool:=match kd C x with
 |some .local=>true
 |some .cell=>true
 |some .free=>true
 |_=>false
def xX(C:SC)(x:Str):Bool:=match kd C x with
 |some .local=>true
 |some .cell=>C.cf.contains x
 |_=>false
noncomputable def Aq(x:Str):Bool:=!(x==("__debug__":Str))&&!(x==("__classdict__":Str))
def ip(C:SC)(x:Str):Bool:=(match kd C x with
 |some .globalImplicit=>true
 |_=>false)&&Aq x
noncomputable def HL(C:SC)(j:Nat)(x:Str)(n:Nat):Bool:=match C.ke[j]? with
 |some (.f y m)=>y==x&&m==n
 |_=>false
noncomputable def HJ(C:SC)(j:Nat)(c m:Str)(n:Nat):Bool:=match C.ke[j]? with
 |some (.m c' m' k)=>c'==c&&m'==m&&k==n
 |_=>false
noncomputable def HK(C:SC)(j:Nat)(c:Str)(n:Nat):Bool:=match C.ke[j]? with
 |some (.k c' k)=>c'==c&&k==n
 |_=>false
noncomputable def bnames:List Str:=["len","sum","all","any","abs","min","max","int","tuple","range","zip","enumerate","list","isinstance","bool","str","sorted"]
noncomputable def Fm:List (Str×Bi):=[("len",.len)
 ,("sum",.sum)
 ,("abs",.abs)
 ,("min",.min)
 ,("max",.max)
 ,("int",.int)
 ]
noncomputable def Eo:List (Str×Mi):=[("append",.app)
 ,("pop",.pop)
 ,("extend",.ext)
 ,("count",.cnt)
 ]
noncomputable def Bi.nm:Bi->Str
 |.len=>"len"
 |.sum=>"sum"
 |.abs=>"abs"
 |.min=>"min"
 |.max=>"max"
 |.int=>"int"
noncomputable def Mi.nm:Mi->Str
 |.app=>"append"
 |.pop=>"pop"
 |.ext=>"extend"
 |.cnt=>"count"
noncomputable def JQ:List (Str×String):=[("int","int"),("bool","bool"),("list","list"),("tuple","tuple"),("str","str")]
noncomputable def xM(sc:Scope):List Str:=(sc.names.filter fun p=>(match p.2 with|.local=>true|.cell=>true|_=>false)&&!(p.1==(".0":Str))).map (·.1)
noncomputable def p0(sc:Scope)(x:Str):Bool:=match sc.names.lookup x with
 |some .free=>true
 |_=>false
noncomputable def EU(k:Bool)(x:Str):Str:=match k with
 |true=>x++("!":Str)
 |false=>""
def dL(C:SC)(sc:Scope):List Str:=(C.N.map fun x=>if p0 sc x=true then x else EU C.ck x)++xM sc
noncomputable def HQ:NameKind->Bool
 |.free=>true
 |_=>false
noncomputable def As:Option NameKind->Bool
 |some .cell=>true
 |_=>false
noncomputable def qP{α:Type}(k:Bool)(x:List α):List α:=match k with
 |true=>x
 |false=>[]
@[reducible] def blk(C:SC)(sc:Scope):SC:={ C with N:=dL C sc,nm:=qP C.ck (sc.names.map fun p=>if(HQ p.2&&As (kd C p.1))=true then(p.1,.cell) else(p.1,p.2)),cf:=qP C.ck ((sc.names.filter fun p=>As (some p.2)).map (·.1)),la:=[] }
def qz(C:SC)(sc:Scope):Bool :=
 (match sc.kind with|.function=>true|_=>false)&&decide (sc.names.map (·.1)).Nodup&&decide (dL C sc).Nodup &&
 (sc.names.all fun p=>match p.2 with|.free=>(match kd C p.1 with|some .cell=>true|some .free=>true|_=>false)|_=>true) &&
 ((List.range C.N.length).all fun i=>match (dL C sc)[i]? with
  |some x=>(match sc.names.lookup x with
   |some .free=>decide (C.N[i]?=some x)
   |some _=>false
   |none=>true)
  |none=>false)
mutual
noncomputable def nj(n:Nat):Tg->Bool
 |.nm k=>Nat.ble n k
 |.tu _ ts=>oR n ts
 |.su _ _=>false
noncomputable def oR(n:Nat):Tgs->Bool
 |.nil=>true
 |.cons t ts=>nj n t&&oR n ts
end
@[reducible] def EH(C:SC)(sc:Scope):SC:={ C with N:=dL C sc,nm:=qP C.ck sc.names,cf:=[],ke:=[],la:=[] }
noncomputable def J7(C:SC)(p:Pos):Bool:=C.la.any fun q=>q.line==p.line&&q.col==p.col&&q.endLine==p.endLine&&q.endCol==p.endCol
def ye(C:SC)(sc:Scope)(ps:Arguments):Bool:=qz C sc&&!sc.isCoroutine&&!sc.isGenerator&&plainA ps&&ps.defaults.isEmpty&&ps.kw_defaults.isEmpty &&
 (match xM sc,ps.args.map (·.arg) with
  |[x],[y]=>x==y&&(match sc.names.lookup x with|some .local=>true|_=>false)
  |_,_=>false)&&sc.names.all fun p=>!(As (some p.2))
noncomputable def j7:Ex->Bool
 |.v _=>true
 |.i _=>true
 |.ix a b=>j7 a&&j7 b
 |.fd _ _ o=>j7 o
 |_=>false
theorem kD{P:Prop}(h:false=true):P:=nomatch h
theorem aX{α:Type}{P:Prop}{m:α}(h:none=some m):P:=nomatch h
theorem cZ{a b:Bool}{P:Prop}(h:(a&&b)=true)(H:a=true->b=true->P):P:=by cases a;exact kD h;exact H rfl h
theorem jA{a b c:Bool}{P:Prop}(h:(a&&b&&c)=true)(H:a=true->b=true->c=true->P):P:=cZ h fun x y=>cZ x fun h0 h1=>H h0 h1 y
theorem oG{a b c d:Bool}{P:Prop}(h:(a&&b&&c&&d)=true)(H:a=true->b=true->c=true->d=true->P):P:=cZ h fun x y=>jA x fun h0 h1 h2=>H h0 h1 h2 y
section
variable{α β γ δ ε:Type}
noncomputable def gu(k c:Bool)(x:Option α):Option α:=match k with
 |false=>x
 |true=>if c=true then x else none
noncomputable def m2(f:α->β->γ)(x:Option α)(y:Option β):Option γ:=x.bind fun a=>y.map (f a)
def m3(f:α->β->γ->δ)(x:Option α)(y:Option β)(z:Option γ):Option δ:=x.bind fun a=>m2 (f a) y z
theorem aM{k c:Bool}{x:Option α}{m:α}{P:Prop}(hk:k=true)(h:gu k c x=some m)(H:c=true->x=some m->P):P:=by
 subst hk;cases c
 ·exact aX h
 ·exact H rfl h
@[elab_as_elim] theorem bN{f:α->β}{x:Option α}{m:β}{P:β->Prop}(h:x.map f=some m)(H:∀a,x=some a->P (f a)):P m:=by
 cases x with
 |none=>exact aX h
 |some a=>cases h;exact H a rfl
@[elab_as_elim] theorem bJ{f:α->β->γ}{x:Option α}{y:Option β}{m:γ}{P:γ->Prop}(h:m2 f x y=some m)(H:∀a b,x=some a->y=some b->P (f a b)):P m:=by
 cases x with
 |none=>exact aX h
 |some a=>exact bN h fun b hb=>H a b rfl hb
@[elab_as_elim] theorem j9{f:α->β->γ->δ}{x:Option α}{y:Option β}{z:Option γ}{m:δ}{P:δ->Prop}(h:m3 f x y z=some m)(H:∀a b c,x=some a->y=some b->z=some c->P (f a b c)):P m:=by
 cases x with
 |none=>exact aX h
 |some a=>exact bJ h fun b c hb hc=>H a b c rfl hb hc
theorem fU{x:Option α}{f:α->Option β}{m:β}{P:Prop}(h:x.bind f=some m)(H:∀a,x=some a->f a=some m->P):P:=by
 cases x with
 |none=>exact aX h
 |some a=>exact H a rfl h
noncomputable def at_(x:Str):List Str->Nat->Option Nat
 |[],_=>none
 |y::l,k=>if(y==x)=true then some k else at_ x l (k+1)
theorem Av{x:Str}:∀{l:List Str}{k j:Nat},at_ x l k=some j->∃i,j=k+i/\l[i]?=some x
 |[],_,_,h=>aX h
 |y::l,k,j,h=>by
  unfold at_ at h;split at h
  ·rename_i e;cases h;exact⟨0,rfl,by rw[yK e];rfl⟩
  ·obtain⟨i,e1,e2⟩:=Av h
   exact⟨i+1,by lia,e2⟩
theorem Fq{x:Str}{l:List Str}{j:Nat}(h:at_ x l 0=some j):l[j]?=some x:=by
 obtain⟨i,e,h⟩:=Av h;rw[e,Nat.zero_add];exact h
noncomputable def lk(x:Str):List (Str×α)->Option α
 |[]=>none
 |p::l=>if(p.1==x)=true then some p.2 else lk x l
theorem oW{x:Str}{v:α}:∀{l:List (Str×α)},lk x l=some v->(x,v)∈l
 |[],h=>aX h
 |p::l,h=>by
  unfold lk at h;split at h
  ·rename_i e;cases h;rw[<- yK e];exact z7
  ·exact zQ _ (oW h)
def qt(f:Str):List (Str×List Str)->Option Str
 |[]=>none
 |p::l=>match at_ f p.2 0 with
  |some _=>some p.1
  |none=>qt f l
theorem wo{f c:Str}:∀{l:List (Str×List Str)},qt f l=some c->∃fs,(c,fs)∈l/\f∈fs
 |[],h=>aX h
 |p::l,h=>by
  unfold qt at h;split at h
  ·rename_i e;cases h;exact⟨p.2,z7,zW (Fq e)⟩
  ·obtain⟨fs,h1,h2⟩:=wo h
   exact⟨fs,zQ _ h1,h2⟩
noncomputable def xS(n:Nat):List Nat->Bool
 |[]=>false
 |m::l=>(m==n)||xS n l
def hB(C:SC)(p:Pos)(k:Nat):Bool:=xS (((p.line*1000+p.col)*1000+p.endCol)*8+k) C.hs
end
noncomputable def nmO:Expr->Option Str
 |.Name x _=>some x
 |_=>none
theorem vC{e:Expr}(h:nmO e=some x):∃p,e=.Name x p:=by
 cases e with
 |Name y p=>cases h;exact⟨p,rfl⟩
 |_=>exact aX h
noncomputable def lsO:Expr->Option (List Expr)
 |.List es _=>some es
 |_=>none
theorem EA{e:Expr}(h:lsO e=some es):∃p,e=.List es p:=by
 cases e with
 |List y p=>cases h;exact⟨p,rfl⟩
 |_=>exact aX h
noncomputable def cN:Expr->Bool
 |.Constant .none _ _=>true
 |_=>false
theorem At{e:Expr}(h:cN e=true):∃a p,e=.Constant .none a p:=by
 cases e with
 |Constant c a p=>cases c with
  |none=>exact⟨a,p,rfl⟩
  |_=>exact kD h
 |_=>exact kD h
noncomputable def kX:Const->Option Ex
 |.none=>some .n
 |.bool b=>some (.b b)
 |.int i=>some (.i i)
 |.str s=>some (.s s)
 |_=>none
structure Tr where
 E:SC->Expr->Option Ex
 T:SC->Expr->Option Tx
 G:SC->Expr->Option Tg
 S:SC->Stmt->Option Sx
def zo(C:SC)(x:Str):Option Ex:=match at_ x C.N 0 with
 |some k=>gu C.ck (wO C x&&Aq x) (some (.v k))
 |none=>(lk x C.gs).bind fun c=>gu C.ck (ip C x&&(og c).isSome) (some (.g x c))
section
variable(r:Tr)(C:SC)
def jv:List Expr->Option Exs
 |[]=>some .nil
 |e::es=>gu C.ck (bV e) (m2 .cons (r.E C e) (jv es))
noncomputable def trO:Option Expr->Option Ox
 |none=>some .no
 |some e=>(r.E C e).map .so
def sI:List Expr->Option Tgs
 |[]=>some .nil
 |e::es=>gu C.ck (bV e) (m2 .cons (r.G C e) (sI es))
def lL:List Stmt->Option L5
 |[]=>some .nil
 |s::ss=>m2 .cons (r.S C s) (lL ss)
noncomputable def HX:BoolOp->Ex->Ex->Ex
 |.And=>.an
 |.Or=>.or
noncomputable def HW:BoolOp->Tx->Tx->Tx
 |.And=>.an
 |.Or=>.or
def sK(o:BoolOp):List Expr->Option Ex
 |[]=>none
 |[x]=>r.E C x
 |x::y::es=>m2 (HX o) (r.E C x) (sK o (y::es))
def sJ(o:BoolOp):List Expr->Option Tx
 |[]=>none
 |[x]=>r.T C x
 |x::y::es=>m2 (HW o) (r.T C x) (sJ o (y::es))
noncomputable def trC:List Expr->Option Cx'
 |[]=>some .no
 |[e]=>(r.T C e).map .so
 |_=>none
def trR(es:List Expr):Option Ix:=match es with
 |[a]=>(r.E C a).map .r1
 |[a,b]=>m2 .r2 (r.E C a) (r.E C b)
 |_=>none
def trZ(es:List Expr):Option Ix:=match es with
 |[a,b]=>m2 .zi (r.E C a) (r.E C b)
 |_=>none
def trEn(a:Expr)(kws:List Keyword):Option Ix:=match kws with
 |[]=>(r.E C a).map .en
 |[⟨some y,b,_⟩]=>gu C.ck (y==("start":Str)) (m2 .es (r.E C a) (r.E C b))
 |_=>none
def trIc(t e:Expr)(es:List Expr)(kws:List Keyword)(o:Option Str):Option Ix:=match o with
 |some x =>
  if(x==("range":Str))=true then gu C.ck (ip C "range"&&kws.isEmpty&&es.all bV) (trR r C es)
  else if(x==("zip":Str))=true then gu C.ck (ip C "zip"&&kws.isEmpty&&es.all bV&&!pG t) (trZ r C es)
  else if(x==("enumerate":Str))=true then gu C.ck (ip C "enumerate"&&es.all bV&&!pG t) (match es with
   |[a]=>trEn r C a kws
   |_=>none)
  else(r.E C e).map .e
 |none=>(r.E C e).map .e
def trI(t e:Expr):Option Ix:=match e with
 |.Call f es kws _=>trIc r C t e es kws (nmO f)
 |_=>(r.E C e).map .e
def trL(elt:Expr)(gens:List Comprehension)(sc:Scope):Option Nx:=match gens with
 |[⟨t,it,cs,i⟩]=>gu C.ck (qz C sc&&(i==0)&&xP it) ((trI r C t it).bind fun x=>(r.G (blk C sc) t).bind fun g=>gu C.ck (nj C.N.length g) (m2 (.lc ((dL C sc).length-C.N.length) x g) (trC r (blk C sc) cs) (r.E (blk C sc) elt)))
 |_=>none
def trLr(p:Pos)(es:List Expr):Option Ex:=match es with
 |[a]=>(r.E C a).map fun a=>.nw (hB C p 0) (.lr1 a)
 |[a,b]=>m2 (fun a b=>.nw (hB C p 0) (.lr2 a b)) (r.E C a) (r.E C b)
 |_=>none
def trLf(p:Pos)(a:Expr):Option Ex:=match a with
 |.Call f es kws _=>gu C.ck ((match nmO f with|some y=>y==("range":Str)|none=>false)&&kws.isEmpty&&ip C "range"&&es.all bV) (trLr r C p es)
 |a=>(r.E C a).map fun a=>.nw (hB C p 0) (.lof a)
def trF1(x:Str)(p:Pos)(es:List Expr):Option Ex:=match es with
 |[a] =>
  gu C.ck (x==("list":Str)&&ip C "list"&&bV a) (trLf r C p a)
 |_=>none
def wT(x:Str)(es:List Expr)(p:Pos)(j:Nat)(o:Option (List Str)):Option Ex:=match o with
 |some _=>gu C.ck (HK C j x (es.length+1)&&ip C x&&!es.isEmpty&&es.all bV) ((jv r C es).map (.ne x j))
 |_=>gu C.ck (HL C j x es.length&&ip C x&&es.all bV) ((jv r C es).map (.ca (!hB C p 6) j))
def wU(x:Str)(es:List Expr)(p:Pos)(o:Option Bi):Option Ex:=match o with
 |some b=>gu C.ck (ip C x&&!es.isEmpty&&es.all bV) ((jv r C es).map (.bi b))
 |none=>trF1 r C x p es
def zp(x:Str)(es:List Expr)(p:Pos):Option Ex:=match at_ x C.cn 0 with
 |some j=>wT r C x es p j (lk x C.cl)
 |none=>wU r C x es p (lk x Fm)
def trK(x:Str)(es:List Expr)(kws:List Keyword):Option Ex:=match es with
 |[a]=>(match kws with
  |[⟨some y,d,_⟩]=>gu C.ck (x==("min":Str)&&y==("default":Str)&&cN d&&(ip C "min"&&bV a)) ((r.E C a).map .mnd)
  |[⟨some y,.Lambda ps body sc lp,_⟩,⟨some z,d,_⟩]=>gu C.ck (x==("min":Str)&&y==("key":Str)&&z==("default":Str)&&(cN d&&ip C "min"&&bV a&&(J7 C lp&&ye C sc ps))) ((r.E C a).bind fun a=>(r.E (EH C sc) body).bind fun b=>gu C.ck (j7 b) (some (.mnk a b)))
  |_=>none)
 |_=>none
noncomputable def miA(q:Mi)(es:List Expr):Mi:=match q,es with
 |q,_=>q
def CI(o:Expr)(m:Str)(ap:Pos)(es:List Expr)(p:Pos):Option Ex:=gu C.ck (es.all bV&&Nat.blt es.length 30&&nv o&&(ap.endLine==p.line)) (match at_ m C.cn 0 with
 |some j=>C.cl.head?.bind fun q=>gu C.ck (HJ C j q.1 m (es.length+1)) (m2 (.me q.1 m j) (r.E C o) (jv r C es))
 |none=>(lk m Eo).bind fun q=>m2 (.mt (miA q es)) (r.E C o) (jv r C es))
def trSl(a:Expr)(l h st:Option Expr)(p:Pos):Option Ex:=match st with
 |none =>
  m3 (fun a l h=>.nw (hB C p 0) (.sl a l h)) (r.E C a) (trO r C l) (trO r C h)
 |some _=>none
def trCe(a:Expr)(os:List CmpOp)(bs:List Expr):Option Ex:=match os with
 |[o]=>(match bs with
  |[b]=>gu C.ck (j8 o b) (m2 (.cmp o) (r.E C a) (r.E C b))
  |_=>none)
 |_=>none
def trCt(a:Expr)(os:List CmpOp)(bs:List Expr):Option Tx:=match os with
 |[o]=>(match bs with
  |[b]=>gu C.ck (j8 o b) (m2 (.cmp o) (r.E C a) (r.E C b))
  |_=>none)
 |_=>none
def trE(e:Expr):Option Ex:=match e with
 |.Constant k _ _=>kX k
 |.Name x _=>zo C x
 |.BinOp a o b p =>
  if hB C p 1=true then gu C.ck (decide (o=.Add)) (m2 (fun x y=>.nw (hB C p 0) (.cat x y)) (r.E C a) (r.E C b)) else
  (match lsO a with
  |some es=>gu C.ck (decide (o=.Mult)) (m2 (fun x y=>.nw (hB C p 0) (.rep x y)) (jv r C es) (r.E C b))
  |none=>m2 (.bin o) (r.E C a) (r.E C b))
 |.Compare a os bs _=>trCe r C a os bs
 |.UnaryOp o a _=>(match o with
  |.Not=>(r.E C a).map .no
  |o=>(r.E C a).map (.un o))
 |.BoolOp o es _=>sK r C o es
 |.IfExp t a b _=>m3 .ife (r.T C t) (r.E C a) (r.E C b)
 |.Subscript a i p=>(match i with
  |.Slice l h st _=>trSl r C a l h st p
  |i=>gu C.ck (iU i) (m2 .ix (r.E C a) (r.E C i)))
 |.Tuple es _ _=>(jv r C es).map .tu
 |.List es p=>(jv r C es).map fun x=>.nw (hB C p 0) (.li x)
 |.ListComp elt gens sc p=>(trL r C elt gens sc).map fun x=>.nw (hB C p 0) x
 |.Dict ks vs _=>gu C.ck (ks.isEmpty&&vs.isEmpty) (some .dn)
 |.Attribute o f _=>(qt f C.cl).bind fun c=>gu C.ck (nv o) ((r.E C o).map (.fd c f))
 |.Call f es kws p=>(match f with
  |.Name x _=>(match kws with
   |[]=>zp r C x es p
   |kws=>trK r C x es kws)
  |.Attribute o m ap=>gu C.ck kws.isEmpty (CI r C o m ap es p)
  |_=>none)
 |_=>none
def trT(e:Expr):Option Tx:=match e with
 |.UnaryOp o a p=>(match o with
  |.Not=>(r.T C a).map .no
  |o=>(r.E C (.UnaryOp o a p)).map .va)
 |.BoolOp o es _=>sJ r C o es
 |.Compare a os bs _=>trCt r C a os bs
 |e=>gu C.ck (vm e) ((r.E C e).map .va)
def m6(x:Str):Option Tg:=(at_ x C.N 0).bind fun k=>gu C.ck (xX C x&&Aq x) (some (.nm k))
def trG(e:Expr):Option Tg:=match e with
 |.Name x _=>m6 C x
 |.Tuple es _ _=>gu C.ck (es.all bV) ((sI r C es).map (.tu es.length))
 |.Subscript a b _=>gu C.ck (iU b) (m2 .su (r.E C a) (r.E C b))
 |_=>none
def trAn(x:Str)(v:Expr):Option Sx:=match v with
 |.ListComp elt gens sc q=>m2 .as ((trL r C elt gens sc).map fun x=>.nw (hB C q 0) x) (m6 C x)
 |v=>gu C.ck (lW v) (m2 .as (r.E C v) (m6 C x))
def trAs(t v:Expr):Option Sx:=match t with
 |.Attribute o f _=>(qt f C.cl).bind fun c=>m2 (.fl c f) (r.E C o) (r.E C v)
 |.Name x _=>trAn r C x v
 |.Subscript a b p=>m2 .as (r.E C v) (r.G C (.Subscript a b p))
 |.Tuple ts k p=>(match v with
  |v=>gu C.ck (pG v&&lW v) (m2 .as (r.E C v) (r.G C (.Tuple ts k p))))
 |_=>none
def trS(s:Stmt):Option Sx:=match s with
 |.Expr e _=>gu C.ck (lW e) ((r.E C e).map .ex)
 |.Assign ts v _=>(match ts with
  |[t]=>trAs r C t v
  |_=>none)
 |.AugAssign t o v _=>(match t with
  |.Subscript a b _=>gu C.ck (iU b) (m3 (.aus o) (r.E C a) (r.E C b) (r.E C v))
  |_=>none)
 |.Return e _=>(match e with
  |none=>none
  |some e=>(r.E C e).map .rt)
 |.If t a b _=>m3 .iff (r.T C t) (lL r C a) (lL r C b)
 |.For t it b els p=>gu C.ck (els.isEmpty&&xP it) (
  if hB C p 4=true then m3 .fd (r.E C it) (r.G C t) (lL r C b) else
  m3 .fo (trI r C t it) (r.G C t) (lL r C b))
 |.While t b els _=>gu C.ck els.isEmpty (m2 .wh (r.T C t) (lL r C b))
 |.Raise _ _ _=>some .dead
 |_=>none
end
theorem EV{α:Type}{c:Bool}{x:Option α}:gu false c x=x:=rfl
theorem BY{a b:String}(h:Str.ofString a=Str.ofString b):a=b:=by
 rw[Str.ofString_eq_byList]at h;have h:=congrArg (fun x=>x.cps.toList) h;exact String.toList_inj.mp (List.map_inj_right (fun x y e=>Char.toNat_inj.mp e) |>.mp h)
theorem Ed{a b:String}:(Str.ofString a==Str.ofString b)=decide (a=b):=by
 by_cases h:a=b
 ·subst h;simp
 ·rw[yA h]
  exact beq_eq_false_iff_ne.mpr fun e=>h (BY e)
def tr:Nat->Tr
 |0=>⟨fun _ _=>none,fun _ _=>none,fun _ _=>none,fun _ _=>none⟩
 |n+1=>⟨trE (tr n),trT (tr n),trG (tr n),trS (tr n)⟩
section
variable{n:Nat}
theorem IB:(tr (n+1)).E=trE (tr n):=rfl
theorem Iy:(tr (n+1)).T=trT (tr n):=rfl
theorem IA:(tr (n+1)).G=trG (tr n):=rfl
theorem Iz:(tr (n+1)).S=trS (tr n):=rfl
end
theorem uS:type_of% @trS.eq_def:=@trS.eq_def
theorem uE:type_of% @trE.eq_def:=@trE.eq_def
theorem uT:type_of% @trT.eq_def:=@trT.eq_def
theorem uG:type_of% @trG.eq_def:=@trG.eq_def
theorem JO:type_of% @trAs.eq_def:=@trAs.eq_def
theorem JP:type_of% @trAn.eq_def:=@trAn.eq_def
theorem uK:type_of% @trK.eq_def:=@trK.eq_def
theorem JN:type_of% @trCe.eq_def:=@trCe.eq_def
theorem JM:type_of% @trCt.eq_def:=@trCt.eq_def
theorem uI:type_of% @trI.eq_def:=@trI.eq_def
theorem JJ:type_of% @trIc.eq_def:=@trIc.eq_def
theorem JG:type_of% @trSl.eq_def:=@trSl.eq_def
theorem uL:type_of% @trL.eq_def:=@trL.eq_def
theorem JL:type_of% @trEn.eq_def:=@trEn.eq_def
theorem uR:type_of% @trR.eq_def:=@trR.eq_def
theorem uZ:type_of% @trZ.eq_def:=@trZ.eq_def
theorem JK:type_of% @trF1.eq_def:=@trF1.eq_def
theorem JI:type_of% @trLf.eq_def:=@trLf.eq_def
theorem JH:type_of% @trLr.eq_def:=@trLr.eq_def
theorem uO:type_of% @trO.eq_def:=@trO.eq_def
theorem uC:type_of% @trC.eq_def:=@trC.eq_def
theorem uX:type_of% @kX.eq_def:=@kX.eq_def
theorem uM:type_of% @nmO.eq_def:=@nmO.eq_def
theorem uN:type_of% @lsO.eq_def:=@lsO.eq_def
theorem uP:type_of% @miA.eq_def:=@miA.eq_def
def FD[LS](P:Program)(w:World)(K:Frag)(mg:Str->Option Value)(base:Heap)(A:Around)(fn:Fn):Ke->Prop
 |.f x n=>∃d f fd ps,ps.length=n/\FnOk P w K mg base dW d f fd ps (c5 ⟨K,mg⟩ ps.length fn)/\Room d A/\mg x=some (.ref f)/\keepIn K (.ref f)=true/\Binds K fd ps []
 |.m c m n=>∃d f fd ps C,ps.length=n/\FnOk P w K mg base dW d f fd ps (c5 ⟨K,mg⟩ ps.length fn)/\Room d A/\mg c=some (.ref C)/\Cls K C/\jt K C m f/\Binds K fd ps []
 |.k c n=>∃d f fd ps C,ps.length=n/\FnOk P w K mg base dW d f fd ps (c5 ⟨K,mg⟩ ps.length fn)/\Room (d+1) A/\mg c=some (.ref C)/\Mk K C f/\Binds K fd ps []
structure Fit[LS](X:Cx)(C:SC)(ks:List Fn):Prop where
 N:X.N=C.N
 ck:C.ck=true
 nm:X.env.scope.names=C.nm
 nd:C.N.Nodup
 kind:X.env.scope.kind=.function
 calm:X.calm=true
 cf:∀x∈C.cf,X.fn x=true
 hu:X.A.units+64<cLine
 gd:X.A.guards=some []
 bl:∀x∈bnames,X.mg x=none
 po:PassesOwn (model X.prog X.w) X.A X.env X.xe
 ke:∀(j:Nat) k,C.ke[j]?=some k->FD X.prog X.w X.K X.mg X.base X.A (kf ks j) k
 gs:∀p∈C.gs,∀w,og p.2=some w->∃u,X.mg p.1=some u/\RelV w u
 cl:∀p∈C.cl,∃Ca,X.mg p.1=some (.ref Ca)/\Cls X.K Ca/\∀f∈p.2,NoAttr X.K Ca f
 la:∀p∈C.la,Room 2 X.A/\∃c P,X.env.code=.ref c/\CodeHd X.base c P/\iH X.mg X.base/\(P,p,X.env.qual++"<lambda>")∈LS.tb/\∀t∈LS.tb,t.1=P->t=(P,p,X.env.qual++"<lambda>")
section
variable{X:Cx}{C:SC}{ks:List Fn}
theorem Fit.kdO[LS](F:Fit X C ks)(x:Str):X.env.kindOf x=kd C x:=by unfold kd;rw[<- F.nm];rfl
theorem Fit.vis[LS](F:Fit X C ks)(h:wO C x=true):wD X.env.scope x:=by
 unfold wO kd at h;rw[<- F.nm]at h;unfold wD;split at h
 ·rename_i e;exact .inl e
 ·rename_i e;exact .inr (.inl e)
 ·rename_i e;exact .inr (.inr e)
 ·cases h
theorem Fit.loc[LS](F:Fit X C ks)(h:xX C x=true):L2.Loc X.env.scope x/\(X.fn x=true\/X.env.scope.names.lookup x=some .local):=by
 unfold xX kd at h;rw[<- F.nm]at h;unfold L2.Loc;split at h
 ·rename_i e;exact⟨.inl e,.inr e⟩
 ·rename_i e;exact⟨.inr e,.inl (F.cf x (by simpa using h))⟩
 ·cases h
theorem qk(h:Aq x=true):(x==("__debug__":Str))=false/\(x==("__classdict__":Str))=false:=cZ h fun h1 h2=>⟨by simpa using h1,by simpa using h2⟩
theorem Fit.gl[LS](F:Fit X C ks)(h:ip C x=true):Gl X x/\(x==("__debug__":Str))=false:=by
 unfold ip at h;refine cZ h fun h1 h2=>⟨?_,(qk h2).1⟩
 unfold Gl;rw[F.kdO];split at h1
 ·rename_i e;exact e
 ·cases h1
theorem Fit.nmb[LS](F:Fit X C ks){k:Nat}(h:at_ x C.N 0=some k):X.N[k]?=some x:=by rw[F.N];exact Fq h
theorem Fit.clb[LS](F:Fit X C ks){c f:Str}(h:qt f C.cl=some c):∃Ca,X.mg c=some (.ref Ca)/\Cls X.K Ca/\NoAttr X.K Ca f:=by
 obtain⟨fs,h1,h2⟩:=wo h;obtain⟨Ca,a,b,d⟩:=F.cl _ h1;exact⟨Ca,a,b,d f h2⟩
theorem Fit.blt[LS](F:Fit X C ks)(h:x∈bnames):X.mg x=none:=F.bl x h
theorem E8(b:NameKind):HQ b=(b==NameKind.free):=by cases b<;>rfl
theorem Fi(o:Option NameKind):As o=(o==some NameKind.cell):=by
 cases o with
 |none=>rfl
 |some k=>cases k<;>rfl
theorem Fit.blk[LS](F:Fit X C ks)(h:qz C sc=true):iR X (dL C sc) sc/\∀cl s H fp LP,Fit (bW X (dL C sc) sc cl s H fp LP) (R.blk C sc) ks:=by
 unfold qz at h;simp only[zC,yC]at h;obtain⟨⟨⟨⟨h1,h2⟩,h3⟩,h4⟩,h5⟩:=h;have hk:sc.kind=.function:=by
  split at h1
  ·rename_i e;exact e
  ·cases h1
 have hlen:C.N.length<=(dL C sc).length:=by unfold dL;rw[zV,zH];lia
 have free:∀x,(x,NameKind.free)∈sc.names->X.env.kindOf x=some .cell\/X.env.kindOf x=some .free:=fun x hx=>by
  have:=yR.mp h4 _ hx
  simp only at this;rw[F.kdO];split at this
  ·rename_i e;exact .inl e
  ·rename_i e;exact .inr e
  ·cases this
 have at5:∀i x,i<X.N.length->(dL C sc)[i]?=some x->(∀k,(x,k)∈sc.names->k=.free/\X.N[i]?=some x):=fun i x hi e k hm=>by
  rw[F.N]at hi ⊢
  have:=yR.mp h5 i (List.mem_range.mpr hi)
  rw [e] at this;simp only at this;have hl:=cH h2 hm;rw [hl] at this;cases k <;> simp only at this <;> first | (cases this;done) | exact ⟨rfl,of_decide_eq_true this⟩
 refine ⟨⟨hk,h2,by rw [F.N];exact hlen,free,fun i x hi e hm=>(at5 i x hi e _ hm).2,fun i x hi e hq0=>by obtain ⟨k,hm⟩:=hq0;have:=(at5 i x hi e k hm).1;subst this;exact hm⟩,fun cl s H fp LP=>?_⟩;refine ⟨rfl,F.ck,?_,h3,hk,F.calm,fun x hx=>?_,F.hu,F.gd,F.bl,PassesOwn.never,F.ke,F.gs,F.cl,fun p hp=>absurd (show p ∈ ([]:List Pos) from hp) (by simp)⟩
 ·show(relabel sc X.env).names=_
  unfold relabel R.blk;dsimp only;rw[F.kind,F.ck];apply List.map_congr_left;intro p _;obtain⟨a,b⟩:=p;simp only[F.kdO,E8,Fi];simp
 ·unfold R.blk at hx
  rw[F.ck]at hx;obtain⟨p,hp,e⟩:=yD.mp hx;obtain⟨hp1,hp2⟩:=List.mem_filter.mp hp;obtain⟨a,b⟩:=p;dsimp only at e hp2;subst e;have:b=.cell:=by cases b<;>first|rfl|cases hp2
  subst this;show(sc.names.lookup a==some NameKind.cell)=true;rw[cH h2 hp1];rfl
end
section
variable{X:Cx}{C:SC}{ks:List Fn}
theorem Fit.lam[LS](F:Fit X C ks)(rm:Room 2 X.A)(h:ye C sc ps=true):∃x,ul X (dL C sc) sc x/\plainA ps=true/\ps.args.map (·.arg)=[x]/\defaultsOf ps X.env=([],[]) /\
  ∀cl f q cd s H,Fit (qo X (dL C sc) sc cl f q cd X.A.in1 s H) (EH C sc) ks:=by
 unfold ye at h;simp only[zC]at h;obtain⟨⟨⟨⟨⟨⟨⟨h1,h2⟩,h3⟩,h4⟩,h5⟩,h6⟩,h7⟩,h8⟩:=h;obtain⟨cy,_⟩:=F.blk h1;split at h7
 ·rename_i x y ex ey
  simp only[zC]at h7;have exy:=yK h7.1;subst exy;have hl:sc.names.lookup x=some .local:=by
   have:=h7.2
   split at this
   ·rename_i e;exact e
   ·cases this
  have hN:dL C sc=(C.N.map fun x=>if p0 sc x=true then x else EU C.ck x)++[x]:=by unfold dL;rw[ex]
  refine⟨x,⟨cy,by simpa using h2,by simpa using h3,by rw[hN,F.N];simp,by rw[hN,F.N];simp,hl,fun y hy e=>?_⟩,h4,ey,?_,fun cl f q cd s H=>?_⟩
  ·have:=yR.mp h8 y hy
   rw[e]at this;cases this
  ·obtain⟨a1,a2,a3,a4,a5,a6,a7⟩:=ps
   have e5:a7=[]:=List.isEmpty_iff.mp h5;have e6:a5=[]:=List.isEmpty_iff.mp h6;subst e5;subst e6;rfl
  ·have hnd:(dL C sc).Nodup:=by
    unfold qz at h1;simp only[zC,yC]at h1;exact h1.1.1.2
   have hkd:sc.kind=.function:=cy.kind;have r1:Room 1 X.A.in1:=rm.in1;have r0:=Room.deeper r1 (newEnv sc s.heap.objs.size mainGlobals cl (q++".<locals>.") (some f) cd none builtinsNs);refine ⟨rfl,F.ck,(by show _=qP C.ck sc.names;rw [F.ck];rfl),hnd,hkd,rfl,fun x hx=>absurd (show x ∈ ([]:List Str) from hx) (by simp),r0.units,r0.gd,F.bl,PassesOwn.never,fun j k e=>absurd (show ([]:List Ke)[j]?=some k from e) (by simp),F.gs,F.cl,fun p hp=>absurd (show p ∈ ([]:List Pos) from hp) (by simp)⟩
 ·cases h7
end
mutual
theorem qV{n:Nat}:∀{t:Tg},nj n t=true->mR n (bM ks t)
 |.nm k,h=>by
  simp only[nj]at h;have hk:=zS h;simp only[bM];intro x sl st sl' st' e;cases e;exact⟨List.length_set,fun j hj=>List.getElem?_set_ne oM⟩
 |.tu m ts,h=>by
  simp only[nj]at h;simp only[bM];intro x sl st sl' st' e;unfold vY at e;split at e
  ·split at e
   ·exact lu h _ _ _ _ _ e
   ·cases e
  ·split at e
   ·split at e
    ·exact lu h _ _ _ _ _ e
    ·cases e
   ·cases e
 |.su _ _,h=>by simp only[nj]at h;cases h
theorem lu{n:Nat}:∀{ts:Tgs},oR n ts=true->∀xs sl st sl' st',iM ks ts xs sl st=some (sl',st')->sl'.length=sl.length/\∀j,j<n->sl'[j]?=sl[j]?
 |.nil,_,xs,sl,st,sl',st',e=>by
  simp only[iM]at e;cases xs with
  |nil=>cases e;exact⟨rfl,fun _ _=>rfl⟩
  |cons _ _=>cases e
 |.cons t ts,h,xs,sl,st,sl',st',e=>by
  simp only[oR,zC]at h;simp only[iM]at e;cases xs with
  |nil=>cases e
  |cons x xs =>
   obtain⟨p,e1,e2⟩:=zA e;obtain⟨a1,a2⟩:=qV h.1 _ _ _ _ _ e1;obtain⟨b1,b2⟩:=lu h.2 _ _ _ _ _ e2;exact⟨b1.trans a1,fun j hj=>(b2 j hj).trans (a2 j hj)⟩
end
theorem kh{r:Tr}(hk:C.ck=true):∀{es:List Expr}{as:Exs},jv r C es=some as->∀sl st xs st',dJ ks as sl st=some (xs,st')->xs.length=es.length
 |[],as,h,sl,st,xs,st',e=>by cases h;cases e;rfl
 |x::es,as,h,sl,st,xs,st',e=>by
  refine aM hk h fun _ h=>?_
  revert e
  refine bJ h fun a as _ h2 e=>?_
  obtain⟨p,e1,e2⟩:=zA e;obtain⟨q,e3,e4⟩:=zA e2;cases e4;rw[yY,yY,kh hk h2 _ _ _ _ e3]
theorem Hi:bootBuiltins "len"=some (.builtin "len"):=by decide +kernel
theorem He:bootBuiltins "sum"=some (.builtin "sum"):=by decide +kernel
theorem Hk:bootBuiltins "abs"=some (.builtin "abs"):=by decide +kernel
theorem Hg:bootBuiltins "min"=some (.builtin "min"):=by decide +kernel
theorem Hh:bootBuiltins "max"=some (.builtin "max"):=by decide +kernel
theorem Hj:bootBuiltins "int"=some (.type "int"):=by decide +kernel
section
variable{X:Cx}{C:SC}{ks:List Fn}
theorem Hd[LS](F:Fit X C ks)(b:Bi){e:Expr}{es:List Expr}{g:AF}{p pos:Pos}(hg:ip C b.nm=true)(ha:QA X (e::es) g)(hs:(e::es).all bV=true):QE X (.Call (.Name b.nm p) (e::es) [] pos) (qD (mL b) g):=by
 have gl:=F.gl hg;rw[List.all_cons,zC]at hs;have he:=aH (env:=X.env) (es:=es) hs.1;have hpl:=gO (env:=X.env) (pos:=pos) hs.2;cases b with
 |len=>exact lQ G9 gl.1 (F.blt dC) Hi ha dC gl.2 he hpl
 |sum=>exact lQ (G6 F.calm) gl.1 (F.blt dC) He ha dC gl.2 he hpl
 |abs=>exact lQ Hc gl.1 (F.blt dC) Hk ha dC gl.2 he hpl
 |min=>exact lQ (G7 F.calm) gl.1 (F.blt dC) Hg ha dC gl.2 he hpl
 |max=>exact lQ (G8 F.calm) gl.1 (F.blt dC) Hh ha dC gl.2 he hpl
 |int=>exact F6 Ha gl.1 (F.blt dC) Hj ha dC gl.2 he hpl
theorem Gw[LS](F:Fit X C ks)(m:Mi){o:Expr}{es:List Expr}{f:EF}{g:AF}{ap p:Pos}(ho:QE X o f)(ha:QA X es g)(h0:es=[]->g=d9)(hs:es.all bV=true)(hl:es.length<30)(hb:nv o=true)(hline:(ap.endLine==p.line)=true) :
  QE X (.Call (.Attribute o m.nm ap) es [] p) (k4 (pM m) (pL m) f g):=by
 cases es with
 |nil =>
  have:=h0 rfl
  subst this;have hbase:=fe (env:=X.env) (f:=m.nm) (eval o X.env) hb;cases m with
  |app=>exact lP PySem.F.plainAttrs_list PySem.F.slot_list_append PySem.F.type_list_append Ag ho hbase hline
  |pop=>exact lP PySem.F.plainAttrs_list PySem.F.slot_list_pop PySem.F.type_list_pop Ad ho hbase hline
  |ext=>exact lP PySem.F.plainAttrs_list PySem.F.slot_list_extend PySem.F.type_list_extend Ae ho hbase hline
  |cnt=>exact lP PySem.F.plainAttrs_list PySem.F.slot_list_count PySem.F.type_list_count (Af F.hu) ho hbase hline
 |cons e es =>
  have hbase:=fe (env:=X.env) (f:=m.nm) (eval o X.env) hb;have hfew:=HU (env:=X.env) (cpos:=p) hs hl;rw[List.all_cons,zC]at hs;have he:=aH (env:=X.env) (es:=es) hs.1;have hpl:=gO (env:=X.env) (pos:=p) hs.2;cases m with
  |app=>exact oS PySem.F.plainAttrs_list PySem.F.slot_list_append PySem.F.type_list_append Ag ho ha hbase hfew hline he hpl
  |pop=>exact oS PySem.F.plainAttrs_list PySem.F.slot_list_pop PySem.F.type_list_pop Ad ho ha hbase hfew hline he hpl
  |ext=>exact oS PySem.F.plainAttrs_list PySem.F.slot_list_extend PySem.F.type_list_extend Ae ho ha hbase hfew hline he hpl
  |cnt=>exact oS PySem.F.plainAttrs_list PySem.F.slot_list_count PySem.F.type_list_count (Af F.hu) ho ha hbase hfew hline he hpl
theorem DJ[LS]{P:Program}{w:World}{K:Frag}{mg:Str->Option Value}{base:Heap}{k:Nat}{f:Addr}{fd:FuncData}{ps:List Str}{n:Nat}{fn:Fn}(b:Bool)(F:FnOk P w K mg base dW k f fd ps (c5 ⟨K,mg⟩ n fn)):FnOk P w K mg base dW k f fd ps (c5 ⟨K,mg⟩ n (dF b fn)):=by
 cases b
 ·exact F
 ·exact FnOk.pm F
end
theorem jf{ks:List Fn}:∀{e:Ex},j7 e=true->AG (ev ks e)
 |.v k,_=>fun sl st v st' e=>by
  have e:aV k sl st=some (v,st'):=e;unfold aV at e;split at e
  ·cases e;rfl
  ·cases e
 |.i k,_=>fun sl st v st' e=>by
  cases e;rfl
 |.ix a b,h=>fun sl st v st' e=>by
  refine cZ h fun h1 h2=>?_
  obtain⟨p,e1,e2⟩:=zA e;obtain⟨q,e3,e4⟩:=zA e2;obtain⟨z,e5,e6⟩:=zE.mp e4;cases e6;rw[jf h2 _ _ _ _ e3,jf h1 _ _ _ _ e1]
 |.fd c f o,h=>fun sl st v st' e=>by
  obtain ⟨p,e1,e2⟩:=zA e;obtain ⟨q,e3,e4⟩:=zA e2;obtain ⟨z,e5,e6⟩:=zE.mp e4;cases e6;rw [jf (show j7 o=true from h) _ _ _ _ e1]
theorem Gx{α β γ:Type}{f:α->β->γ}{x:Option α}{y:Option β}{m:γ}(h:m2 f x y=some m):∃a b,x=some a/\y=some b/\m=f a b:=bJ h fun a b h1 h2=>⟨a,b,h1,h2,rfl⟩
structure ze[LS](r:Tr)(ks:List Fn):Prop where
 E:∀{X:Cx}{C:SC}{e:Expr}{m:Ex},Fit X C ks->r.E C e=some m->QE X e (ev ks m)
 T:∀{X:Cx}{C:SC}{e:Expr}{m:Tx},Fit X C ks->r.T C e=some m->QT X e (tv ks m)
 G:∀{X:Cx}{C:SC}{e:Expr}{m:Tg},Fit X C ks->r.G C e=some m->QG X e (bM ks m)
 S:∀{X:Cx}{C:SC}{s:Stmt}{m:Sx},Fit X C ks->r.S C s=some m->QS X s (cA ks m)
section
variable[LS]{ks:List Fn}{r:Tr}(R:ze r ks){X:Cx}{C:SC}(F:Fit X C ks)
include R F
theorem fg:∀{es:List Expr}{m:Exs},jv r C es=some m->QA X es (dJ ks m)
 |[],m,h=>by cases h;exact eB
 |e::es,m,h=>aM F.ck h fun h0 h=>bJ h fun a as h1 h2=>cK (R.E F h1) (fg h2) (aH h0)
theorem uH{e:Option Expr}{m:Ox}(h:trO r C e=some m):QO X e (qg ks m):=by
 cases e with
 |none=>cases h;exact Bq
 |some e=>exact bN h fun a h=>Bp (R.E F h)
theorem gN:∀{ss:List Stmt}{m:L5},lL r C ss=some m->k7 X ss (aj ks m)
 |[],m,h=>by cases h;exact Bj
 |s::ss,m,h=>bJ h fun a as h1 h2=>xj (R.S F h1) (gN h2)
theorem qT:∀{es:List Expr}{m:Tgs},sI r C es=some m->wF X es (iM ks m)
 |[],m,h=>by cases h;exact Bu
 |e::es,m,h=>aM F.ck h fun h0 h=>bJ h fun a as h1 h2=>xm (R.G F h1) (qT h2) (yp h0)
theorem ni{o:BoolOp}{p:Pos}:∀{x:Expr}{es:List Expr}{m:Ex},sK r C o (x::es)=some m->QE X (.BoolOp o (x::es) p) (ev ks m)
 |x,[],m,h=>by cases o<;>exact DS (R.E F h)
 |x,y::es,m,h=>bJ h fun a b h1 h2=>by
  cases o
  ·exact Dz (R.E F h1) (ni h2)
  ·exact F7 (R.E F h1) (ni h2)
theorem nh{o:BoolOp}{p:Pos}:∀{x:Expr}{es:List Expr}{m:Tx},sJ r C o (x::es)=some m->QW X (.BoolOp o (x::es) p) (tv ks m)
 |x,[],m,h=>Dc o (R.T F h)
 |x,y::es,m,h=>bJ h fun a b h1 h2=>by
  cases o
  ·exact Dd (R.T F h1) (nh h2)
  ·exact FZ (R.T F h1) (nh h2)
theorem CN{es:List Expr}{m:Cx'}(h:trC r C es=some m):sx X es (iy ks m):=by
 rcases es with _|⟨e,_|_⟩
 ·cases h;exact Bt
 ·exact bN h fun a h=>Bs (R.T F h)
 ·exact aX h
omit R in
theorem CD{x:Str}{p:Pos}{m:Ex}(h:zo C x=some m):QE X (.Name x p) (ev ks m):=by
 unfold zo at h;split at h
 ·rename_i k hk
  refine aM F.ck h fun h0 h=>cZ h0 fun h1 h2=>?_
  cases h;exact Ds (F.nmb hk) (F.vis h1) (qk h2).1 (qk h2).2
 ·refine fU h fun c hc h=>aM F.ck h fun h0 h=>cZ h0 fun h1 h2=>?_
  cases h;obtain⟨w,hw⟩:=Option.isSome_iff_exists.mp h2;obtain⟨u,h2',h3⟩:=F.gs _ (oW hc) w hw;obtain⟨g1,g2⟩:=F.gl h1;exact pC hw (BT g1 h2' h3 g2) fun _ _ _ h=>h
omit R F in
theorem uD{t:Expr}(h:(!pG t)=true):∃ts k p,t=.Tuple ts k p:=by
 cases t with
 |Tuple ts k p=>exact⟨ts,k,p,rfl⟩
 |_=>exact kD h
theorem uQ{t e:Expr}{m:Ix}(h:trI r C t e=some m):QI X t e (dz ks m):=by
 have dfl:∀{m},(r.E C e).map .e=some m->QI X t e (dz ks m):=fun h=>bN h fun a h=>IZ (R.E F h)
 cases e with
 |Call f es kws p =>
  have h:trIc r C t _ es kws (nmO f)=some m:=h;cases hx:nmO f with
  |none=>rw[hx]at h;exact dfl h
  |some x =>
   rw[hx]at h;obtain⟨q,rfl⟩:=vC hx;unfold trIc at h;split at h
   ·rename_i hr
    rw[yK hr];refine aM F.ck h fun h0 g=>jA h0 fun h1 h2 h3=>?_
    cases List.isEmpty_iff.mp h2;rcases es with _|⟨a,_|⟨b,_|⟨c,_|_⟩⟩⟩
    ·exact aX g
    ·refine cZ h3 fun h4 _=>?_
     exact bN g fun x hx=>F3 (F.gl h1).1 (F.blt dC) (R.E F hx) (aH h4)
    ·refine cZ h3 fun h4 h3=>cZ h3 fun h5 _=>?_
     exact bJ g fun x y hx hy=>F2 (F.gl h1).1 (F.blt dC) (R.E F hx) (R.E F hy) (by rw[aH h4,aH h5];rfl) (aH h5)
    all_goals exact aX g
   ·split at h
    ·rename_i hr
     rw[yK hr];refine aM F.ck h fun h0 g=>oG h0 fun h1 h2 h3 ht=>?_
     cases List.isEmpty_iff.mp h2;obtain⟨ts,k,tp,rfl⟩:=uD ht;rcases es with _|⟨a,_|⟨b,_|⟨c,_|⟨d,_|_⟩⟩⟩⟩
     ·exact aX g
     ·exact aX g
     ·refine cZ h3 fun h4 h3=>cZ h3 fun h5 _=>?_
      exact bJ g fun x y hx hy=>Do (F.gl h1).1 (F.blt dC) (R.E F hx) (R.E F hy) (by rw[aH h4,aH h5];rfl) (aH h5)
     ·exact aX g
     all_goals exact aX g
    ·split at h
     ·rename_i hr
      rw[yK hr];refine aM F.ck h fun h0 g=>jA h0 fun h1 h3 ht=>?_
      obtain⟨ts,k,tp,rfl⟩:=uD ht;rcases es with _|⟨a,_|_⟩
      ·exact aX g
      ·refine cZ h3 fun h4 _=>?_
       unfold trEn at g;dsimp only at g;split at g
       ·exact bN g fun x hx=>F4 (F.gl h1).1 (F.blt dC) (R.E F hx) (aH h4)
       ·refine aM F.ck g fun h0 g=>?_
        rw[yK h0];exact bJ g fun x y hx hy=>Dp (F.gl h1).1 (F.blt dC) (R.E F hx) (R.E F hy) (aH h4)
       ·exact aX g
      ·exact aX g
     ·exact dfl h
 |_=>exact dfl h
theorem uJ{elt:Expr}{gens:List Comprehension}{sc:Scope}{m:Nx}(h:trL r C elt gens sc=some m):∃t it cs x g c y N',gens=[⟨t,it,cs,0⟩]/\m=.lc (N'.length-X.N.length) x g c y/\iR X N' sc/\QI X t it (dz ks x)/\(∀cl s H fp LP,QG (bW X N' sc cl s H fp LP) t (bM ks g))/\(∀cl s H fp LP,sx (bW X N' sc cl s H fp LP) cs (iy ks c)) /\
  (∀cl s H fp LP,QE (bW X N' sc cl s H fp LP) elt (ev ks y))/\mR X.N.length (bM ks g)/\(∀x,foldedSetIterable it X.env x=pure x):=by
 unfold trL at h;split at h
 ·rename_i t it cs i
  refine aM F.ck h fun h0 h=>jA h0 fun h1 h2 h3=>fU h fun x hx h=>fU h fun g hg h=>aM F.ck h fun h4 k=>?_
  cases yK h2;obtain⟨T,FB⟩:=F.blk h1;obtain⟨c,y,hc,hy,rfl⟩:=Gx k;exact⟨t,it,cs,x,g,c,y,dL C sc,rfl,by rw[F.N],T,uQ R F hx,fun cl s H fp LP=>R.G (FB cl s H fp LP) hg,fun cl s H fp LP=>CN R (FB cl s H fp LP) hc,fun cl s H fp LP=>R.E (FB cl s H fp LP) hy,by rw[F.N];exact qV h4,pv h3⟩
 ·exact aX h
theorem AY{x:Str}{es:List Expr}{p p':Pos}{m:Ex}(h:trF1 r C x p' es=some m):QE X (.Call (.Name x p) es [] p') (ev ks m):=by
 rcases es with _|⟨a,_|⟨b,_|_⟩⟩
 ·exact aX h
 ·skip
  refine aM F.ck h fun h0 g=>jA h0 fun hx h1 h2=>?_
  rw[yK hx];clear h;have dfl:∀{m},((r.E C a).map fun a=>Ex.nw (hB C p' 0) (.lof a))=some m->QE X (.Call (.Name "list" p) [a] [] p') (ev ks m):=fun h=>bN h fun y h=>gB (Dm (F.gl h1).1 (F.blt dC) (R.E F h) (aH h2))
  cases a with
  |Call f es' kws' q =>
   refine aM F.ck g fun h0 k=>oG h0 fun h3 h4 h5 h6=>?_
   obtain⟨q1,rfl⟩:∃q,f=.Name "range" q:=by
    split at h3
    ·rename_i y hy
     obtain⟨q,rfl⟩:=vC hy;rw[yK h3];exact⟨q,rfl⟩
    ·exact kD h3
   cases List.isEmpty_iff.mp h4;rcases es' with _|⟨a,_|⟨b,_|⟨c,_|_⟩⟩⟩
   ·exact aX k
   ·exact cZ h6 fun h7 _=>bN k fun x hx=>gB (Dl F.calm (F.gl h1).1 (F.blt dC) (F.gl h5).1 (F.blt dC) (R.E F hx) (aH h7))
   ·exact cZ h6 fun h7 h6=>cZ h6 fun h8 _=>bJ k fun x y hx hy=>gB (Dk F.calm (F.gl h1).1 (F.blt dC) (F.gl h5).1 (F.blt dC) (R.E F hx) (R.E F hy) ((aH h7).trans (by rw[aH h8];rfl)) (aH h8))
   ·exact aX k
   all_goals exact aX k
  |_=>first|exact dfl g|exact aX g
 all_goals exact aX h
theorem CL{x:Str}{es:List Expr}{p p':Pos}{m:Ex}(h:zp r C x es p'=some m):QE X (.Call (.Name x p) es [] p') (ev ks m):=by
 unfold zp at h;split at h
 ·rename_i j _
  unfold wT at h;split at h
  ·refine aM F.ck h fun h0 h=>oG h0 fun h1 h2 h3 h4=>bN h fun as h=>?_
   unfold HK at h1;split at h1
   ·rename_i c' k hk
    refine cZ h1 fun a1 a2=>?_
    obtain⟨d,f,fd,ps,Ca,hl,Fn,hr,hC,M,hb⟩:=F.ke j _ hk;rw[yK a1]at hC;obtain⟨g1,g2⟩:=F.gl h2;cases es with
    |nil=>exact kD h3
    |cons e1 es1 =>
     have hn:ps.length=es1.length+2:=by rw[hl];exact yK a2
     refine cZ h4 fun h4 h6=>?_
     exact Dv M Fn hr g1 hC hb (fg R F h) (fun sl st xs st' e=>by rw[hn,kh F.ck h _ _ _ _ e];rfl) g2 (aH h4) (gO h6)
   ·exact kD h1
  ·refine aM F.ck h fun h0 h=>jA h0 fun h1 h2 h4=>bN h fun as h=>?_
   unfold HL at h1;split at h1
   ·rename_i y m hk
    refine cZ h1 fun h1 h0=>?_
    obtain⟨d,f,fd,ps,hl,Fn,hr,hm,kp,hb⟩:=F.ke j _ hk;obtain⟨g1,g2⟩:=F.gl h2;rw[yK h1]at hm;have hn:ps.length=es.length:=by rw[hl];exact yK h0
    cases es with
    |nil=>cases h;exact xo (DJ _ Fn) hr g1 hm kp hb hn g2
    |cons e1 es1 =>
     refine cZ h4 fun h4 h5=>?_
     exact BA (DJ _ Fn) hr g1 hm kp hb (fg R F h) (fun sl st xs st' e=>by rw[hn];exact kh F.ck h _ _ _ _ e) g2 (aH h4) (gO h5)
   ·exact kD h1
 ·unfold wU at h
  split at h
  ·rename_i b hb
   refine aM F.ck h fun h0 h=>jA h0 fun h1 h2 h3=>bN h fun as g=>?_
   cases es with
   |nil=>exact kD h2
   |cons e es =>
    obtain rfl:x=b.nm:=(show ∀ q ∈ Fm,q.1=q.2.nm by decide) _ (oW hb);exact Hd F b h1 (fg R F g) h3
  ·exact AY R F h
theorem CJ{x:Str}{es:List Expr}{kws:List Keyword}{p p':Pos}{m:Ex}(h:trK r C x es kws=some m):QE X (.Call (.Name x p) es kws p') (ev ks m):=by
 unfold trK at h;split at h
 rotate_left
 ·exact aX h
 split at h
 ·refine aM F.ck h fun h0 h=>oG h0 fun h1 h2 h3 h4=>cZ h4 fun h4 h5=>bN h fun y g=>?_
  obtain⟨a,q,rfl⟩:=At h3;rw[yK h1,yK h2];exact Bx F.calm (F.gl h4).1 (F.blt dC) (R.E F g) (aH h5)
 ·rename_i a y ps body sc lp p1 z d p2
  refine aM F.ck h fun h0 h=>oG h0 fun h1 h2 h3 h4=>oG h4 fun h4 h5 h6 h7=>cZ h7 fun h7 h8=>fU h fun y hy h=>fU h fun w hw h=>aM F.ck h fun h9 h=>?_
  cases h;obtain⟨a,q,rfl⟩:=At h4;rw[yK h1,yK h2,yK h3];obtain⟨q,hq,hqe⟩:=List.any_eq_true.mp h7;have eqp:q=lp:=by
   refine oG hqe fun q1 q2 q3 q4=>?_
   cases q;cases lp;cases yK q1;cases yK q2;cases yK q3;cases yK q4;rfl
  subst eqp;obtain⟨rm,c,P,g1,g2,g3,g4,g5⟩:=F.la q hq;obtain⟨x,T,hp,hps,hdef,FL⟩:=F.lam rm h8;exact Bw F.calm (F.gl h5).1 (F.blt dC) (R.E F hy) (aH h6) hdef g1 g2 g3 g4 T hp hps rm.in1.depth (jf h9) (fun cl f c' s H=>R.E (FL cl f _ _ s H) hw) g5
 ·exact aX h
theorem CH{o:Expr}{f:Str}{ap p:Pos}{es:List Expr}{m:Ex}(h:CI r C o f ap es p=some m):QE X (.Call (.Attribute o f ap) es [] p) (ev ks m):=by
 refine aM F.ck h fun h0 h=>oG h0 fun h3 h4 h5 h6=>?_
 have h4':es.length<30:=zJ (Nat.lt_succ_self _) (zS h4);split at h
 ·rename_i j _
  refine fU h fun q _ h=>aM F.ck h fun h1 h=>?_
  revert h;intro h
  refine bJ h fun a as ha has=>?_
  unfold HJ at h1;split at h1
  ·rename_i c' m'' k hk
   refine jA h1 fun a1 a2 a3=>?_
   obtain⟨d,f',fd,ps,Ca,hl,Fn,hr,hC,cl,hm,hb⟩:=F.ke j _ hk;rw[yK a1]at hC;rw[yK a2]at hm;have hn:ps.length=es.length+1:=by rw[hl];exact yK a3
   cases es with
   |nil=>cases has;exact xn (R.E F ha) cl hC hm Fn hr hb hn (rq h5 h3 h4' h6)
   |cons e1 es1 =>
    have ht:=rq (env:=X.env) (f:=f) (o:=o) (es:=e1::es1) h5 h3 h4' h6;refine cZ h3 fun h3 h8=>?_
    exact By (R.E F ha) cl hC hm Fn hr hb (fg R F has) (fun sl st xs st' e=>by rw[hn,kh F.ck has _ _ _ _ e]) (aH h3) (gO h8) ht
  ·exact kD h1
 ·refine fU h fun q hq h=>bJ h fun a as ha has=>?_
  have e:f=(miA q es).nm:=by
   have e:=(show ∀ q ∈ Eo,q.1=q.2.nm by decide) _ (oW hq);dsimp only at e;rw [e];cases q <;> first | rfl | (cases es <;> rfl)
  subst e;exact Gw F _ (R.E F ha) (fg R F has) (fun e=>by subst e;cases has;rfl) h3 h4' h5 h6
theorem AX{a:Expr}{l h s:Option Expr}{p q:Pos}{m:Ex}(e:trSl r C a l h s p=some m):QE X (.Subscript a (.Slice l h s q) p) (ev ks m):=by
 cases s with
 |none =>
  unfold trSl at e;exact j9 e fun x y z hx hy hz=>gB (F1 (R.E F hx) (uH R F hy) (uH R F hz))
 |some s =>
  exact aX e
theorem CM{e:Expr}{m:Ex}(h:trE r C e=some m):QE X e (ev ks m):=by
 cases e with
 |Constant k a p=>cases k with
  |none=>cases h;exact pC (w:=.non) rfl DU fun _ _ _ h=>h
  |bool b=>cases h;exact pC rfl Go fun _ _ _ h=>h
  |int b=>cases h;exact pC rfl DV fun _ _ _ h=>h
  |str b=>cases h;exact pC rfl DR fun _ _ _ h=>h
  |_=>exact aX h
 |Name x p=>exact CD F h
 |BinOp a o b p =>
  unfold trE at h;split at h
  ·refine aM F.ck h fun h0 g=>?_
   cases of_decide_eq_true h0;exact bJ g fun x y hx hy=>gB (Dn (R.E F hx) (R.E F hy))
  ·split at h
   ·rename_i es hs
    obtain⟨q,rfl⟩:=EA hs;refine aM F.ck h fun h0 g=>?_
    cases of_decide_eq_true h0;exact bJ g fun x y hx hy=>gB (Dj (fg R F hx) (R.E F hy))
   ·exact bJ h fun x y hx hy=>Dy (R.E F hx) (R.E F hy)
 |Compare a os bs p =>
  have h:trCe r C a os bs=some m:=h;rcases os with _|⟨o,_|⟨o',_|_⟩⟩
  ·exact aX h
  ·rcases bs with _|⟨b,_|_⟩<;>first|exact aX h|exact aM F.ck h fun h0 h=>bJ h fun x y hx hy=>Dx F.hu (R.E F hx) (R.E F hy) h0
  ·exact aX h
  ·exact aX h
 |UnaryOp o a p=>cases o with
  |Not=>exact bN h fun x hx=>Du (R.E F hx)
  |_=>exact bN h fun x hx=>F5 (R.E F hx)
 |BoolOp o es p=>cases es with
  |nil=>exact aX h
  |cons x es=>exact ni R F h
 |IfExp t a b p=>exact j9 h fun x y z hx hy hz=>F9 (R.T F hx) (R.E F hy) (R.E F hz)
 |Subscript a i p=>cases i with
  |Slice l h' s q=>exact AX R F h
  |_=>exact aM F.ck h fun h0 h=>bJ h fun x y hx hy=>F8 F.hu (R.E F hx) (R.E F hy) (GH h0)
 |Tuple es k p=>exact bN h fun x hx=>Dt (fg R F hx)
 |List es p=>exact bN h fun x hx=>gB (Br (fg R F hx))
 |ListComp elt gens sc p =>
  refine bN h fun x hx=>?_
  obtain⟨t,it,cs,i,g,c,y,N',rfl,rfl,T,a1,a2,a3,a4,a5,a6⟩:=uJ R F hx;exact gB (zz F.calm T a1 a2 a3 a4 a5 a6)
 |Dict k v p =>
  refine aM F.ck h fun h0 g=>cZ h0 fun h1 h2=>?_
  cases g;cases List.isEmpty_iff.mp h1;cases List.isEmpty_iff.mp h2;exact Bz xI
 |Attribute o f p =>
  refine fU h fun c hc h=>aM F.ck h fun h0 h=>bN h fun x hx=>?_
  obtain⟨Ca,hC,cl,na⟩:=F.clb hc;exact Dw (R.E F hx) cl hC na (fe _ h0)
 |Call f es kws p=>cases f with
  |Name x q=>cases kws with
   |nil=>exact CL R F h
   |cons _ _=>exact CJ R F h
  |Attribute o f q =>
   refine aM F.ck h fun h0 g=>?_
   cases List.isEmpty_iff.mp h0;exact CH R F g
  |_=>exact aX h
 |_=>exact aX h
theorem CF{e:Expr}{m:Tx}(h:trT r C e=some m):QT X e (tv ks m):=by
 cases e with
 |UnaryOp o a p=>cases o with
  |Not=>exact bN h fun x hx=>De (R.T F hx)
  |_=>exact bN h fun x hx=>vd (R.E F hx) (qS rfl)
 |BoolOp o es p=>cases es with
  |nil=>exact aX h
  |cons x es=>exact PW.pt (nh R F h)
 |Compare a os bs p =>
  have h:trCt r C a os bs=some m:=h;rcases os with _|⟨o,_|⟨o',_|_⟩⟩
  ·exact aX h
  ·rcases bs with _|⟨b,_|_⟩<;>first|exact aX h|exact aM F.ck h fun h0 h=>bJ h fun x y hx hy=>Df F.hu (R.E F hx) (R.E F hy) h0
  ·exact aX h
  ·exact aX h
 |_=>exact aM F.ck h fun h0 h=>bN h fun x hx=>vd (R.E F hx) (qS h0)
omit R in
theorem tB{x:Str}{m:Tg}(h:m6 C x=some m):∃k,m=.nm k/\X.N[k]?=some x/\L2.Loc X.env.scope x/\(X.fn x=true\/X.env.scope.names.lookup x=some .local):=by
 refine fU h fun k hk h=>aM F.ck h fun h0 h=>cZ h0 fun h1 _=>?_
 cases h;obtain⟨l1,l2⟩:=F.loc h1;exact⟨k,rfl,F.nmb hk,l1,l2⟩
theorem CK{e:Expr}{m:Tg}(h:trG r C e=some m):QG X e (bM ks m):=by
 have hN:X.N.Nodup:=by rw[F.N];exact F.nd
 cases e with
 |Name x p =>
  obtain⟨k,rfl,a,b,c⟩:=tB F h;exact Bv hN a b c
 |Tuple es k p=>exact aM F.ck h fun h0 h=>bN h fun x hx=>Dq F.calm (qT R F hx) yq (yr h0)
 |Subscript a b p=>exact aM F.ck h fun h0 h=>bJ h fun x y hx hy=>Dr F.hu (R.E F hx) (R.E F hy) (CZ h0)
 |_=>exact aX h
end
theorem u5{env:Env}{e o i:Expr}{p:Pos}{l:Nat}:swapsWithSole [.Subscript o i p] e l env=pure false:=by cases e<;>rfl
theorem uY{env:Env}{e:Expr}{es:List Expr}{k:Nat}{p:Pos}{l:Nat}:swapsWithSole [.Tuple es k p] e l env=pure false:=by cases e<;>rfl
section
variable[LS]{ks:List Fn}{r:Tr}(R:ze r ks){X:Cx}{C:SC}(F:Fit X C ks)
include R F
theorem AZ{t v:Expr}{p:Pos}{m:Sx}(h:trAs r C t v=some m):QS X (.Assign [t] v p) (cA ks m):=by
 have hN:X.N.Nodup:=by rw[F.N];exact F.nd
 have nm:∀{x q v m},lW v=true->m2 Sx.as (r.E C v) (m6 C x)=some m->QS X (.Assign [.Name x q] v p) (cA ks m):=fun h0 h=>bJ h fun a g ha hg=>by
  obtain⟨k,rfl,a1,a2,a3⟩:=tB F hg;exact vf hN a1 a2 (R.E F ha) (qW h0) a3
 cases t with
 |Name x q=>cases v with
  |ListComp elt gens sc q2 =>
   refine bJ h fun a g ha hg=>?_
   clear h;obtain⟨k,rfl,l0,l1,l2⟩:=tB F hg;refine bN ha fun y hy=>?_
   obtain⟨t,it,cs,i,g,c,y,N',rfl,rfl,T,a1,a2,a3,a4,a5,a6⟩:=uJ R F hy;have hsw:=CY (env:=X.env) (elt:=elt) (gens:=[⟨t,it,cs,0⟩]) (sc:=sc) (pos:=q2) (t:=x) (p:=q) (l:=p.line) F.kind;cases hsb:Hv X.env.scope.names x q.line sc q2.line with
   |false=>rw[hsb]at hsw;exact vf hN l0 l1 (gB (zz F.calm T a1 a2 a3 a4 a5 a6)) hsw l2
   |true=>rw[hsb]at hsw;exact ve hN l0 l1 hsw F.calm T a1 a2 a3 a4 a5 a6 l2
  |_=>exact aM F.ck h fun h0 h=>nm h0 h
 |Subscript a b q=>exact bJ h fun x g hx hg=>vg (R.E F hx) (R.G F hg) u5 wZ (sf rfl)
 |Tuple ts k q=>cases v with
  |_=>exact aM F.ck h fun h0 h=>cZ h0 fun h0 h1=>bJ h fun x g hx hg=>vg (R.E F hx) (R.G F hg) uY (wY h0) (sf rfl)
 |Attribute o f q =>
  refine fU h fun c hc h=>bJ h fun a b ha hb=>?_
  obtain⟨Ca,hC,cl,na⟩:=F.clb hc;exact Di (R.E F ha) (R.E F hb) cl hC na wW
 |_=>exact aX h
theorem CG{s:Stmt}{m:Sx}(h:trS r C s=some m):QS X s (cA ks m):=by
 cases s with
 |Expr e p=>exact aM F.ck h fun h0 h=>bN h fun x hx=>Bm (R.E F hx) (qW h0)
 |Assign ts v p =>
  rcases ts with _|⟨t,_|_⟩
  ·exact aX h
  ·exact AZ R F h
  ·exact aX h
 |AugAssign t o v p=>cases t with
  |Subscript a b q=>exact aM F.ck h fun h0 h=>j9 h fun x y z hx hy hz=>Bo F.hu (R.E F hx) (R.E F hy) (R.E F hz) (Fp h0)
  |_=>exact aX h
 |Return e p=>cases e with
  | none=>first | exact aX h | (cases h;exact qs_retN)
  |some e=>exact bN h fun x hx=>Dg (R.E F hx)
 |If t a b p=>exact j9 h fun x y z hx hy hz=>F0 (R.T F hx) (gN R F hy) (gN R F hz)
 |For t it b els p =>
  refine aM F.ck h fun h0 g=>cZ h0 fun h1 h2=>?_
  cases List.isEmpty_iff.mp h1;split at g
  ·exact j9 g fun x y z hx hy hz=>Bk F.po F.calm (R.E F hx) (R.G F hy) (gN R F hz) (pv h2)
  exact j9 g fun x y z hx hy hz=>Dh F.po F.calm (uQ R F hx) (R.G F hy) (gN R F hz) (pv h2)
 |While t b els p =>
  refine aM F.ck h fun h0 g=>?_
  cases List.isEmpty_iff.mp h0;exact bJ g fun x y hx hy=>xk F.po (R.T F hx) (gN R F hy)
 |Raise=>cases h;exact Bn
 |_=>exact aX h
end
theorem lK[LS]{ks:List Fn}:∀n:Nat,ze (tr n) ks
 |0=>⟨fun _ h=>aX h,fun _ h=>aX h,fun _ h=>aX h,fun _ h=>aX h⟩
 |n+1=>⟨fun F h=>CM (lK n) F h,fun F h=>CF (lK n) F h,fun F h=>CK (lK n) F h,fun F h=>CG (lK n) F h⟩
section
variable(P:Program)(w:World)(K:Frag)(mg:Str->Option Value)(base:Heap)
def KH[LS](d:Nat)(x:Str)(n:Nat)(fn:Fn):Prop:=∃f fd ps,ps.length=n/\FnOk P w K mg base dW d f fd ps (c5 ⟨K,mg⟩ ps.length fn)/\mg x=some (.ref f)/\keepIn K (.ref f)=true/\Binds K fd ps []
def Ks[LS](d:Nat)(c m:Str)(n:Nat)(fn:Fn):Prop:=∃f fd ps C,ps.length=n/\FnOk P w K mg base dW d f fd ps (c5 ⟨K,mg⟩ ps.length fn)/\mg c=some (.ref C)/\Cls K C/\jt K C m f/\Binds K fd ps []
def Kr[LS](d:Nat)(c:Str)(n:Nat)(fn:Fn):Prop:=∃f fd ps C,ps.length=n/\FnOk P w K mg base dW d f fd ps (c5 ⟨K,mg⟩ ps.length fn)/\mg c=some (.ref C)/\Mk K C f/\Binds K fd ps []
def KOk[LS](d:Nat)(fn:Fn):Ke->Prop
 |.f x n=>KH P w K mg base d x n fn
 |.m c m n=>Ks P w K mg base d c m n fn
 |.k c n=>Kr P w K mg base d c n fn
def KsOk[LS](d:Nat):List Ke->List Fn->Prop
 |[],_=>True
 |k::ke,fn::ks=>KOk P w K mg base d fn k/\KsOk d ke ks
 |_::_,[]=>False
structure Ev(gs:List (Str×AV))(cl:List (Str×List Str)):Prop where
 bl:∀x∈bnames,mg x=none
 gs:∀p∈gs,∀w,og p.2=some w->∃u,mg p.1=some u/\RelV w u
 cl:∀p∈cl,∃Ca,mg p.1=some (.ref Ca)/\Cls K Ca/\∀f∈p.2,NoAttr K Ca f
end
section
variable{P:Program}{w:World}{K:Frag}{mg:Str->Option Value}{base:Heap}{d d':Nat}{fn:Fn}
theorem KOk.mono[LS](h:d<=d'):∀{k:Ke},KOk P w K mg base d fn k->KOk P w K mg base d' fn k
 |.f _ _,⟨f,fd,ps,e,F,r⟩=>⟨f,fd,ps,e,F.mono h,r⟩
 |.m _ _ _,⟨f,fd,ps,C,e,F,r⟩=>⟨f,fd,ps,C,e,F.mono h,r⟩
 |.k _ _,⟨f,fd,ps,C,e,F,r⟩=>⟨f,fd,ps,C,e,F.mono h,r⟩
theorem KsOk.at[LS]:∀{ke:List Ke}{ks:List Fn}{j:Nat}{k:Ke},KsOk P w K mg base d ke ks->ke[j]?=some k->KOk P w K mg base d (kf ks j) k
 |[],_,_,_,_,e=>by simp at e
 |k::ke,[],_,_,h,_=>h.elim
 |k::ke,fn::ks,0,_,h,e=>by simp at e;subst e;exact h.1
 |k::ke,fn::ks,j+1,_,h,e=>by
  have:=KsOk.at (j:=j) h.2 (by simpa using e)
  exact this
theorem KOk.ok[LS](hr:Room (d+1) A):∀{k:Ke},KOk P w K mg base d fn k->FD P w K mg base A fn k
 |.f _ _,⟨f,fd,ps,e,F,m,kp,b⟩=>⟨d,f,fd,ps,e,F,hr.mono (Nat.le_succ d),m,kp,b⟩
 |.m _ _ _,⟨f,fd,ps,C,e,F,m,c,me,b⟩=>⟨d,f,fd,ps,C,e,F,hr.mono (Nat.le_succ d),m,c,me,b⟩
 |.k _ _,⟨f,fd,ps,C,e,F,m,mk,b⟩=>⟨d,f,fd,ps,C,e,F,hr,m,mk,b⟩
end
def eN(st:Stmt):List Str:=(c9 st).args.map (·.arg)
noncomputable def E6(N ps:List Str)(sc:Scope):Bool:=(match sc.kind with|.function=>true|_=>false)&&!sc.isCoroutine&&!sc.isGenerator&&decide N.Nodup&&decide (N.take ps.length=ps) &&
 (ps.all fun x=>match sc.names.lookup x with|some .local=>true|some .cell=>true|_=>false)&&(sc.names.all fun p=>match p.2 with|.free=>false|_=>true)
theorem E5(h:E6 N ps sc=true):kA N ps sc:=by
 unfold E6 at h;simp only[zC,yC]at h;obtain⟨⟨⟨⟨⟨⟨h1,h2⟩,h3⟩,h4⟩,h5⟩,h6⟩,h7⟩:=h;refine⟨?_,by simpa using h2,by simpa using h3,h4,h5,fun x hx=>?_,fun y hy e=>?_⟩
 ·split at h1
  ·rename_i e;exact e
  ·cases h1
 ·have:=yR.mp h6 x hx
  split at this
  ·rename_i e;exact .inl e
  ·rename_i e;exact .inr e
  ·cases this
 ·have:=yR.mp h7 y hy
  rw[e]at this;cases this
structure FH where
 ke:Ke
 qual:Str
 st:Stmt
 N:List Str
 cs:List Nat
 d:Nat
 la:List Pos
 cn:List Str
 hs:List Nat
def FH.tr(e:FH)(k:Bool)(ke:List Ke)(gs:List (Str×AV))(cl:List (Str×List Str)):Option L5 :=
 gu k (E6 e.N (eN e.st) (cg e.st)&&plainA (c9 e.st)&&decide (eN e.st).Nodup) (lL (R.tr 60) ⟨e.N,qP k (cg e.st).names,e.N,ke,gs,cl,e.la,e.cn,e.hs,k⟩ (c8 e.st))
section
variable{P:Program}{w:World}{K:Frag}{mg:Str->Option Value}{base:Heap}{d:Nat}{x qual:Str}{st:Stmt}{f:Addr}{fd:FuncData}{N:List Str}{ke:List Ke}{ks:List Fn}{gs:List (Str×AV)}{cl:List (Str×List Str)}{la:List Pos}{b:L5}
theorem GU[LS]{N ps:List Str}{k:Nat}{b:SF}(F:Fun K x qual st f fd)(S:kA N ps (cg st))
  (hbody:∀(A:Around)(outer:List Env)(s:Shared)(H:Hp)(E:XK),Room k (A.deeper (envOfC qual (cg st) s.heap.objs.size f fd.code))->k7 (nQ dW P w K mg base N qual (cg st) f fd.code A outer s H E).nox (c8 st) b) :
  FnOk P w K mg base dW (k+1) f fd ps (c5 ⟨K,mg⟩ ps.length (run N.length b)):=by
 obtain⟨oc,od,kV,doc,pm,an,cdv,ct,osl,rfl,lk,hcd⟩:=F.ex;refine GT lk hcd S (fun vs H Q E h=>h.1) fun A outer s H vs Q E hr h=>?_
 obtain⟨hl,P,φ,args,st,r,sm,k⟩:=h;have hb:=hbody A outer s H E hr;refine⟨_,PSs.nox hb,?_⟩;obtain⟨v,st',e,q⟩:=k;obtain⟨o,e1,e2⟩:=zA e;refine⟨P,φ,_,st,A9 r,sm,o,e1,?_⟩;cases o with
 |nx sl st1=>cases e2;exact fun P' φ' H' σ' f' s' _=>q P' φ' H' .non f' s' (by simp only[RA])
 |rt v st1=>cases e2;exact fun P' φ' H' w f' s' r'=>q P' φ' H' w f' s' r'
 |bk sl st1=>cases e2
 |ct sl st1=>cases e2
def qG[LS](mg:Str->Option Value)(base:Heap)(qual:Str)(cd:Value)(la:List Pos):Prop:=∀p∈la,∃c P,cd=.ref c/\CodeHd base c P/\iH mg base/\(P,p,qual++".<locals>."++"<lambda>")∈LS.tb/\∀t∈LS.tb,t.1=P->t=(P,p,qual++".<locals>."++"<lambda>")
theorem mC[LS]{e:FH}(F:Fun K x qual e.st f fd)(E:Ev K mg gs cl)(hl:qG mg base qual fd.code e.la)(hk:KsOk P w K mg base d ke ks)(h:e.tr true ke gs cl=some b) :
  FnOk P w K mg base dW (d+3) f fd (eN e.st) (c5 ⟨K,mg⟩ (eN e.st).length (run e.N.length (aj ks b)))/\Binds K fd (eN e.st) []:=by
 refine aM rfl h fun h0 h4=>jA h0 fun h1 h2 h3=>?_
 have S:=E5 h1;refine⟨GU F S fun A outer s H E' hr=>?_,F.binds fun kV doc pm an cdv ct us hl=>bind_plain h2 rfl (of_decide_eq_true h3) hl⟩;exact gN (lK _) ⟨rfl,rfl,rfl,S.nd,S.kind,rfl,fun _ _=>rfl,hr.units,hr.gd,E.bl,PassesOwn.never,fun j k e=>(hk.at e).ok (hr.mono oM),E.gs,E.cl,fun p hp=>⟨hr.mono oM,hl p hp⟩⟩ h4
end
structure FE extends FH where
 b:L5
def FE.fn(e:FE)(fs:List Fn):Fn:=run e.N.length (aj (e.cs.map (kf fs)) e.b)
def FE.ok[LS](e:FE)(K:Frag)(mg:Str->Option Value)(base:Heap):Prop:=match e.ke with
 |.f x _=>∃f fd,mg x=some (.ref f)/\Fun K x e.qual e.st f fd/\qG mg base e.qual fd.code e.la
 |.m c m _=>∃f fd C,mg c=some (.ref C)/\Cls K C/\jt K C m f/\Fun K m e.qual e.st f fd/\qG mg base e.qual fd.code e.la
 |.k c _=>∃f fd C,mg c=some (.ref C)/\Mk K C f/\Fun K "__init__" e.qual e.st f fd/\qG mg base e.qual fd.code e.la
noncomputable def Ke.n:Ke->Nat
 |.f _ n=>n
 |.m _ _ n=>n
 |.k _ n=>n
noncomputable def pV(pre:List FE)(j:Nat):Ke:=match pre[j]? with
 |some e=>e.ke
 |none=>.f "" 0
def FE.chk(gs:List (Str×AV))(cl:List (Str×List Str))(pre:List FE)(e:FE):Option L5 :=
 gu true (e.ke.n==(eN e.st).length&&e.cs.all (fun j=>match pre[j]? with|some g=>Nat.ble (g.d+3) e.d|none=>false)&&Nat.ble 3 e.d) (e.tr true (e.cs.map (pV pre)) gs cl)
def mJ(gs:List (Str×AV))(cl:List (Str×List Str)):List FE->List FE->List (Option L5)
 |_,[]=>[]
 |pre,e::r=>e.chk gs cl pre::mJ gs cl (pre++[e]) r
def iu:List Fn->List FE->List Fn
 |fs,[]=>fs
 |fs,e::r=>iu (fs++[e.fn fs]) r
section
variable{P:Program}{w:World}{K:Frag}{mg:Str->Option Value}{base:Heap}{gs:List (Str×AV)}{cl:List (Str×List Str)}
def o6[LS](P:Program)(w:World)(K:Frag)(mg:Str->Option Value)(base:Heap)(pre:List FE)(fs:List Fn):Prop:=pre.length=fs.length/\∀(j:Nat) e,pre[j]?=some e->KOk P w K mg base e.d (kf fs j) e.ke
theorem tT[LS]{d:Nat}(h:o6 P w K mg base pre fs):∀cs:List Nat,(cs.all fun j=>match pre[j]? with|some g=>Nat.ble (g.d+3) (d+3)|none=>false)=true->KsOk P w K mg base d (cs.map (pV pre)) (cs.map (kf fs))
 |[],_=>trivial
 |j::cs,hc=>by
  rw[List.all_cons,zC]at hc;refine⟨?_,tT h cs hc.2⟩;have h1:=hc.1;split at h1
  ·rename_i g hg
   have:=h.2 j g hg
   unfold pV;rw[hg];exact this.mono (by have:=zS h1;lia)
  ·cases h1
theorem GV[LS]{pre:List FE}{fs:List Fn}{e:FE}(E:Ev K mg gs cl)(h:o6 P w K mg base pre fs)(hf:e.ok K mg base)(hc:e.chk gs cl pre=some e.b):KOk P w K mg base e.d (e.fn fs) e.ke:=by
 obtain⟨h2,h3,h4,h1⟩:(e.ke.n==(eN e.st).length)=true/\(e.cs.all fun j=>match pre[j]? with|some g=>Nat.ble (g.d+3) e.d|none=>false)=true/\Nat.ble 3 e.d=true/\e.tr true (e.cs.map (pV pre)) gs cl=some e.b:=aM rfl hc fun h0 h=>jA h0 fun a b c=>⟨a,b,c,h⟩
 have hn:=yK h2;obtain⟨d,hd⟩:∃d,e.d=d+3:=⟨e.d-3,by have:=zS h4;lia⟩;rw[hd]at h3 ⊢;have hk:=tT h e.cs h3;unfold FE.fn;unfold FE.ok at hf;split at hf
 ·rename_i x n ek
  obtain⟨f,fd,m,F,L⟩:=hf;obtain⟨a1,a2⟩:=mC (e:=e.toFH) F E L hk h1;rw[ek]at hn ⊢;exact⟨f,fd,eN e.st,hn.symm,a1,m,F.kp,a2⟩
 ·rename_i c m n ek
  obtain⟨f,fd,C,hC,hc,hm,F,L⟩:=hf;obtain⟨a1,a2⟩:=mC (e:=e.toFH) F E L hk h1;rw[ek]at hn ⊢;exact⟨f,fd,eN e.st,C,hn.symm,a1,hC,hc,hm,a2⟩
 ·rename_i c n ek
  obtain⟨f,fd,C,hC,hm,F,L⟩:=hf;obtain⟨a1,a2⟩:=mC (e:=e.toFH) F E L hk h1;rw[ek]at hn ⊢;exact⟨f,fd,eN e.st,C,hn.symm,a1,hC,hm,a2⟩
theorem vN{j:Nat}(h:j<fs.length):kf (fs++[g]) j=kf fs j:=by
 unfold kf;rw[zD,zD,zN h]
theorem Cc:kf (fs++[g]) fs.length=g:=by
 unfold kf;rw[zD];simp
theorem re[LS](E:Ev K mg gs cl):∀(rest pre:List FE)(fs:List Fn),o6 P w K mg base pre fs->(∀e∈rest,e.ok K mg base)->mJ gs cl pre rest=rest.map (fun e=>some e.b)->o6 P w K mg base (pre++rest) (iu fs rest)
 |[],pre,fs,h,_,_=>by rw[List.append_nil];exact h
 |e::r,pre,fs,h,hf,hc=>by
  obtain⟨hc1,hc2⟩:=List.cons.inj hc;have h1:=GV E h (hf e z7) hc1
  have:=re E r (pre++[e]) (fs++[e.fn fs]) ⟨by simp[h.1],fun j g hg=>?_⟩ (fun g hg=>hf g (zQ _ hg)) hc2
  ·rw[yN]at this;exact this
  ·rcases yU j pre.length with hj|hj
   ·rw[zN hj]at hg
    rw[vN (by rw[<- h.1];exact hj)];exact h.2 j g hg
   ·have ej:j=pre.length:=by
     have:=(zB.mp hg).1
     rw[zV]at this;simp at this;lia
    subst ej;simp at hg;subst hg;rw[h.1,Cc];exact h1
end
theorem GC[LS]{K:Frag}{mg:Str->Option Value}{H:Hp}{a:Addr}{ns:List Int}{fn:Fn}{E:XK}(hg:∃st,fn [.fz (ns.map .int)] []=some (.bl true,st))(hS:bB K H a (ns.map V.int))(tb:∀t∈LS.tb,ff H t.1 t.2.1 t.2.2):c5 ⟨K,mg⟩ 1 fn [.ref a] H (fun v _=>v=.bl true) E:=by
 obtain ⟨st,e⟩:=hg;refine ⟨rfl,fun c=>∃ vs,Rd H c (.lst vs),[],[.fz (ns.map .int)],[],aR ?_ bo,Sim.nil (fun c h=>?_) (fun t ht=>⟨tb t ht,fun hq0=>by obtain ⟨vs,z⟩:=hq0;obtain ⟨ps,e,_⟩:=tb t ht;rcases z with z | ⟨o,z⟩ <;> (rw [e] at z;cases z)⟩),.bl true,st,e,fun P' φ' H' w f s r=>by simpa only [RA] using r⟩
 ·simp only[RA]
  refine⟨a,ns.map V.int,rfl,?_,LX.of_ints⟩;rcases hS with h|h
  ·exact .inl ⟨⟨_,h⟩,h⟩
  ·exact .inr fun H'=>.inr h
 ·obtain ⟨vs,h | ⟨o,h⟩⟩:=h <;> (rw [h];exact fun z=>nomatch z)
end R
namespace L2
open PySem PySem.Spec PyProof.Rows
theorem vL{P:Program}{w:World}{K:Frag}{mg mb:Str->Option Value}{CX:jZ}{k:Nat}{fa a:Addr}{fd:FuncData}{x:Str}{sp:Sp}{s₁:Shared}{vs:List Value}{ns:List Int}{tabs:List (Addr×Addr)}
  (KX:K.In s₁.heap) (hns:s₁.heap.Ns mainGlobals mg) (hb:s₁.heap.Ns builtinsNs mb) (hbb:∀x:Str,x≠"__name__"->mb x=bootBuiltins x) (hlim:s₁.heap.NoLimit) (hg:s₁.gens=#[])
  (bm:∃bm ob,mg "__builtins__"=some (.ref bm)/\bm≠builtinsNs/\s₁.heap.get? bm=some ob/\ob.cls=.type "module"/\ob.dict=some builtinsNs/\ob.data=.plain)
  (hT:TabsAt tabs s₁.heap) (hK0:noTabs K=true)
  (ha:s₁.heap.get? a=some { cls:=.type "list",data:=.seq vs.toArray }) (hi:IntsAre vs ns) (hl:ns.length<=sizeLine) (hr:Room k callerA)
  (F:∀base:Heap,K.In base->base.Ns mainGlobals mg->iH mg base->FnOk P w K mg base CX k fa fd [x] sp) (hbind:∀(s:Shared)(u:Value),BindsTo s fd ⟨[u],[]⟩ [(x,u)])
  (hsp:∀H:Hp,(∀q∈tabs,H q.2=some (.tbl #[]))->bB K H a (ns.map V.int)->sp [.ref a] H (fun v _=>v=.bl true) fun _ _ _=>False)
  (hCX:∀H e s',CX [] H s₁ (fun _ _ _=>False) e s'->False) :
  codeAny (model P w) callerA (.call (.ref fa) ⟨[.ref a],[]⟩) (fun r s'=>r=.ok (.ret (.bool true))/\OldK s₁.heap s'.heap/\s'.os=s₁.os/\AllBare s'.gens) s₁:=by
 have rv:=ut hi;have lenV:=hi.length;have core:∀H:Hp,bB K H a (ns.map V.int)->HOk P w H s₁.heap->(∀b,H b=none\/(b=a/\K.lookup a=none/\∃o xs,H b=some (.frz o (.lst xs)))\/(∃q∈tabs,b=q.2/\H b=some (.tbl #[])))->(∀q∈tabs,H q.2=some (.tbl #[])) ->
   codeAny (model P w) callerA (.call (.ref fa) ⟨[.ref a],[]⟩) (fun r s'=>r=.ok (.ret (.bool true))/\OldK s₁.heap s'.heap/\s'.os=s₁.os/\AllBare s'.gens) s₁:=by
  intro H hS LZ hA hTb;have fe:∀{b:Addr}{o:Obj},s₁.heap.get? b=some o->H b=none->(iK s₁.heap H).get? b=some o:=fun e n=>yh e n
  have none_of:∀{b:Addr}{o:Obj},s₁.heap.get? b=some o->o.cls≠.type "list"->o≠tabObj #[]->H b=none:=fun {b o} e n1 n2=>by
   rcases hA b with z|⟨rfl,_⟩|⟨q,hq,rfl,_⟩
   ·exact z
   ·rw[ha]at e;cases e;exact absurd rfl n1
   ·rw[(hT q hq).2]at e;cases e;exact absurd rfl n2
  have dict_of:∀{b:Addr}{o:Obj}{es:Array DictEntry}{ep:Nat},s₁.heap.get? b=some o->o.data=.dict es ep->H b=none:=fun {b o es ep} e d=>by
   rcases hA b with z|⟨rfl,_⟩|⟨q,hq,rfl,_⟩
   ·exact z
   ·rw[ha]at e;cases e;cases d
   ·rw[(hT q hq).2]at e;cases e;cases d
  have nsK:∀{b:Addr}{m:Str->Option Value},s₁.heap.Ns b m->(iK s₁.heap H).Ns b m:=fun {b m} ⟨o,es,ep,e,d,r⟩=>⟨o,es,ep,fe e (dict_of e d),d,r⟩
  have hKb:K.In (iK s₁.heap H):=fun b o e=>fe (KX b o e) (by
   rcases hA b with z|⟨rfl,z,_⟩|⟨q,hq,rfl,_⟩
   ·exact z
   ·rw[z]at e;cases e
   ·have e1:=KX _ o e
    rw[(hT q hq).2]at e1;cases e1;have h2:=yR.mp hK0 _ (mem_of_lookupK e);exact absurd (show false=true from h2) Bool.false_ne_true)
  have hM:Mod K mg (iK s₁.heap H):=⟨hKb,nsK hns,⟨mb,nsK hb,hbb⟩,let⟨mc,h1,h2⟩:=hlim;⟨mc,nsK h1,h2⟩⟩;have hBM:iH mg (iK s₁.heap H):=by
   obtain⟨bm,ob,b1,b2,b3,b4,b5,b6⟩:=bm;refine⟨bm,ob,b1,b2,fun z=>?_,fe b3 (none_of b3 (by rw[b4];intro z;injection z with z;exact absurd z dC) (fun z=>by rw[z]at b4;cases b4)),b4,b5,b6⟩;obtain⟨o,es,ep,e,d,_⟩:=hns;rw[z,e]at b3;cases b3;rw[d]at b6;cases b6
  have e0:Env0 P w K mg (iK s₁.heap H) callerA [] s₁ H:=⟨rfl,hM,fun b o e=>BX e,Nat.le_of_eq (vV _ _),trivial,fun b hb=>absurd (show b ∈ ([]:List Addr) from hb) (by simp),LZ,.of_eq hg⟩;refine codeAny_mono ((F _ hKb (nsK hns) hBM).run callerA [] s₁ H ⟨[.ref a],[]⟩ [.ref a] [.ref a] _ _ hr e0 (hbind s₁ (.ref a)) (.cons rfl .nil) (hsp H hTb hS)) fun r s' h=>?_
  cases r with
  |error e=>exact(hCX H e s' h).elim
  |ok fl =>
   cases fl with
   |next=>exact False.elim h
   |brk=>exact False.elim h
   |cont=>exact False.elim h
   |ret u =>
    obtain⟨v,H',os,bare,un,hok',r',q⟩:=h;have q':v=.bl true:=q;subst q';obtain rfl:u=Value.bool true:=r';have old:∀b o,s₁.heap.get? b=some o->asItWas s₁.heap s'.heap b o:=fun b o e=>by
     rcases hA b with z|⟨rfl,_,ob,xs,z⟩|⟨q,hq,rfl,z⟩
     ·exact .inl (un.keep b o e z (by intro z;exact absurd (show b ∈ ([]:List Addr) from z) (by simp)) (by simp))
     ·have z2:=un.frzs b ob _ z
      obtain⟨e1,_⟩:=LZ b _ z;obtain⟨e2,_⟩:=hok' b _ z2;rw[e]at e1;cases e1;exact .inl e2
     ·obtain⟨more,z2⟩:=un.tbls _ _ z
      have e2:=hok' _ _ z2;rw[(hT q hq).2]at e;cases e;exact .inr (.inl ⟨((hT q hq).1.tab (hT q hq).2).isCodeTable,rfl,#[],more,rfl,e2⟩)
    refine⟨rfl,⟨old,fun b o e=>?_⟩,os,bare⟩;exact un.there b o e (by simp)
 have natab:∀q∈tabs,q.2≠a:=fun q hq e=>by
  have:=(hT q hq).2
  rw[e,ha]at this;cases this
 cases hk:K.lookup a with
 |some o =>
  have e:=KX a o hk;rw[ha]at e;cases e;refine core (fun b=>if b∈tabs.map (·.2) then some (.tbl #[]) else none) (.inr ⟨_,vs.toArray,_,hk,rfl,rfl,rfl,by rw[zI,lenV];exact hl,by simpa using rv⟩) (fun b u z=>?_) (fun b=>?_) fun q hq=>yI (List.mem_map_of_mem hq)
  ·dsimp only at z
   by_cases hb:b∈tabs.map (·.2)
   ·rw[yI hb]at z;cases z
    obtain⟨q,hq,rfl⟩:=yD.mp hb;exact(hT q hq).2
   ·rw[yH hb]at z;cases z
  ·by_cases hb:b∈tabs.map (·.2)
   ·obtain⟨q,hq,rfl⟩:=yD.mp hb
    exact .inr (.inr ⟨q,hq,rfl,yI hb⟩)
   ·exact .inl (yH hb)
 |none =>
  refine core (fun b=>if b∈tabs.map (·.2) then some (.tbl #[]) else if b=a then some (.frz { cls:=.type "list",data:=.seq vs.toArray } (.lst (ns.map V.int))) else none) (.inl (.inr ⟨{ cls:=.type "list",data:=.seq vs.toArray },?_⟩)) (fun b u z=>?_) (fun b=>?_) fun q hq=>yI (List.mem_map_of_mem hq)
  ·dsimp only
   rw[yH (fun z=>by obtain⟨q,hq,e⟩:=yD.mp z;exact natab q hq e),yI rfl]
  ·dsimp only at z
   by_cases hb:b∈tabs.map (·.2)
   ·rw[yI hb]at z;cases z
    obtain⟨q,hq,rfl⟩:=yD.mp hb;exact(hT q hq).2
   ·rw[yH hb]at z
    by_cases hb':b=a
    ·rw[yI hb']at z;cases z
     subst hb';exact⟨ha,by rw[zH];exact hl,vs,_,rv,ha⟩
    ·rw[yH hb']at z;cases z
  ·by_cases hb:b∈tabs.map (·.2)
   ·obtain⟨q,hq,rfl⟩:=yD.mp hb
    exact .inr (.inr ⟨q,hq,rfl,yI hb⟩)
   ·by_cases hb':b=a
    ·exact .inr (.inl ⟨hb',hk,_,_,(yH hb).trans (yI hb')⟩)
    ·exact .inl ((yH hb).trans (yH hb'))
theorem Cu{l:PySem.W.OpenLaw}{n k:Nat}{q:Program}{bG:List Str}{XP:(Str->Option Value)->Heap->Prop}{YP:World->Heap->Prop}{d:DefRec}{K:Params->Frag}{sp:World->Sp}{x:Str}{tabs:List (Addr×Addr)}
  (hn:l.most=some n) (hn2:n<=sizeLine) (hdf:d.params.defaults=[]) (hr:Room k callerA)
  (hY:∀(w:World)(h:Heap),YP w h->(K w.params).In h/\∀q∈tabs,h.get? q.2=some (tabObj #[])) (hc:∀(w:World),∀q∈tabs,codeHdIn (K w.params) q.1 q.2=true) (hK0:∀(w:World),noTabs (K w.params)=true)
  (F:∀(w:World)(mg:Str->Option Value)(fa:Addr)(h:Heap),(K w.params).In h->h.Ns mainGlobals mg->mg d.name=some (.ref fa) ->
   ∃fd:FuncData,(∀(s:Shared)(u:Value),BindsTo s fd ⟨[u],[]⟩ [(x,u)]) /\
    ∀base:Heap,(K w.params).In base->base.Ns mainGlobals mg->iH mg base->FnOk l.prog w (K w.params) mg base dW k fa fd [x] (sp w))
  (hsp:∀(w:World)(H:Hp)(a:Addr)(ns:List Int),ns.length<=n->(∀q∈tabs,H q.2=some (.tbl #[]))->bB (K w.params) H a (ns.map V.int)->sp w [.ref a] H (fun v _=>v=.bl true) fun _ _ _=>False) :
  PySem.W.WalkO q bG XP YP l.row.toRowW d [] (fun f vs=>PySem.call f vs):=by
 refine Att.attach_call hn hdf fun w s₀ s₁ mg mb fa o pm cd doc a vs ns G Y ho hd hcd hmg hobj hints hlen hg=>?_
 obtain⟨KX,hT0⟩:=hY w _ Y;obtain⟨fd,hb,hF⟩:=F w mg fa _ KX G.T.g hmg;exact vL (tabs:=tabs) KX G.T.g G.T.b G.T.builtins G.T.nolimit hg G.T.bmain (fun q hq=>⟨codeHd_of_K KX (hc w q hq),hT0 q hq⟩) (hK0 w) hobj hints (z5 hlen hn2) hr hF hb (fun H hO hS=>hsp w H a ns hlen hO hS) fun H e s' z=>z
end L2
namespace R
open PySem PySem.Spec PyProof.Rows L2
abbrev FC[LS](K:Frag)(qual:Str)(cd:Value)(la:List Pos):Prop:=la=[]\/∃p c P,la=[p]/\cd=.ref c/\codeHdIn K c P=true/\LS.tb=[(P,p,qual++".<locals>."++"<lambda>")]
abbrev FactF[LS](K:Frag)(x:Str)(e:FE):Prop:=∃(f:Addr)(oc:Value)(od:Option Addr)(sl:Array (Option Value))(kV dc pm:Value)(an:Option Addr)(cd ct:Value),nsIn K mainGlobals x=some (some (.ref f)) /\
 K.lookup f=some ⟨oc,od,.func (fnOf x e.qual (c9 e.st) (c8 e.st) (cg e.st) .none kV dc pm an cd ct),sl⟩/\codeIn K cd e.qual=true/\keepIn K (.ref f)=true/\FC K e.qual cd e.la
abbrev FactM[LS](K:Frag)(c m:Str)(e:FE):Prop:=∃(C f:Addr)(oc:Value)(od:Option Addr)(sl:Array (Option Value))(kV dc pm:Value)(an:Option Addr)(cd ct:Value),nsIn K mainGlobals c=some (some (.ref C))/\findIn K (.ref C) m=some (some (.ref f)) /\
 K.lookup f=some ⟨oc,od,.func (fnOf m e.qual (c9 e.st) (c8 e.st) (cg e.st) .none kV dc pm an cd ct),sl⟩/\codeIn K cd e.qual=true/\keepIn K (.ref f)=true/\isFn K (.ref f)=true/\FC K e.qual cd e.la
abbrev FactN(K:Frag)(c:Str):Prop:=∃C:Addr,nsIn K mainGlobals c=some (some (.ref C))/\makesIn K C=true/\keepIn K (.ref C)=true
abbrev mS(K:Frag)(c:Str):Prop:=∃C:Addr,nsIn K mainGlobals c=some (some (.ref C))/\plainGet K C Str.empty=true/\hasDictIn K C=true/\plainOver K C=true/\findIn K (.ref C) "__setattr__"=some (some (.builtin "object.__setattr__"))
abbrev uk(K:Frag)(c:Str)(fs:List Str):Prop:=∃C:Addr,nsIn K mainGlobals c=some (some (.ref C))/\(fs.all fun f=>match findIn K (.ref C) f with|some none=>true|_=>false)=true
abbrev AJ(K:Frag):Prop:=(bnames.all fun x=>match nsIn K mainGlobals x with|some none=>true|_=>false)=true
section
variable[LS]{K:Frag}{h base:Heap}{mg:Str->Option Value}
theorem oX(B:K.In base)(hb:iH mg base)(L:FC K qual cd la):qG mg base qual cd la:=by
 intro p hp;rcases L with rfl|⟨q,c,P,rfl,e,hc,ht⟩
 ·cases hp
 ·rw[zM.mp hp]
  exact⟨c,P,e,codeHd_of_K B hc,hb,by rw[ht];simp,fun t h1 _=>by rw[ht]at h1;exact zM.mp h1⟩
theorem FactF.ok{n:Nat}(hk:e.ke=.f x n)(F:FactF K x e)(X:K.In h)(G:h.Ns mainGlobals mg)(B:K.In base)(hb:iH mg base):e.ok K mg base:=by
 obtain⟨f,oc,od,sl,kV,dc,pm,an,cd,ct,a,l,c,k,L⟩:=F;unfold FE.ok;rw[hk];exact⟨f,_,mg_of X G a,mD l c k,oX B hb L⟩
theorem wn(F:mS K c)(X:K.In h)(G:h.Ns mainGlobals mg)(hC:nsIn K mainGlobals c=some (some (.ref C))):mg c=some (.ref C)/\Cls K C:=by
 obtain⟨C',a,f1,f2,f3,f4⟩:=F;rw[hC]at a;cases a;exact⟨mg_of X G hC,⟨f1,f2,f3,f4⟩⟩
theorem FactM.ok{n:Nat}(hk:e.ke=.m c m n)(F:FactM K c m e)(C0:mS K c)(X:K.In h)(G:h.Ns mainGlobals mg)(B:K.In base)(hb:iH mg base):e.ok K mg base:=by
 obtain⟨C,f,oc,od,sl,kV,dc,pm,an,cd,ct,a,g,l,cc,k,i,L⟩:=F;unfold FE.ok;rw[hk];obtain⟨m1,m2⟩:=wn C0 X G a;exact⟨f,_,C,m1,m2,⟨g,i,k⟩,mD l cc k,oX B hb L⟩
theorem FactN.ok{n:Nat}(hk:e.ke=.k c n)(F:FactM K c "__init__" e)(N:FactN K c)(X:K.In h)(G:h.Ns mainGlobals mg)(B:K.In base)(hb:iH mg base):e.ok K mg base:=by
 obtain⟨C,f,oc,od,sl,kV,dc,pm,an,cd,ct,a,g,l,cc,k,i,L⟩:=F;obtain⟨C',a',m1,m2⟩:=N;rw[a]at a';cases a';unfold FE.ok;rw[hk];exact⟨f,_,C,mg_of X G a,⟨m1,g,i,m2⟩,mD l cc k,oX B hb L⟩
abbrev FactG(K:Frag)(p:Str×AV):Prop:=match p.2 with
 |.int i=>∃t,nsIn K mainGlobals p.1=some (some (.int i t))
 |.str x=>∃t,nsIn K mainGlobals p.1=some (some (.str x t))
 |_=>False
theorem FactG.ok(F:FactG K p)(X:K.In h)(G:h.Ns mainGlobals mg):∀w,og p.2=some w->∃u,mg p.1=some u/\RelV w u:=by
 obtain⟨x,c⟩:=p;intro w hw;cases c with
 |int i=>obtain⟨t,e⟩:=F;cases hw;exact⟨_,mg_of X G e,t,rfl⟩
 |str y=>obtain⟨t,e⟩:=F;cases hw;exact⟨_,mg_of X G e,t,rfl⟩
 |_=>exact F.elim
theorem GY(X:K.In h)(G:h.Ns mainGlobals mg)(hb:AJ K)(hg:∀p∈gs,FactG K p)(hc:∀p∈cl,mS K p.1/\uk K p.1 p.2):Ev K mg gs cl:=by
 refine⟨fun x hx=>?_,fun p hp=>(hg p hp).ok X G,fun p hp=>?_⟩
 ·have:=yR.mp hb x hx
  split at this
  ·rename_i e;exact mg_none_of X G e
  ·cases this
 ·obtain⟨C0,C,a,fs⟩:=hc p hp
  obtain⟨m1,m2⟩:=wn C0 X G a;refine⟨C,m1,m2,fun f hf=>?_⟩
  have:=yR.mp fs f hf
  split at this
  ·rename_i e;exact e
  ·cases this
end
abbrev AQ[LS](K:Frag)(e:FE):Prop:=match e.ke with
 |.f x _=>FactF K x e
 |.m c m _=>FactM K c m e
 |.k c _=>FactM K c "__init__" e/\FactN K c
def qJ[LS](K:Frag):List FE->Prop
 |[]=>True
 |e::r=>AQ K e/\qJ K r
noncomputable def yy(cl:List (Str×List Str))(e:FE):Bool:=match e.ke with
 |.m c _ _=>decide (c∈cl.map (·.1))
 |_=>true
theorem qd[LS]{K:Frag}{h base:Heap}{mg:Str->Option Value}(X:K.In h)(G:h.Ns mainGlobals mg)(B:K.In base)(hb:iH mg base)(hc:∀p∈cl,mS K p.1/\uk K p.1 p.2):∀{pre:List FE},pre.all (yy cl)=true->qJ K pre->∀e∈pre,e.ok K mg base
 |[],_,_,_,h=>nomatch h
 |a::r,hx,h,e,he=>by
  rw[List.all_cons,zC]at hx;rcases zT.mp he with rfl|he
  ·have h1:=h.1
   have h2:=hx.1;unfold AQ at h1;unfold yy at h2;split at h1
   ·rename_i ek;exact FactF.ok ek h1 X G B hb
   ·rename_i ek
    rw[ek]at h2;obtain⟨p,hp,e1⟩:=yD.mp (of_decide_eq_true h2);exact FactM.ok ek h1 (by rw[<- e1];exact(hc p hp).1) X G B hb
   ·rename_i ek;exact FactN.ok ek h1.1 h1.2 X G B hb
  ·exact qd X G B hb hc hx.2 h.2 e he
def AO:List Fn->List FE->List Fn->Prop
 |_,[],[]=>True
 |fs,e::r,F::Fs=>e.fn fs=F/\AO (fs++[F]) r Fs
 |_,_,_=>False
theorem wd:∀{pre:List FE}{fs Fs:List Fn},AO fs pre Fs->iu fs pre=fs++Fs
 |[],fs,[],_=>(List.append_nil fs).symm
 |e::r,fs,F::Fs,h=>by
  show iu (fs++[e.fn fs]) r=_;rw[h.1,wd h.2];simp
 |[],_,_::_,h=>h.elim
 |_::_,_,[],h=>h.elim
theorem law_F[LS]{P:Program}{w:World}{K:Frag}{h:Heap}{mg:Str->Option Value}{fa:Addr}{gs:List (Str×AV)}{cl:List (Str×List Str)}{pre:List FE}{e:FE}{fn:Fn}(X:K.In h)(G:h.Ns mainGlobals mg)(hfa:mg "law"=some (.ref fa))
  (hb:AJ K) (hg:∀p∈gs,FactG K p) (hc:∀p∈cl,mS K p.1/\uk K p.1 p.2) (hchk:mJ gs cl [] pre=pre.map fun e=>some e.b) (hce:e.chk gs cl pre=some e.b)
  (hx:pre.all (yy cl)=true) (facts:qJ K pre) (hF:FactF K "law" e) (hps:eN e.st=[("_law_script":Str)]) (hfn:e.fn (iu [] pre)=fn) :
  ∃fd:FuncData,(∀(s:Shared)(v:Value),BindsTo s fd ⟨[v],[]⟩ [("_law_script",v)])/\∀base:Heap,K.In base->base.Ns mainGlobals mg->iH mg base ->
   FnOk P w K mg base dW e.d fa fd ["_law_script"] (fun vs H Q E=>∀mg,c5 ⟨K,mg⟩ 1 fn vs H Q E):=by
 have E:=GY X G hb hg hc;obtain⟨h2,h3,h4,h1⟩:(e.ke.n==(eN e.st).length)=true/\(e.cs.all fun j=>match pre[j]? with|some g=>Nat.ble (g.d+3) e.d|none=>false)=true/\Nat.ble 3 e.d=true/\e.tr true (e.cs.map (pV pre)) gs cl=some e.b:=aM rfl hce fun h0 h=>jA h0 fun a b c=>⟨a,b,c,h⟩
 obtain⟨d,hd⟩:∃d,e.d=d+3:=⟨e.d-3,by have:=zS h4;lia⟩;rw[hd]at h3 ⊢;obtain⟨f,oc,od,sl,kV,dc,pm,an,cd,ct,a,l,c,k,L⟩:=hF;have m:=mg_of X G a;rw[hfa]at m;cases m;have F:=mD l c k;refine⟨fnOf "law" e.qual (c9 e.st) (c8 e.st) (cg e.st) .none kV dc pm an cd ct,fun s v=>?_,fun base B _ hbm=>?_⟩
 ·have hp:plainA (c9 e.st)=true:=aM rfl h1 fun h0 _=>jA h0 fun _ h _=>h
  refine .of_eq ?_
  have:=bind_plain (fd:=fnOf "law" e.qual (c9 e.st) (c8 e.st) (cg e.st) .none kV dc pm an cd ct) (us:=[v]) hp rfl (by show(eN e.st).Nodup;rw[hps];simp) (by show _=(eN e.st).length;rw[hps];rfl)
  rw[this];show pure ((eN e.st).zip [v])=_;rw[hps];rfl
 ·have pk:=re (P:=P) (w:=w) E pre [] [] ⟨rfl,fun j g hg=>by simp at hg⟩ (qd X G B hbm hc hx facts) hchk
  have hk:=tT (d:=d) pk e.cs h3
  have:=(mC (e:=e.toFH) F E (oX B hbm L) hk h1).1
  rw[hps]at this;have hfn':run e.N.length (aj (e.cs.map (kf (iu [] pre))) e.b)=fn:=hfn;rw[hfn']at this;exact this.imp fun vs H Q E q=>q mg
theorem walk_R[LS]{l:PySem.W.OpenLaw}{k:Nat}{q:Program}{bG:List Str}{XP:(Str->Option Value)->Heap->Prop}{YP:World->Heap->Prop}{d:DefRec}{K:Params->Frag}{fn:Fn}{tabs:List (Addr×Addr)}
  (hn:l.most=some 63) (hdf:d.params.defaults=[]) (hr:Room k callerA)
  (hY:∀(w:World)(h:Heap),YP w h->(K w.params).In h/\∀q∈tabs,h.get? q.2=some (tabObj #[])) (hc:∀(w:World),∀q∈tabs,codeHdIn (K w.params) q.1 q.2=true) (hK0:∀(w:World),noTabs (K w.params)=true)
  (ht:∀t∈LS.tb,t.1∈tabs.map (·.2)) (hg:∀ns:List Int,ns.length<=63->∃st,fn [.fz (ns.map .int)] []=some (.bl true,st))
  (F:∀(w:World)(mg:Str->Option Value)(fa:Addr)(h:Heap),(K w.params).In h->h.Ns mainGlobals mg->mg d.name=some (.ref fa) ->
   ∃fd:FuncData,(∀(s:Shared)(u:Value),BindsTo s fd ⟨[u],[]⟩ [("_law_script",u)]) /\
    ∀base:Heap,(K w.params).In base->base.Ns mainGlobals mg->iH mg base->FnOk l.prog w (K w.params) mg base dW k fa fd ["_law_script"] (fun vs H Q E=>∀mg,c5 ⟨K w.params,mg⟩ 1 fn vs H Q E)) :
  PySem.W.WalkO q bG XP YP l.row.toRowW d [] (fun f vs=>PySem.call f vs) :=
 Cu (sp:=fun w vs H Q E=>∀mg,c5 ⟨K w.params,mg⟩ 1 fn vs H Q E) hn dC hdf hr hY hc hK0 F fun w H a ns hl hT hS mg=>GC (hg ns hl) hS fun t h=>by
  obtain⟨q,hq,e⟩:=yD.mp (ht t h);exact⟨#[],by rw[<- e];exact hT q hq,trivial,.inl rfl⟩
end R
namespace SX
def LV:Nat->(Nat->Int)->Int
 |0,_=>0
 |n+1,f=>LV n f+f n
theorem sum_congr{n:Nat}{f g:Nat->Int}(h:∀i,i<n->f i=g i):LV n f=LV n g:=by
 induction n with
 |zero=>rfl
 |succ n ih=>simp only[LV];rw[ih fun i hi=>h i oM,h n oM]
theorem sum_zero{n:Nat}{f:Nat->Int}(h:∀i,i<n->f i=0):LV n f=0:=by
 induction n with
 |zero=>rfl
 |succ n ih=>simp only[LV];rw[ih fun i hi=>h i oM,h n oM];rfl
theorem sum_add(n:Nat)(f g:Nat->Int):LV n (fun i=>f i+g i)=LV n f+LV n g:=by
 induction n with
 |zero=>rfl
 |succ n ih=>simp only[LV];rw[ih];lia
theorem sum_mul(n:Nat)(c:Int)(f:Nat->Int):LV n (fun i=>c*f i)=c*LV n f:=by
 induction n with
 |zero=>simp[LV]
 |succ n ih=>simp only[LV];rw[ih,Int.mul_add]
theorem sum_one{n k:Nat}{f:Nat->Int}(hk:k<n)(h:∀i,i<n->i≠k->f i=0):LV n f=f k:=by
 induction n with
 |zero=>lia
 |succ n ih =>
  simp only[LV];rcases yU k n with hn|hn
  ·rw[ih hn fun i hi he=>h i oM he,h n oM oM];lia
  ·have:k=n:=by lia
   subst this;rw[sum_zero fun i hi=>h i oM oM];lia
theorem qX{n k l:Nat}{f:Nat->Int}(hk:k<n)(hl:l<n)(hne:k≠l)(h:∀i,i<n->i≠k->i≠l->f i=0):LV n f=f k+f l:=by
 have e:LV n f=LV n (fun i=>(if i=k then f i else 0)+if i=k then 0 else f i):=sum_congr fun i _=>by split<;>lia
 rw[e,sum_add,sum_one (k:=k) hk fun i _ he=>yH he,sum_one (k:=l) hl fun i hi he=>?_]
 ·rw[yI rfl,yH (fun z=>hne z.symm)]
 ·by_cases z:i=k
  ·exact yI z
  ·rw[yH z];exact h i hi z he
theorem sum_swap(n m:Nat)(f:Nat->Nat->Int):LV n (fun i=>LV m (fun j=>f i j))=LV m (fun j=>LV n (fun i=>f i j)):=by
 induction n with
 |zero=>exact(sum_zero fun _ _=>rfl).symm
 |succ n ih=>simp only[LV];rw[ih,<- sum_add]
noncomputable def up(A:Nat->Nat->Int)(r:Nat)(u:Nat->Int):Nat->Nat->Int:=fun i=>if i=r then u else A i
theorem bF{A:Nat->Nat->Int}{r:Nat}{u:Nat->Int}:up A r u r=u:=yI rfl
theorem aW{A:Nat->Nat->Int}{r i:Nat}{u:Nat->Int}(h:i≠r):up A r u i=A i:=yH h
theorem eV{A:Nat->Nat->Int}{r:Nat}:up A r (A r)=A:=by
 funext i;by_cases h:i=r
 ·rw[h,bF]
 ·exact aW h
theorem gH{A:Nat->Nat->Int}{r q:Nat}{u v:Nat->Int}(h:r≠q):up (up A r u) q v=up (up A q v) r u:=by
 funext i;by_cases h1:i=q
 ·subst h1;rw[bF,aW (fun z=>h z.symm),bF]
 ·rw[aW h1]
  by_cases h2:i=r
  ·subst h2;rw[bF,bF]
  ·rw[aW h2,aW h2,aW h1]
noncomputable def skip(k i:Nat):Nat:=if i<k then i else i+1
noncomputable def iS(k r:Nat):Nat:=if r<k then r else r-1
noncomputable def sg(k:Nat):Int:=if k%2=0 then 1 else -1
theorem Bc(k:Nat):sg (k+1)=- sg k:=by unfold sg;split<;>split<;>lia
theorem C3(k:Nat):(sg k).natAbs=1:=by unfold sg;split<;>rfl
def fE(A:Nat->Nat->Int)(k:Nat):Nat->Nat->Int:=fun i j=>A (skip k i) (j+1)
def bn:Nat->(Nat->Nat->Int)->Int
 |0,_=>1
 |n+1,A=>LV (n+1) fun k=>sg k*A k 0*bn n (fE A k)
theorem lA{A:Nat->Nat->Int}{k:Nat}{u:Nat->Int}:fE (up A k u) k=fE A k:=by
 funext i j;unfold fE;rw[aW];unfold skip;split<;>lia
theorem pJ{A:Nat->Nat->Int}{k r:Nat}{u:Nat->Int}(h:r≠k):fE (up A r u) k=up (fE A k) (iS k r) (fun j=>u (j+1)):=by
 funext i j;unfold fE;by_cases hi:i=iS k r
 ·have:skip k i=r:=by unfold skip;unfold iS at hi;split at hi<;>split<;>lia
  rw[this,bF,hi,bF]
 ·have:skip k i≠r:=by unfold skip;unfold iS at hi;split at hi<;>split<;>lia
  rw[aW this,aW hi]
theorem cS:∀{n:Nat}{A B:Nat->Nat->Int},(∀i j,i<n->j<n->A i j=B i j)->bn n A=bn n B
 |0,_,_,_=>rfl
 |n+1,A,B,h=>sum_congr fun k hk=>by
  rw[h k 0 hk oM,cS (A:=fE A k) (B:=fE B k) fun i j hi hj=>h _ _ (by unfold skip;split<;>lia) oM]
theorem fP:∀{n:Nat}{A:Nat->Nat->Int}{r:Nat}{a b:Int}{u v:Nat->Int},r<n->bn n (up A r fun j=>a*u j+b*v j)=a*bn n (up A r u)+b*bn n (up A r v)
 |0,_,_,_,_,_,_,h=>by lia
 |n+1,A,r,a,b,u,v,h=>by
  show LV (n+1) _=a*LV (n+1) _+b*LV (n+1) _;rw[<- sum_mul,<- sum_mul,<- sum_add];refine sum_congr fun k hk=>?_
  by_cases e:r=k
  ·subst e
   rw[lA,lA,lA,bF,bF,bF]
   grind
  ·rw[pJ e,pJ e,pJ e,aW (fun z=>e z.symm),aW (fun z=>e z.symm),aW (fun z=>e z.symm)]
   rw[fP (A:=fE A k) (r:=iS k r) (u:=fun j=>u (j+1)) (v:=fun j=>v (j+1)) (by unfold iS;split<;>lia)]
   grind
theorem km:∀{n:Nat}{A:Nat->Nat->Int}{r:Nat},r+1<n->(∀j,A r j=A (r+1) j)->bn n A=0
 |0,_,_,h,_=>by lia
 |n+1,A,r,h,e=>by
  show LV (n+1) _=0;have hm:bn n (fE A r)=bn n (fE A (r+1)):=by
   refine cS fun i j _ _=>?_
   unfold fE;by_cases hi:i=r
   ·subst hi
    have h1:skip i i=i+1:=by unfold skip;split<;>lia
    have h2:skip (i+1) i=i:=by unfold skip;split<;>lia
    rw[h1,h2,e]
   ·have:skip r i=skip (r+1) i:=by unfold skip;split<;>split<;>lia
    rw[this]
  rw[qX (k:=r) (l:=r+1) oM h oM fun k hk h1 h2=>?_]
  ·rw[hm,e 0,Bc];grind
  ·have:bn n (fE A k)=0:=by
    rcases yU k r with hk'|hk'
    ·refine km (r:=r-1) oM fun j=>?_
     unfold fE;have a1:skip k (r-1)=r:=by unfold skip;split<;>lia
     have a2:skip k (r-1+1)=r+1:=by unfold skip;split<;>lia
     rw[a1,a2,e]
    ·refine km (r:=r) oM fun j=>?_
     unfold fE;have a1:skip k r=r:=by unfold skip;split<;>lia
     have a2:skip k (r+1)=r+1:=by unfold skip;split<;>lia
     rw[a1,a2,e]
   rw[this,yP]
theorem kS{n:Nat}{A:Nat->Nat->Int}{c j:Nat}(hc:c<n)(hj:j<n)(hne:c≠j)(alt:∀x:Nat->Int,bn n (up (up A c x) j x)=0)(u v:Nat->Int):bn n (up (up A c u) j v)=- bn n (up (up A c v) j u):=by
 have h:=alt (fun k=>1*u k+1*v k);rw[fP hj,gH hne,fP hc,gH hne (v:=v),fP hc,<- gH hne,<- gH hne,<- gH hne,<- gH hne,alt u,alt v]at h;lia
theorem nO{n:Nat}:∀(k:Nat){A:Nat->Nat->Int}{i j:Nat},j=i+k+1->j<n->(∀x,A i x=A j x)->bn n A=0
 |0,A,i,j,e,hj,h=>km (r:=i) oM (by subst e;exact h)
 |k+1,A,i,j,e,hj,h=>by
  have alt:∀x:Nat->Int,bn n (up (up A (j-1) x) j x)=0:=fun x=>km (r:=j-1) oM fun y=>by
   rw[show j-1+1=j by lia,bF,aW oM,bF]
  have hs:=kS (A:=A) (c:=j-1) (j:=j) oM hj oM alt (A (j-1)) (A j);rw[eV,eV]at hs;rw[hs,nO k (A:=up (up A (j-1) (A j)) j (A (j-1))) (i:=i) (j:=j-1) oM oM fun x=>by
   rw[aW oM,aW oM,aW oM,bF,h]]
  rfl
theorem i7{n:Nat}{A:Nat->Nat->Int}{i j:Nat}(hi:i<n)(hj:j<n)(hne:i≠j)(h:∀x,A i x=A j x):bn n A=0:=by
 rcases yU i j with l|l
 ·exact nO (j-i-1) (i:=i) (j:=j) oM hj h
 ·exact nO (i-j-1) (i:=j) (j:=i) oM hi fun x=>(h x).symm
theorem yu{n:Nat}{A:Nat->Nat->Int}{c j:Nat}(hc:c<n)(hj:j<n)(hne:c≠j)(u v:Nat->Int):bn n (up (up A c u) j v)=- bn n (up (up A c v) j u) :=
 kS hc hj hne (fun x=>i7 hc hj hne fun y=>by rw[aW hne,bF,bF]) u v
theorem i6{n:Nat}{A:Nat->Nat->Int}{r:Nat}(hr:r<n){t:Nat->Int}{b:Nat->Nat->Int}:∀m:Nat,bn n (up A r fun x=>LV m fun k=>t k*b k x)=LV m fun k=>t k*bn n (up A r (b k))
 |0=>by
  have:=fP (A:=A) (r:=r) (a:=0) (b:=0) (u:=fun _=>0) (v:=fun _=>0) hr
  simp only[yQ,Int.add_zero]at this;exact this
 |m+1=>by
  have:=fP (A:=A) (r:=r) (a:=1) (b:=t m) (u:=fun x=>LV m fun k=>t k*b k x) (v:=b m) hr
  rw[Int.one_mul,i6 hr m]at this;simp only[Int.one_mul]at this;exact this
theorem nM{n:Nat}{A:Nat->Nat->Int}{r:Nat}(hr:r<n){d:Int}{u:Nat->Int}:bn n (up A r fun x=>d*u x)=d*bn n (up A r u):=by
 have:=fP (A:=A) (r:=r) (a:=d) (b:=0) (u:=u) (v:=u) hr
 simp only[yQ,Int.add_zero]at this;exact this
theorem g8{n:Nat}{A:Nat->Nat->Int}{r:Nat}{u v:Nat->Int}(h:∀x,x<n->u x=v x):bn n (up A r u)=bn n (up A r v):=cS fun i j _ hj=>by
 by_cases e:i=r
 ·subst e;rw[bF,bF];exact h j hj
 ·rw[aW e,aW e]
theorem G3{n:Nat}{B:Nat->Nat->Int}{j:Nat}{d:Int}{v:Nat->Int}{t:Nat->Int}(hj:j<n)(h:∀x,x<n->d*v x=LV n fun k=>t k*B k x):d*bn n (up B j v)=t j*bn n B:=by
 rw[<- nM hj,g8 h,i6 hj,sum_one hj fun k hk hne=>?_,eV];rw[i7 (i:=k) (j:=j) hk hj hne fun x=>by rw[aW hne,bF],yP]
theorem G2{n:Nat}{B:Nat->Nat->Int}{c j:Nat}{d:Int}{u v:Nat->Int}{t:Nat->Int}(hc:c<n)(hj:j<n)(hne:c≠j)(h:∀x,x<n->d*v x=LV n fun k=>t k*B k x) :
  d*bn n (up (up B c u) j v)=t j*bn n (up B c u)-t c*bn n (up B j u):=by
 rw[<- nM hj,g8 h,i6 hj,qX hj hc (fun z=>hne z.symm) fun k hk h1 h2=>?_]
 ·have e1:up (up B c u) j (B j)=up B c u:=by
   have:up B c u j=B j:=aW fun z=>hne z.symm
   rw[<- this,eV]
  rw[e1,yu hc hj hne u (B c),eV]
  grind
 ·rw[i7 (i:=k) (j:=j) hk hj h1 fun x=>by rw[aW h1,aW h2,bF],yP]
def fct:Nat->Nat
 |0=>1
 |n+1=>(n+1)*fct n
theorem abs_sum{n:Nat}{f:Nat->Int}{M:Nat}(h:∀i,i<n->(f i).natAbs<=M):(LV n f).natAbs<=n*M:=by
 induction n with
 |zero=>simp[LV]
 |succ n ih =>
  simp only[LV];have h1:=ih fun i hi=>h i oM
  have h2:=h n oM;rw[Nat.succ_mul]
  have:=Int.natAbs_add_le (LV n f) (f n)
  lia
theorem qj:∀{n:Nat}{A:Nat->Nat->Int}{M:Nat},(∀i j,i<n->j<n->(A i j).natAbs<=M)->(bn n A).natAbs<=fct n*M^n
 |0,_,_,_=>by simp[bn,fct]
 |n+1,A,M,h=>by
  show(LV (n+1) _).natAbs<=_;refine z5 (abs_sum (M:=M*(fct n*M^n)) fun k hk=>?_) ?_
  ·rw[xA,xA,C3,Nat.one_mul]
   exact Nat.mul_le_mul (h k 0 hk oM) (qj fun i j hi hj=>h _ _ (by unfold skip;split<;>lia) oM)
  ·show(n+1)*(M*(fct n*M^n))<=(n+1)*fct n*M^(n+1)
   rw[Nat.pow_succ];generalize fct n=a;generalize M^n=b;exact Nat.le_of_eq (by grind)
noncomputable def eW(w:Nat):Nat->Int:=fun x=>if x=w then 1 else 0
def aJ(w:Nat)(v:Nat->Nat->Int)(h:Nat->Nat):Nat->Nat->Int:=fun k=>if k=w then eW w else v (h k)
structure Lin(w m:Nat)(v:Nat->Nat->Int)(d:Int)(t:Nat->Nat->Int)(h s:Nat->Nat):Prop where
 pos:0<d
 lin:∀i,i<m->∀x,x<w+1->d*v (s i) x=LV (w+1) fun k=>t i k*aJ w v h k x
 dt:∃g:Int,g*g=1/\bn (w+1) (aJ w v h)=g*d
structure oH(w m r c:Nat)(e d:Int)(t:Nat->Nat->Int)(h s:Nat->Nat)(d':Int)(t':Nat->Nat->Int)(h' s':Nat->Nat):Prop where
 e1:e*e=1
 ep:0<e*t r c
 d':d'=e*t r c
 tc:∀i,i<m->i≠r->t' i c=e*t i c
 tj:∀i,i<m->i≠r->∀j,j<w+1->j≠c->t' i j=(t i j*(e*t r c)-t i c*(e*t r j))/d
 rc:t' r c=e*d
 rj:∀j,j<w+1->j≠c->t' r j=- (e*t r j)
 hc:h' c=s r
 hj:∀j,j<w->j≠c->h' j=h j
 sr:s' r=h c
 si:∀i,i<m->i≠r->s' i=s i
section
variable{w m r c:Nat}{e d d':Int}{v t t':Nat->Nat->Int}{h s h' s':Nat->Nat}
theorem Lin.one(L:Lin w m v d t h s){g:Int}(hg:bn (w+1) (aJ w v h)=g*d){i j:Nat}(hi:i<m)(hj:j<w+1):bn (w+1) (up (aJ w v h) j (v (s i)))=g*t i j:=by
 have h1:=G3 (n:=w+1) (j:=j) hj (L.lin i hi);rw[hg]at h1;have h0:d≠0:=by have:=L.pos;lia
 refine Int.eq_of_mul_eq_mul_left h0 ?_;rw[h1];grind
theorem Lin.ex(L:Lin w m v d t h s){i j:Nat}(hi:i<m)(hr:r<m)(hc:c<w+1)(hj:j<w+1)(hne:c≠j):d ∣ t i j*t r c-t i c*t r j:=by
 obtain⟨g,g1,hg⟩:=L.dt;have h1:=G2 (n:=w+1) (c:=c) (j:=j) (u:=v (s r)) hc hj hne (L.lin i hi);rw[L.one hg hr hc,L.one hg hr hj]at h1;refine⟨g*bn (w+1) (up (up (aJ w v h) c (v (s r))) j (v (s i))),?_⟩;generalize bn (w+1) (up (up (aJ w v h) c (v (s r))) j (v (s i)))=D at h1
 grind
theorem Lin.ex'(L:Lin w m v d t h s){i j:Nat}(hi:i<m)(hr:r<m)(hc:c<w+1)(hj:j<w+1)(hne:c≠j):d*((t i j*(e*t r c)-t i c*(e*t r j))/d)=t i j*(e*t r c)-t i c*(e*t r j):=by
 refine Int.mul_ediv_cancel' ?_;obtain⟨k,hk⟩:=L.ex hi hr hc hj hne;exact⟨e*k,by grind⟩
theorem qB(hc:c<w)(P1:h' c=s r)(P2:∀j,j<w->j≠c->h' j=h j):∀k,k<w+1->aJ w v h' k=up (aJ w v h) c (v (s r)) k:=by
 intro k hk;unfold aJ;by_cases e:k=c
 ·subst e;rw[bF,yH oM,P1]
 ·rw[aW e]
  by_cases e2:k=w
  ·rw[yI e2,yI e2]
  ·rw[yH e2,yH e2,P2 k oM e]
theorem Lin.piv(L:Lin w m v d t h s)(P:oH w m r c e d t h s d' t' h' s')(hr:r<m)(hc:c<w):Lin w m v d' t' h' s':=by
 have h0:d≠0:=by have:=L.pos;lia
 have e1:=P.e1;refine⟨by rw[P.d'];exact P.ep,fun i hi x hx=>?_,?_⟩
 ·by_cases ir:i=r
  ·subst ir
   rw[P.sr,P.d'];have hk:LV (w+1) (fun k=>t' i k*aJ w v h' k x)=LV (w+1) fun k=>(- e)*(t i k*aJ w v h k x)+if k=c then e*t i c*aJ w v h c x+e*d*v (s i) x else 0:=by
    refine sum_congr fun k hk=>?_
    rw[qB hc P.hc P.hj k hk];by_cases kc:k=c
    ·subst kc;rw[yI rfl,bF,P.rc];grind
    ·rw[yH kc,aW kc,P.rj k hk kc];grind
   rw[hk,sum_add,sum_mul,<- L.lin i hi x hx,sum_one (k:=c) oM fun k _ z=>yH z,yI rfl];have:aJ w v h c x=v (h c) x:=by unfold aJ;rw[yH oM]
   rw[this];grind
  ·refine Int.eq_of_mul_eq_mul_left h0 ?_
   rw[P.si i hi ir,<- sum_mul];have hk:LV (w+1) (fun k=>d*(t' i k*aJ w v h' k x))=LV (w+1) fun k=>(e*t r c*(t i k*aJ w v h k x)+(- (e*t i c))*(t r k*aJ w v h k x))+if k=c then d*(e*t i c*v (s r) x) else 0:=by
    refine sum_congr fun k hk=>?_
    rw[qB hc P.hc P.hj k hk];by_cases kc:k=c
    ·subst kc;rw[yI rfl,bF,P.tc i hi ir];grind
    ·rw[yH kc,aW kc,P.tj i hi ir k hk kc,<- Int.mul_assoc,L.ex' hi hr oM hk fun z=>kc z.symm];grind
   rw[hk,sum_add,sum_add,sum_mul,sum_mul,<- L.lin i hi x hx,<- L.lin r hr x hx,sum_one (k:=c) oM fun k _ z=>yH z,yI rfl,P.d']
   grind
 ·obtain⟨g,g1,hg⟩:=L.dt
  refine⟨g*e,by grind,?_⟩;rw[cS (B:=up (aJ w v h) c (v (s r))) fun i j hi hj=>by rw[qB hc P.hc P.hj i hi],L.one hg hr oM,P.d']
  grind
theorem Lin.func(L:Lin w m v d t h s)(hv:∀q,q<w->∀x,x<w+1->v q x=if x=q then 1 else 0)(hc:c<w+1){X:Nat->Int}(hs:∀i,i<m->s i<w->X (s i)=t i c)(hh:∀j,j<w->h j<w->X (h j)=if j=c then d else 0)
  (cov:∀q,q<w->(∃i,i<m/\s i=q)\/∃j,j<w/\h j=q) :
  (∀i,i<m->(LV w fun q=>v (s i) q*X q)+v (s i) w*(if c=w then d else 0)=t i c)/\∀j,j<w->(LV w fun q=>v (h j) q*X q)+v (h j) w*(if c=w then d else 0)=if j=c then d else 0:=by
 obtain⟨g,g1,hg⟩:=L.dt;have F:∀u:Nat->Int,(LV w fun q=>u q*X q)+u w*(if c=w then d else 0)=g*bn (w+1) (up (aJ w v h) c u):=fun u=>by
  have e1:bn (w+1) (up (aJ w v h) c u)=LV (w+1) fun q=>u q*bn (w+1) (up (aJ w v h) c (eW q)):=by
   rw[<- i6 hc];refine g8 fun x hx=>?_
   rw[sum_one hx fun k _ z=>by unfold eW;rw[yH fun y=>z y.symm,yP]];unfold eW;rw[yI rfl,Int.mul_one]
  have bb:∀k,k<w+1->g*bn (w+1) (up (aJ w v h) c (aJ w v h k))=if k=c then d else 0:=fun k hk=>by
   by_cases kc:k=c
   ·rw[yI kc,kc,eV,hg];grind
   ·rw[yH kc,i7 (i:=k) (j:=c) hk hc kc fun x=>by rw[aW kc,bF],yP]
  rw[e1,<- sum_mul];show _=LV w _+_;congr 1
  ·refine sum_congr fun q hq=>?_
   have:g*bn (w+1) (up (aJ w v h) c (eW q))=X q:=by
    have ev:∀x,x<w+1->eW q x=v q x:=fun x hx=>(hv q hq x hx).symm
    rw[g8 ev];rcases cov q hq with⟨i,hi,rfl⟩|⟨j,hj,rfl⟩
    ·rw[L.one hg hi hc,hs i hi hq];grind
    ·have:=bb j oM
     rw[show aJ w v h j=v (h j) by unfold aJ;rw[yH oM]]at this;rw[this,hh j hj hq]
   rw[<- this];grind
  ·have:=bb w oM
   rw[show aJ w v h w=eW w by unfold aJ;rw[yI rfl]]at this;have e2:(if c=w then d else 0)=if w=c then d else 0:=by
    by_cases z:c=w
    ·rw[yI z,yI z.symm]
    ·rw[yH z,yH fun y=>z y.symm]
   rw[e2,<- this];grind
 refine⟨fun i hi=>?_,fun j hj=>?_⟩
 ·rw[F,L.one hg hi hc];grind
 ·rw[F]
  have e:v (h j)=aJ w v h j:=by unfold aJ;rw[yH oM]
  rw[e];by_cases jc:j=c
  ·rw[yI jc,jc,eV,hg];grind
  ·rw[yH jc,i7 (i:=j) (j:=c) oM hc jc fun x=>by rw[aW jc,bF],yP]
theorem Lin.bound(L:Lin w m v d t h s){M:Nat}(hM:1<=M)(hv:∀q x,x<w+1->(v q x).natAbs<=M):d.natAbs<=fct (w+1)*M^(w+1)/\∀i,i<m->∀j,j<w+1->(t i j).natAbs<=fct (w+1)*M^(w+1):=by
 obtain⟨g,g1,hg⟩:=L.dt;have ga:g.natAbs=1:=by
  have:g.natAbs*g.natAbs=1:=by rw[<- xA,g1];rfl
  exact Nat.eq_one_of_mul_eq_one_left this
 have hb:∀k x,x<w+1->(aJ w v h k x).natAbs<=M:=fun k x hx=>by
  unfold aJ;split
  ·unfold eW;split<;>simp<;>lia
  ·exact hv _ x hx
 refine⟨?_,fun i hi j hj=>?_⟩
 ·have:=qj (n:=w+1) (A:=aJ w v h) (M:=M) fun i j _ hj=>hb i j hj
  rw[hg,xA,ga,Nat.one_mul]at this;exact this
 ·have:=qj (n:=w+1) (A:=up (aJ w v h) j (v (s i))) (M:=M) fun k x _ hx=>by
   by_cases z:k=j
   ·subst z;rw[bF];exact hv _ x hx
   ·rw[aW z];exact hb k x hx
  rw[L.one hg hi hj,xA,ga,Nat.one_mul]at this;exact this
end
structure Pm(w m:Nat)(h s:Nat->Nat):Prop where
 hl:∀j,j<w->h j<w+m
 sl:∀i,i<m->s i<w+m
 hi:∀j k,j<w->k<w->h j=h k->j=k
 si:∀j k,j<m->k<m->s j=s k->j=k
 hs:∀j i,j<w->i<m->h j≠s i
 cov:∀q,q<w+m->(∃i,i<m/\s i=q)\/∃j,j<w/\h j=q
structure Fea(w m:Nat)(G N:Nat->Prop)(t:Nat->Nat->Int)(h s:Nat->Nat):Prop where
 g:∀i,i<m->G (s i)->0<=t i w
 n:∀i,i<m->N (s i)->t i w=0/\∀j,j<w->¬N (h j)->t i j=0
 f:∀j,j<w->G (h j)\/N (h j)
section
variable{w m r c:Nat}{e d d':Int}{v t t':Nat->Nat->Int}{h s h' s':Nat->Nat}{G N G' N':Nat->Prop}
theorem Pm.piv(Q:Pm w m h s)(P:oH w m r c e d t h s d' t' h' s')(hr:r<m)(hc:c<w):Pm w m h' s':=by
 have hh:∀j,j<w->(j=c/\h' j=s r)\/(j≠c/\h' j=h j):=fun j hj=>by
  by_cases z:j=c
  ·subst z;exact .inl ⟨rfl,P.hc⟩
  ·exact .inr ⟨z,P.hj j hj z⟩
 have ss:∀i,i<m->(i=r/\s' i=h c)\/(i≠r/\s' i=s i):=fun i hi=>by
  by_cases z:i=r
  ·subst z;exact .inl ⟨rfl,P.sr⟩
  ·exact .inr ⟨z,P.si i hi z⟩
 refine⟨fun j hj=>?_,fun i hi=>?_,fun j k hj hk e=>?_,fun j k hj hk e=>?_,fun j i hj hi e=>?_,fun q hq=>?_⟩
 ·rcases hh j hj with⟨_,z⟩|⟨_,z⟩<;>rw[z]
  ·exact Q.sl r hr
  ·exact Q.hl j hj
 ·rcases ss i hi with⟨_,z⟩|⟨_,z⟩<;>rw[z]
  ·exact Q.hl c hc
  ·exact Q.sl i hi
 ·rcases hh j hj with⟨a,z⟩|⟨a,z⟩<;>rcases hh k hk with⟨b,y⟩|⟨b,y⟩<;>rw[z,y]at e
  ·rw[a,b]
  ·exact absurd e.symm (Q.hs k r hk hr)
  ·exact absurd e (Q.hs j r hj hr)
  ·exact Q.hi j k hj hk e
 ·rcases ss j hj with⟨a,z⟩|⟨a,z⟩<;>rcases ss k hk with⟨b,y⟩|⟨b,y⟩<;>rw[z,y]at e
  ·rw[a,b]
  ·exact absurd e (Q.hs c k hc hk)
  ·exact absurd e.symm (Q.hs c j hc hj)
  ·exact Q.si j k hj hk e
 ·rcases hh j hj with⟨a,z⟩|⟨a,z⟩<;>rcases ss i hi with⟨b,y⟩|⟨b,y⟩<;>rw[z,y]at e
  ·exact Q.hs c r hc hr e.symm
  ·exact b (Q.si i r hi hr e.symm)
  ·exact a (Q.hi j c hj hc e)
  ·exact Q.hs j i hj hi e
 ·by_cases z:q=h c
  ·exact .inl ⟨r,hr,by rw[P.sr,z]⟩
  ·by_cases y:q=s r
   ·exact .inr ⟨c,hc,by rw[P.hc,y]⟩
   ·rcases Q.cov q hq with⟨i,hi,e⟩|⟨j,hj,e⟩
    ·exact .inl ⟨i,hi,by rw[P.si i hi (fun x=>y (by rw[<- e,x]))];exact e⟩
    ·exact .inr ⟨j,hj,by rw[P.hj j hj (fun x=>z (by rw[<- e,x]))];exact e⟩
theorem tz{d x:Int}(hd:0<d)(h:0<=d*x):0<=x:=by
 rcases yV x 0 with z|z
 ·have:=Int.mul_neg_of_pos_of_neg hd z;lia
 ·exact z
theorem wN{d x:Int}(hd:0<d)(h:d*x=0):x=0:=by
 rcases Int.mul_eq_zero.mp h with z|z
 ·lia
 ·exact z
theorem Fea.piv(L:Lin w m v d t h s)(Q:Pm w m h s)(F:Fea w m G N t h s)(P:oH w m r c e d t h s d' t' h' s')(hr:r<m)(hc:c<w)(nc:¬N (h c))
  (val:∀i,i<m->i≠r->G (s i)->0<=t i w*(e*t r c)-t i c*(e*t r w)) (new:G (h c)->0<=- (e*t r w))
  (hG:∀q,q≠s r->(G' q ↔ G q)) (hN:∀q,q≠s r->(N' q ↔ N q)) (hr':G' (s r)\/N' (s r)):Fea w m G' N' t' h' s':=by
 have old:∀i,i<m->i≠r->s i≠s r:=fun i hi z y=>z (Q.si i r hi hr y)
 refine⟨fun i hi hg=>?_,fun i hi hn=>?_,fun j hj=>?_⟩
 ·by_cases z:i=r
  ·subst z
   rw[P.rj w oM oM];rw[P.sr]at hg;exact new ((hG _ (Q.hs c i hc hr)).mp hg)
  ·rw[P.si i hi z]at hg
   have:=val i hi z ((hG _ (old i hi z)).mp hg)
   rw[P.tj i hi z w oM oM];exact tz L.pos (by rw[L.ex' hi hr oM oM oM];exact this)
 ·by_cases z:i=r
  ·subst z
   rw[P.sr]at hn;exact absurd ((hN _ (Q.hs c i hc hr)).mp hn) nc
  ·rw[P.si i hi z]at hn
   obtain⟨n1,n2⟩:=F.n i hi ((hN _ (old i hi z)).mp hn);have tc:=n2 c hc nc;refine⟨?_,fun j hj hn'=>?_⟩
   ·rw[P.tj i hi z w oM oM]
    exact wN L.pos (by rw[L.ex' hi hr oM oM oM,n1,tc];grind)
   ·by_cases y:j=c
    ·subst y;rw[P.tc i hi z,tc,yP]
    ·rw[P.hj j hj y]at hn'
     have:=n2 j hj fun x=>hn' ((hN _ (Q.hs j r hj hr)).mpr x)
     rw[P.tj i hi z j oM y];exact wN L.pos (by rw[L.ex' hi hr oM oM (fun x=>y x.symm),this,tc];grind)
 ·by_cases y:j=c
  ·subst y;rw[P.hc];exact hr'
  ·rw[P.hj j hj y]
   rcases F.f j hj with x|x
   ·exact .inl ((hG _ (Q.hs j r hj hr)).mpr x)
   ·exact .inr ((hN _ (Q.hs j r hj hr)).mpr x)
theorem Fea.tight(L:Lin w m v d t h s)(Q:Pm w m h s)(F:Fea w m G N t h s)(P:oH w m r c e d t h s d' t' h' s')(hr:r<m)(hc:c<w)(nc:¬N (h c))(gr:G (s r))(neg:t r c<0)
  (ti:∀i,i<m->G (s i)->t i c<0->t r w*- t i c<=t i w*- t r c):Fea w m G N t' h' s':=by
 have e0:e=-1:=by
  have h1:=P.ep;have h2:=P.e1;rcases yV e 0 with z|z
  ·have:e*e=1:=h2
   have:e=-1:=by
    rcases yV e (-1) with y|y
    ·have:1<e*e:=by
      have a:(-e)*1<(-e)*(-e):=Int.mul_lt_mul_of_pos_left oM oM;have b:(-e)*(-e)=e*e:=by grind
      lia
     lia
    ·lia
   exact this
  ·have:e*t r c<=0:=Int.mul_nonpos_of_nonneg_of_nonpos z oM
   lia
 have rw0:=F.g r hr gr;refine Fea.piv L Q F P hr hc nc (fun i hi ne hg=>?_) (fun _=>by rw[e0];lia) (fun _ _=>.rfl) (fun _ _=>.rfl) (.inl gr);have iw:=F.g i hi hg;rw[e0];rcases yV (t i c) 0 with z|z
 ·have:=ti i hi hg z
  have a:t i w*(-1*t r c)-t i c*(-1*t r w)=t i w*- t r c-t r w*- t i c:=by grind
  rw[a];lia
 ·have a:t i w*(-1*t r c)-t i c*(-1*t r w)=t i w*- t r c+t i c*t r w:=by grind
  rw [a];have b:=Int.mul_nonneg iw (show 0 <= - t r c by lia);have c:=Int.mul_nonneg z rw0;lia
theorem Fea.lift(L:Lin w m v d t h s)(Q:Pm w m h s)(F:Fea w m G N t h s)(P:oH w m r c e d t h s d' t' h' s')(hr:r<m)(hc:c<w)(nc:¬N (h c))(pos:0<t r c)(low:t r w<0)
  (ti:∀i,i<m->G (s i)->t i c<0->t r w*t i c<=t i w*t r c) (hG:∀q,q≠s r->(G' q ↔ G q)) (hN:∀q,q≠s r->(N' q ↔ N q)) (hr':G' (s r)\/N' (s r)):Fea w m G' N' t' h' s':=by
 have e0:e=1:=by
  have h1:=P.ep;have h2:=P.e1;have e0:0<e:=by
   rcases yV 0 e with z|z
   ·exact z
   ·have:e*t r c<=0:=Int.mul_nonpos_of_nonpos_of_nonneg z oM
    lia
  rcases yV 1 e with y|y
  ·have:e*1<e*e:=Int.mul_lt_mul_of_pos_left y e0
   lia
  ·lia
 refine Fea.piv L Q F P hr hc nc (fun i hi ne hg=>?_) (fun _=>by rw[e0];lia) hG hN hr';have iw:=F.g i hi hg;rw[e0];rcases yV (t i c) 0 with z|z
 ·have:=ti i hi hg z
  have a:t i w*(1*t r c)-t i c*(1*t r w)=t i w*t r c-t r w*t i c:=by grind
  rw[a];lia
 ·have a:t i w*(1*t r c)-t i c*(1*t r w)=t i w*t r c+t i c*- t r w:=by grind
  rw [a];have b:=Int.mul_nonneg iw (show 0 <= t r c by lia);have c:=Int.mul_nonneg z (show 0 <= - t r w by lia);lia
theorem Fea.move(L:Lin w m v d t h s)(Q:Pm w m h s)(F:Fea w m G N t h s)(P:oH w m r c e d t h s d' t' h' s')(hr:r<m)(hc:c<w)(nc:¬N (h c))(nought:t r w=0)
  (hG:∀q,q≠s r->(G' q ↔ G q)) (hN:∀q,q≠s r->(N' q ↔ N q)) (hr':G' (s r)\/N' (s r)):Fea w m G' N' t' h' s':=by
 refine Fea.piv L Q F P hr hc nc (fun i hi ne hg=>?_) (fun _=>by rw[nought];lia) hG hN hr';have iw:=F.g i hi hg
 have:=P.ep
 have b:=Int.mul_nonneg iw (show 0 <= e * t r c by lia);rw [nought];have a:t i w * (e * t r c) - t i c * (e * 0)=t i w * (e * t r c):=by grind
 rw[a];exact b
theorem B8{a b x y u z:Int}(hb:b<0)(hx:x<0)(hu:0<u)(h1:z*b<=a*u)(h2:a*- x<=y*- b):z*x<=y*u:=by
 have h3:(z*b)*(-x)<=(a*u)*(-x):=Int.mul_le_mul_of_nonneg_right h1 oM;have h4:(a*- x)*u<=(y*- b)*u:=Int.mul_le_mul_of_nonneg_right h2 oM;have h5:(z*x)*(-b)<=(y*u)*(-b):=by
  have e1:(z*b)*(-x)=(z*x)*(-b):=by grind
  have e2:(a*u)*(-x)=(a*- x)*u:=by grind
  have e3:(y*- b)*u=(y*u)*(-b):=by grind
  rw[e1,e2]at h3;rw[e3]at h4;exact Int.le_trans h3 h4
 exact Int.le_of_mul_le_mul_right h5 oM
theorem Fea.guard{p:Nat}(F:Fea w m G N t h s)(Q:Pm w m h s)(hp:p<m)(h0:0<=t p w):Fea w m (fun q=>G q\/q=s p) N t h s :=
 ⟨fun i hi hg=>by
  rcases hg with hg|hg
  ·exact F.g i hi hg
  ·rw[Q.si i p hi hp hg];exact h0,F.n,fun j hj=>(F.f j hj).imp .inl id⟩
theorem Fea.nail{p:Nat}(F:Fea w m G N t h s)(Q:Pm w m h s)(hp:p<m)(h0:t p w=0)(hz:∀j,j<w->¬N (h j)->t p j=0):Fea w m G (fun q=>N q\/q=s p) t h s :=
 ⟨F.g,fun i hi hn=>by
  rcases hn with hn|hn
  ·obtain⟨a,b⟩:=F.n i hi hn
   exact⟨a,fun j hj z=>b j hj fun y=>z (.inl y)⟩
  ·rw[Q.si i p hi hp hn]
   exact⟨h0,fun j hj z=>hz j hj fun y=>z (.inl y)⟩,fun j hj=>(F.f j hj).imp id .inl⟩
noncomputable def tv(v:Nat->Nat->Int)(q:Nat):Nat->Nat->Int:=fun k x=>if k=q then-v k x else v k x
theorem Lin.turn{p:Nat}(L:Lin w m v d t h s)(Q:Pm w m h s)(hp:p<m)(h1:∀j,j<w+1->t' p j=- t p j)(h2:∀i,i<m->i≠p->∀j,j<w+1->t' i j=t i j):Lin w m (tv v (s p)) d t' h s:=by
 have hb:∀k,k<w+1->aJ w (tv v (s p)) h k=aJ w v h k:=fun k hk=>by
  unfold aJ;by_cases z:k=w
  ·rw[yI z,yI z]
  ·rw[yH z,yH z];funext x;unfold tv;rw[yH (Q.hs k p oM hp)]
 refine⟨L.pos,fun i hi x hx=>?_,?_⟩
 ·by_cases z:i=p
  ·subst z
   have:=L.lin i hi x hx
   rw[sum_congr (g:=fun k=>(-1)*(t i k*aJ w v h k x)) fun k hk=>by rw[hb k hk,h1 k hk];grind,sum_mul,<- this];unfold tv;rw[yI rfl];grind
  ·rw[sum_congr (g:=fun k=>t i k*aJ w v h k x) fun k hk=>by rw[hb k hk,h2 i hi z k hk],<- L.lin i hi x hx]
   unfold tv;rw[yH fun y=>z (Q.si i p hi hp y)]
 ·obtain⟨g,g1,hg⟩:=L.dt
  exact⟨g,g1,by rw[cS (B:=aJ w v h) fun i j hi _=>by rw[hb i hi]];exact hg⟩
theorem Fea.turn{p:Nat}(F:Fea w m G N t h s)(Q:Pm w m h s)(hp:p<m)(ng:¬G (s p))(nn:¬N (s p))(h2:∀i,i<m->i≠p->∀j,j<w+1->t' i j=t i j):Fea w m G N t' h s:=by
 refine⟨fun i hi hg=>?_,fun i hi hn=>?_,F.f⟩
 ·rw[h2 i hi (fun z=>ng (by rw[<- z];exact hg)) w oM];exact F.g i hi hg
 ·have ne:i≠p:=fun z=>nn (by rw[<- z];exact hn)
  obtain⟨a,b⟩:=F.n i hi hn;exact⟨by rw[h2 i hi ne w oM];exact a,fun j hj z=>by rw[h2 i hi ne j oM];exact b j hj z⟩
end
theorem vn:∀(M:Nat)(f:Nat->Nat),(∀n,f n<M)->∃i j,i<j/\f i=f j
 |0,f,h=>absurd (h 0) oM
 |M+1,f,h=>by
  by_cases c:∃n,∀k,n<=k->f k≠M
  ·obtain⟨n,hn⟩:=c
   obtain⟨i,j,hij,e⟩:=vn M (fun k=>f (n+k)) fun k=>by have:=h (n+k);have:=hn (n+k) oM;lia
   exact⟨n+i,n+j,by lia,e⟩
  ·have c':∀n,∃k,n<=k/\f k=M:=fun n=>Classical.byContradiction fun z=>c ⟨n,fun k hk e=>z ⟨k,hk,e⟩⟩
   obtain⟨i,_,hi⟩:=c' 0;obtain⟨j,hj,hj'⟩:=c' (i+1);exact⟨i,j,by lia,by rw[hi,hj']⟩
def iz(b:Nat)(h:Nat->Nat):Nat->Nat
 |0=>0
 |n+1=>iz b h n*b+h n
theorem wj{b:Nat}{h:Nat->Nat}:∀{n:Nat},(∀j,j<n->h j<b)->iz b h n<b^n
 |0,_=>by simp[iz]
 |n+1,H=>by
  have h1:=wj (n:=n) fun j hj=>H j oM
  have h2:=H n oM;show iz b h n*b+h n<b^(n+1);rw[Nat.pow_succ];have:(iz b h n+1)*b<=b^n*b:=Nat.mul_le_mul_right b h1;rw[Nat.succ_mul]at this;lia
theorem se{b:Nat}{h g:Nat->Nat}:∀{n:Nat},(∀j,j<n->h j<b)->(∀j,j<n->g j<b)->iz b h n=iz b g n->∀j,j<n->h j=g j
 |0,_,_,_,j,hj=>by lia
 |n+1,H,K,e,j,hj=>by
  have h2:=H n oM;have k2:=K n oM;have e':iz b h n*b+h n=iz b g n*b+g n:=e;have e1:h n=g n:=by
   have:=congrArg (·%b) e'
   simp only[Nat.mul_add_mod_self_right]at this
   rwa [Nat.mod_eq_of_lt h2,Nat.mod_eq_of_lt k2]at this
  have e2:iz b h n=iz b g n:=by
   have:iz b h n*b=iz b g n*b:=by lia
   exact Nat.eq_of_mul_eq_mul_right oM this
  rcases yU j n with z|z
  ·exact se (fun j hj=>H j oM) (fun j hj=>K j oM) e2 j z
  ·rw[show j=n by lia];exact e1
theorem uB(b:Nat->Prop){i:Nat}:∀(k:Nat),b i->¬b (i+k)->∃n,i<=n/\n<i+k/\b n/\¬b (n+1)
 |0,h,g=>absurd h g
 |k+1,h,g=>by
  by_cases z:b (i+k)
  ·exact⟨i+k,by lia,by lia,z,g⟩
  ·obtain⟨n,a,c,d⟩:=uB b k h z
   exact⟨n,a,by lia,d⟩
theorem uA(b:Nat->Prop){i j x y:Nat}(hx:i<=x/\x<=j)(hy:i<=y/\y<=j)(bx:b x)(by':¬b y)(e:b i ↔ b j):∃n,i<=n/\n<j/\b n/\¬b (n+1):=by
 have go:∀a c,i<=a->a<=c->c<=j->b a->¬b c->∃n,i<=n/\n<j/\b n/\¬b (n+1):=fun a c h1 h2 h3 p q=>by
  obtain⟨n,n1,n2,n3⟩:=uB b (c-a) p (by rwa [show a+(c-a)=c by lia]);exact⟨n,by lia,by lia,n3⟩
 rcases Nat.le_total x y with z|z
 ·exact go x y hx.1 z hy.2 bx by'
 ·by_cases q:b j
  ·exact go i y oM hy.1 hy.2 (e.mpr q) by'
  ·exact go x j hx.1 hx.2 (zP j) bx q
structure St where
 d:Int
 t:Nat->Nat->Int
 h:Nat->Nat
 s:Nat->Nat
structure Bl(w m p:Nat)(G N:Nat->Prop)(r c:Nat)(e:Int)(S S':St):Prop where
 hc:c<w
 nc:¬N (S.h c)
 up:0<S.t p c
 least:∀j,j<w->¬N (S.h j)->0<S.t p j->S.h c<=S.h j
 hr:r<m
 gr:G (S.s r)
 neg:S.t r c<0
 ti:∀i,i<m->G (S.s i)->S.t i c<0->S.t r w*- S.t i c<S.t i w*- S.t r c\/(S.t r w*- S.t i c=S.t i w*- S.t r c/\S.s r<=S.s i)
 piv:oH w m r c e S.d S.t S.h S.s S'.d S'.t S'.h S'.s
def ia(w:Nat)(S:St)(q:Nat):Prop:=∃k,k<w/\S.h k=q
def Zr(w m:Nat)(S:St)(q:Nat):Prop:=∀i,i<m->S.s i=q->S.t i w=0
theorem Ar{a b c d e f:Int}(hb:0<b)(hd:0<d)(hf:0<f)(h1:a*d<=c*b)(h2:c*f<=e*d):a*f<=e*b:=by
 have h3:(a*d)*f<=(c*b)*f:=Int.mul_le_mul_of_nonneg_right h1 oM;have h4:(c*f)*b<=(e*d)*b:=Int.mul_le_mul_of_nonneg_right h2 oM;have e1:(c*b)*f=(c*f)*b:=by grind
 have h5:(a*f)*d<=(e*b)*d:=by
  have e2:(a*f)*d=(a*d)*f:=by grind
  have e3:(e*b)*d=(e*d)*b:=by grind
  rw[e2,e3];rw[e1]at h3;exact Int.le_trans h3 h4
 exact Int.le_of_mul_le_mul_right h5 hd
section
variable{w m p:Nat}{v:Nat->Nat->Int}{G N:Nat->Prop}{S:Nat->St}{r c:Nat->Nat}{e:Nat->Int}
structure Run(w m p:Nat)(v:Nat->Nat->Int)(G N:Nat->Prop)(S:Nat->St)(r c:Nat->Nat)(e:Nat->Int):Prop where
 L:∀n,Lin w m v (S n).d (S n).t (S n).h (S n).s
 Q:∀n,Pm w m (S n).h (S n).s
 F:∀n,Fea w m G N (S n).t (S n).h (S n).s
 B:∀n,Bl w m p G N (r n) (c n) (e n) (S n) (S (n+1))
 hp:p<m
 np:¬G ((S 0).s p)
theorem Run.sp(R:Run w m p v G N S r c e):∀n,(S n).s p=(S 0).s p
 |0=>rfl
 |n+1=>by
  have h:=R.sp n;have:p≠r n:=fun z=>R.np (by rw[<- h,z];exact(R.B n).gr)
  rw[(R.B n).piv.si p R.hp this];exact h
theorem Run.pr(R:Run w m p v G N S r c e)(n:Nat):p≠r n:=fun z=>R.np (by rw[<- R.sp n,z];exact(R.B n).gr)
theorem B0{e a:Int}(h1:e*e=1)(h2:0<e*a)(h3:a<0):e=-1:=by
 have hz:e<0:=by
  rcases yV e 0 with z|z
  ·exact z
  ·have:e*a<=0:=Int.mul_nonpos_of_nonneg_of_nonpos z oM
   lia
 rcases yV e (-1) with y|y
 ·have a:(-e)*1<(-e)*(-e):=Int.mul_lt_mul_of_pos_left oM oM
  have b:(-e)*(-e)=e*e:=by grind
  lia
 ·lia
theorem Run.em(R:Run w m p v G N S r c e)(n:Nat):e n=-1:=B0 (R.B n).piv.e1 (R.B n).piv.ep (R.B n).neg
theorem Run.col(R:Run w m p v G N S r c e)(n:Nat){i:Nat}(hi:i<m)(ne:i≠r n):(S n).d*(S (n+1)).t i w=(S n).t i w*(S (n+1)).d+(S n).t i (c n)*(S n).t (r n) w:=by
 have B:=R.B n;rw[B.piv.tj i hi ne w oM (by have:=B.hc;lia),(R.L n).ex' hi B.hr (by have:=B.hc;lia) oM (by have:=B.hc;lia),B.piv.d',R.em n]
 grind
theorem Run.mono(R:Run w m p v G N S r c e)(n:Nat):(S n).t p w*(S (n+1)).d<=(S (n+1)).t p w*(S n).d:=by
 have B:=R.B n
 have:=R.col n R.hp (R.pr n)
 have h1:=Int.mul_nonneg (show 0 <= (S n).t p (c n) by have:=B.up;lia) ((R.F n).g (r n) B.hr B.gr);rw [Int.mul_comm ((S (n + 1)).t p w)];lia
theorem Run.monos(R:Run w m p v G N S r c e)(i:Nat):∀k,(S i).t p w*(S (i+k)).d<=(S (i+k)).t p w*(S i).d
 |0=>Int.le_refl _
 |k+1=>Ar (R.L i).pos (R.L (i+k)).pos (R.L (i+k+1)).pos (R.monos i k) (R.mono (i+k))
theorem Run.same(R:Run w m p v G N S r c e){i j:Nat}(h:∀k,k<w->(S i).h k=(S j).h k):(S i).d=(S j).d/\(S i).t p w=(S j).t p w:=by
 have hb:∀k,k<w+1->aJ w v (S i).h k=aJ w v (S j).h k:=fun k hk=>by
  unfold aJ;by_cases z:k=w
  ·rw[yI z,yI z]
  ·rw[yH z,yH z,h k oM]
 obtain⟨g,g1,hg⟩:=(R.L i).dt;obtain⟨g',g1',hg'⟩:=(R.L j).dt;have e1:bn (w+1) (aJ w v (S i).h)=bn (w+1) (aJ w v (S j).h):=cS fun a b ha _=>by rw[hb a ha]
 have e2:=(R.L i).one hg R.hp (j:=w) oM;have e3:=(R.L j).one hg' R.hp (j:=w) oM;rw[R.sp i]at e2;rw[R.sp j]at e3;have e4:bn (w+1) (up (aJ w v (S i).h) w (v ((S 0).s p)))=bn (w+1) (up (aJ w v (S j).h) w (v ((S 0).s p))):=cS fun a b ha _=>by
  by_cases z:a=w
  ·subst z;rw[bF,bF]
  ·rw[aW z,aW z,hb a ha]
 rw[hg,hg']at e1;rw[e2,e3]at e4;have p1:=(R.L i).pos;have p2:=(R.L j).pos;have gd:∀x:Int,x*x=1->x=1\/x=-1:=fun x hx=>by
  have:x.natAbs*x.natAbs=1:=by rw[<- xA,hx];rfl
  have:=Nat.eq_one_of_mul_eq_one_left this
  lia
 rcases gd g g1 with rfl|rfl<;>rcases gd g' g1' with rfl|rfl<;>constructor<;>lia
theorem Run.flat(R:Run w m p v G N S r c e){i j n:Nat}(h:∀k,k<w->(S i).h k=(S j).h k)(h1:i<=n)(h2:n<j):(S n).t (r n) w=0:=by
 have B:=R.B n;have a:=R.monos i (n-i);have b:=R.monos (n+1) (j-(n+1));rw[show i+(n-i)=n by lia]at a;rw[show n+1+(j-(n+1))=j by lia]at b;obtain⟨e1,e2⟩:=R.same h;rw[<- e1,<- e2]at b;have c1:=Ar (R.L (n+1)).pos (R.L i).pos (R.L n).pos b a;have c2:=R.col n R.hp (R.pr n);have g0:=(R.F n).g (r n) B.hr B.gr;rcases yV 0 ((S n).t (r n) w) with z|z
 ·have:=Int.mul_pos B.up z
  rw[Int.mul_comm ((S (n+1)).t p w)]at c1;lia
 ·lia
theorem Run.zero(R:Run w m p v G N S r c e){n q:Nat}(f:(S n).t (r n) w=0):Zr w m (S n) q ↔ Zr w m (S (n+1)) q:=by
 have B:=R.B n;have P:=B.piv;have nw:w≠c n:=by have:=B.hc;lia
 have hr':(S (n+1)).t (r n) w=0:=by rw[P.rj w oM nw,f];lia
 have iff:∀i,i<m->i≠r n->((S n).t i w=0 ↔ (S (n+1)).t i w=0):=fun i hi ne=>by
  have:=R.col n hi ne
  rw[f,yP,Int.add_zero]at this;constructor
  ·intro z;rw[z,yQ]at this;exact wN (R.L n).pos this
  ·intro z;rw[z,yP]at this
   rcases Int.mul_eq_zero.mp this.symm with y|y
   ·exact y
   ·have:=(R.L (n+1)).pos;lia
 constructor
 ·intro h i hi e
  by_cases z:i=r n
  ·rw[z];exact hr'
  ·rw[P.si i hi z]at e;exact(iff i hi z).mp (h i hi e)
 ·intro h i hi e
  by_cases z:i=r n
  ·rw[z];exact f
  ·exact(iff i hi z).mpr (h i hi (by rw[P.si i hi z];exact e))
theorem Run.zeros(R:Run w m p v G N S r c e){i j q:Nat}(h:∀k,k<w->(S i).h k=(S j).h k){a:Nat}(ha:i<=a):∀k,a+k<=j->(Zr w m (S a) q ↔ Zr w m (S (a+k)) q)
 |0,_=>.rfl
 |k+1,hk=>(R.zeros h ha k oM).trans (R.zero (R.flat h oM oM))
theorem Run.zall(R:Run w m p v G N S r c e){i j q:Nat}(h:∀k,k<w->(S i).h k=(S j).h k){a b:Nat}(ha:i<=a)(ha':a<=j)(hb:i<=b)(hb':b<=j)(z:Zr w m (S a) q):Zr w m (S b) q:=by
 rcases Nat.le_total a b with l|l
 ·have:=(R.zeros (q:=q) h ha (b-a) oM).mp;rw[show a+(b-a)=b by lia]at this;exact this z
 ·have:=(R.zeros (q:=q) h hb (a-b) oM).mpr;rw[show b+(a-b)=a by lia]at this;exact this z
theorem Run.out(R:Run w m p v G N S r c e){n q:Nat}(h:ia w (S n) q)(g:¬ia w (S (n+1)) q):q=(S n).h (c n):=by
 obtain⟨k,hk,rfl⟩:=h;by_cases z:k=c n
 ·rw[z]
 ·exact absurd ⟨k,hk,(R.B n).piv.hj k hk z⟩ g
theorem Run.inn(R:Run w m p v G N S r c e){n q:Nat}(h:¬ia w (S n) q)(g:ia w (S (n+1)) q):q=(S n).s (r n):=by
 obtain⟨k,hk,rfl⟩:=g;by_cases z:k=c n
 ·rw[z];exact(R.B n).piv.hc
 ·exact absurd ⟨k,hk,((R.B n).piv.hj k hk z).symm⟩ h
theorem Run.hz(R:Run w m p v G N S r c e){n q:Nat}(h:ia w (S n) q):Zr w m (S n) q:=fun i hi e=>by
 obtain⟨k,hk,rfl⟩:=h;exact absurd e.symm ((R.Q n).hs k i hk hi)
theorem xw{n:Nat}{f:Nat->Int}(h:0<LV n f):∃k,k<n/\0<f k:=by
 induction n with
 |zero=>exact absurd h (by simp[LV])
 |succ n ih =>
  by_cases z:0<f n
  ·exact⟨n,by lia,z⟩
  ·obtain⟨k,hk,e⟩:=ih (by simp only[LV]at h;lia)
   exact⟨k,by lia,e⟩
theorem Run.ends(R:Run w m p v G N S r c e):False:=by
 obtain⟨i,j,hij,eq⟩:=vn ((w+m)^w) (fun n=>iz (w+m) (S n).h w) fun n=>wj (R.Q n).hl
 have hh:=se (R.Q i).hl (R.Q j).hl eq
 -- the greatest quantity that is now free,now not
 let Fk:Nat->Prop:=fun q=>∃a b,i<=a/\a<=j/\i<=b/\b<=j/\ia w (S a) q/\¬ia w (S b) q
 have f0:Fk ((S i).h (c i)):=⟨i,i+1,by lia,by lia,by lia,by lia,⟨c i,(R.B i).hc,rfl⟩,fun⟨k,hk,e⟩=>(R.Q (i+1)).hs k (r i) hk (R.B i).hr (by rw[e,(R.B i).piv.sr])⟩;have bd:∀q,Fk q->q<w+m:=fun q hq0=>by obtain⟨a,b,_,_,_,_,⟨k,hk,e⟩,_⟩:=hq0;rw[<- e];exact(R.Q a).hl k hk
 obtain⟨q,hq,mx⟩:∃q,Fk q/\∀x,Fk x->x<=q:=by
  have go:∀k,(∃q,Fk q/\w+m<=q+k)->∃q,Fk q/\∀x,Fk x->x<=q:=fun k=>by
   induction k with
   |zero=>intro⟨q,h1,h2⟩;have:=bd q h1;lia
   |succ k ih =>
    rintro⟨q,h1,h2⟩;by_cases z:∃x,Fk x/\q<x
    ·obtain⟨x,x1,x2⟩:=z;exact ih ⟨x,x1,by lia⟩
    ·exact⟨q,h1,fun x hx=>by
      rcases yU q x with y|y
      ·exact absurd ⟨x,hx,y⟩ z
      ·exact y⟩
  exact go (w+m) ⟨_,f0,by lia⟩
 have hij':ia w (S i) q ↔ ia w (S j) q:=⟨fun⟨k,hk,e⟩=>⟨k,hk,by rw[<- hh k hk];exact e⟩,fun⟨k,hk,e⟩=>⟨k,hk,by rw[hh k hk];exact e⟩⟩;obtain⟨a,b,a1,a2,b1,b2,ha,hb⟩:=id hq;obtain⟨t1,u1,u2,u3,u4⟩:=uA (fun n=>ia w (S n) q) ⟨a1,a2⟩ ⟨b1,b2⟩ ha hb hij';obtain⟨t2,v1,v2,v3,v4⟩:=uA (fun n=>¬ia w (S n) q) ⟨b1,b2⟩ ⟨a1,a2⟩ hb (fun z=>z ha) (not_congr hij');have v4:ia w (S (t2+1)) q:=Classical.byContradiction v4;have q1:=R.out u3 u4;have q2:=R.inn v3 v4;have B1:=R.B t1;have B2:=R.B t2
 -- the way along the column at t2
 obtain⟨g,g1,hg⟩:=(R.L t2).dt
 let W:(Nat->Int)->Int:=fun u=>g*bn (w+1) (up (aJ w v (S t2).h) (c t2) u)
 have hcw:c t2<w+1:=by have:=B2.hc;lia
 have Ws:∀k,k<m->W (v ((S t2).s k))=(S t2).t k (c t2):=fun k hk=>by
  show g*_=_;rw[(R.L t2).one hg hk hcw];grind
 have Wb:∀k,k<w+1->W (aJ w v (S t2).h k)=if k=c t2 then(S t2).d else 0:=fun k hk=>by
  show g*_=_;by_cases z:k=c t2
  ·rw[yI z,z,eV,hg];grind
  ·rw[yH z,i7 (i:=k) (j:=c t2) hk hcw z fun x=>by rw[aW z,bF],yP]
 have key:(S t1).d*(S t2).t p (c t2)=LV w fun k=>(S t1).t p k*W (v ((S t1).h k)):=by
  have h1:(S t1).d*W (v ((S 0).s p))=LV (w+1) fun k=>(S t1).t p k*W (aJ w v (S t1).h k):=by
   show(S t1).d*(g*bn (w+1) (up (aJ w v (S t2).h) (c t2) (v ((S 0).s p))))=LV (w+1) fun k=>(S t1).t p k*(g*bn (w+1) (up (aJ w v (S t2).h) (c t2) (aJ w v (S t1).h k)))
   have h2:(S t1).d*bn (w+1) (up (aJ w v (S t2).h) (c t2) (v ((S 0).s p)))=LV (w+1) fun k=>(S t1).t p k*bn (w+1) (up (aJ w v (S t2).h) (c t2) (aJ w v (S t1).h k)):=by
    rw[<- nM hcw,<- i6 hcw];exact g8 fun x hx=>by rw[<- R.sp t1];exact(R.L t1).lin p R.hp x hx
   rw[sum_congr (g:=fun k=>g*((S t1).t p k*bn (w+1) (up (aJ w v (S t2).h) (c t2) (aJ w v (S t1).h k)))) fun k _=>by grind,sum_mul,<- h2];grind
  rw[<- Ws p R.hp,R.sp t2,h1];show LV w _+_=_;have hw:W (aJ w v (S t1).h w)=0:=by
   have:aJ w v (S t1).h w=aJ w v (S t2).h w:=by unfold aJ;rw[yI rfl,yI rfl]
   rw[this,Wb w oM,yH (by have:=B2.hc;lia)]
  show LV w _+(S t1).t p w*W (aJ w v (S t1).h w)=_;rw[hw,yP,Int.add_zero];exact sum_congr fun k hk=>by rw[show aJ w v (S t1).h k=v ((S t1).h k) by unfold aJ;rw[yH oM]]
 obtain⟨k,hk,kp⟩:=xw (by rw[<- key];exact Int.mul_pos (R.L t1).pos B2.up);have kH:ia w (S t1) ((S t1).h k):=⟨k,hk,rfl⟩;rcases(R.Q t2).cov ((S t1).h k) ((R.Q t1).hl k hk) with⟨l,hl,el⟩|⟨l,hl,el⟩
 ·-- a line at t2
  rw[<- el,Ws l hl]at kp;have nH:¬ia w (S t2) ((S t1).h k):=fun⟨x,hx,ex⟩=>(R.Q t2).hs x l hx hl (by rw[ex,el])
  have le:=mx _ ⟨t1,t2,by lia,by lia,by lia,by lia,kH,nH⟩;have nt:(S t2).t l (c t2)≠0:=fun z=>by rw[z,yP]at kp;lia
  have nN:¬N ((S t1).h k):=fun z=>nt (((R.F t2).n l hl (by rw[el];exact z)).2 (c t2) B2.hc B2.nc)
  by_cases kq:(S t1).h k=q
  ·have kc:k=c t1:=(R.Q t1).hi k (c t1) hk B1.hc (by rw[kq];exact q1)
   have lr:l=r t2:=(R.Q t2).si l (r t2) hl B2.hr (by rw[el,kq];exact q2);rw[kc,lr]at kp
   have:=Int.mul_neg_of_pos_of_neg B1.up B2.neg
   lia
  ·have np:¬0<(S t1).t p k:=fun z=>by
    have:=B1.least k hk nN z
    rw[<- q1]at this;lia
   have n0:(S t1).t p k<0:=by
    rcases yV ((S t1).t p k) 0 with z|z
    ·exact z
    ·rw[show(S t1).t p k=0 by lia,yQ]at kp;lia
   have tl:(S t2).t l (c t2)<0:=by
    rcases yV ((S t2).t l (c t2)) 0 with z|z
    ·exact z
    ·have:=Int.mul_nonpos_of_nonpos_of_nonneg (Int.le_of_lt n0) z;lia
   have gl:G ((S t2).s l):=by
    rcases(R.F t1).f k hk with z|z
    ·rw[el];exact z
    ·exact absurd z nN
   have lz:(S t2).t l w=0:=R.zall hh oM oM oM oM (R.hz kH) l hl el;have rz:=R.flat hh (n:=t2) oM oM;rcases B2.ti l hl gl tl with z|⟨_,z⟩
   ·rw[lz,rz]at z;lia
   ·rw[<- q2,el]at z;lia
 ·-- free at t2
  have e1:v ((S t1).h k)=aJ w v (S t2).h l:=by unfold aJ;rw[yH oM,el]
  rw[e1,Wb l oM]at kp;by_cases z:l=c t2
  ·rw[yI z]at kp
   have tp:0<(S t1).t p k:=by
    rcases yV 0 ((S t1).t p k) with y|y
    ·exact y
    ·have:=Int.mul_nonpos_of_nonpos_of_nonneg y (Int.le_of_lt (R.L t2).pos);lia
   have nN:¬N ((S t1).h k):=by rw[<- el,z];exact B2.nc
   have l1:=B1.least k hk nN tp;rw[<- q1]at l1;have nH:¬ia w (S (t2+1)) ((S t1).h k):=fun⟨x,hx,ex⟩=>(R.Q (t2+1)).hs x (r t2) hx B2.hr (by rw[ex,B2.piv.sr,<- el,z])
   have l2:=mx _ ⟨t1,t2+1,by lia,by lia,by lia,by lia,kH,nH⟩;have:q=(S t1).h k:=by lia
   exact(R.Q t2).hs l (r t2) hl B2.hr (by rw[el,<- q2,this])
  ·rw[yH z,yP]at kp;lia
end
structure Sh where
 d:Int
 ls:List (List Int)
 hd:List Nat
 sd:List Nat
 gd:List Nat
 nl:List Nat
 tn:List Nat
noncomputable def gI(xs:List Int)(j:Nat):Int:=xs.getD j 0
noncomputable def row(S:Sh)(i:Nat):List Int:=S.ls.getD i []
def Sh.t(S:Sh)(i j:Nat):Int:=gI (row S i) j
noncomputable def Sh.h(S:Sh)(j:Nat):Nat:=S.hd.getD j 0
noncomputable def Sh.s(S:Sh)(i:Nat):Nat:=S.sd.getD i 0
noncomputable def fdvS(a b:Int):Int:=if 0<b then a/b else a.fdiv b
def chLine(l P:List Int)(c:Nat)(sg d:Int):List Int :=
 if gI l c=0 then(if gI P c=d then l else l.map fun x=>fdvS (x*gI P c) d) else((l.zip P).map fun z=>fdvS (z.1*gI P c-gI l c*z.2) d).set c (sg*gI l c)
noncomputable def sgn(x:Int):Int:=if x<0 then -1 else 1
def pvl(S:Sh)(r c:Nat):List Int:=(row S r).map fun x=>sgn (S.t r c)*x
def L1(S:Sh)(r c:Nat):Sh:={ S with
 d:=gI (pvl S r c) c
 ls:=(S.ls.map fun l=>chLine l (pvl S r c) c (sgn (S.t r c)) S.d).set r (((pvl S r c).map fun x=>- x).set c (sgn (S.t r c)*S.d))
 hd:=S.hd.set c (S.s r)
 sd:=S.sd.set r (S.h c) }
structure L4(w m:Nat)(S:Sh):Prop where
 ls:S.ls.length=m
 row:∀l∈S.ls,l.length=w+1
 hd:S.hd.length=w
 sd:S.sd.length=m
theorem mz{f:Int->Int}{xs:List Int}{j:Nat}(h:j<xs.length):gI (xs.map f) j=f (gI xs j):=by
 unfold gI;simp[zD,h]
theorem gI_set_at{xs:List Int}{j:Nat}{x:Int}(h:j<xs.length):gI (xs.set j x) j=x:=by
 unfold gI;simp[zD,h]
theorem gI_set_ne{j k:Nat}{x:Int}(h:k≠j):gI (xs.set j x) k=gI xs k:=by
 unfold gI;simp[zD,yX,h.symm]
theorem EZ{xs ys:List Int}{f:Int×Int->Int}{j:Nat}(h:j<xs.length)(h':j<ys.length):gI ((xs.zip ys).map f) j=f (gI xs j,gI ys j):=by
 unfold gI;have hz:j<(xs.zip ys).length:=by rw[List.length_zip];lia
 simp only[zD,zR,zF h,zF h',zF hz,map_some,Option.getD_some,List.getElem_zip]
theorem getD_mem{α:Type}{xs:List α}{i:Nat}{a:α}(h:i<xs.length):xs.getD i a∈xs:=by
 simp[zD,zF h]
theorem L4.rl{w m:Nat}(P:L4 w m S){i:Nat}(h:i<m):(SX.row S i).length=w+1:=P.row _ (getD_mem (by rw[P.ls];exact h))
theorem rY{a b:Int}(h:0<b):fdvS a b=a/b:=yI h
theorem t8{c:Nat}{sg d:Int}(h:l.length=P.length):(chLine l P c sg d).length=l.length:=by
 unfold chLine;split
 ·split
  ·rfl
  ·simp
 ·simp[h]
theorem qf{r c i:Nat}(hi:i<S.ls.length)(hr:r<S.ls.length):SX.row (L1 S r c) i=if i=r then((pvl S r c).map fun x=>- x).set c (sgn (S.t r c)*S.d) else chLine (SX.row S i) (pvl S r c) c (sgn (S.t r c)) S.d:=by
 unfold SX.row L1;simp only[zD,yX,zH];by_cases e:i=r
 ·subst e;simp[hi]
 ·rw[yH fun z=>e z.symm,yH e];simp[zF hi]
theorem exch_shp{w m:Nat}{r c:Nat}(P:L4 w m S)(hr:r<m):L4 w m (L1 S r c):=by
 have hp:(pvl S r c).length=w+1:=by unfold pvl;rw[zH];exact P.rl hr
 refine⟨by simp[L1,P.ls],fun l hl=>?_,by simp[L1,P.hd],by simp[L1,P.sd]⟩;rcases List.mem_or_eq_of_mem_set hl with h|h
 ·obtain⟨l',h1,rfl⟩:=yD.mp h
  rw[t8 (by rw[P.row _ h1,hp])];exact P.row _ h1
 ·rw[h];simp[hp]
theorem C2(x:Int):sgn x*sgn x=1:=by unfold sgn;split<;>rfl
theorem Bb{x:Int}(h:x≠0):0<sgn x*x:=by unfold sgn;split<;>lia
theorem jm{w m:Nat}{r c:Nat}(P:L4 w m S)(hr:r<m)(hc:c<w)(hd:0<S.d)(hp:S.t r c≠0):oH w m r c (sgn (S.t r c)) S.d S.t S.h S.s (L1 S r c).d (L1 S r c).t (L1 S r c).h (L1 S r c).s:=by
 have lr:=P.rl hr;have lp:(pvl S r c).length=w+1:=by unfold pvl;rw[zH];exact lr
 have gp:∀j,j<w+1->gI (pvl S r c) j=sgn (S.t r c)*S.t r j:=fun j hj=>by
  unfold pvl;rw[mz (by rw[lr];exact hj)];rfl
 have other:∀i,i<m->i≠r->∀j,j<w+1->(L1 S r c).t i j=if j=c then sgn (S.t r c)*S.t i c else(S.t i j*(sgn (S.t r c)*S.t r c)-S.t i c*(sgn (S.t r c)*S.t r j))/S.d:=fun i hi ne j hj=>by
  have li:=P.rl hi;show gI (SX.row (L1 S r c) i) j=_;rw[qf (by rw[P.ls];exact hi) (by rw[P.ls];exact hr),yH ne];have tc:gI (SX.row S i) c=S.t i c:=rfl;have tj:gI (SX.row S i) j=S.t i j:=rfl;unfold chLine;by_cases z:gI (SX.row S i) c=0
  ·rw[yI z]
   rw[tc]at z;rw[z];have e0:∀x:Int,x-0*(sgn (S.t r c)*S.t r j)=x:=fun x=>by rw[yQ,Int.sub_zero]
   rw[e0];by_cases y:gI (pvl S r c) c=S.d
   ·rw[yI y,tj]
    rw[gp c oM]at y;rw[y,Int.mul_ediv_cancel _ oM];by_cases x:j=c
    ·rw[yI x,x,z,yP]
    ·rw[yH x]
   ·rw[yH y,mz (by rw[li];exact hj),tj,rY hd,gp c oM]
    by_cases x:j=c
    ·rw[yI x,x,z,yP,yQ,Int.zero_ediv]
    ·rw[yH x]
  ·rw[yH z]
   by_cases x:j=c
   ·rw[yI x,x,gI_set_at (by simp[li,lp];lia),tc]
   ·rw[yH x,gI_set_ne x,EZ (by rw[li];exact hj) (by rw[lp];exact hj),rY hd,tj,tc,gp c oM,gp j hj]
 have rr:∀j,j<w+1->(L1 S r c).t r j=if j=c then sgn (S.t r c)*S.d else-(sgn (S.t r c)*S.t r j):=fun j hj=>by
  show gI (SX.row (L1 S r c) r) j=_;rw[qf (by rw[P.ls];exact hr) (by rw[P.ls];exact hr),yI rfl];by_cases x:j=c
  ·rw[yI x,x,gI_set_at (by simp[lp];lia)]
  ·rw[yH x,gI_set_ne x,mz (by rw[lp];exact hj),gp j hj]
 refine⟨C2 _,Bb hp,gp c oM,fun i hi ne=>by rw[other i hi ne c oM,yI rfl],fun i hi ne j hj x=>by rw[other i hi ne j hj,yH x],by rw[rr c oM,yI rfl],fun j hj x=>by rw[rr j hj,yH x],?_,fun j hj x=>?_,?_,fun i hi x=>?_⟩
 ·show((S.hd.set c (S.s r)).getD c 0)=_
  simp[zD,P.hd,hc]
 ·show((S.hd.set c (S.s r)).getD j 0)=S.hd.getD j 0
  simp[zD,yX,x.symm]
 ·show((S.sd.set r (S.h c)).getD r 0)=_
  simp[zD,P.sd,hr]
 ·show((S.sd.set r (S.h c)).getD i 0)=S.sd.getD i 0
  simp[zD,yX,x.symm]
def trn(S:Sh)(p:Nat):Sh:={ S with ls:=S.ls.set p ((row S p).map fun x=>- x),tn:=if S.s p∈S.tn then S.tn else S.tn++[S.s p] }
theorem trn_shp{w m p:Nat}(P:L4 w m S)(hp:p<m):L4 w m (trn S p):=by
 refine⟨by simp[trn,P.ls],fun l hl=>?_,P.hd,P.sd⟩;rcases List.mem_or_eq_of_mem_set hl with h|h
 ·exact P.row _ h
 ·rw[h,zH];exact P.rl hp
theorem trn_t{w m p:Nat}(P:L4 w m S)(hp:p<m):(∀j,j<w+1->(trn S p).t p j=- S.t p j)/\∀i,i<m->i≠p->∀j,j<w+1->(trn S p).t i j=S.t i j:=by
 have hr:∀i,i<m->row (trn S p) i=if i=p then(row S p).map (fun x=>- x) else row S i:=fun i hi=>by
  show(S.ls.set p _).getD i []=_;simp only[zD,yX];by_cases e:i=p
  ·subst e;rw[yI rfl,yI (by rw[P.ls];exact hi),yI rfl];rfl
  ·rw[yH fun z=>e z.symm,yH e];unfold row;rw[zD]
 refine⟨fun j hj=>?_,fun i hi ne j hj=>?_⟩
 ·show gI (row (trn S p) p) j=_
  rw[hr p hp,yI rfl,mz (by rw[P.rl hp];exact hj)];rfl
 ·show gI (row (trn S p) i) j=_
  rw[hr i hi,yH ne];rfl
def Ic(S:Sh)(w q r i:Nat):Prop:=S.t r w*- S.t i q<S.t i w*- S.t r q\/(S.t r w*- S.t i q=S.t i w*- S.t r q/\S.s r<=S.s i)
def LY(S:Sh)(w q k:Nat)(o:Option Nat):Prop:=(o=none->∀i,i<k->S.s i∈S.gd->¬S.t i q<0)/\∀r,o=some r->r<k/\S.s r∈S.gd/\S.t r q<0/\∀i,i<k->S.s i∈S.gd->S.t i q<0->Ic S w q r i
theorem JR{A B C x y z:Int}{a b c:Nat}(hx:0<x)(hy:0<y)(hz:0<z)(h1:A*y<B*x\/(A*y=B*x/\a<=b))(h2:B*z<C*y\/(B*z=C*y/\b<=c)):A*z<C*x\/(A*z=C*x/\a<=c):=by
 have l1:A*y<=B*x:=by lia
 have l2:B*z<=C*y:=by lia
 have l3:(A*y)*z<=(B*x)*z:=Int.mul_le_mul_of_nonneg_right l1 oM;have l4:(B*z)*x<=(C*y)*x:=Int.mul_le_mul_of_nonneg_right l2 oM;have e1:(B*x)*z=(B*z)*x:=by grind
 have e2:(A*y)*z=(A*z)*y:=by grind
 have e3:(C*y)*x=(C*x)*y:=by grind
 have l5:(A*z)*y<=(C*x)*y:=by lia
 have l6:A*z<=C*x:=Int.le_of_mul_le_mul_right l5 hy;by_cases e:A*z=C*x
 ·right
  refine⟨e,?_⟩;have e4:(A*z)*y=(C*x)*y:=by rw[e]
  have q1:A*y=B*x:=by
   have:(A*y)*z=(B*x)*z:=by(omega)
   exact Int.eq_of_mul_eq_mul_right oM this
  have q2:B*z=C*y:=by
   have:(B*z)*x=(C*y)*x:=by lia
   exact Int.eq_of_mul_eq_mul_right oM this
  rcases h1 with h1|h1
  ·lia
  ·rcases h2 with h2|h2
   ·lia
   ·lia
 ·left;(omega)
section
variable{S:Sh}{w q k r:Nat}{o:Option Nat}
theorem tt_zero:LY S w q 0 none:=⟨fun _ i h=>by lia,fun r h=>nomatch h⟩
theorem tt_skip(h:¬(S.t k q<0/\S.s k∈S.gd))(T:LY S w q k o):LY S w q (k+1) o:=by
 refine⟨fun e i hi hg ht=>?_,fun r e=>?_⟩
 ·by_cases z:i=k
  ·subst z;exact h ⟨ht,hg⟩
  ·exact T.1 e i oM hg ht
 ·obtain⟨a,b,c,d⟩:=T.2 r e
  refine⟨by lia,b,c,fun i hi hg ht=>?_⟩;by_cases z:i=k
  ·subst z;exact absurd ⟨ht,hg⟩ h
  ·exact d i oM hg ht
theorem tt_first(h:S.t k q<0)(hg:S.s k∈S.gd)(T:LY S w q k none):LY S w q (k+1) (some k):=by
 refine⟨(fun e=>nomatch e),fun r e=>?_⟩;cases e;refine⟨by lia,hg,h,fun i hi hg ht=>?_⟩;by_cases z:i=k
 ·subst z;exact .inr ⟨rfl,zP _⟩
 ·exact absurd ht (T.1 rfl i oM hg)
theorem tt_new(h:S.t k q<0)(hg:S.s k∈S.gd)(ht:S.t k w*- S.t r q<S.t r w*- S.t k q\/(S.t k w*- S.t r q=S.t r w*- S.t k q/\S.s k<S.s r))(T:LY S w q k (some r)):LY S w q (k+1) (some k):=by
 refine⟨(fun e=>nomatch e),fun r' e=>?_⟩;cases e;obtain⟨a,b,c,d⟩:=T.2 r rfl;refine⟨by lia,hg,h,fun i hi hg' ht'=>?_⟩;by_cases z:i=k
 ·subst z;exact .inr ⟨rfl,zP _⟩
 ·exact JR (x:=- S.t k q) (y:=- S.t r q) (z:=- S.t i q) oM oM oM (ht.imp id fun x=>⟨x.1,by lia⟩) (d i oM hg' ht')
theorem tt_old(h:S.t k q<0)(ht:¬(S.t k w*- S.t r q<S.t r w*- S.t k q\/(S.t k w*- S.t r q=S.t r w*- S.t k q/\S.s k<S.s r)))(T:LY S w q k (some r)):LY S w q (k+1) (some r):=by
 refine⟨(fun e=>nomatch e),fun r' e=>?_⟩;cases e;obtain⟨a,b,c,d⟩:=T.2 r rfl;refine⟨by lia,b,c,fun i hi hg' ht'=>?_⟩;by_cases z:i=k
 ·subst z
  unfold Ic;have h1:¬(S.t i w*- S.t r q<S.t r w*- S.t i q):=fun x=>ht (.inl x)
  by_cases e:S.t i w*- S.t r q=S.t r w*- S.t i q
  ·exact .inr ⟨e.symm,Nat.le_of_not_lt fun x=>ht (.inr ⟨e,x⟩)⟩
  ·left;(omega)
 ·exact d i oM hg' ht'
end
noncomputable def vt(v:Nat->Nat->Int)(tn:List Nat):Nat->Nat->Int:=fun q x=>if q∈tn then-v q x else v q x
structure MI(w m:Nat)(v:Nat->Nat->Int)(S:Sh):Prop where
 shp:L4 w m S
 lin:Lin w m (vt v S.tn) S.d S.t S.h S.s
 pm:Pm w m S.h S.s
 fea:Fea w m (·∈S.gd) (·∈S.nl) S.t S.h S.s
def toSt(S:Sh):St:=⟨S.d,S.t,S.h,S.s⟩
def Rais(w:Nat)(S:Sh)(p:Nat)(o:Option Nat):Prop:=(o=none->∀j,j<w->S.h j∉S.nl->¬0<S.t p j)/\∀q,o=some q->q<w/\S.h q∉S.nl/\0<S.t p q/\∀j,j<w->S.h j∉S.nl->0<S.t p j->S.h q<=S.h j
structure Kept(m p:Nat)(S T:Sh):Prop where
 gd:T.gd=S.gd
 nl:T.nl=S.nl
 tn:T.tn=S.tn
 si:∀i,i<m->i≠p->S.s i∉S.gd->T.s i=S.s i
section
variable{w m p q r:Nat}{v:Nat->Nat->Int}{S T:Sh}
theorem Kept.refl:Kept m p S S:=⟨rfl,rfl,rfl,fun _ _ _ _=>rfl⟩
theorem Kept.trans(a:Kept m p S T)(b:Kept m p T U):Kept m p S U :=
 ⟨b.gd.trans a.gd,b.nl.trans a.nl,b.tn.trans a.tn,fun i hi ne h=>by
  have h1:=a.si i hi ne h;rw[b.si i hi ne (by rw[h1,a.gd];exact h),h1]⟩
theorem MI.step(I:MI w m v S)(hp:p<m)(np:S.s p∉S.gd)(hq:Rais w S p (some q))(hr:LY S w q m (some r)):MI w m v (L1 S r q)/\Bl w m p (·∈S.gd) (·∈S.nl) r q (sgn (S.t r q)) (toSt S) (toSt (L1 S r q))/\Kept m p S (L1 S r q)/\(L1 S r q).s p=S.s p:=by
 obtain ⟨h1,h2,h3,h4⟩:=hq.2 q rfl;obtain ⟨r1,r2,r3,r4⟩:=hr.2 r rfl;have hpv:=jm I.shp r1 h1 I.lin.pos (show S.t r q ≠ 0 by lia);refine ⟨⟨exch_shp I.shp r1,I.lin.piv hpv r1 h1,I.pm.piv hpv r1 h1,?_⟩,⟨h1,h2,h3,h4,r1,r2,r3,r4,hpv⟩,⟨rfl,rfl,rfl,fun i hi _ hg=>?_⟩,?_⟩
 ·exact Fea.tight I.lin I.pm I.fea hpv r1 h1 h2 r2 r3 fun i hi hg ht=>by
   rcases r4 i hi hg ht with z|z
   ·lia
   ·exact Int.le_of_eq z.1
 ·exact hpv.si i hi fun z=>hg (by rw[z];exact r2)
 ·exact hpv.si p hp fun z=>np (by rw[z];exact r2)
theorem MI.low(I:MI w m v S)(hp:p<m)(np:S.s p∉S.gd)(hq:Rais w S p (some q))(hr:LY S w q m (some r))(hu:¬S.t p w*S.t r q<=S.t r w*S.t p q):(L1 S r q).t p w<0:=by
 obtain ⟨h1,h2,h3,h4⟩:=hq.2 q rfl;obtain ⟨r1,r2,r3,r4⟩:=hr.2 r rfl;have hpv:=jm I.shp r1 h1 I.lin.pos (show S.t r q ≠ 0 by lia);have ne:p ≠ r:=fun z=>np (by rw [z];exact r2)
 have e1:=I.lin.ex' (e:=sgn (S.t r q)) hp r1 (show q < w + 1 by lia) (show w < w + 1 by lia) (show q ≠ w by lia);rw [<- hpv.tj p hp ne w oM oM] at e1;have e2:sgn (S.t r q)=-1:=by unfold sgn;rw [yI r3]
 rw[e2]at e1;have e3:S.t p w*(-1*S.t r q)-S.t p q*(-1*S.t r w)=S.t r w*S.t p q-S.t p w*S.t r q:=by grind
 rw[e3]at e1;rcases yV ((L1 S r q).t p w) 0 with z|z
 ·exact z
 ·have:=Int.mul_nonneg (Int.le_of_lt I.lin.pos) z;lia
theorem MI.up(I:MI w m v S)(hp:p<m)(ng:S.s p∉S.gd)(nn:S.s p∉S.nl)(low:S.t p w<0)(hq:Rais w S p (some q))(ht:LY S w q m none\/∃r,LY S w q m (some r)/\S.t p w*S.t r q<=S.t r w*S.t p q) :
  MI w m v { L1 S p q with gd:=S.gd++[S.s p] }/\MI w m v { L1 S p q with nl:=S.nl++[S.s p] }/\Kept m p S (L1 S p q):=by
 obtain ⟨h1,h2,h3,h4⟩:=hq.2 q rfl;have hpv:=jm I.shp hp h1 I.lin.pos (show S.t p q ≠ 0 by lia);have sh:=exch_shp (c:=q) I.shp hp;have ti:∀ i,i < m->S.s i ∈ S.gd->S.t i q < 0->S.t p w * S.t i q <= S.t i w * S.t p q:=fun i hi hg hn=>by
  rcases ht with ht|⟨r,ht,hu⟩
  ·exact absurd hn (ht.1 rfl i hi hg)
  ·obtain⟨r1,r2,r3,r4⟩:=ht.2 r rfl
   refine B8 (a:=S.t r w) (b:=S.t r q) r3 hn h3 hu ?_;rcases r4 i hi hg hn with z|z
   ·lia
   ·exact Int.le_of_eq z.1
 refine⟨⟨⟨sh.ls,sh.row,sh.hd,sh.sd⟩,I.lin.piv hpv hp h1,I.pm.piv hpv hp h1,?_⟩,⟨⟨sh.ls,sh.row,sh.hd,sh.sd⟩,I.lin.piv hpv hp h1,I.pm.piv hpv hp h1,?_⟩,⟨rfl,rfl,rfl,fun i hi ne _=>hpv.si i hi ne⟩⟩
 ·exact Fea.lift (G':=(·∈S.gd++[S.s p])) I.lin I.pm I.fea hpv hp h1 h2 h3 low ti (fun x hx=>by simp[hx]) (fun x hx=>.rfl) (.inl (by simp))
 ·exact Fea.lift (N':=(·∈S.nl++[S.s p])) I.lin I.pm I.fea hpv hp h1 h2 h3 low ti (fun x hx=>.rfl) (fun x hx=>by simp[hx]) (.inr (by simp))
theorem MI.move(I:MI w m v S)(hp:p<m)(hq:q<w)(hn:S.h q∉S.nl)(h0:S.t p w=0)(hz:S.t p q≠0):MI w m v { L1 S p q with nl:=S.nl++[S.s p] }/\Kept m p S (L1 S p q):=by
 have hpv:=jm I.shp hp hq I.lin.pos hz;have sh:=exch_shp (c:=q) I.shp hp;refine⟨⟨⟨sh.ls,sh.row,sh.hd,sh.sd⟩,I.lin.piv hpv hp hq,I.pm.piv hpv hp hq,?_⟩,⟨rfl,rfl,rfl,fun i hi ne _=>hpv.si i hi ne⟩⟩;exact Fea.move (N':=(·∈S.nl++[S.s p])) I.lin I.pm I.fea hpv hp hq hn h0 (fun x hx=>.rfl) (fun x hx=>by simp[hx]) (.inr (by simp))
theorem MI.guard(I:MI w m v S)(hp:p<m)(h0:0<=S.t p w):MI w m v { S with gd:=S.gd++[S.s p] }:=by
 refine⟨⟨I.shp.ls,I.shp.row,I.shp.hd,I.shp.sd⟩,I.lin,I.pm,?_⟩;have e:(fun x=>x∈S.gd++[S.s p])=fun x=>x∈S.gd\/x=S.s p:=by funext x;simp
 show Fea w m (fun x=>x∈S.gd++[S.s p]) _ _ _ _;rw[e];exact Fea.guard I.fea I.pm hp h0
theorem MI.nail(I:MI w m v S)(hp:p<m)(h0:S.t p w=0)(hz:∀j,j<w->S.h j∉S.nl->S.t p j=0):MI w m v { S with nl:=S.nl++[S.s p] }:=by
 refine⟨⟨I.shp.ls,I.shp.row,I.shp.hd,I.shp.sd⟩,I.lin,I.pm,?_⟩;have e:(fun x=>x∈S.nl++[S.s p])=fun x=>x∈S.nl\/x=S.s p:=by funext x;simp
 show Fea w m _ (fun x=>x∈S.nl++[S.s p]) _ _ _;rw[e];exact Fea.nail I.fea I.pm hp h0 hz
theorem MI.turn(I:MI w m v S)(hp:p<m)(ng:S.s p∉S.gd)(nn:S.s p∉S.nl)(nt:S.s p∉S.tn):MI w m v (trn S p):=by
 obtain⟨t1,t2⟩:=trn_t I.shp hp;refine⟨trn_shp I.shp hp,?_,I.pm,Fea.turn I.fea I.pm hp ng nn t2⟩;have e:vt v (trn S p).tn=tv (vt v S.tn) (S.s p):=by
  have:(trn S p).tn=S.tn++[S.s p]:=by show(if _ then _ else _)=_;rw[yH nt]
  rw[this];funext q x;unfold vt tv;by_cases h:q=S.s p
  ·subst h;simp[nt]
  ·simp[h]
 rw[e];exact Lin.turn I.lin I.pm hp t1 t2
theorem no_chain(hp:p<m)(f:Nat->Sh)(h:∀n,MI w m v (f n)/\(∃r q e,Bl w m p (·∈(f n).gd) (·∈(f n).nl) r q e (toSt (f n)) (toSt (f (n+1))))/\Kept m p (f n) (f (n+1)))(np:(f 0).s p∉(f 0).gd):False:=by
 have hk:∀n,Kept m p (f 0) (f n):=fun n=>by
  induction n with
  |zero=>exact Kept.refl
  |succ n ih=>exact ih.trans (h n).2.2
 have hb:∀n,∃r q e,Bl w m p (·∈(f 0).gd) (·∈(f 0).nl) r q e (toSt (f n)) (toSt (f (n+1))):=fun n=>by
  have:=(h n).2.1;rw[(hk n).gd,(hk n).nl]at this;exact this
 let r:=fun n=>Classical.choose (hb n)
 have hr:=fun n=>Classical.choose_spec (hb n)
 let q:=fun n=>Classical.choose (hr n)
 have hq:=fun n=>Classical.choose_spec (hr n)
 let e:=fun n=>Classical.choose (hq n)
 have he:=fun n=>Classical.choose_spec (hq n)
 refine Run.ends (w:=w) (m:=m) (p:=p) (v:=vt v (f 0).tn) (G:=(·∈(f 0).gd)) (N:=(·∈(f 0).nl)) (S:=fun n=>toSt (f n)) (r:=r) (c:=q) (e:=e) ⟨fun n=>?_,fun n=>(h n).1.pm,fun n=>?_,fun n=>?_,hp,np⟩
 ·have:=(h n).1.lin;rw[(hk n).tn]at this;exact this
 ·have:=(h n).1.fea;rw[(hk n).gd,(hk n).nl]at this;exact this
 ·exact he n
theorem MI.bound(I:MI w m v S){M B:Nat}(hM:1<=M)(hv:∀q x,x<w+1->(v q x).natAbs<=M)(hb:fct (w+1)*M^(w+1)<B):S.d.natAbs<B/\∀i,i<m->∀j,j<w+1->(S.t i j).natAbs<B:=by
 have:=I.lin.bound hM (M:=M) fun q x hx=>by
  unfold vt;split
  ·rw[Int.natAbs_neg];exact hv q x hx
  ·exact hv q x hx
 exact⟨yM this.1 hb,fun i hi j hj=>yM (this.2 i hi j hj) hb⟩
end
theorem sj:∀n:Nat,bn n (fun i j=>if j=i then 1 else 0)=1
 |0=>rfl
 |n+1=>by
  show LV (n+1) _=1;rw[sum_one (k:=0) oM fun k hk ne=>by
   show sg k*(if 0=k then 1 else 0)*_=0;rw[yH fun z=>ne z.symm,yP,yQ]]
  have:bn n (fE (fun i j=>if j=i then(1:Int) else 0) 0)=1:=by
   rw[cS (B:=fun i j=>if j=i then(1:Int) else 0) fun i j _ _=>?_]
   ·exact sj n
   ·unfold fE skip;simp
  rw[this];rfl
def v0(w:Nat)(L:List (List Int)):Nat->Nat->Int:=fun q x=>if q<w then(if x=q then 1 else 0) else gI (L.getD (q-w) []) x
noncomputable def openS(w:Nat)(L:List (List Int))(k:Nat):Sh:=⟨1,L,List.range w,(List.range L.length).map (w+·),List.range k,[],[]⟩
theorem open_MI{w nr:Nat}(hL:∀l∈L,l.length=w+1)(hz:∀i,i<nr->gI (L.getD i []) w=0):MI w L.length (v0 w L) (openS w L (w+nr)):=by
 have hh:∀j,j<w->(openS w L (w+nr)).h j=j:=fun j hj=>by show(List.range w).getD j 0=j;simp[zD,hj]
 have hs:∀i,i<L.length->(openS w L (w+nr)).s i=w+i:=fun i hi=>by show((List.range L.length).map (w+·)).getD i 0=w+i;simp[zD,hi]
 have hv:vt (v0 w L) (openS w L (w+nr)).tn=v0 w L:=by funext q x;unfold vt;exact yH (by show q∉[];simp)
 have hb:∀k,k<w+1->∀x,x<w+1->aJ w (v0 w L) (openS w L (w+nr)).h k x=if x=k then 1 else 0:=fun k hk x hx=>by
  unfold aJ;by_cases e:k=w
  ·rw[yI e,e];rfl
  ·rw[yH e,hh k oM];unfold v0;rw[yI oM]
 refine⟨⟨rfl,hL,by simp[openS],by simp[openS]⟩,?_,?_,?_⟩
 ·rw[hv]
  refine⟨Int.one_pos,fun i hi x hx=>?_,1,rfl,?_⟩
  ·rw[hs i hi,sum_one (k:=x) hx fun k hk ne=>by rw[hb k hk x hx,yH fun z=>ne z.symm,yP],hb x hx x hx,yI rfl]
   unfold v0;rw[yH oM,show w+i-w=i by lia];show 1*gI (L.getD i []) x=gI (L.getD i []) x*1;lia
  ·rw[cS (B:=fun i j=>if j=i then 1 else 0) fun i j hi hj=>hb i hi j hj,sj];rfl
 ·refine⟨fun j hj=>by rw[hh j hj];lia,fun i hi=>by rw[hs i hi];lia,fun j k hj hk e=>by rw[hh j hj,hh k hk]at e;exact e,fun j k hj hk e=>by rw[hs j hj,hs k hk]at e;lia,fun j i hj hi e=>by rw[hh j hj,hs i hi]at e;lia,fun q hq=>?_⟩
  by_cases h:q<w
  ·exact .inr ⟨q,h,hh q h⟩
  ·exact .inl ⟨q-w,by lia,by rw[hs _ oM];lia⟩
 ·refine⟨fun i hi hg=>?_,fun i hi hn=>?_,fun j hj=>.inl ?_⟩
  ·rw[hs i hi]at hg
   have:w+i<w+nr:=List.mem_range.mp hg;show 0<=gI (L.getD i []) w;rw[hz i oM];decide
  ·exact absurd (show _ ∈ ([]:List Nat) from hn) (by simp)
  ·rw[hh j hj];exact List.mem_range.mpr oM
theorem open_s{w k i:Nat}(hi:i<L.length):(openS w L k).s i=w+i:=by show((List.range L.length).map (w+·)).getD i 0=w+i;simp[zD,hi]
def Qt(w:Nat)(v:Nat->Nat->Int)(Y:Nat->Int)(e:Int)(q:Nat):Int:=(LV w fun x=>v q x*Y x)+v q w*e
section
variable{w m p:Nat}{v:Nat->Nat->Int}{S:Sh}
theorem mQ{Y:Nat->Int}{e:Int}{q:Nat}:Qt w (vt v S.tn) Y e q=if q∈S.tn then-Qt w v Y e q else Qt w v Y e q:=by
 unfold Qt vt;by_cases h:q∈S.tn
 ·simp only[yI h]
  rw[sum_congr (g:=fun x=>(-1)*(v q x*Y x)) fun x _=>by grind,sum_mul];grind
 ·simp only[yH h]
theorem MI.line(I:MI w m v S)(hp:p<m)(Y:Nat->Int)(e:Int):S.d*Qt w (vt v S.tn) Y e (S.s p)=(LV w fun j=>S.t p j*Qt w (vt v S.tn) Y e (S.h j))+S.t p w*e:=by
 have h:=I.lin.lin p hp;have hb:∀x,x<w+1->S.d*vt v S.tn (S.s p) x=(LV w fun k=>S.t p k*vt v S.tn (S.h k) x)+S.t p w*(if x=w then 1 else 0):=fun x hx=>by
  rw[h x hx];show LV w _+S.t p w*aJ w (vt v S.tn) S.h w x=_;have e1:aJ w (vt v S.tn) S.h w x=if x=w then 1 else 0:=by unfold aJ;rw[yI rfl];rfl
  rw[e1];congr 1;exact sum_congr fun k hk=>by unfold aJ;rw[yH oM]
 unfold Qt;rw[Int.mul_add,<- sum_mul];have e1:(LV w fun x=>S.d*(vt v S.tn (S.s p) x*Y x))=LV w fun j=>S.t p j*LV w fun x=>vt v S.tn (S.h j) x*Y x:=by
  rw[sum_congr (g:=fun x=>LV w fun k=>S.t p k*(vt v S.tn (S.h k) x*Y x)) fun x hx=>by
   rw[<- Int.mul_assoc,hb x oM,yH oM,yP,Int.add_zero,Int.mul_comm,<- sum_mul];exact sum_congr fun k _=>by grind,sum_swap]
  exact sum_congr fun j _=>by rw[sum_mul]
 have e2:S.d*(vt v S.tn (S.s p) w*e)=(LV w fun j=>S.t p j*(vt v S.tn (S.h j) w*e))+S.t p w*e:=by
  rw[<- Int.mul_assoc,hb w oM,yI rfl,Int.mul_one,Int.add_mul];congr 1;rw[Int.mul_comm,<- sum_mul];exact sum_congr fun k _=>by grind
 rw[e1,e2,sum_congr (f:=fun j=>S.t p j*((LV w fun x=>vt v S.tn (S.h j) x*Y x)+vt v S.tn (S.h j) w*e)) (g:=fun j=>S.t p j*(LV w fun x=>vt v S.tn (S.h j) x*Y x)+S.t p j*(vt v S.tn (S.h j) w*e)) fun j _=>by rw[Int.mul_add],sum_add];lia
theorem sQ{n:Nat}{f:Nat->Int}(h:∀i,i<n->f i<=0):LV n f<=0:=by
 induction n with
 |zero=>exact Int.le_refl 0
 |succ n ih=>have:=ih fun i hi=>h i oM;have:=h n oM;simp only[LV];lia
theorem MI.dual(I:MI w m v S)(hp:p<m)(hr:∀j,j<w->S.h j∉S.nl->¬0<S.t p j)(tn:∀q∈S.tn,q∈S.nl\/q=S.s p){Y:Nat->Int}{e:Int}(hg:∀j,j<w->S.h j∉S.nl->0<=Qt w v Y e (S.h j))(hn:∀j,j<w->S.h j∈S.nl->Qt w v Y e (S.h j)=0) :
  S.d*(if S.s p∈S.tn then-Qt w v Y e (S.s p) else Qt w v Y e (S.s p))<=S.t p w*e:=by
 rw[<- mQ,I.line hp Y e];have:(LV w fun j=>S.t p j*Qt w (vt v S.tn) Y e (S.h j))<=0:=sQ fun j hj=>by
  by_cases h:S.h j∈S.nl
  ·rw[mQ,hn j hj h];split<;>lia
  ·have ht:S.h j∉S.tn:=fun z=>by
    rcases tn _ z with y|y
    ·exact h y
    ·exact I.pm.hs j p hj hp y
   rw[mQ,yH ht];have a:=hr j hj h;have b:=hg j hj h;exact Int.mul_nonpos_of_nonpos_of_nonneg oM b
 lia
theorem MI.vert(I:MI w m v S)(hv:∀q,q<w->∀x,x<w+1->v q x=if x=q then 1 else 0)(tw:∀q∈S.tn,w<=q){c:Nat}(hc:c<w+1){X:Nat->Int}(h1:∀i,i<m->S.s i<w->X (S.s i)=S.t i c)(h2:∀j,j<w->S.h j<w->X (S.h j)=if j=c then S.d else 0) :
  (∀i,i<m->Qt w v X (if c=w then S.d else 0) (S.s i)=if S.s i∈S.tn then-S.t i c else S.t i c)/\∀j,j<w->Qt w v X (if c=w then S.d else 0) (S.h j)=if j=c then(if S.h j∈S.tn then-S.d else S.d) else 0:=by
 have hv':∀q,q<w->∀x,x<w+1->vt v S.tn q x=if x=q then 1 else 0:=fun q hq x hx=>by
  unfold vt;rw[yH fun z=>by have:=tw q z;lia];exact hv q hq x hx
 obtain⟨a,b⟩:=I.lin.func hv' hc h1 h2 fun q hq=>I.pm.cov q oM
 refine⟨fun i hi=>?_,fun j hj=>?_⟩
 ·have e:Qt w (vt v S.tn) X (if c=w then S.d else 0) (S.s i)=S.t i c:=a i hi
  rw[mQ]at e;split at e
  ·rename_i h;rw[yI h];lia
  ·rename_i h;rw[yH h];exact e
 ·have e:Qt w (vt v S.tn) X (if c=w then S.d else 0) (S.h j)=if j=c then S.d else 0:=b j hj
  rw[mQ]at e;by_cases h:j=c
  ·rw[yI h]at e ⊢
   split at e
   ·rename_i h;rw[yI h];lia
   ·rename_i h;rw[yH h];exact e
  ·rw[yH h]at e ⊢
   split at e
   ·lia
   ·exact e
end
end SX
namespace R
open PySem PySem.Spec L2
open DD (pyOk)
section
variable{ks:List Fn}{sl:Sl}{st:aa}
@[simp] theorem LK:ev ks .n sl st=some (.non,st):=rfl
@[simp] theorem LM{x:Bool}:ev ks (.b x) sl st=some (.bl x,st):=rfl
@[simp] theorem nZ{x:Int}:ev ks (.i x) sl st=some (.int x,st):=rfl
@[simp] theorem Hm{x:Str}:ev ks (.s x) sl st=some (.str x,st):=rfl
@[simp] theorem LL{x:Str}{c:AV}:ev ks (.g x c) sl st=some (c,st):=rfl
@[simp] theorem kB{k:Nat}:ev ks (.v k) sl st=aV k sl st:=rfl
@[simp] theorem iP{v:AV}:aV 0 (some v::sl) st=some (v,st):=rfl
@[simp] theorem iO{k:Nat}{x:Option AV}:aV (k+1) (x::sl) st=aV k sl st:=rfl
@[simp] theorem sE{o:Operator}{a b:Ex}:ev ks (.bin o a b) sl st=(ev ks a sl st).bind fun p=>(ev ks b sl p.2).bind fun q=>(bh o q.2 p.1 q.1).map fun z=>(z,q.2):=rfl
@[simp] theorem KM{o:CmpOp}{a b:Ex}:ev ks (.cmp o a b) sl st=(ev ks a sl st).bind fun p=>(ev ks b sl p.2).bind fun q=>(lG o q.2 p.1 q.1).map fun z=>(z,q.2):=rfl
@[simp] theorem K6{o:UnaryOp}{a:Ex}:ev ks (.un o a) sl st=(ev ks a sl st).bind fun p=>(lJ o p.2 p.1).map fun z=>(z,p.2):=rfl
def J6(x:AV)(st:aa):Option (AV×aa):=match x with
 |.bl b=>some (.bl !b,st)
 |_=>none
def Fu(x:AV)(st:aa)(r:Option (AV×aa)):Option (AV×aa):=match x with
 |.bl b=>if b=true then r else some (.bl false,st)
 |_=>none
def DZ(x:AV)(st:aa)(r:Option (AV×aa)):Option (AV×aa):=match x with
 |.bl b=>if b=true then some (.bl true,st) else r
 |_=>none
@[simp] theorem KY{b:Bool}:J6 (.bl b) st=some (.bl !b,st):=rfl
@[simp] theorem K5{b:Bool}{r:Option (AV×aa)}:Fu (.bl b) st r=if b=true then r else some (.bl false,st):=rfl
@[simp] theorem KU{b:Bool}{r:Option (AV×aa)}:DZ (.bl b) st r=if b=true then some (.bl true,st) else r:=rfl
@[simp] theorem Lf{a b:Ex}:ev ks (.an a b) sl st=(ev ks a sl st).bind fun p=>Fu p.1 p.2 (ev ks b sl p.2):=by
 show AD (ev ks a) (ev ks b) sl st=_;unfold AD Fu;congr 1;funext p;cases p.1<;>first|rfl|skip
 rename_i x;cases x<;>rfl
@[simp] theorem K8{a b:Ex}:ev ks (.or a b) sl st=(ev ks a sl st).bind fun p=>DZ p.1 p.2 (ev ks b sl p.2):=by
 show Az (ev ks a) (ev ks b) sl st=_;unfold Az DZ;congr 1;funext p;cases p.1<;>first|rfl|skip
 rename_i x;cases x<;>rfl
@[simp] theorem zl{t:Tx}{a b:Ex}:ev ks (.ife t a b) sl st=(tv ks t sl st).bind fun p=>if p.1=true then ev ks a sl p.2 else ev ks b sl p.2:=rfl
@[simp] theorem sD{a b:Ex}:ev ks (.ix a b) sl st=(ev ks a sl st).bind fun p=>(ev ks b sl p.2).bind fun q=>(cm q.2 p.1 q.1).map fun z=>(z,q.2):=rfl
@[simp] theorem mZ{p:Bool}{j:Nat}{es:Exs}:ev ks (.ca p j es) sl st=(dJ ks es sl st).bind fun q=>dF p (kf ks j) q.1 q.2:=rfl
@[simp] theorem Aa{f:Fn}:dF true f=pm f:=rfl
@[simp] theorem oU{f:Fn}:dF false f=f:=rfl
@[simp] theorem nD{f:Fn}:kf (f::ks) 0=f:=rfl
@[simp] theorem nB{f:Fn}{j:Nat}:kf (f::ks) (j+1)=kf ks j:=rfl
@[simp] theorem gM:dJ ks .nil sl st=some ([],st):=rfl
@[simp] theorem fG{e:Ex}{es:Exs}:dJ ks (.cons e es) sl st=(ev ks e sl st).bind fun p=>(dJ ks es sl p.2).bind fun q=>some (p.1::q.1,q.2):=rfl
@[simp] theorem K7{es:Exs}:ev ks (.tu es) sl st=(dJ ks es sl st).bind fun p=>if Nat.ble p.1.length 1000=true then some (.tup p.1,p.2) else none:=rfl
@[simp] theorem lq{x:Nx}:ev ks (.nw false x) sl st=(g7 ks x sl st).bind fun p=>if rfs p.1=true then some (.fz p.1,p.2) else none:=rfl
@[simp] theorem wP{x:Nx}:ev ks (.nw true x) sl st=(g7 ks x sl st).bind fun p=>some (.ref p.2.length,p.2++[.lst p.1]):=rfl
@[simp] theorem Lb{c m:Str}{j:Nat}{o:Ex}{es:Exs}:ev ks (.me c m j o es) sl st=(ev ks o sl st).bind fun p=>(iJ p.2 c p.1).bind fun fs=>if(fs.lookup m).isNone=true then(dJ ks es sl p.2).bind fun q=>kf ks j (p.1::q.1) q.2 else none:=rfl
@[simp] theorem K9{c:Str}{j:Nat}{es:Exs}:ev ks (.ne c j es) sl st=wC c (kf ks j) (dJ ks es) sl st:=rfl
@[simp] theorem Lc{c f:Str}{o:Ex}:ev ks (.fd c f o) sl st=(ev ks o sl st).bind fun p=>(iJ p.2 c p.1).bind fun fs=>(fs.lookup f).map fun v=>(v,p.2):=rfl
@[simp] theorem Iw{b:Bi}{es:Exs}:ev ks (.bi b es) sl st=(dJ ks es sl st).bind fun p=>mL b p.1 p.2:=rfl
@[simp] theorem Kl:mL .len=bZ d5:=rfl
@[simp] theorem Fo:mL .sum=bZ pi:=rfl
@[simp] theorem Kn:mL .abs=bZ qC:=rfl
@[simp] theorem Ki:mL .min=bZ nA:=rfl
@[simp] theorem Kk:mL .max=bZ tK:=rfl
@[simp] theorem Km:mL .int=bZ p4:=rfl
@[simp] theorem La{m:Mi}{o:Ex}{es:Exs}:ev ks (.mt m o es) sl st=k4 (pM m) (pL m) (ev ks o) (dJ ks es) sl st:=rfl
@[simp] theorem Ld:ev ks .dn sl st=some (.ref st.length,st++[.dK []]):=rfl
@[simp] theorem KK{a:Ex}:ev ks (.mnd a) sl st=(ev ks a sl st).bind fun p=>bZ lY [p.1] p.2:=by
 show(eI (ev ks a) d9 sl st).bind _=_;unfold eI d9;cases ev ks a sl st<;>rfl
@[simp] theorem KJ{a k:Ex}:ev ks (.mnk a k) sl st=o0 (ev ks a) (ev ks k) sl st:=rfl
@[simp] theorem Lw{es:Exs}:g7 ks (.li es) sl st=(dJ ks es sl st).bind fun p=>if cj p.1.length=true then some p else none:=rfl
@[simp] theorem tE{a b:Ex}:g7 ks (.cat a b) sl st=tI (ev ks a) (ev ks b) sl st:=rfl
@[simp] theorem Gq{es:Exs}{b:Ex}:g7 ks (.rep es b) sl st=tF (dJ ks es) (ev ks b) sl st:=rfl
@[simp] theorem Lv{a:Ex}{l h:Ox}:g7 ks (.sl a l h) sl st=lV (ev ks a) (qg ks l) (qg ks h) sl st:=rfl
@[simp] theorem K1{a:Ex}:g7 ks (.lof a) sl st=ny (ev ks a) sl st:=rfl
@[simp] theorem K0{a:Ex}:g7 ks (.lr1 a) sl st=tH (ev ks a) sl st:=rfl
@[simp] theorem KZ{a b:Ex}:g7 ks (.lr2 a b) sl st=tG (ev ks a) (ev ks b) sl st:=rfl
@[simp] theorem Ek{k:Nat}{it:Ix}{t:Tg}{c:Cx'}{e:Ex}:g7 ks (.lc k it t c e) sl st=(dz ks it sl st).bind fun p=>if cj p.1.LU.length=true then f8 p.1.gd (bM ks t) (iy ks c) (ev ks e) (sl++List.replicate k none) p.1.LU p.2 else none:=rfl
@[simp] theorem Lu:qg ks .no sl st=some (none,st):=rfl
@[simp] theorem Lr{e:Ex}:qg ks (.so e) sl st=lS (ev ks e) sl st:=rfl
@[simp] theorem LD:iy ks .no sl st=some (true,st):=rfl
@[simp] theorem LC{t:Tx}:iy ks (.so t) sl st=tv ks t sl st:=rfl
@[simp] theorem LN{a:Ex}:dz ks (.e a) sl st=(ev ks a sl st).bind fun p=>(md p.2 p.1).map fun iv=>(iv,p.2):=rfl
@[simp] theorem Lz{a:Ex}:dz ks (.r1 a) sl st=vT (ev ks a) sl st:=rfl
@[simp] theorem Ly{a b:Ex}:dz ks (.r2 a b) sl st=Ah (ev ks a) (ev ks b) sl st:=rfl
@[simp] theorem Lx{a b:Ex}:dz ks (.zi a b) sl st=iZ (ev ks a) (ev ks b) sl st:=rfl
@[simp] theorem Jk{a:Ex}:dz ks (.en a) sl st=(ev ks a sl st).bind fun p=>(gT p.2 p.1).map fun iv=>(⟨dG 0 iv.LU,iv.gd⟩,p.2):=rfl
@[simp] theorem LA{a b:Ex}:dz ks (.es a b) sl st=tX (ev ks a) (ev ks b) sl st:=rfl
@[simp] theorem yn{k:Nat}{x:AV}:bM ks (.nm k) x sl st=some (sl.set k (some x),st):=rfl
@[simp] theorem LB{n:Nat}{ts:Tgs}{x:AV}:bM ks (.tu n ts) x sl st=vY n (iM ks ts) x sl st:=rfl
@[simp] theorem EW{a b:Ex}{x:AV}:bM ks (.su a b) x sl st=(ev ks a sl st).bind fun p=>(ev ks b sl p.2).bind fun q=>(gQ q.2 p.1 q.1 x).map fun st'=>(sl,st'):=rfl
@[simp] theorem Ka{xs:List AV}:iM ks .nil xs sl st=EX xs sl st:=rfl
@[simp] theorem JE{t:Tg}{ts:Tgs}{xs:List AV}:iM ks (.cons t ts) xs sl st=E1 (bM ks t) (iM ks ts) xs sl st:=rfl
@[simp] theorem Lg{e:Ex}:tv ks (.va e) sl st=(ev ks e sl st).bind fun p=>(dY p.2 p.1).map fun b=>(b,p.2):=rfl
@[simp] theorem sL{o:CmpOp}{a b:Ex}:tv ks (.cmp o a b) sl st=(ev ks a sl st).bind fun p=>(ev ks b sl p.2).bind fun q=>(cx o q.2 p.1 q.1).map fun b=>(b,q.2):=rfl
@[simp] theorem Li{t:Tx}:tv ks (.no t) sl st=(tv ks t sl st).bind fun p=>some (!p.1,p.2):=rfl
@[simp] theorem Lj{t u:Tx}:tv ks (.an t u) sl st=(tv ks t sl st).bind fun p=>if p.1=true then tv ks u sl p.2 else some (false,p.2):=rfl
@[simp] theorem Lh{t u:Tx}:tv ks (.or t u) sl st=(tv ks t sl st).bind fun p=>if p.1=true then some (true,p.2) else tv ks u sl p.2:=rfl
@[simp] theorem KI:aj ks .nil sl st=some (.nx sl st):=rfl
def lT(o:Out)(k:Sl->aa->Option Out):Option Out:=match o with
 |.nx sl st=>k sl st
 |o=>some o
@[simp] theorem vB{k:Sl->aa->Option Out}:lT (.nx sl st) k=k sl st:=rfl
@[simp] theorem vA{v:AV}{k:Sl->aa->Option Out}:lT (.rt v st) k=some (.rt v st):=rfl
@[simp] theorem J5{k:Sl->aa->Option Out}:lT (.bk sl st) k=some (.bk sl st):=rfl
@[simp] theorem J4{k:Sl->aa->Option Out}:lT (.ct sl st) k=some (.ct sl st):=rfl
@[simp] theorem jB{s:Sx}{ss:L5}:aj ks (.cons s ss) sl st=(cA ks s sl st).bind fun o=>lT o (aj ks ss):=by
 show(cA ks s sl st).bind _=(cA ks s sl st).bind _;congr 1
@[simp] theorem xc{e:Ex}:cA ks (.ex e) sl st=(ev ks e sl st).bind fun p=>some (.nx sl p.2):=rfl
@[simp] theorem dB{e:Ex}{t:Tg}:cA ks (.as e t) sl st=(ev ks e sl st).bind fun p=>(bM ks t p.1 sl p.2).bind fun q=>some (.nx q.1 q.2):=rfl
@[simp] theorem FU{o:Operator}{a b e:Ex}:cA ks (.aus o a b e) sl st=sU o (ev ks a) (ev ks b) (ev ks e) sl st:=rfl
@[simp] theorem Lk{c f:Str}{o e:Ex}:cA ks (.fl c f o e) sl st=u8 c f (ev ks o) (ev ks e) sl st:=rfl
@[simp] theorem xb{e:Ex}:cA ks (.rt e) sl st=(ev ks e sl st).bind fun p=>some (.rt p.1 p.2):=rfl
@[simp] theorem j5{t:Tx}{a b:L5}:cA ks (.iff t a b) sl st=(tv ks t sl st).bind fun p=>if p.1=true then aj ks a sl p.2 else aj ks b sl p.2:=rfl
@[simp] theorem nk{it:Ix}{t:Tg}{b:L5}:cA ks (.fo it t b) sl st=(dz ks it sl st).bind fun p=>cW p.1.gd (bM ks t) (aj ks b) p.1.LU sl p.2:=rfl
@[simp] theorem KP{a:Ex}{t:Tg}{b:L5}:cA ks (.fd a t b) sl st=sS (ev ks a) (bM ks t) (aj ks b) sl st:=rfl
@[simp] theorem IS{t:Tx}{b:L5}:cA ks (.wh t b) sl st=kC (tv ks t) (aj ks b) sl st:=rfl
@[simp] theorem JW:cA ks .dead sl st=none:=rfl
def ax(o:Out):Option (AV×aa):=match o with
 |.rt v st=>some (v,st)
 |.nx _ st=>some (.non,st)
 |_=>none
@[simp] theorem Kc{v:AV}:ax (.rt v st)=some (v,st):=rfl
@[simp] theorem Kd:ax (.nx sl st)=some (.non,st):=rfl
theorem aD{n:Nat}{b:L5}{args:List AV}:R.run n (aj ks b) args st=(aj ks b (args.map some++List.replicate (n-args.length) none) st).bind ax:=by
 unfold R.run;congr 1
end
@[simp] theorem KQ:rfs []=true:=rfl
@[simp] theorem KR{x:AV}{xs:List AV}:rfs (x::xs)=(rf x&&rfs xs):=by simp only[rfs]
@[simp] theorem Lo{i:Int}:rf (.int i)=true:=rfl
@[simp] theorem Lq{i:Bool}:rf (.bl i)=true:=rfl
@[simp] theorem Lm{i:Str}:rf (.str i)=true:=rfl
@[simp] theorem Ln:rf .non=true:=rfl
@[simp] theorem Lp{xs:List AV}:rf (.fz xs)=true:=rfl
@[simp] theorem Ll{xs:List AV}:rf (.tup xs)=rfs xs:=by simp only[rf]
section
variable{st:aa}{a b:Int}
theorem Am:jz st (.int a) (.int b)=some (decide (a=b)):=by
 show(if pyOk (.int a) (.int b)=true then some (PyData.eqv (.int a) (.int b)) else none)=_;rw[yI (by simp[pyOk,PyData.canLay0,PyData.depth])];congr 1
@[simp] theorem LJ:cx .Eq st (.int a) (.int b)=some (decide (a=b)):=Am
@[simp] theorem Jv:cx .NotEq st (.int a) (.int b)=some (!decide (a=b)):=by show((jz st (.int a) (.int b)).map fun x=>!x)=_;rw[Am];rfl
@[simp] theorem LF:cx .Lt st (.int a) (.int b)=some (decide (a<b)):=rfl
@[simp] theorem LG:cx .LtE st (.int a) (.int b)=some (decide (a<=b)):=rfl
@[simp] theorem LH:cx .Gt st (.int a) (.int b)=some (decide (b<a)):=rfl
@[simp] theorem LI:cx .GtE st (.int a) (.int b)=some (decide (b<=a)):=rfl
@[simp] theorem LO{o:CmpOp}{x y:AV}:lG o st x y=(cx o st x y).map .bl:=rfl
@[simp] theorem K2:cx .Is st .non .non=some true:=rfl
@[simp] theorem K3:cx .Is st (.int a) .non=some false:=rfl
@[simp] theorem Kg:cx .IsNot st .non .non=some false:=rfl
@[simp] theorem Kh:cx .IsNot st (.int a) .non=some true:=rfl
@[simp] theorem K4:bh .Add st (.int a) (.int b)=some (.int (a+b)):=rfl
@[simp] theorem Hf:bh .Sub st (.int a) (.int b)=some (.int (a-b)):=rfl
theorem bO(h:cG a b=true):bh .Mult st (.int a) (.int b)=some (.int (a*b)):=by
 show(if cG a b=true then _ else _:Option Int).map _=_;rw[yI h];rfl
theorem kt(h:dD b=true):bh .FloorDiv st (.int a) (.int b)=some (.int (rZ a b)):=by
 show(if dD b=true then _ else _:Option Int).map _=_;rw[yI h];rfl
theorem gE(h:b≠0):bh .Mod st (.int a) (.int b)=some (.int (ou a b)):=by
 show(if b=0 then _ else _:Option Int).map _=_;rw[yH h];rfl
@[simp] theorem KN:lJ .USub st (.int a)=some (.int (-a)):=rfl
theorem eC{x y:Int}(h1:x.natAbs<2^9000)(h2:y.natAbs<2^9000):cG x y=true:=by
 have lg:∀z:Nat,z<2^9000->Nat.ble z.log2 1000000=true:=fun z hz=>by
  by_cases h0:z=0
  ·subst h0;rfl
  ·exact yL (z5 (yZ ((Nat.log2_lt h0).mpr hz)) oM)
 unfold cG;rw[lg _ h1,lg _ h2,Bool.and_true,Bool.or_true]
theorem wl{y:Int}(h0:y≠0)(h2:y.natAbs<2^9000):dD y=true:=by
 unfold dD;have:Nat.ble y.natAbs.log2 8999=true:=yL (by have:=(Nat.log2_lt (n:=y.natAbs) oM).mpr h2;lia);rw[this];simp[h0]
end
open SX (Sh gI)
noncomputable def iL(l:List Int):List AV:=l.map .int
abbrev Is(x:Int):Option AV:=some (.int x)
abbrev Rs(x:Nat):Option AV:=some (.ref x)
abbrev Zs(x:List AV):Option AV:=some (.fz x)
abbrev Ls(x:List Int):Option AV:=some (.fz (iL x))
noncomputable def nL(l:List Nat):List AV:=l.map fun q=>.int ((q:Nat):Int)
def kL(l:List Nat):List (aQ×AV):=l.map fun q=>(.inl ((q:Nat):Int),.bl true)
def cD(d:Int)(a b c g n u:Nat):List (Str×AV):=[("below",.int d),("lines",.ref a),("heads",.ref b),("sides",.ref c),("guarded",.ref g),("nailed",.ref n),("turned",.ref u)]
section
variable{d:Int}{a b c g n u:Nat}
@[simp] theorem Jg:(cD d a b c g n u).lookup ("below":Str)=some (AV.int d):=rfl
@[simp] theorem Je:(cD d a b c g n u).lookup ("lines":Str)=some (AV.ref a):=rfl
@[simp] theorem Jf:(cD d a b c g n u).lookup ("heads":Str)=some (AV.ref b):=rfl
@[simp] theorem Jd:(cD d a b c g n u).lookup ("sides":Str)=some (AV.ref c):=rfl
@[simp] theorem Gz:(cD d a b c g n u).lookup ("guarded":Str)=some (AV.ref g):=rfl
@[simp] theorem HI:(cD d a b c g n u).lookup ("nailed":Str)=some (AV.ref n):=rfl
@[simp] theorem HH:(cD d a b c g n u).lookup ("turned":Str)=some (AV.ref u):=rfl
@[simp] theorem xZ:(cD d a b c g n u).lookup ("loose_columns":Str)=none:=rfl
@[simp] theorem wL:(cD d a b c g n u).lookup ("raising_column":Str)=none:=rfl
@[simp] theorem wK:(cD d a b c g n u).lookup ("tightest_place":Str)=none:=rfl
@[simp] theorem Cs:(cD d a b c g n u).lookup ("is_tighter":Str)=none:=rfl
@[simp] theorem B7:(cD d a b c g n u).lookup ("is_up_first":Str)=none:=rfl
@[simp] theorem FG:(cD d a b c g n u).lookup ("exchange":Str)=none:=rfl
@[simp] theorem JD:(cD d a b c g n u).lookup ("lift":Str)=none:=rfl
@[simp] theorem FI:(cD d a b c g n u).lookup ("drive_up":Str)=none:=rfl
@[simp] theorem xY:(cD d a b c g n u).lookup ("moving_column":Str)=none:=rfl
@[simp] theorem Jc:(cD d a b c g n u).lookup ("guard":Str)=none:=rfl
@[simp] theorem JC:(cD d a b c g n u).lookup ("nail":Str)=none:=rfl
@[simp] theorem EC:(cD d a b c g n u).lookup ("turn_line":Str)=none:=rfl
end
def RowR(st:aa)(x:AV)(l:List Int):Prop:=x=.fz (iL l)\/∃r,x=.ref r/\(st[r]?=some (.lst (iL l))\/st[r]?=some (.al (.fz (iL l))))
structure Rep(st:aa)(k a b c g n u:Nat)(rows:List AV)(S:Sh):Prop where
 hk:st[k]?=some (.ins "Sheet" (cD S.d a b c g n u))
 ha:st[a]?=some (.lst rows)
 hb:st[b]?=some (.lst (nL S.hd))
 hc:st[c]?=some (.lst (nL S.sd))
 hg:st[g]?=some (.dK (kL S.gd))
 hn:st[n]?=some (.dK (kL S.nl))
 hu:st[u]?=some (.dK (kL S.tn))
 len:rows.length=S.ls.length
 row:∀i x,rows[i]?=some x->RowR st x (SX.row S i)
 ab:a≠b
 ac:a≠c
 bc:b≠c
 gn:g≠n
 gu:g≠u
 nu:n≠u
 ra:∀(i r:Nat),rows[i]?=some (.ref r)->r≠a/\r≠b/\r≠c
section
variable{st:aa}{x:AV}{xs:List AV}{l:List Int}{i:Int}
theorem RowR.ls(h:RowR st x l):bA st x=some (iL l):=by
 rcases h with rfl|⟨r,rfl,h|h⟩
 ·rfl
 ·unfold bA dr;simp only[h]
 ·unfold bA dr;simp only[h]
theorem cq(h:bA st x=some xs):cm st x (.int i)=fD xs i:=by
 have hd:lF st x (.int i)=none:=by
  unfold lF;have h1:iA st x=none:=by
   cases x<;>first|rfl|skip
   rename_i k;unfold bA dr at h;unfold iA;dsimp only at h ⊢;cases e:st[k]? with
   |none=>rfl
   | some c=>cases c <;> first | rfl | (rw [e] at h;simp only [e] at h;cases h)
  have h2:kR st x=none:=by
   cases x<;>first|rfl|skip
   rename_i k;unfold bA dr at h;unfold kR;dsimp only at h ⊢;cases e:st[k]? with
   |none=>rfl
   | some c=>cases c <;> first | rfl | (rw [e] at h;simp only [e] at h;cases h)
  rw[h1,h2]
 unfold cm;rw[hd];dsimp only;rw[h]
theorem b8{α:Type}{xs:List α}{j:Nat}:fD xs ((j:Nat):Int)=xs[j]?:=by
 unfold fD kI;rw[yI oM];by_cases h:j<xs.length
 ·rw[yI oM];simp
 ·rw[yH oM,List.getElem?_eq_none oM];rfl
theorem nT{α:Type}{xs:List α}{n:Nat}(h:xs.length=n+1):fD xs (-1)=xs[n]?:=by
 unfold fD kI;rw[yH oM,yI oM,h,bind_some];congr 1;lia
theorem bL{j:Nat}(h:j<l.length):(iL l)[j]?=some (.int (gI l j)):=by
 unfold iL gI;simp[h,zD]
theorem fK{l:List Nat}{j:Nat}(h:j<l.length):(nL l)[j]?=some (.int ((l.getD j 0:Nat):Int)):=by
 unfold nL;simp[h,zD]
theorem bu{k:Nat}(h:st[k]?=some (.lst xs)):bA st (.ref k)=some xs:=by unfold bA dr;simp only[h]
theorem rK{g:Nat}{l:List Nat}{q:Nat}(h:st[g]?=some (.dK (kL l))):p6 st (.int q) (.ref g)=some (decide (q∈l)):=by
 unfold p6 lF iA;simp only[h,jj,map_some];congr 1;unfold lm kL;rw[Option.isSome_map,List.find?_map,Option.isSome_map,Bool.eq_iff_iff,List.isSome_find?,List.any_eq_true];simp[Int.ofNat_inj]
end
noncomputable def jD(rows:List AV)(i:Nat):AV:=rows.getD i .non
section
variable{st:aa}{k a b c g n u w m:Nat}{rows:List AV}{S:Sh}{i j:Nat}
theorem Rep.ins(R:Rep st k a b c g n u rows S):iJ st "Sheet" (.ref k)=some (cD S.d a b c g n u):=by
 unfold iJ;simp only[R.hk];rfl
theorem Rep.rx(R:Rep st k a b c g n u rows S)(P:SX.L4 w m S)(hi:i<m):rows[i]?=some (jD rows i):=by
 have:i<rows.length:=by rw[R.len,P.ls];exact hi
 unfold jD;rw[zD,zF this];rfl
theorem Rep.line(R:Rep st k a b c g n u rows S)(P:SX.L4 w m S)(hi:i<m):cm st (.ref a) (.int (i:Int))=some (jD rows i):=by
 rw[cq (bu R.ha),b8];exact R.rx P hi
theorem Rep.rowl(R:Rep st k a b c g n u rows S)(P:SX.L4 w m S)(hi:i<m):bA st (jD rows i)=some (iL (SX.row S i)):=(R.row i _ (R.rx P hi)).ls
theorem Rep.cell(R:Rep st k a b c g n u rows S)(P:SX.L4 w m S)(hi:i<m)(hj:j<w+1):cm st (jD rows i) (.int (j:Int))=some (.int (S.t i j)):=by
 rw[cq (R.rowl P hi),b8,bL (by rw[P.rl hi];exact hj)];rfl
theorem Rep.last(R:Rep st k a b c g n u rows S)(P:SX.L4 w m S)(hi:i<m):cm st (jD rows i) (.int (-1))=some (.int (S.t i w)):=by
 rw[cq (R.rowl P hi),nT (n:=w) (by unfold iL;rw[zH];exact P.rl hi),bL (by rw[P.rl hi];lia)];rfl
theorem Rep.side(R:Rep st k a b c g n u rows S)(P:SX.L4 w m S)(hi:i<m):cm st (.ref c) (.int (i:Int))=some (.int (S.s i:Int)):=by
 rw[cq (bu R.hc),b8,fK (by rw[P.sd];exact hi)];rfl
theorem Rep.head(R:Rep st k a b c g n u rows S)(P:SX.L4 w m S)(hj:j<w):cm st (.ref b) (.int (j:Int))=some (.int (S.h j:Int)):=by
 rw[cq (bu R.hb),b8,fK (by rw[P.hd];exact hj)];rfl
theorem Rep.ing(R:Rep st k a b c g n u rows S){q:Nat}:cx .In st (.int q) (.ref g)=some (decide (q∈S.gd)):=rK R.hg
theorem Rep.nin(R:Rep st k a b c g n u rows S){q:Nat}:cx .NotIn st (.int q) (.ref n)=some (!decide (q∈S.nl)):=by show(p6 st _ _).map _=_;rw[rK R.hn];rfl
end
theorem fN{α:Type}{em:α->AV}{B:α->Bool}{F:α->AV}(hg:bQ gd st=true):∀{xs:List α},(∀x∈xs,∃sl1,g (em x) sl st=some (sl1,st)/\t sl1 st=some (B x,st)/\(B x=true->f sl1 st=some (F x,st)))->f8 gd g t f sl (xs.map em) st=some ((xs.filter B).map F,st)
 |[],_=>by show(if bQ gd st=true then _ else _)=_;rw[yI hg];rfl
 |x::xs,h=>by
  obtain⟨sl1,h1,h2,h3⟩:=h x z7;have ih:=fN hg (xs:=xs) fun y hy=>h y (zQ _ hy)
  show(if bQ gd st=true then(g (em x) sl st).bind _ else none)=_;rw[yI hg,h1,bind_some];dsimp only;rw[h2,bind_some];cases hB:B x with
  |true=>rw[yI rfl];dsimp only;rw[h3 hB,bind_some];dsimp only;rw[ih,List.filter_cons,hB];rfl
  |false=>rw[yH (by simp)];dsimp only;rw[ih,List.filter_cons,hB];rfl
theorem gJ:∀{xs:List AV},(∀x∈xs,rf x=true)->rfs xs=true
 |[],_=>rfl
 |x::xs,h=>by simp only[rfs,zC];exact⟨h x z7,gJ fun y hy=>h y (zQ _ hy)⟩
theorem xh:rfs (iL l)=true:=gJ fun x hx=>by obtain⟨i,_,rfl⟩:=yD.mp hx;rfl
theorem lv:rfs (nL l)=true:=gJ fun x hx=>by obtain⟨i,_,rfl⟩:=yD.mp hx;rfl
mutual
theorem wz:∀(x:AV),cC x x=true
 |.non=>rfl
 |.bl _=>by simp[cC]
 |.int _=>by simp[cC]
 |.str _=>by simp[cC]
 |.ref _=>by simp[cC]
 |.tup a=>by simp only[cC];exact iC a
 |.fz a=>by simp only[cC];exact iC a
theorem iC:∀(xs:List AV),fx xs xs=true
 |[]=>rfl
 |x::xs=>by simp only[fx,wz x,iC xs,Bool.and_self]
end
theorem fO{k:Nat}(h:st[k]?=some (.lst xs)):bQ [(k,.lst xs)] st=true:=by
 simp only[bQ,h,ue,iC,Bool.and_self]
theorem G1:dG 0 (nL l)=l.zipIdx.map fun z=>.tup [.int ((z.2:Nat):Int),.int ((z.1:Nat):Int)]:=by
 unfold dG nL;rw[List.zipIdx_map,List.map_map];rfl
@[simp] theorem JS:ib st (.tup xs)=some xs:=rfl
@[simp] theorem J8:md st (.fz xs)=some ⟨xs,[]⟩:=rfl
@[simp] theorem EN:gT st (.fz xs)=some ⟨xs,[]⟩:=rfl
@[simp] theorem fj:bA st (.fz xs)=some xs:=rfl
theorem iV{k:Nat}(h:st[k]?=some (.lst xs)):gT st (.ref k)=some ⟨xs,[(k,.lst xs)]⟩:=by
 unfold gT dr;simp only[h]
theorem nF{k:Nat}(h:st[k]?=some (.lst xs)):md st (.ref k)=some ⟨xs,[(k,.lst xs)]⟩:=by
 have:ib st (.ref k)=none:=by unfold ib dr;simp only[h]
 unfold md;dsimp only;rw[this];exact iV h
@[simp] theorem fc:bQ [] st=true:=rfl
theorem rJ:kb (nL l)=some (l.map fun q=>((q:Nat):Int)):=by
 unfold kb nL;exact fM (f:=fun x=>match x with|.int i=>some i|_=>none) (i:=fun q:Nat=>AV.int q) (g:=fun q=>((q:Nat):Int)) (fun _=>rfl) l
noncomputable def oN:Option Nat->AV
 |none=>.non
 |some c=>.int (c:Int)
noncomputable def bG(S:Sh):List Nat:=(S.hd.zipIdx.filter fun z=>!decide (z.1∈S.nl)).map (·.2)
theorem ig{w m:Nat}(P:SX.L4 w m S){j:Nat}:j∈bG S ↔ j<w/\S.h j∉S.nl:=by
 unfold bG;simp only[yD,List.mem_filter,Prod.exists];constructor
 ·rintro⟨q,i,⟨h1,h2⟩,rfl⟩
  have h3:=List.mem_zipIdx' h1;have hi:i<S.hd.length:=h3.1;refine⟨by rw[<- P.hd];exact hi,?_⟩;have:S.h i=q:=by
   show S.hd.getD i 0=q;rw[zD,zF hi,h3.2];rfl
  rw[this];simpa using h2
 ·rintro⟨h1,h2⟩
  have hi:j<S.hd.length:=by rw[P.hd];exact h1
  refine⟨S.h j,j,⟨?_,by simpa using h2⟩,rfl⟩;have e:S.h j=S.hd[j]:=by
   show S.hd.getD j 0=_;rw[zD,zF hi];rfl
  rw[e,List.mem_zipIdx_iff_getElem?];exact zF hi
theorem bU{n:Nat}(h:n<=1000):cj n=true:=yL oM
theorem Ft{key:Nat->Nat}:∃o:Option Nat,nV ((l.map fun q=>((q:Nat):Int)).zip (l.map fun q=>((key q:Nat):Int)))=oN o/\(o=none->l=[])/\∀c,o=some c->c∈l/\∀j∈l,key c<=key j:=by
 cases l with
 |nil=>exact⟨none,rfl,fun _=>rfl,fun c h=>nomatch h⟩
 |cons x l =>
  have hz:((x::l).map fun q=>((q:Nat):Int)).zip ((x::l).map fun q=>((key q:Nat):Int))=(x::l).map fun q=>(((q:Nat):Int),((key q:Nat):Int)):=by
   generalize x::l=ys
   induction ys with
   |nil=>rfl
   |cons y ys ih=>simp only[zO,List.zip_cons_cons,ih]
  rw[hz];obtain⟨i,κ,h1,h2⟩:=kz (l.map fun q=>(((q:Nat):Int),((key q:Nat):Int))) (x:Int) (key x:Int);rw[<- zO (f:=fun q:Nat=>(((q:Nat):Int),((key q:Nat):Int)))]at h1 h2;rw[zR]at h1;obtain⟨c,hc,e⟩:=zE.mp h1;injection e with e1 e2;refine⟨some c,?_,(fun h=>nomatch h),fun c' h=>?_⟩
  ·show AV.int _=AV.int _
   rw[e1]
  ·cases h
   refine⟨zW hc,fun j hj=>?_⟩;obtain⟨t,ht⟩:=z9 hj
   have:=(h2 t ((j:Int),(key j:Int)) (by rw[zR,ht];rfl)).1
   rw[<- e2]at this;have:((key c:Nat):Int)<=((key j:Nat):Int):=this;lia
theorem Ew{l:List Nat}{key:EF}{sl:Sl}{st:aa}{f:Nat->Nat}(h:∀q∈l,key (sl++[Is ((q:Nat):Int)]) st=some (.int ((f q:Nat):Int),st)):bI (vM key sl st) (l.map fun q=>((q:Nat):Int))=some (l.map fun q=>((f q:Nat):Int)):=by
 induction l with
 |nil=>rfl
 |cons x l ih =>
  have h1:vM key sl st (x:Int)=some ((f x:Nat):Int):=by unfold vM;rw[h x z7]
  simp only[zO,bI,h1,ih fun q hq=>h q (zQ _ hq),bind_some,map_some]
def fk(gd:Gd)(g:GF)(s:SF)(xs:List AV):Out->Option Out
 |.nx sl st=>cW gd g s xs sl st
 |.ct sl st=>cW gd g s xs sl st
 |.bk sl st=>some (.nx sl st)
 |.rt v st=>some (.rt v st)
theorem wc(hg:bQ gd st=true)(h1:g x sl st=some p)(h2:s p.1 p.2=some o):cW gd g s (x::xs) sl st=fk gd g s xs o:=by
 show(if bQ gd st=true then(g x sl st).bind _ else none)=_;rw[yI hg,h1,bind_some,h2,bind_some];cases o<;>rfl
theorem nK{gd:Gd}{g:GF}{s:SF}{I:Nat->Sl->aa->Prop}{Post:AV->aa->Prop}{xs:List AV}(hg:∀i sl st,i<=xs.length->I i sl st->bQ gd st=true)
  (h:∀i x sl st,xs[i]?=some x->I i sl st->∃p o,g x sl st=some p/\s p.1 p.2=some o/\((∃sl2 st2,o=.nx sl2 st2/\I (i+1) sl2 st2)\/∃v st2,o=.rt v st2/\Post v st2)) :
  ∀{sl:Sl}{st:aa},I 0 sl st->(∃sl' st',cW gd g s xs sl st=some (.nx sl' st')/\I xs.length sl' st')\/∃v st',cW gd g s xs sl st=some (.rt v st')/\Post v st':=by
 have go:∀(r:Nat)(j:Nat){sl:Sl}{st:aa},j+r=xs.length->I j sl st->(∃sl' st',cW gd g s (xs.drop j) sl st=some (.nx sl' st')/\I xs.length sl' st')\/∃v st',cW gd g s (xs.drop j) sl st=some (.rt v st')/\Post v st':=fun r=>by
  induction r with
  |zero =>
   intro j sl st hj hI;left;rw[List.drop_of_length_le oM];refine⟨sl,st,?_,by rw[show xs.length=j by lia];exact hI⟩;show(if bQ gd st=true then _ else _)=_;rw[yI (hg j sl st oM hI)]
  |succ r ih =>
   intro j sl st hj hI;have hl:j<xs.length:=by lia
   obtain⟨p,o,h1,h2,h3⟩:=h j xs[j] sl st (zF hl) hI;rw[List.drop_eq_getElem_cons hl];have e:=wc (xs:=xs.drop (j+1)) (hg j sl st oM hI) h1 h2;rw[e];rcases h3 with⟨sl2,st2,rfl,h3⟩|⟨v,st2,rfl,h3⟩
   ·exact ih (j+1) oM h3
   ·exact .inr ⟨v,st2,rfl,h3⟩
 intro sl st h0
 have:=go xs.length 0 oM h0
 rw[List.drop_zero]at this;exact this
theorem dR{gd:Gd}{g:GF}{s:SF}{I:Nat->Sl->aa->Prop}{xs:List AV}(hg:∀i sl st,i<=xs.length->I i sl st->bQ gd st=true)
  (h:∀i x sl st,xs[i]?=some x->I i sl st->∃p sl2 st2,g x sl st=some p/\s p.1 p.2=some (.nx sl2 st2)/\I (i+1) sl2 st2) {sl:Sl}{st:aa} (h0:I 0 sl st):∃sl' st',cW gd g s xs sl st=some (.nx sl' st')/\I xs.length sl' st':=by
 rcases nK (Post:=fun _ _=>False) hg (fun i x sl st hx hI=>by
  obtain⟨p,sl2,st2,a,b,c⟩:=h i x sl st hx hI;exact⟨p,_,a,b,.inl ⟨sl2,st2,rfl,c⟩⟩) h0 with h|⟨_,_,_,h⟩
 ·exact h
 ·exact h.elim
theorem mG{i:Nat}(h:(dG 0 xs)[i]?=some y):∃x,xs[i]?=some x/\y=.tup [.int ((i:Nat):Int),x]:=by
 unfold dG at h;rw[zR]at h;obtain⟨z,h1,rfl⟩:=zE.mp h;rw[List.getElem?_zipIdx]at h1;obtain⟨x,h2,rfl⟩:=zE.mp h1;exact⟨x,h2,by simp⟩
theorem ki:(dG 0 xs).length=xs.length:=by unfold dG;simp
section
variable{st:aa}{k a b c g n u w m:Nat}{rows:List AV}{S:Sh}{i j q:Nat}{x:AV}{l:List Int}{e e':LQ}
theorem au(h:q≠j):(st.set q e')[j]?=st[j]?:=by rw[yX];simp[h]
theorem fu(h:st[q]?=some e):(st.set q e')[q]?=some e':=by
 rw[yX];simp[(zB.mp h).1]
theorem ga(h:st[j]?=some e):(st++ys)[j]?=some e:=by
 rw[zN (zB.mp h).1];exact h
theorem gl:(st++[e])[st.length]?=some e:=by simp
theorem ba(h1:st[i]?=some e)(h2:st[j]?=some e')(h:e≠e'):i≠j:=fun z=>h (by rw[z,h2]at h1;injection h1 with h1;exact h1.symm)
theorem RowR.set(h:RowR st x l)(hq:∀r,x=.ref r->q≠r):RowR (st.set q e') x l:=by
 rcases h with h|⟨r,h1,h2⟩
 ·exact .inl h
 ·exact .inr ⟨r,h1,by rw[au (hq r h1)];exact h2⟩
theorem RowR.app(h:RowR st x l):RowR (st++ys) x l:=by
 rcases h with h|⟨r,h1,h2|h2⟩
 ·exact .inl h
 ·exact .inr ⟨r,h1,.inl (ga h2)⟩
 ·exact .inr ⟨r,h1,.inr (ga h2)⟩
theorem Rep.app(R:Rep st k a b c g n u rows S):Rep (st++ys) k a b c g n u rows S :=
 ⟨ga R.hk,ga R.ha,ga R.hb,ga R.hc,ga R.hg,ga R.hn,ga R.hu,R.len,fun i x h=>(R.row i x h).app,R.ab,R.ac,R.bc,R.gn,R.gu,R.nu,R.ra⟩
theorem Rep.rowk(R:Rep st k a b c g n u rows S){r:Nat}(h:rows[i]?=some (.ref r)):r≠k/\r≠g/\r≠n/\r≠u:=by
 have hr:=R.row i _ h;rcases hr with h|⟨r',h1,h2⟩
 ·cases h
 ·cases h1
  rcases h2 with h2|h2
  ·exact⟨ba h2 R.hk (fun z=>nomatch z),ba h2 R.hg (fun z=>nomatch z),ba h2 R.hn (fun z=>nomatch z),ba h2 R.hu (fun z=>nomatch z)⟩
  ·exact⟨ba h2 R.hk (fun z=>nomatch z),ba h2 R.hg (fun z=>nomatch z),ba h2 R.hn (fun z=>nomatch z),ba h2 R.hu (fun z=>nomatch z)⟩
theorem Rep.fields{a':Nat}(R:Rep st k a b c g n u rows S)(ha:st[a']?=some (.lst rows'))(hb:S'.hd=S.hd)(hc:S'.sd=S.sd)(hg:S'.gd=S.gd)(hn:S'.nl=S.nl)(hu:S'.tn=S.tn)(len:rows'.length=S'.ls.length)
  (row:∀i x,rows'[i]?=some x->RowR st x (SX.row S' i)) (ab:a'≠b) (ac:a'≠c) (ra:∀(i r:Nat),rows'[i]?=some (.ref r)->r≠a'/\r≠b/\r≠c):Rep (st.set k (.ins "Sheet" (cD S'.d a' b c g n u))) k a' b c g n u rows' S':=by
 have na:k≠a':=ba R.hk ha (fun z=>nomatch z);refine⟨fu R.hk,by rw[au na];exact ha,?_,?_,?_,?_,?_,len,fun i x h=>(row i x h).set fun r e=>?_,ab,ac,R.bc,R.gn,R.gu,R.nu,ra⟩
 ·rw[au (ba R.hk R.hb (fun z=>nomatch z)),hb];exact R.hb
 ·rw[au (ba R.hk R.hc (fun z=>nomatch z)),hc];exact R.hc
 ·rw[au (ba R.hk R.hg (fun z=>nomatch z)),hg];exact R.hg
 ·rw[au (ba R.hk R.hn (fun z=>nomatch z)),hn];exact R.hn
 ·rw[au (ba R.hk R.hu (fun z=>nomatch z)),hu];exact R.hu
 ·subst e
  rcases row i _ h with z|⟨r',h1,h2⟩
  ·cases z
  ·cases h1
   rcases h2 with h2|h2
   ·exact ba R.hk h2 (fun z=>nomatch z)
   ·exact ba R.hk h2 (fun z=>nomatch z)
theorem Rep.heads(R:Rep st k a b c g n u rows S):Rep (st.set b (.lst (nL hd'))) k a b c g n u rows { S with hd:=hd' } :=
 ⟨by rw[au (ba R.hb R.hk (fun z=>nomatch z))];exact R.hk,by rw[au (Ne.symm R.ab)];exact R.ha,fu R.hb,by rw[au R.bc];exact R.hc,by rw[au (ba R.hb R.hg (fun z=>nomatch z))];exact R.hg,by rw[au (ba R.hb R.hn (fun z=>nomatch z))];exact R.hn,
  by rw[au (ba R.hb R.hu (fun z=>nomatch z))];exact R.hu,R.len,fun i x h=>(R.row i x h).set fun r e=>Ne.symm (R.ra i r (by rw[<- e];exact h)).2.1,R.ab,R.ac,R.bc,R.gn,R.gu,R.nu,R.ra⟩
theorem Rep.sides(R:Rep st k a b c g n u rows S):Rep (st.set c (.lst (nL sd'))) k a b c g n u rows { S with sd:=sd' } :=
 ⟨by rw[au (ba R.hc R.hk (fun z=>nomatch z))];exact R.hk,by rw[au (Ne.symm R.ac)];exact R.ha,by rw[au (Ne.symm R.bc)];exact R.hb,fu R.hc,by rw[au (ba R.hc R.hg (fun z=>nomatch z))];exact R.hg,by rw[au (ba R.hc R.hn (fun z=>nomatch z))];exact R.hn,
  by rw[au (ba R.hc R.hu (fun z=>nomatch z))];exact R.hu,R.len,fun i x h=>(R.row i x h).set fun r e=>Ne.symm (R.ra i r (by rw[<- e];exact h)).2.2,R.ab,R.ac,R.bc,R.gn,R.gu,R.nu,R.ra⟩
theorem Rep.guard(R:Rep st k a b c g n u rows S):Rep (st.set g (.dK (kL gd'))) k a b c g n u rows { S with gd:=gd' } :=
 ⟨by rw[au (ba R.hg R.hk (fun z=>nomatch z))];exact R.hk,by rw[au (ba R.hg R.ha (fun z=>nomatch z))];exact R.ha,by rw[au (ba R.hg R.hb (fun z=>nomatch z))];exact R.hb,by rw[au (ba R.hg R.hc (fun z=>nomatch z))];exact R.hc,fu R.hg,by rw[au R.gn];exact R.hn,by rw[au R.gu];exact R.hu,
  R.len,fun i x h=>(R.row i x h).set fun r e=>Ne.symm (R.rowk (i:=i) (by rw[<- e];exact h)).2.1,R.ab,R.ac,R.bc,R.gn,R.gu,R.nu,R.ra⟩
theorem Rep.nail(R:Rep st k a b c g n u rows S):Rep (st.set n (.dK (kL nl'))) k a b c g n u rows { S with nl:=nl' } :=
 ⟨by rw[au (ba R.hn R.hk (fun z=>nomatch z))];exact R.hk,by rw[au (ba R.hn R.ha (fun z=>nomatch z))];exact R.ha,by rw[au (ba R.hn R.hb (fun z=>nomatch z))];exact R.hb,by rw[au (ba R.hn R.hc (fun z=>nomatch z))];exact R.hc,by rw[au (Ne.symm R.gn)];exact R.hg,fu R.hn,by rw[au R.nu];exact R.hu,
  R.len,fun i x h=>(R.row i x h).set fun r e=>Ne.symm (R.rowk (i:=i) (by rw[<- e];exact h)).2.2.1,R.ab,R.ac,R.bc,R.gn,R.gu,R.nu,R.ra⟩
theorem Rep.turned(R:Rep st k a b c g n u rows S):Rep (st.set u (.dK (kL tn'))) k a b c g n u rows { S with tn:=tn' } :=
 ⟨by rw[au (ba R.hu R.hk (fun z=>nomatch z))];exact R.hk,by rw[au (ba R.hu R.ha (fun z=>nomatch z))];exact R.ha,by rw[au (ba R.hu R.hb (fun z=>nomatch z))];exact R.hb,by rw[au (ba R.hu R.hc (fun z=>nomatch z))];exact R.hc,by rw[au (Ne.symm R.gu)];exact R.hg,by rw[au (Ne.symm R.nu)];exact R.hn,fu R.hu,
  R.len,fun i x h=>(R.row i x h).set fun r e=>Ne.symm (R.rowk (i:=i) (by rw[<- e];exact h)).2.2.2,R.ab,R.ac,R.bc,R.gn,R.gu,R.nu,R.ra⟩
theorem qZ{p i:Nat}:SX.row { S with ls:=S.ls.set p l } i=if i=p/\p<S.ls.length then l else SX.row S i:=by
 unfold SX.row;simp only[zD,yX];by_cases h:i=p
 ·subst h
  by_cases h2:i<S.ls.length
  ·simp[h2]
  ·simp[h2]
 ·rw[yH fun z=>h z.symm,yH fun z=>h z.1]
theorem Rep.rowset{p:Nat}(R:Rep st k a b c g n u rows S)(hx:RowR st x l)(hr:∀r,x=.ref r->r≠a/\r≠b/\r≠c):Rep (st.set a (.lst (rows.set p x))) k a b c g n u (rows.set p x) { S with ls:=S.ls.set p l }:=by
 have hs:∀i y,(rows.set p x)[i]?=some y->(i=p/\p<rows.length/\y=x)\/(i≠p/\rows[i]?=some y):=fun i y h=>by
  rw[yX]at h;by_cases e:p=i
  ·rw[yI e]at h
   split at h
   ·cases h;exact .inl ⟨e.symm,by assumption,rfl⟩
   ·cases h
  ·rw[yH e]at h;exact .inr ⟨fun z=>e z.symm,h⟩
 refine⟨by rw[au (ba R.ha R.hk (fun z=>nomatch z))];exact R.hk,fu R.ha,by rw[au R.ab];exact R.hb,by rw[au R.ac];exact R.hc,by rw[au (ba R.ha R.hg (fun z=>nomatch z))];exact R.hg,by rw[au (ba R.ha R.hn (fun z=>nomatch z))];exact R.hn,
  by rw[au (ba R.ha R.hu (fun z=>nomatch z))];exact R.hu,by simp[R.len],fun i y h=>?_,R.ab,R.ac,R.bc,R.gn,R.gu,R.nu,fun i r h=>?_⟩
 ·rw[qZ]
  rcases hs i y h with⟨h1,h2,rfl⟩|⟨h1,h2⟩
  ·rw[yI ⟨h1,by rw[<- R.len];exact h2⟩];exact hx.set fun r e=>Ne.symm (hr r e).1
  ·rw[yH fun z=>h1 z.1];exact(R.row i y h2).set fun r e=>Ne.symm (R.ra i r (by rw[<- e];exact h2)).1
 ·rcases hs i _ h with⟨h1,h2,h3⟩|⟨h1,h2⟩
  ·exact hr r h3.symm
  ·exact R.ra i r h2
theorem Rep.cellset{p r:Nat}(R:Rep st k a b c g n u rows S)(hp:rows[p]?=some (.ref r))(ho:∀i,i≠p->rows[i]?≠some (.ref r)):Rep (st.set r (.lst (iL l))) k a b c g n u rows { S with ls:=S.ls.set p l }:=by
 obtain⟨n1,n2,n3⟩:=R.ra p r hp;obtain⟨n4,n5,n6,n7⟩:=R.rowk hp;have hlt:p<S.ls.length:=by rw[<- R.len];exact(zB.mp hp).1
 refine⟨by rw[au n4];exact R.hk,by rw[au n1];exact R.ha,by rw[au n2];exact R.hb,by rw[au n3];exact R.hc,by rw[au n5];exact R.hg,by rw[au n6];exact R.hn,by rw[au n7];exact R.hu,by simp[R.len],fun i y h=>?_,R.ab,R.ac,R.bc,R.gn,R.gu,R.nu,R.ra⟩;rw[qZ];by_cases e:i=p
 ·subst e
  rw[yI ⟨rfl,hlt⟩];rw[hp]at h;cases h;rcases R.row i _ hp with z|⟨r',h1,h2⟩
  ·cases z
  ·cases h1
   rcases h2 with h2|h2
   ·exact .inr ⟨r,rfl,.inl (fu h2)⟩
   ·exact .inr ⟨r,rfl,.inl (fu h2)⟩
 ·rw[yH fun z=>e z.1]
  exact(R.row i y h).set fun r' e' z=>ho i e (by rw[z,<- e'];exact h)
theorem Rep.freeze{r:Nat}(R:Rep st k a b c g n u rows S)(hp:rows[i]?=some (.ref r))(hr:st[r]?=some (.lst (iL l))):Rep (st.set r (.al (.fz (iL l)))) k a b c g n u rows S:=by
 obtain⟨n1,n2,n3⟩:=R.ra i r hp;obtain⟨n4,n5,n6,n7⟩:=R.rowk hp;refine⟨by rw[au n4];exact R.hk,by rw[au n1];exact R.ha,by rw[au n2];exact R.hb,by rw[au n3];exact R.hc,by rw[au n5];exact R.hg,by rw[au n6];exact R.hn,by rw[au n7];exact R.hu,R.len,fun j y h=>?_,R.ab,R.ac,R.bc,R.gn,R.gu,R.nu,R.ra⟩;rcases R.row j y h with z|⟨r',h1,h2⟩
 ·exact .inl z
 ·by_cases e:r=r'
  ·subst e
   refine .inr ⟨r,h1,.inr ?_⟩;rw[fu hr];rcases h2 with h2|h2
   ·rw[hr]at h2;injection h2 with h2;injection h2 with h2;rw[h2]
   ·rw[hr]at h2;cases h2
  ·exact .inr ⟨r',h1,by rw[au e];exact h2⟩
theorem RowR.it(h:RowR st x l):∃gd,md st x=some ⟨iL l,gd⟩/\bQ gd st=true:=by
 rcases h with rfl|⟨r,rfl,h|h⟩
 ·exact⟨[],rfl,rfl⟩
 ·exact⟨_,nF h,fO h⟩
 ·refine⟨[],?_,rfl⟩
  have:ib st (.ref r)=none:=by unfold ib dr;simp only[h]
  unfold md;dsimp only;rw[this];unfold gT dr;simp only[h]
end
theorem vI{gd:Gd}{g:GF}{t:TF}{f:EF}{sl:Sl}{J:Nat->aa->Prop}{F:Nat->AV}{xs:List AV}(hg:∀i st,i<=xs.length->J i st->bQ gd st=true)
  (h:∀i x st,xs[i]?=some x->J i st->∃sl1 st1,g x sl st=some (sl1,st)/\t sl1 st=some (true,st)/\f sl1 st=some (F i,st1)/\J (i+1) st1) {st:aa} (h0:J 0 st):∃st',f8 gd g t f sl xs st=some ((List.range xs.length).map F,st')/\J xs.length st':=by
 have go:∀(r j:Nat){st:aa},j+r=xs.length->J j st->∃st',f8 gd g t f sl (xs.drop j) st=some ((List.range' j r).map F,st')/\J xs.length st':=fun r=>by
  induction r with
  |zero =>
   intro j st hj hJ;rw[List.drop_of_length_le oM];refine⟨st,?_,by rw[show xs.length=j by lia];exact hJ⟩;show(if bQ gd st=true then _ else _)=_;rw[yI (hg j st oM hJ)];rfl
  |succ r ih =>
   intro j st hj hJ;have hl:j<xs.length:=by lia
   obtain⟨sl1,st1,h1,h2,h3,h4⟩:=h j xs[j] st (zF hl) hJ;obtain⟨st',e,hJ'⟩:=ih (j+1) oM h4;refine⟨st',?_,hJ'⟩;rw[List.drop_eq_getElem_cons hl];show(if bQ gd st=true then(g xs[j] sl st).bind _ else none)=_;rw[yI (hg j st oM hJ),h1,bind_some];dsimp only;rw[h2,bind_some,yI rfl];dsimp only;rw[h3,bind_some];dsimp only;rw[e];rfl
 obtain⟨st',e,hJ⟩:=go xs.length 0 oM h0;rw[List.drop_zero]at e;rw[<- List.range_eq_range']at e;exact⟨st',e,hJ⟩
@[simp] theorem fq:(iL l).length=l.length:=by unfold iL;simp
@[simp] theorem pH:(nL l).length=l.length:=by unfold nL;simp
@[simp] theorem mj:rfs (iL l)=true:=xh
theorem dI{q:Nat}{x:Int}:(iL l).set q (.int x)=iL (l.set q x):=by unfold iL;rw[List.map_set]
theorem vD{q x:Nat}:(nL l).set q (.int (x:Int))=nL (l.set q x):=by unfold nL;rw[List.map_set]
theorem vK{α:Type}{em:α->AV}{F:α->Int}{xs:List α}(hg:bQ gd st=true)(h:∀x∈xs,∃sl1,g (em x) sl st=some (sl1,st)/\t sl1 st=some (true,st)/\f sl1 st=some (.int (F x),st)):f8 gd g t f sl (xs.map em) st=some (iL (xs.map F),st):=by
 rw[fN (B:=fun _=>true) (F:=fun x=>.int (F x)) hg fun x hx=>by obtain⟨s,a,b,c⟩:=h x hx;exact⟨s,a,b,fun _=>c⟩];unfold iL;rw[List.map_map,List.filter_eq_self.mpr fun _ _=>rfl];rfl
theorem ji(hg:bQ gd st=true)(h:∀x∈l,∃sl1,g (.int x) sl st=some (sl1,st)/\t sl1 st=some (true,st)/\f sl1 st=some (.int (F x),st)):f8 gd g t f sl (iL l) st=some (iL (l.map F),st):=vK hg h
theorem cO{k q:Nat}(h:st[k]?=some (.lst xs))(hq:q<xs.length):gQ st (.ref k) (.int (q:Int)) x=some (st.set k (.lst (xs.set q x))):=by
 unfold gQ;simp only[h];have:kI xs.length (q:Int)=some q:=by unfold kI;rw[yI oM,yI oM];simp
 rw[this];rfl
theorem nE{k q:Nat}(h:st[k]?=some (.dK (kL l)))(hl:l.length<=1000):gQ st (.ref k) (.int (q:Int)) (.bl true)=some (st.set k (.dK (kL (if q∈l then l else l++[q])))):=by
 unfold gQ;simp only[h,jj,bind_some];rw[yI (bU (by unfold kL;rw[zH];exact hl))];congr 2;unfold lx kL;by_cases hq:q∈l
 ·rw[yI hq,yI (by simp only[List.any_map,List.any_eq_true];exact⟨q,hq,by simp⟩),List.map_map]
  congr 1;refine List.map_congr_left fun x hx=>?_
  show(if _ then _ else _)=_;split
  ·rfl
  ·rfl
 ·rw[yH hq,yH (by
   simp only[List.any_map,List.any_eq_true,Function.comp];rintro⟨x,hx,e⟩;have:x=q:=by have:((x:Nat):Int)=((q:Nat):Int):=(by simpa using e);lia
   exact hq (this▸hx)),List.map_append]
  rfl
theorem ah(h:cA ks s sl st=some (.nx sl' st'))(h2:(aj ks ss sl' st').bind ax=r):(aj ks (.cons s ss) sl st).bind ax=r:=by
 rw[jB,h,bind_some,vB];exact h2
theorem aq(h:cA ks s sl st=some (.nx sl' st'))(h2:aj ks ss sl' st'=r):aj ks (.cons s ss) sl st=r:=by
 rw[jB,h,bind_some,vB];exact h2
theorem fH(h:cA ks s sl st=some (.rt v st')):(aj ks (.cons s ss) sl st).bind ax=some (v,st'):=by
 rw[jB,h,bind_some,vA];rfl
theorem cL(h:rfs args=true)(h1:fn args []=some (v,st'))(h2:eA st' v=some t):pm fn args st=some (t,st):=by
 unfold pm;rw[yI h,h1,bind_some];dsimp only;rw[h2];rfl
section
variable{d:Int}{a b c g n u:Nat}
theorem xD{d':Int}:ic "below" (.int d') (cD d a b c g n u)=cD d' a b c g n u:=rfl
theorem xz{a':Nat}:ic "lines" (.ref a') (cD d a b c g n u)=cD d a' b c g n u:=rfl
theorem gA{k:Nat}(h1:ev ks e sl st=some (v,st'))(h2:ev ks o sl st'=some (.ref k,st'))(h3:iJ st' cn (.ref k)=some fs)(h4:Nat.ble fs.length 900=true):cA ks (.fl cn f o e) sl st=some (.nx sl (st'.set k (.ins cn (ic f v fs)))):=by
 show u8 cn f (ev ks o) (ev ks e) sl st=_;unfold u8;rw[h1,bind_some];dsimp only;rw[h2,bind_some];dsimp only;rw[h3,bind_some,yI h4]
end
theorem qQ{α:Type}{t:TF}{s:SF}{I:α->Sl->aa->Prop}{Q:α->α->Prop}{Post:Out->Prop}{a0:α}(hno:∀f:Nat->α,f 0=a0->(∀n,Q (f n) (f (n+1)))->False)
  (h:∀x sl st,I x sl st->(∃o,cP t s 1 sl st=some o/\Post o)\/∃x' sl' st',Q x x'/\I x' sl' st'/\∀n o,cP t s n sl' st'=some o->cP t s (n+1) sl st=some o) {sl:Sl}{st:aa} (h0:I a0 sl st):∃o,kC t s sl st=some o/\Post o:=by
 apply Classical.byContradiction;intro hc
 let Bad:α×Sl×aa->Prop:=fun z=>I z.1 z.2.1 z.2.2/\¬∃n o,cP t s n z.2.1 z.2.2=some o/\Post o
 have hb0:Bad (a0,sl,st):=⟨h0,fun⟨n,o,h1,h2⟩=>hc ⟨o,lM h1,h2⟩⟩;have nx:∀z:{ z // Bad z },∃z':{ z // Bad z },Q z.1.1 z'.1.1:=fun hq0=>by
  obtain⟨z,hz⟩:=hq0;rcases h z.1 z.2.1 z.2.2 hz.1 with⟨o,h1,h2⟩|⟨x',sl',st',h1,h2,h3⟩
  ·exact absurd ⟨1,o,h1,h2⟩ hz.2
  ·exact⟨⟨(x',sl',st'),h2,fun⟨n,o,h4,h5⟩=>hz.2 ⟨n+1,o,h3 n o h4,h5⟩⟩,h1⟩
 let f:Nat->{ z // Bad z }:=fun n=>Nat.rec ⟨_,hb0⟩ (fun _ z=>Classical.choose (nx z)) n
 exact hno (fun n=>(f n).1.1) rfl fun n=>Classical.choose_spec (nx (f n))
theorem j3(h:t sl st=some (false,st')):cP t s 1 sl st=some (.nx sl st'):=by
 show(t sl st).bind _=_;rw[h,bind_some,yH (by simp)]
theorem o8(h:t sl st=some (true,st'))(h2:s sl st'=some (.rt v st2)):cP t s 1 sl st=some (.rt v st2):=by
 show(t sl st).bind _=_;rw[h,bind_some,yI rfl];dsimp only;rw[h2];rfl
theorem mX{n:Nat}(h:t sl st=some (true,st'))(h2:s sl st'=some (.nx sl2 st2))(h3:cP t s n sl2 st2=some o):cP t s (n+1) sl st=some o:=by
 show(t sl st).bind _=_;rw[h,bind_some,yI rfl];dsimp only;rw[h2];exact h3
theorem um(h:cA ks s sl st=some (.rt v st')):aj ks (.cons s ss) sl st=some (.rt v st'):=by
 rw[jB,h,bind_some,vA]
theorem C6{ks:List Fn}{T:Tx}{B rest:L5}{sl:Sl}{st:aa}{Post:Out->Prop}{Q:AV×aa->Prop}(h:∃o,kC (tv ks T) (aj ks B) sl st=some o/\Post o)(h2:∀o,Post o->∃r,(lT o (aj ks rest)).bind ax=some r/\Q r):∃r,(aj ks (.cons (.wh T B) rest) sl st).bind ax=some r/\Q r:=by
 obtain⟨o,e,hp⟩:=h;obtain⟨r,e2,hq⟩:=h2 o hp;refine⟨r,?_,hq⟩;rw[jB,IS,e,bind_some];exact e2
theorem ar{ks:List Fn}{s:Sx}{ss:L5}{sl sl':Sl}{st st':aa}{Q:AV×aa->Prop}(h:cA ks s sl st=some (.nx sl' st'))(h2:∃r,(aj ks ss sl' st').bind ax=some r/\Q r):∃r,(aj ks (.cons s ss) sl st).bind ax=some r/\Q r:=by
 obtain⟨r,e,q⟩:=h2;exact⟨r,ah h e,q⟩
def ay(L:List (List Int)):List AV:=L.map fun l=>.fz (iL l)
@[simp] theorem JF:(ay L).length=L.length:=by unfold ay;simp
@[simp] theorem Kb:rfs (ay L)=true:=gJ fun x hx=>by obtain⟨l,_,rfl⟩:=yD.mp hx;rfl
theorem vU:iL a++iL b=iL (a++b):=by unfold iL;rw[List.map_append]
theorem ET{x:Int}:[AV.int x]=iL [x]:=rfl
theorem tR{α:Type}{em:α->AV}{F:α->List Int}{xs:List α}(hg:bQ gd st=true)(h:∀x∈xs,∃sl1,g (em x) sl st=some (sl1,st)/\t sl1 st=some (true,st)/\f sl1 st=some (.fz (iL (F x)),st)):f8 gd g t f sl (xs.map em) st=some (ay (xs.map F),st):=by
 rw[fN (B:=fun _=>true) (F:=fun x=>.fz (iL (F x))) hg fun x hx=>by obtain⟨s,a,b,c⟩:=h x hx;exact⟨s,a,b,fun _=>c⟩];unfold ay;rw[List.map_map,List.filter_eq_self.mpr fun _ _=>rfl];rfl
theorem i8(h1:ev ks a sl st=some (x,s1))(h2:ev ks b sl s1=some (y,s2))(h3:bA s2 x=some (iL l))(h4:bA s2 y=some (iL l'))(hl:l.length+l'.length<=1000):g7 ks (.cat a b) sl st=some (iL (l++l'),s2):=by
 rw[tE];unfold tI;rw[h1,bind_some];dsimp only;rw[h2,bind_some];dsimp only;rw[h3,bind_some,h4,bind_some,yI (bU (by simpa using hl)),vU]
theorem lO{n:Nat}:cF 0 n=nL (List.range n):=by unfold cF nL;simp
theorem FV{w n:Nat}:cF (w:Int) n=nL ((List.range n).map (w+·)):=by unfold cF nL;simp[List.map_map,Function.comp_def]
theorem Bf{n:Nat}:bI (dZ n st) (iL l)=some (iL l):=fM (f:=dZ n st) (i:=AV.int) (g:=AV.int) (fun x=>by cases n<;>rfl) l
theorem j6{k:Nat}(h:st[k]?=some (.lst (iL l))):eA st (.ref k)=some (.fz (iL l)):=by
 show dZ 6 st (.ref k)=_;unfold dZ;simp only[h,Bf,map_some]
theorem C7{k:Nat}(h:st[k]?=some (.al t)):eA st (.ref k)=some t:=by
 show dZ 6 st (.ref k)=_;unfold dZ;simp only[h]
theorem jF{fn:Fn}{rest:List AV}{st st':aa}{x v t:AV}{l:List Int}(hx:RowR st x l)(h0:rfs rest=true)(hm:bI (eA st) rest=some rest)(hf:∀s,mB s rest=some (rest,s))(e1:fn (.fz (iL l)::rest) []=some (v,st'))(e2:eA st' v=some t)(ht:flat t=false) :
  ∃st1,pm fn (x::rest) st=some (t,st1)/\(st1=st\/∃r,x=.ref r/\st[r]?=some (.lst (iL l))/\st1=st.set r (.al (.fz (iL l)))):=by
 have ax:∀r st1,x=.ref r->eA st (.ref r)=some (.fz (iL l))->oq st (.ref r)=some (.fz (iL l),st1)->pm fn (x::rest) st=some (t,st1):=fun r st1 ex h1 h2=>by
  subst ex;have m:bI (eA st) (.ref r::rest)=some (.fz (iL l)::rest):=by simp only[bI,h1,hm];rfl
  have f:mB st (.ref r::rest)=some (.fz (iL l)::rest,st1):=by simp only[mB,h2,bind_some,hf];rfl
  unfold pm;rw[yH (by simp[rf]),m,bind_some,e1,bind_some];dsimp only;rw[e2,bind_some,yH (by rw[ht];simp),f,bind_some];dsimp only;rw[e1,bind_some];dsimp only;rw[e2];rfl
 rcases hx with rfl|⟨r,rfl,h|h⟩
 ·exact⟨st,cL (by simp[h0]) e1 e2,.inl rfl⟩
 ·exact⟨_,ax r (st.set r (.al (.fz (iL l)))) rfl (j6 h) (by unfold oq;simp[rf,h]),.inr ⟨r,rfl,h,rfl⟩⟩
 ·exact⟨_,ax r st rfl (C7 h) (by unfold oq;simp[rf,h]),.inl rfl⟩
theorem eJ:(st++[x]).set st.length y=st++[y]:=by simp
end R
namespace LW
open PySem L2 R
noncomputable def top(i:Nat):Stmt:=PySem.Challenge.pw_telltight_k25_whole_a_name_more.main.body.getD i (.Pass ⟨0,0,0,0⟩)
def G5(s:Stmt):List Stmt:=match s with
 |.ClassDef _ _ _ b _ _ _ _ _ _ _=>b
 |_=>[]
def fL(i j:Nat):Stmt:=(G5 (top i)).getD j (.Pass ⟨0,0,0,0⟩)
noncomputable def gs:List (Str×AV):=[]
noncomputable def cl:List (Str×List Str):=[("Sheet",["below","guarded","heads","lines","nailed","sides","turned"])]
noncomputable abbrev B(_:FH):Type:=L5
local macro_rules | `(tactic| walk_at "tr")=>`(tactic| (refine (?f:FH.tr ?h false [] gs cl=some ?m->B ?h) ?p;(case p=>unfold FH.tr;rw [EV];(conv in c8 _=>whnf);simp [-Option.map_map,↓EV,gs,cl,qP,lL,Iz,IB,Iy,IA,uS,uE,uT,uG,JO,JP,m6,jv,uO,uC,sI,zo,uI,JJ,uR,uZ,JL,uL,zp,JK,wT,wU,JI,JH,uK,CI,JG,sK,sJ,JN,JM,HX,HW,uX,m2,m3,at_,lk,qt,Ed,hB,xS,uM,uN,uP,Fm,Eo,JQ,dL,xM,p0,EU];rfl);exact fun _=>?m))
@[simp] def mv:FH:=⟨.f "_law_mix" 2,"_law_mix",top 34,["_law_cell","_law_turn","_law_number"],[],3,[],[],[]⟩
noncomputable def jq:B mv:=by walk_at "tr"
@[simp] def jP:FH:=⟨.f "_law_draws" 3,"_law_draws",top 35,["_law_script","_law_turn","_law_many","_law_cells","_law_lefts","_law_found","_law_k","_law_at","_law_number"],[0],6,[],["_law_mix"],[1936136377,1944136528,1952136152,2024088264]⟩
noncomputable def hU:B jP:=by walk_at "tr"
@[simp] def ms:FH:=⟨.f "_law_pop" 1,"_law_pop",top 36,["_law_draws_here"],[],3,[],[],[]⟩
noncomputable def jp:B ms:=by walk_at "tr"
@[simp] def kQ:FH:=⟨.f "_law_bits" 1,"_law_bits",top 40,["_law_group"],[],3,[],[],[]⟩
noncomputable def kZ:B kQ:=by walk_at "tr"
@[simp] def jO:FH:=⟨.f "_law_table" 2,"_law_table",top 41,["_law_n","_law_draws_here","_law_table_here","_law_k","_law_number","_law_mask","_law_most","_law_times","_law_pair","_law_four"],[2,3],6,[],["_law_pop","_law_bits"],[2256192398,2264176382,2304144350]⟩
noncomputable def fC:B jO:=by walk_at "tr"
@[simp] def jN:FH:=⟨.f "_law_terms" 2,"_law_terms",top 42,["_law_n","_law_draws_here","_law_whole","_law_number","_law_a","_law_b","_law_c"],[2],6,[],["_law_pop"],[2368144350]⟩
noncomputable def fB:B jN:=by walk_at "tr"
@[simp] def jw:FH:=⟨.f "_law_row_of" 2,"_law_row_of",top 37,["_law_n","_law_terms_here","_law_row_here","_law_group","_law_number"],[],3,[],[],[2072160528]⟩
noncomputable def eF:B jw:=by walk_at "tr"
@[simp] def mr:FH:=⟨.f "_law_row" 2,"_law_row",top 43,["_law_n","_law_draws_here","_law_number","_law_row_here","_law_k","_law_more","_law_times"],[2,5,6],9,[],["_law_pop","_law_terms","_law_row_of"],[2448144350,2464128334,2480128334,2504320606,2512336542]⟩
noncomputable def gF:B mr:=by walk_at "tr"
@[simp] def jM:FH:=⟨.f "_law_value" 2,"_law_value",top 39,["_law_row_here","_law_table_here"],[],3,[],[],[]⟩
noncomputable def g9:B jM:=by walk_at "tr"
@[simp] def jx:FH:=⟨.f "_law_givens" 3,"_law_givens",top 44,["_law_n","_law_draws_here","_law_table_here","_law_givens_here","_law_k","_law_row_here","_law_number","_law_sign","_law_due"],[2,7,8],12,[],["_law_pop","_law_row","_law_value"],[2544184200,2552392598,2560192462,2568176382,2632272478]⟩
noncomputable def eG:B jx:=by walk_at "tr"
@[simp] def io:FH:=⟨.f "_law_question" 1,"_law_question",top 45,["_law_script","_law_draws_here","_law_n","_law_table_here","_law_givens_here"],[1,2,4,9,7],15,[],["_law_draws","_law_pop","_law_table","_law_givens","_law_row"],[2664176430,2672304510,2680176462,2688184614,2696440710]⟩
noncomputable def dH:B io:=by walk_at "tr"
@[simp] def jL:FH:=⟨.f "_law_wider" 3,"_law_wider",top 47,["_law_row_here","_law_n","_law_ahead","_law_found","_law_k","_law_number","_law_group"],[],3,[],[],[2744136504]⟩
noncomputable def fA:B jL:=by walk_at "tr"
@[simp] def kP:FH:=⟨.f "all_names" 1,"all_names",top 1,["n"],[],3,[],[],[]⟩
noncomputable def kY:B kP:=by walk_at "tr"
@[simp] def f9:FH:=⟨.f "pairs_with_known" 3,"pairs_with_known",top 6,["n","i","j","both"],[12],6,[],["all_names"],[]⟩
noncomputable def gh:B f9:=by walk_at "tr"
@[simp] def rV:FH:=⟨.f "rules" 1,"rules",top 7,["n","found","i","j"],[13],9,[],["pairs_with_known"],[152096344]⟩
noncomputable def sv:B rV:=by walk_at "tr"
@[simp] def iW:FH:=⟨.f "row_of_terms" 2,"row_of_terms",top 2,["n","terms","row","group","number"],[12],6,[],["all_names"],[40080224]⟩
noncomputable def i9:B iW:=by walk_at "tr"
@[simp] def mo:FH:=⟨.f "rest_row" 3,"rest_row",top 3,["n","a","b"],[15],9,[],["row_of_terms"],[]⟩
noncomputable def mN:B mo:=by walk_at "tr"
@[simp] def jK:FH:=⟨.f "shared_row" 4,"shared_row",top 4,["n","a","b","c"],[15],9,[],["row_of_terms"],[]⟩
noncomputable def jV:B jK:=by walk_at "tr"
@[simp] def mn:FH:=⟨.f "rule_row" 2,"rule_row",top 8,["n","rule","one"],[12,16,17],12,[],["all_names","rest_row","shared_row"],[]⟩
noncomputable def mM:B mn:=by walk_at "tr"
@[simp] def kK:FH:=⟨.f "rule_rows" 1,"rule_rows",top 9,["n"],[14,18],15,[],["rules","rule_row"],[]⟩
noncomputable def kT:B kK:=by walk_at "tr"
@[simp] def g6:FH:=⟨.k "Sheet" 3,"Sheet.__init__",fL 12 0,["self","width","lines"],[],3,[],[],[352168408,360168312,368168472]⟩
noncomputable def eT:B g6:=by walk_at "tr"
@[simp] def jy:FH:=⟨.m "Sheet" "guard" 2,"Sheet.guard",fL 12 1,["self","quantity"],[],3,[],[],[]⟩
noncomputable def gq:B jy:=by walk_at "tr"
@[simp] def il:FH:=⟨.f "opening_sheet" 3,"opening_sheet",top 24,["n","givens","goal","lines","guarded","sheet","quantity"],[19,12,20,21],18,[],["rule_rows","all_names","Sheet","guard"],[1344096376,1344104177,1360144313,1368136409]⟩
noncomputable def fy:B il:=by walk_at "tr"
@[simp] def gz:FH:=⟨.m "Sheet" "turn_line" 2,"Sheet.turn_line",fL 12 3,["self","place"],[],3,[],[],[]⟩
noncomputable def d8:B gz:=by walk_at "tr"
@[simp] def fb:FH:=⟨.m "Sheet" "loose_columns" 1,"Sheet.loose_columns",fL 12 5,["self"],[],3,[],[],[]⟩
noncomputable def df:B fb:=by walk_at "tr"
@[simp] def eE:FH:=⟨.m "Sheet" "raising_column" 2,"Sheet.raising_column",fL 12 6,["self","place","line","found"],[24],6,[⟨79,30,79,63⟩],["loose_columns"],[]⟩
noncomputable def cY:B eE:=by walk_at "tr"
@[simp] def gg:FH:=⟨.m "Sheet" "is_tighter" 4,"Sheet.is_tighter",fL 12 8,["self","one","other","column","ahead","behind"],[],3,[],[],[]⟩
noncomputable def dO:B gg:=by walk_at "tr"
@[simp] def eD:FH:=⟨.m "Sheet" "tightest_place" 2,"Sheet.tightest_place",fL 12 9,["self","column","best","place","line"],[26],6,[],["is_tighter"],[]⟩
noncomputable def cX:B eD:=by walk_at "tr"
@[simp] def fF:FH:=⟨.m "Sheet" "is_up_first" 4,"Sheet.is_up_first",fL 12 10,["self","place","tight","column","up"],[],3,[],[],[]⟩
noncomputable def dE:B fF:=by walk_at "tr"
@[simp] def i4:FH:=⟨.f "changed_line" 5,"changed_line",top 11,["line","pivot_line","column","sign","below","pivot","factor","changed"],[],3,[],[],[296112808]⟩
noncomputable def db:B i4:=by walk_at "tr"
@[simp] def gY:FH:=⟨.m "Sheet" "exchange" 3,"Sheet.exchange",fL 12 4,["self","place","column","sign","pivot_line","below","freed"],[29],6,[],["changed_line"],[520168776,528224496]⟩
noncomputable def eR:B gY:=by walk_at "tr"
@[simp] def jR:FH:=⟨.m "Sheet" "lift" 2,"Sheet.lift",fL 12 11,["self","place","column","tight"],[25,27,28,30],9,[],["raising_column","tightest_place","is_up_first","exchange"],[]⟩
noncomputable def dN:B jR:=by walk_at "tr"
@[simp] def eZ:FH:=⟨.m "Sheet" "moving_column" 2,"Sheet.moving_column",fL 12 7,["self","place","line"],[24],6,[],["loose_columns"],[]⟩
noncomputable def de:B eZ:=by walk_at "tr"
@[simp] def jQ:FH:=⟨.m "Sheet" "nail" 2,"Sheet.nail",fL 12 2,["self","quantity"],[],3,[],[],[]⟩
noncomputable def hV:B jQ:=by walk_at "tr"
@[simp] def kN:FH:=⟨.f "keep_just" 2,"keep_just",top 25,["sheet","place","quantity","column"],[23,31,32,30,33],12,[],["turn_line","lift","moving_column","exchange","nail"],[]⟩
noncomputable def iN:B kN:=by walk_at "tr"
@[simp] def iY:FH:=⟨.f "keep_no_less" 2,"keep_no_less",top 26,["sheet","place","quantity"],[31,21],12,[],["lift","guard"],[]⟩
noncomputable def dS:B iY:=by walk_at "tr"
@[simp] def mq:FH:=⟨.f "names_in" 2,"names_in",top 14,["n","group"],[],3,[],[],[]⟩
noncomputable def mO:B mq:=by walk_at "tr"
@[simp] def kM:FH:=⟨.f "pair_rule" 3,"pair_rule",top 15,["one","other","known"],[],3,[],[],[]⟩
noncomputable def kU:B kM:=by walk_at "tr"
@[simp] def ik:FH:=⟨.f "rules_of_name" 3,"rules_of_name",top 16,["n","k","known","used","j"],[36,37],6,[],["names_in","pair_rule"],[1032088104]⟩
noncomputable def iF:B ik:=by walk_at "tr"
@[simp] def ii:FH:=⟨.f "rules_of_rest" 3,"rules_of_rest",top 17,["n","a","b","used","known","k"],[36,38],9,[],["names_in","rules_of_name"],[1088088104]⟩
noncomputable def iD:B ii:=by walk_at "tr"
@[simp] def kO:FH:=⟨.f "how_often" 2,"how_often",top 18,["n","used"],[14],12,[],["rules"],[]⟩
noncomputable def kW:B kO:=by walk_at "tr"
@[simp] def gw:FH:=⟨.f "weights_by_line" 3,"weights_by_line",top 27,["n","sheet","place","taken","column","quantity","weights","group","often","rule","count"],[12,39,40],15,[],["all_names","rules_of_rest","how_often"],[1568096440,1600032340,1616112288]⟩
noncomputable def d6:B gw:=by walk_at "tr"
@[simp] def gX:FH:=⟨.f "common_divisor" 1,"common_divisor",top 20,["numbers","divisor","number","other","left"],[],3,[],[],[]⟩
noncomputable def dw:B gX:=by walk_at "tr"
@[simp] def gy:FH:=⟨.f "in_lowest_terms" 1,"in_lowest_terms",top 21,["numbers","divisor"],[42],6,[],["common_divisor"],[]⟩
noncomputable def c4:B gy:=by walk_at "tr"
@[simp] def gZ:FH:=⟨.m "Sheet" "drive_up" 2,"Sheet.drive_up",fL 12 12,["self","place","column","tight"],[25,27,30],9,[],["raising_column","tightest_place","exchange"],[]⟩
noncomputable def eS:B gZ:=by walk_at "tr"
@[simp] def gx:FH:=⟨.f "lowest_fraction" 2,"lowest_fraction",top 22,["top","bottom","numbers"],[43],9,[],["in_lowest_terms"],[]⟩
noncomputable def d7:B gx:=by walk_at "tr"
@[simp] def gf:FH:=⟨.f "groups_in_column" 3,"groups_in_column",top 28,["n","sheet","column","found","place","quantity"],[12],6,[],["all_names"],[1680096240]⟩
noncomputable def dM:B gf:=by walk_at "tr"
@[simp] def iX:FH:=⟨.f "lowest_table" 2,"lowest_table",top 23,["numbers","below","found"],[43],9,[],["in_lowest_terms"],[1320224361]⟩
noncomputable def fQ:B iX:=by walk_at "tr"
@[simp] def gU:FH:=⟨.f "table_of_sheet" 2,"table_of_sheet",top 29,["n","sheet"],[46,47],12,[],["groups_in_column","lowest_table"],[1728192438]⟩
noncomputable def eO:B gU:=by walk_at "tr"
@[simp] def gV:FH:=⟨.f "least_of_sheet" 3,"least_of_sheet",top 31,["n","sheet","place","least","weights"],[45,41,43,48],18,[],["lowest_fraction","weights_by_line","in_lowest_terms","table_of_sheet"],[1792240502,1792240625,1800224422]⟩
noncomputable def eP:B gV:=by walk_at "tr"
@[simp] def kJ:FH:=⟨.f "way_along" 3,"way_along",top 30,["n","sheet","column","way"],[46,43],9,[],["groups_in_column","in_lowest_terms"],[1744080358]⟩
noncomputable def fV:B kJ:=by walk_at "tr"
@[simp] def p7:FH:=⟨.f "answer" 3,"answer",top 32,["n","givens","goal","sheet","last","place","given","kept","column"],[22,34,35,41,43,44,49,48,50],21,[],["opening_sheet","keep_just","keep_no_less","weights_by_line","in_lowest_terms","drive_up","least_of_sheet","table_of_sheet","way_along"],[1816096342,1840120310,1840504718,1856360622,1880120366,1888184382,1888392614]⟩
noncomputable def lH:B p7:=by walk_at "tr"
@[simp] def im:FH:=⟨.f "_law_value_of" 1,"_law_value_of",top 46,["_law_found"],[],3,[],[],[]⟩
noncomputable def cT:B im:=by walk_at "tr"
@[simp] def Ai:FH:=⟨.f "law" 1,"law",top 48,["_law_script","_law_n","_law_table_here","_law_givens_here","_law_goal","_law_draws_here","_law_ahead","_law_more","_law_found"],[10,2,11,51,52],24,[],["_law_question","_law_pop","_law_wider","answer","_law_value_of"],[2808608822,2816136342]⟩
noncomputable def oZ:B Ai:=by walk_at "tr"
def e_law:FE:=⟨Ai,oZ⟩
def pre:List FE:=[⟨mv,jq⟩,⟨jP,hU⟩,⟨ms,jp⟩,⟨kQ,kZ⟩,⟨jO,fC⟩,⟨jN,fB⟩,⟨jw,eF⟩,⟨mr,gF⟩,⟨jM,g9⟩,⟨jx,eG⟩,⟨io,dH⟩,⟨jL,fA⟩,⟨kP,kY⟩,⟨f9,gh⟩,⟨rV,sv⟩,⟨iW,i9⟩,⟨mo,mN⟩,⟨jK,jV⟩,⟨mn,mM⟩,⟨kK,kT⟩,⟨g6,eT⟩,⟨jy,gq⟩,⟨il,fy⟩,⟨gz,d8⟩,⟨fb,df⟩,⟨eE,cY⟩,⟨gg,dO⟩,⟨eD,cX⟩,⟨fF,dE⟩,⟨i4,db⟩,⟨gY,eR⟩,⟨jR,dN⟩,⟨eZ,de⟩,⟨jQ,hV⟩,⟨kN,iN⟩,⟨iY,dS⟩,⟨mq,mO⟩,⟨kM,kU⟩,⟨ik,iF⟩,⟨ii,iD⟩,⟨kO,kW⟩,⟨gw,d6⟩,⟨gX,dw⟩,⟨gy,c4⟩,⟨gZ,eS⟩,⟨gx,d7⟩,⟨gf,dM⟩,⟨iX,fQ⟩,⟨gU,eO⟩,⟨gV,eP⟩,⟨kJ,fV⟩,⟨p7,lH⟩,⟨im,cT⟩]
theorem Cn:mJ gs cl [] pre=pre.map fun e=>some e.b:=by kernel_rfl
theorem Co:e_law.chk gs cl pre=some e_law.b:=by kernel_rfl
instance:LS:=⟨[(112,⟨79,30,79,63⟩,("Sheet.raising_column":Str)++".<locals>."++"<lambda>")]⟩
def cJ:Fn:=run 3 (aj [] jq)
def dP:Fn:=run 9 (aj [cJ] hU)
def af:Fn:=run 1 (aj [] jp)
def aZ:Fn:=run 1 (aj [] kZ)
def dj:Fn:=run 10 (aj [af,aZ] fC)
def aU:Fn:=run 7 (aj [af] fB)
def aS:Fn:=run 5 (aj [] eF)
def bD:Fn:=run 7 (aj [af,aU,aS] gF)
def bH:Fn:=run 2 (aj [] g9)
def cQ:Fn:=run 9 (aj [af,bD,bH] eG)
def cU:Fn:=run 5 (aj [dP,af,dj,cQ,bD] dH)
def di:Fn:=run 7 (aj [] fA)
def ao:Fn:=run 1 (aj [] kY)
def gk:Fn:=run 4 (aj [ao] gh)
def nX:Fn:=run 4 (aj [gk] sv)
def fR:Fn:=run 5 (aj [ao] i9)
def mU:Fn:=run 3 (aj [fR] mN)
def jY:Fn:=run 4 (aj [fR] jV)
def mT:Fn:=run 3 (aj [ao,mU,jY] mM)
def aN:Fn:=run 1 (aj [nX,mT] kT)
def aB:Fn:=run 3 (aj [] eT)
def aL:Fn:=run 2 (aj [] gq)
def bC:Fn:=run 7 (aj [aN,ao,aB,aL] fy)
def cb:Fn:=run 2 (aj [] d8)
def bR:Fn:=run 1 (aj [] df)
def aF:Fn:=run 4 (aj [bR] cY)
def bS:Fn:=run 6 (aj [] dO)
def aE:Fn:=run 5 (aj [bS] cX)
def aP:Fn:=run 5 (aj [] dE)
def bw:Fn:=run 8 (aj [] db)
def aI:Fn:=run 7 (aj [bw] eR)
def b9:Fn:=run 4 (aj [aF,aE,aP,aI] dN)
def bE:Fn:=run 3 (aj [bR] de)
def dk:Fn:=run 2 (aj [] hV)
def bY:Fn:=run 4 (aj [cb,b9,bE,aI,dk] iN)
def bv:Fn:=run 3 (aj [b9,aL] dS)
def ju:Fn:=run 2 (aj [] mO)
def k9:Fn:=run 3 (aj [] kU)
def iG:Fn:=run 5 (aj [ju,k9] iF)
def cB:Fn:=run 6 (aj [ju,iG] iD)
def dA:Fn:=run 2 (aj [nX] kW)
def aK:Fn:=run 11 (aj [ao,cB,dA] d6)
def ci:Fn:=run 5 (aj [] dw)
def ag:Fn:=run 2 (aj [ci] c4)
def bt:Fn:=run 4 (aj [aF,aE,aI] eS)
def cE:Fn:=run 3 (aj [ag] d7)
def cz:Fn:=run 6 (aj [ao] dM)
def dh:Fn:=run 3 (aj [ag] fQ)
def aO:Fn:=run 2 (aj [cz,dh] eO)
def br:Fn:=run 5 (aj [cE,aK,ag,aO] eP)
def bX:Fn:=run 4 (aj [cz,ag] fV)
def eU:Fn:=run 9 (aj [bC,bY,bv,aK,ag,bt,br,aO,bX] lH)
def aY:Fn:=run 1 (aj [] cT)
def mV:Fn:=run 9 (aj [cU,af,di,eU,aY] oZ)
def Fs:List Fn:=[cJ,dP,af,aZ,dj,aU,aS,bD,bH,cQ,cU,di,ao,gk,nX,fR,mU,jY,mT,aN,aB,aL,bC,cb,bR,aF,bS,aE,aP,bw,aI,b9,bE,dk,bY,bv,ju,k9,iG,cB,dA,aK,ci,ag,bt,cE,cz,dh,aO,br,bX,eU,aY]
theorem GS:iu [] pre=Fs:=wd (by(repeat refine⟨rfl,?_⟩);trivial)
theorem GB:e_law.fn (iu [] pre)=mV:=by rw[GS];rfl
def HS:Fn:=mV
open PySem.Spec
open SX (Sh L4)
def Bd(w m:Nat)(S:Sh):Prop:=S.d.natAbs<2^9000/\∀i,i<m->∀j,j<w+1->(S.t i j).natAbs<2^9000
section
variable{st:aa}{k a b c g n u w m:Nat}{rows:List AV}{S:Sh}
theorem GI(R:Rep st k a b c g n u rows S)(P:L4 w m S)(B:Bd w m S){i r q:Nat}(hi:i<m)(hr:r<m)(hq:q<w) :
  bS [.ref k,.int i,.int r,.int q] st=some (.bl (decide (S.t i w*- S.t r q<S.t r w*- S.t i q)||(decide (S.t i w*- S.t r q=S.t r w*- S.t i q)&&decide (S.s i<S.s r))),st):=by
 have m1:cG (S.t i w) (- S.t r q)=true:=eC (B.2 i hi w oM) (by rw [Int.natAbs_neg];exact B.2 r hr q oM);have m2:cG (S.t r w) (- S.t i q)=true:=eC (B.2 r hr w oM) (by rw [Int.natAbs_neg];exact B.2 i hi q oM);simp [bS,aD,dO,R.ins,R.line P hi,R.line P hr,R.last P hi,R.last P hr,R.cell P hi (show q < w + 1 by lia),R.cell P hr (show q < w + 1 by lia),bO m1,bO m2,R.side P hi,R.side P hr];by_cases h1:S.t i w * -S.t r q < S.t r w * -S.t i q <;> by_cases h2:S.t i w * -S.t r q=S.t r w * -S.t i q <;> simp [h1,h2]
theorem zm(R:Rep st k a b c g n u rows S)(P:L4 w m S)(B:Bd w m S){i r q:Nat}(hi:i<m)(hr:r<m)(hq:q<w) :
  aP [.ref k,.int i,.int r,.int q] st=some (.bl (decide (S.t i w*S.t r q<=S.t r w*S.t i q)),st):=by
 have m1:cG (S.t i w) (S.t r q)=true:=eC (B.2 i hi w oM) (B.2 r hr q oM);have m2:cG (S.t r w) (S.t i q)=true:=eC (B.2 r hr w oM) (B.2 i hi q oM);simp [aP,aD,dE,R.ins,R.line P hi,R.line P hr,R.last P hi,R.last P hr,R.cell P hi (show q < w + 1 by lia),R.cell P hr (show q < w + 1 by lia),bO m1,bO m2]
theorem rC(R:Rep st k a b c g n u rows S)(P:L4 w m S)(hw:w<=100):bR [.ref k] st=some (.fz (nL (bG S)),st):=by
 have he:nL (bG S)=(S.hd.zipIdx.filter fun z=>!decide (z.1∈S.nl)).map fun z=>(AV.int ((z.2:Nat):Int)):=by unfold nL bG;rw[List.map_map];rfl
 have hf:=lv (l:=bG S);rw [he] at hf ⊢;simp [bR,aD,df,R.ins,iV R.hb,G1,bU (show S.hd.length <= 1000 by rw [P.hd];lia)];rw [fN (B:=fun z=>!decide (z.1 ∈ S.nl)) (F:=fun z=>.int ((z.2:Nat):Int)) (fO R.hb) fun z _=>⟨_,rfl,by simp [R.ins,R.nin],fun _=>rfl⟩];simp [hf]
theorem pB(R:Rep st k a b c g n u rows S)(P:L4 w m S)(hw:w<=100){p:Nat}(hp:p<m):∃o,aF [.ref k,.int p] st=some (oN o,st)/\SX.Rais w S p o:=by
 have ll:(bG S).length<=1000:=by
  unfold bG;rw[zH]
  have:=List.length_filter_le (fun z:Nat×Nat=>!decide (z.1∈S.nl)) S.hd.zipIdx
  rw[List.length_zipIdx,P.hd]at this;lia
 obtain⟨o,ho,h1,h2⟩:=Ft (l:=(bG S).filter fun j=>decide (0<S.t p j)) (key:=S.h);have inl:∀j,j∈(bG S).filter (fun j=>decide (0<S.t p j)) ↔ (j<w/\S.h j∉S.nl)/\0<S.t p j:=fun j=>by rw[List.mem_filter,ig P];simp
 refine⟨o,?_,fun e j hj hn ht=>?_,fun q e=>?_⟩
 ·simp[aF,aD,cY,R.ins,R.line P hp,rC R P hw,nL,bU ll]
  rw [fN (B:=fun j=>decide (0 < S.t p j)) (F:=fun j:Nat=>.int (j:Int)) fc fun j hj=>⟨_,rfl,by simp [R.cell P hp (show j < w + 1 by have:=(ig P).mp hj;lia)],fun _=>rfl⟩];have hf:rfs (((bG S).filter fun j=>decide (0 < S.t p j)).map fun j:Nat=>(AV.int (j:Int)))=true:=lv;have hi:=rJ (l:=(bG S).filter fun j=>decide (0 < S.t p j));unfold nL at hi;simp [hf,o0,lsI,hi];rw [Ew (f:=S.h) fun q hq=>by simp [R.ins,R.head P ((inl q).mp hq).1.1]];simp [ho]
 ·have:=h1 e
  have hm:=(inl j).mpr ⟨⟨hj,hn⟩,ht⟩;rw[this]at hm;cases hm
 ·obtain⟨m1,m2⟩:=h2 q e
  have:=(inl q).mp m1
  exact⟨this.1.1,this.1.2,this.2,fun j hj hn ht=>m2 j ((inl j).mpr ⟨⟨hj,hn⟩,ht⟩)⟩
theorem qU(R:Rep st k a b c g n u rows S)(P:L4 w m S)(B:Bd w m S){q:Nat}(hq:q<w):∃o,aE [.ref k,.int q] st=some (oN o,st)/\SX.LY S w q m o:=by
 have rl:rows.length=m:=by rw[R.len,P.ls]
 obtain⟨sl',st',e,rfl,o,x,y,rfl,T⟩:=dR (gd:=[(a,.lst rows)]) (g:=bM [bS] (.tu 2 (.cons (.nm 3) (.cons (.nm 4) .nil)))) (s:=aj [bS] (.cons (.iff (.an (.cmp .Lt (.ix (.v 4) (.v 1)) (.i 0)) (.cmp .In (.ix (.fd "Sheet" "sides" (.v 0)) (.v 3)) (.fd "Sheet" "guarded" (.v 0))))
   (.cons (.iff (.or (.cmp .Is (.v 2) .n) (.va (.me "Sheet" "is_tighter" 0 (.v 0) (.cons (.v 3) (.cons (.v 2) (.cons (.v 1) .nil)))))) (.cons (.as (.v 3) (.nm 2)) .nil) .nil) .nil) .nil) .nil))
  (I:=fun i sl s=>s=st/\∃o x y,sl=[Rs k,Is q,some (oN o),x,y]/\SX.LY S w q i o) (xs:=dG 0 rows) (fun i sl s _ hI=>by rw[hI.1];exact fO R.ha)
  (fun i y sl s hy hI=>by
   obtain⟨rfl,o,x1,x2,rfl,T⟩:=hI;obtain⟨x,hx,rfl⟩:=mG hy;have hi:i<m:=by rw[<- rl];exact(zB.mp hx).1
   have ex:x=jD rows i:=by have:=R.rx P hi;rw[hx]at this;injection this
   subst ex;refine⟨_,[Rs k,Is q,some (oN (if S.t i q<0/\S.s i∈S.gd then(match o with|none=>some i|some r=>if S.t i w*- S.t r q<S.t r w*- S.t i q\/(S.t i w*- S.t r q=S.t r w*- S.t i q/\S.s i<S.s r) then some i else some r) else o)),Is i,some (jD rows i)],s,rfl,?_,rfl,_,_,_,rfl,?_⟩
   ·by_cases h1:S.t i q<0
    ·by_cases h2:S.s i∈S.gd
     ·cases o with
      | none=>simp [R.cell P hi (show q < w + 1 by lia),h1,R.side P hi,R.ins,R.ing,h2,oN]
      |some r =>
       have hr:=(T.2 r rfl).1
       have:=GI R P B hi (show r < m by lia) hq
       simp [R.cell P hi (show q < w + 1 by lia),h1,R.side P hi,R.ins,R.ing,h2,oN,this,dY,bA,dr];split <;> rfl
     ·simp [R.cell P hi (show q < w + 1 by lia),h1,R.side P hi,R.ins,R.ing,h2]
    ·simp [R.cell P hi (show q < w + 1 by lia),h1]
   ·by_cases h1:S.t i q<0/\S.s i∈S.gd
    ·rw[yI h1]
     cases o with
     |none=>exact SX.tt_first h1.1 h1.2 T
     |some r =>
      dsimp only;split
      ·rename_i h2;exact SX.tt_new h1.1 h1.2 h2 T
      ·rename_i h2;exact SX.tt_old h1.1 h2 T
    ·rw[yH h1];exact SX.tt_skip h1 T) (sl:=[Rs k,Is q,some .non,none,none]) (st:=st) ⟨rfl,none,none,none,rfl,SX.tt_zero⟩
 rw[ki,rl]at T;refine⟨o,?_,T⟩;simp[aE,aD,cX,R.ins,iV R.ha];rw[e];simp
end
open SX (gI chLine pvl sgn)
theorem Ct:((iL l).zip (iL P)).map (fun z=>AV.tup [z.1,z.2])=(l.zip P).map fun z=>.tup [.int z.1,.int z.2]:=by
 unfold iL;rw[List.zip_map,List.map_map];rfl
section
variable{l P:List Int}{q w:Nat}{sg d:Int}
theorem Ak{M:Nat}(h:∀x∈l,x.natAbs<M)(hM:0<M)(j:Nat):(gI l j).natAbs<M:=by
 unfold gI;rw[zD];cases e:l[j]? with
 |none=>exact hM
 |some x=>exact h x (zW e)
theorem Js(hl:l.length=w+1)(hP:P.length=w+1)(hq:q<w+1)(hw:w<=100)(bl:∀x∈l,x.natAbs<2^9000)(bP:∀x∈P,x.natAbs<2^9000)(hd:d≠0)(bd:d.natAbs<2^9000)(bs:sg.natAbs<2^9000) :
  ∃v st',bw [.fz (iL l),.fz (iL P),.int q,.int sg,.int d] []=some (v,st')/\eA st' v=some (.fz (iL (chLine l P q sg d))):=by
 have hM:(0:Nat)<2^9000:=Nat.two_pow_pos _;have x1:∀st:aa,cm st (.fz (iL P)) (.int (q:Int))=some (.int (gI P q)):=fun st=>by rw[cq fj,b8,bL oM]
 have x2:∀st:aa,cm st (.fz (iL l)) (.int (q:Int))=some (.int (gI l q)):=fun st=>by rw[cq fj,b8,bL oM]
 have bp:=Ak bP hM q;have bf:=Ak bl hM q;have dv:=wl hd bd;unfold chLine;by_cases h1:gI l q=0
 ·by_cases h2:gI P q=d
  ·refine⟨.fz (iL l),[],?_,by rw[yI h1,yI h2];rfl⟩
   simp[bw,aD,db,x1,x2,h1,h2]
  ·refine⟨.fz (iL (l.map fun x=>SX.fdvS (x*gI P q) d)),[],?_,by rw[yI h1,yH h2];rfl⟩
   simp [bw,aD,db,x1,x2,h1,h2,bU (show l.length <= 1000 by lia)];rw [ji (F:=fun x=>SX.fdvS (x * gI P q) d) fc fun x hx=>⟨_,rfl,rfl,by simp [bO (eC (bl x hx) bp),kt dv];rfl⟩];simp
 ·refine⟨.ref 0,[.lst (iL (((l.zip P).map fun z=>SX.fdvS (z.1*gI P q-gI l q*z.2) d).set q (sg*gI l q)))],?_,by rw[yH h1];exact j6 rfl⟩
  have ml:=eC bs bf;have hz:((l.zip P).length)<=1000:=by rw[List.length_zip];lia
  simp[bw,aD,db,x1,x2,h1,iZ,Ct];rw[yI (bU oM),vK (F:=fun z=>SX.fdvS (z.1*gI P q-gI l q*z.2) d) fc fun z hz=>⟨_,rfl,rfl,by
   have:=List.of_mem_zip hz
   simp[bO (eC (bl _ this.1) bp),bO (eC bf (bP _ this.2)),kt dv];rfl⟩]
  simp[bO ml];rw[cO (xs:=iL ((l.zip P).map fun z=>SX.fdvS (z.1*gI P q-gI l q*z.2) d)) rfl (by simp;lia),dI];simp
theorem G4(hx:RowR st x l)(hl:l.length=w+1)(hP:P.length=w+1)(hq:q<w+1)(hw:w<=100)(bl:∀x∈l,x.natAbs<2^9000)(bP:∀x∈P,x.natAbs<2^9000)(hd:d≠0)(bd:d.natAbs<2^9000)(bs:sg.natAbs<2^9000) :
  ∃st1,pm bw [x,.fz (iL P),.int q,.int sg,.int d] st=some (.fz (iL (chLine l P q sg d)),st1)/\(st1=st\/∃r,x=.ref r/\st[r]?=some (.lst (iL l))/\st1=st.set r (.al (.fz (iL l)))):=by
 obtain⟨v,st',e1,e2⟩:=Js hl hP hq hw bl bP hd bd bs;exact jF (rest:=[.fz (iL P),.int q,.int sg,.int d]) hx (by simp) rfl (fun s=>by simp[mB,oq,rf]) e1 e2 (by simp[flat])
end
section
variable{st:aa}{k a b c g n u w m:Nat}{rows:List AV}{S:Sh}
theorem Bd.row(B:Bd w m S)(P:L4 w m S){i:Nat}(hi:i<m):∀x∈SX.row S i,x.natAbs<2^9000:=fun x hx=>by
 obtain⟨j,hj⟩:=z9 hx;have hl:=(zB.mp hj).1;rw[P.rl hi]at hl
 have:=B.2 i hi j hl
 have e:S.t i j=x:=by show(SX.row S i).getD j 0=x;rw[zD,hj];rfl
 rw[e]at this;exact this
theorem mF(R:Rep st k a b c g n u rows S)(P:L4 w m S)(B:Bd w m S)(hd:S.d≠0)(hw:w<=100)(hm:m<=1000){p q:Nat}(hp:p<m)(hq:q<w) :
  ∃st' a' rows',aI [.ref k,.int p,.int q] st=some (.non,st')/\Rep st' k a' b c g n u rows' (SX.L1 S p q):=by
 have rl:rows.length=m:=by rw[R.len,P.ls]
 obtain⟨sg,hsg⟩:∃x,x=sgn (S.t p q):=⟨_,rfl⟩;obtain⟨pl,hpl⟩:∃x,x=pvl S p q:=⟨_,rfl⟩;have hpl':pl=(SX.row S p).map fun x=>sg*x:=by rw[hpl,hsg];rfl
 have lp:pl.length=w+1:=by rw[hpl',zH];exact P.rl hp
 have sa:sg.natAbs=1:=by rw[hsg];unfold sgn;split<;>rfl
 have bs:sg.natAbs<2^9000:=by rw[sa];exact Nat.one_lt_two_pow oM
 have bP:∀x∈pl,x.natAbs<2^9000:=fun x hx=>by
  rw[hpl']at hx;obtain⟨y,hy,rfl⟩:=yD.mp hx;rw[xA,sa,Nat.one_mul];exact B.row P hp y hy
 have s1:∃st1,f8 [(a,.lst rows)] (bM [bw] (.nm 7)) (iy [bw] .no) (ev [bw] (.ca true 0 (.cons (.v 7) (.cons (.v 4) (.cons (.v 2) (.cons (.v 3) (.cons (.v 5) .nil))))))) [Rs k,Is p,Is q,Is sg,Ls pl,Is S.d,none,none] rows st
   = some ((List.range rows.length).map fun i=>.fz (iL (chLine (SX.row S i) pl q sg S.d)),st1)/\Rep st1 k a b c g n u rows S:=by
  refine vI (J:=fun _ s=>Rep s k a b c g n u rows S) (fun _ s _ R'=>fO R'.ha) (fun i x s hx R'=>?_) R;have hi:i<m:=by rw[<- rl];exact(zB.mp hx).1
  obtain ⟨s1,e1,h1⟩:=G4 (R'.row i x hx) (P.rl hi) lp (show q < w + 1 by lia) hw (B.row P hi) bP hd B.1 bs;refine ⟨_,s1,rfl,rfl,by simp [e1],?_⟩;rcases h1 with rfl | ⟨r,rfl,h2,rfl⟩
  ·exact R'
  ·exact R'.freeze hx h2
 obtain⟨st1,e1,R1⟩:=s1;obtain⟨rows2,hr2⟩:∃x,x=(List.range rows.length).map fun i=>AV.fz (iL (chLine (SX.row S i) pl q sg S.d)):=⟨_,rfl⟩
 rw[<- hr2]at e1;have fz2:∀i x,rows2[i]?=some x->i<m/\x=.fz (iL (chLine (SX.row S i) pl q sg S.d)):=fun i x h=>by
  rw[hr2,zR]at h;obtain⟨j,h1,rfl⟩:=zE.mp h;have hl:=(zB.mp h1).1;rw[List.length_range]at hl;rw[List.getElem?_range hl]at h1;cases h1;exact⟨by lia,rfl⟩
 have l2:rows2.length=m:=by rw[hr2,zH,List.length_range,rl]
 have lt:∀{s:aa}{i:Nat}{x:LQ},s[i]?=some x->i<s.length:=fun h=>(zB.mp h).1
 -- the new lines
 have R2:Rep ((st1++[LQ.lst rows2]).set k (.ins "Sheet" (cD S.d st1.length b c g n u))) k st1.length b c g n u rows2 { S with ls:=S.ls.map fun l=>chLine l pl q sg S.d }:=by
  refine Rep.fields (S':={ S with ls:=S.ls.map fun l=>chLine l pl q sg S.d }) (R1.app (ys:=[LQ.lst rows2])) gl rfl rfl rfl rfl rfl (by simp[l2,P.ls]) (fun i x h=>?_) (Nat.ne_of_gt (lt R1.hb)) (Nat.ne_of_gt (lt R1.hc)) fun i r h=>?_
  ·obtain⟨hi,rfl⟩:=fz2 i x h
   left;unfold SX.row;simp [zD,zF (show i < S.ls.length by rw [P.ls];exact hi)]
  ·have:=(fz2 i _ h).2;cases this
 obtain⟨t2,ht2⟩:∃x,x=(st1++[LQ.lst rows2]).set k (.ins "Sheet" (cD S.d st1.length b c g n u)):=⟨_,rfl⟩;rw[<- ht2]at R2;obtain⟨a',ha'⟩:∃x,x=st1.length:=⟨_,rfl⟩;rw[<- ha']at R2 ht2;have R3:=Rep.rowset (p:=p) (x:=.ref t2.length) (l:=pl.map fun x=>- x) (R2.app (ys:=[LQ.lst (iL (pl.map fun x=>- x))])) (.inr ⟨t2.length,rfl,.inl gl⟩) fun r e=>by cases e;exact⟨Nat.ne_of_gt (lt R2.ha),Nat.ne_of_gt (lt R2.hb),Nat.ne_of_gt (lt R2.hc)⟩
 obtain⟨t3,ht3⟩:∃x,x=(t2++[LQ.lst (iL (pl.map fun x=>- x))]).set a' (.lst (rows2.set p (.ref t2.length))):=⟨_,rfl⟩;rw[<- ht3]at R3;have g3:t3[t2.length]?=some (.lst (iL (pl.map fun x=>- x))):=by rw[ht3,au (zU (lt R2.ha))];exact gl
 have p3:(rows2.set p (.ref t2.length))[p]?=some (.ref t2.length):=by simp[l2,hp]
 have R4:=Rep.cellset (l:=(pl.map fun x=>- x).set q (sg*S.d)) R3 p3 fun i ne h=>by
  rw[yX,yH (fun z=>ne z.symm)]at h
  have:=(fz2 i _ h).2;cases this
 obtain⟨t4,ht4⟩:∃x,x=t3.set t2.length (.lst (iL ((pl.map fun x=>- x).set q (sg*S.d)))):=⟨_,rfl⟩;rw[<- ht4]at R4;have R5:=Rep.fields (S':={ d:=gI pl q,ls:=_,hd:=S.hd,sd:=S.sd,gd:=S.gd,nl:=S.nl,tn:=S.tn }) R4 R4.ha rfl rfl rfl rfl rfl R4.len R4.row R4.ab R4.ac R4.ra;obtain⟨t5,ht5⟩:∃x,x=t4.set k (.ins "Sheet" (cD (gI pl q) a' b c g n u)):=⟨_,rfl⟩;have R5:=ht5▸R5;have R6:=Rep.sides (sd':=S.sd.set p (S.h q)) R5;obtain⟨t6,ht6⟩:∃x,x=t5.set c (.lst (nL (S.sd.set p (S.h q)))):=⟨_,rfl⟩;rw[<- ht6]at R6;have R7:=Rep.heads (hd':=S.hd.set q (S.s p)) R6;obtain⟨t7,ht7⟩:∃x,x=t6.set b (.lst (nL (S.hd.set q (S.s p)))):=⟨_,rfl⟩;rw[<- ht7]at R7;refine⟨t7,a',rows2.set p (.ref t2.length),?_,?_⟩
 rotate_left
 ·have e:SX.L1 S p q={ d:=gI pl q,ls:=((S.ls.map fun l=>chLine l pl q sg S.d).set p (pl.map fun x=>- x)).set p ((pl.map fun x=>- x).set q (sg*S.d)),hd:=S.hd.set q (S.s p),sd:=S.sd.set p (S.h q),gd:=S.gd,nl:=S.nl,tn:=S.tn }:=by
   unfold SX.L1;rw[List.set_set,hpl,hsg]
  rw[e];exact R7
 rw[aI,aD];unfold eR;refine ah (sl':=[Rs k,Is p,Is q,Is sg,none,none,none]) (st':=st) ?_ ?_
 ·by_cases h:S.t p q<0
  ·simp [R.ins,R.line P hp,R.cell P hp (show q < w + 1 by lia),h,hsg,sgn]
  ·simp [R.ins,R.line P hp,R.cell P hp (show q < w + 1 by lia),h,hsg,sgn]
 refine ah (sl':=[Rs k,Is p,Is q,Is sg,Ls pl,none,none]) (st':=st) ?_ ?_
 ·obtain⟨gd,i1,i2⟩:=(R.row p _ (R.rx P hp)).it
  simp [R.ins,R.line P hp,i1,bU (show (SX.row S p).length <= 1000 by rw [P.rl hp];lia)];rw [ji (F:=fun x=>sg * x) i2 fun x hx=>⟨_,rfl,rfl,by simp [bO (eC bs (B.row P hp x hx))]⟩];simp [hpl']
 refine ah (sl':=[Rs k,Is p,Is q,Is sg,Ls pl,Is S.d,none]) (st':=st) (by simp[R.ins]) ?_;refine ah (sl':=[Rs k,Is p,Is q,Is sg,Ls pl,Is S.d,none]) (st':=t2) ?_ ?_
 ·rw[gA (v:=.ref a') (st':=st1++[.lst rows2]) (k:=k) (by simp[R.ins,nF R.ha,rl,bU hm,e1,ha']) (by simp) R1.app.ins rfl,xz,ht2]
 refine ah (sl':=[Rs k,Is p,Is q,Is sg,Ls pl,Is S.d,none]) (st':=t3) ?_ ?_
 ·simp [bU (show pl.length <= 1000 by lia)]
  rw [ji (F:=fun x=>- x) fc fun x hx=>⟨_,rfl,rfl,by simp⟩];simp [R2.app.ins,cO (R2.app (ys:=[LQ.lst (iL (pl.map fun x=>- x))])).ha (show p < rows2.length by lia),ht3]
 have P4:L4 w m { S with ls:=((S.ls.map fun l=>chLine l pl q sg S.d).set p (pl.map fun x=>- x)).set p ((pl.map fun x=>- x).set q (sg*S.d)) }:=by
  have:=SX.exch_shp (c:=q) P hp
  refine⟨by simp[P.ls],fun l hl=>this.row l ?_,P.hd,P.sd⟩;show l∈(S.ls.map fun l=>chLine l (pvl S p q) q (sgn (S.t p q)) S.d).set p _;rw[<- hpl,<- hsg];rw[List.set_set]at hl;exact hl
 have rx:jD (rows2.set p (.ref t2.length)) p=.ref t2.length:=by unfold jD;rw[zD,p3];rfl
 refine ah (sl':=[Rs k,Is p,Is q,Is sg,Ls pl,Is S.d,none]) (st':=t4) ?_ ?_
 ·have li:cm t3 (.ref a') (.int (p:Int))=some (.ref t2.length):=by rw[cq (bu R3.ha),b8];exact p3
  simp [bO (eC bs B.1),R3.ins,li,cO g3 (show q < (iL (pl.map fun x=>- x)).length by simp;lia),dI,ht4]
 refine ah (sl':=[Rs k,Is p,Is q,Is sg,Ls pl,Is S.d,none]) (st':=t5) ?_ ?_
 ·have xi:cm t4 (.fz (iL pl)) (.int (q:Int))=some (.int (gI pl q)):=by rw[cq fj,b8,bL oM]
  rw[gA (v:=.int (gI pl q)) (st':=t4) (k:=k) (by simp[xi]) (by simp) R4.ins rfl,xD,ht5]
 have P5:L4 w m { S with d:=gI pl q,ls:=((S.ls.map fun l=>chLine l pl q sg S.d).set p (pl.map fun x=>- x)).set p ((pl.map fun x=>- x).set q (sg*S.d)) }:=⟨P4.ls,P4.row,P4.hd,P4.sd⟩;refine ah (sl':=[Rs k,Is p,Is q,Is sg,Ls pl,Is S.d,Is (S.s p:Int)]) (st':=t5) ?_ ?_
 ·have:=R5.side P5 hp
  simp[R5.ins,this];rfl
 refine ah (sl':=[Rs k,Is p,Is q,Is sg,Ls pl,Is S.d,Is (S.s p:Int)]) (st':=t6) ?_ ?_
 ·have:=R5.head P5 hq
  simp [R5.ins,this,cO R5.hc (show p < (nL S.sd).length by simp [P.sd,hp]),ht6];rw [<- vD];rfl
 refine ah (sl':=[Rs k,Is p,Is q,Is sg,Ls pl,Is S.d,Is (S.s p:Int)]) (st':=t7) ?_ rfl;simp [R6.ins,cO R6.hb (show q < (nL S.hd).length by simp [P.hd,hq]),ht7,vD]
end
open SX (MI Rais LY Kept L1)
noncomputable def ins(l:List Nat)(q:Nat):List Nat:=if q∈l then l else l++[q]
section
variable{st:aa}{k a b c g n u w m:Nat}{rows:List AV}{S:Sh}{p q:Nat}
theorem rW(R:Rep st k a b c g n u rows S)(hl:S.gd.length<=1000):∃st',aL [.ref k,.int q] st=some (.non,st')/\Rep st' k a b c g n u rows { S with gd:=ins S.gd q }:=by
 refine⟨_,?_,R.guard⟩;simp[aL,aD,gq,R.ins,nE R.hg hl,ins]
theorem pF(R:Rep st k a b c g n u rows S)(hl:S.nl.length<=1000):∃st',dk [.ref k,.int q] st=some (.non,st')/\Rep st' k a b c g n u rows { S with nl:=ins S.nl q }:=by
 refine⟨_,?_,R.nail⟩;simp[dk,aD,hV,R.ins,nE R.hn hl,ins]
theorem CB(R:Rep st k a b c g n u rows S)(P:L4 w m S)(hw:w<=100)(hp:p<m)(hl:S.tn.length<=1000):∃st' rows',cb [.ref k,.int p] st=some (.non,st')/\Rep st' k a b c g n u rows' (SX.trn S p):=by
 have R1:=Rep.rowset (p:=p) (x:=.fz (iL ((SX.row S p).map fun x=>- x))) (l:=(SX.row S p).map fun x=>- x) R (.inl rfl) fun r e=>nomatch e
 have R2:=Rep.turned (tn':=if S.s p∈S.tn then S.tn else S.tn++[S.s p]) R1;refine⟨_,_,?_,R2⟩;obtain⟨gd,i1,i2⟩:=(R.row p _ (R.rx P hp)).it;have P1:L4 w m { S with ls:=S.ls.set p ((SX.row S p).map fun x=>- x) }:=⟨(SX.trn_shp P hp).ls,(SX.trn_shp P hp).row,P.hd,P.sd⟩;rw[cb,aD];unfold d8;refine ah (sl':=[Rs k,Is p]) (st':=st.set a (.lst (rows.set p (.fz (iL ((SX.row S p).map fun x=>- x)))))) ?_ ?_
 ·simp [R.ins,R.line P hp,i1,bU (show (SX.row S p).length <= 1000 by rw [P.rl hp];lia)]
  rw [ji (F:=fun x=>- x) i2 fun x hx=>⟨_,rfl,rfl,by simp⟩];simp [R.ins,cO R.ha (show p < rows.length by rw [R.len,P.ls];exact hp)]
 ·have:=R1.side P1 hp
  simp[R1.ins,this];rw[nE R1.hu hl];rfl
theorem Gr(R:Rep st k a b c g n u rows S)(P:L4 w m S)(hw:w<=100)(hp:p<m):∃o:Option Nat,bE [.ref k,.int p] st=some (oN o,st)/\(o=none->∀j,j<w->S.h j∉S.nl->S.t p j=0)/\∀q,o=some q->q<w/\S.h q∉S.nl/\S.t p q≠0:=by
 have ll:(bG S).length<=1000:=by
  unfold bG;rw[zH]
  have:=List.length_filter_le (fun z:Nat×Nat=>!decide (z.1∈S.nl)) S.hd.zipIdx
  rw[List.length_zipIdx,P.hd]at this;lia
 have inl:∀j,j∈(bG S).filter (fun j=>!decide (S.t p j=0)) ↔ (j<w/\S.h j∉S.nl)/\S.t p j≠0:=fun j=>by rw[List.mem_filter,ig P];simp
 have hm:∃o:Option Nat,xR (((bG S).filter fun j=>!decide (S.t p j=0)).map fun j=>((j:Nat):Int))=oN o/\(o=none->(bG S).filter (fun j=>!decide (S.t p j=0))=[])/\∀q,o=some q->q∈(bG S).filter fun j=>!decide (S.t p j=0):=by
  generalize (bG S).filter (fun j=>!decide (S.t p j=0))=l;cases l with
  |nil=>exact⟨none,rfl,fun _=>rfl,fun q h=>nomatch h⟩
  |cons x l =>
   have h:=(DD.minF (l.map fun j=>((j:Nat):Int)) (x:Int)).1;rw[<- zO (f:=fun j:Nat=>((j:Nat):Int))]at h;obtain⟨y,hy,e⟩:=yD.mp h;refine⟨some y,?_,(fun z=>nomatch z),fun q z=>by cases z;exact hy⟩;show AV.int _=AV.int _;rw[e]
 obtain⟨o,ho,h1,h2⟩:=hm;refine⟨o,?_,fun e j hj hn=>Classical.byContradiction fun ht=>?_,fun q e=>?_⟩
 ·simp[bE,aD,de,R.ins,R.line P hp,rC R P hw,nL,bU ll]
  rw [fN (B:=fun j=>!decide (S.t p j=0)) (F:=fun j:Nat=>.int (j:Int)) fc fun j hj=>⟨_,rfl,by simp [R.cell P hp (show j < w + 1 by have:=(ig P).mp hj;lia)],fun _=>rfl⟩];have hf:rfs (((bG S).filter fun j=>!decide (S.t p j=0)).map fun j:Nat=>(AV.int (j:Int)))=true:=lv;have hi:=rJ (l:=(bG S).filter fun j=>!decide (S.t p j=0));unfold nL at hi;simp [hf,bZ,lY,lsI,hi,ho]
 ·have hm:=(inl j).mpr ⟨⟨hj,hn⟩,ht⟩
  rw[h1 e]at hm;cases hm
 ·have:=(inl q).mp (h2 q e)
  exact⟨this.1.1,this.1.2,this.2⟩
end
section
variable{st:aa}{k a b c g n u w m:Nat}{rows:List AV}{S:Sh}{p:Nat}{v:Nat->Nat->Int}
structure Bnd(w m:Nat)(v:Nat->Nat->Int):Prop where
 ex:∃M:Nat,1<=M/\(∀q x,x<w+1->(v q x).natAbs<=M)/\SX.fct (w+1)*M^(w+1)<2^8900
 hw:w<=100
 hm:m<=1000
theorem Bnd.bd(H:Bnd w m v)(I:MI w m v S):Bd w m S:=by
 obtain⟨M,h1,h2,h3⟩:=H.ex;exact I.bound h1 h2 (Nat.lt_trans h3 (Nat.pow_lt_pow_right dC dC))
theorem Bnd.bd8(H:Bnd w m v)(I:MI w m v S):S.d.natAbs<2^8900/\∀i,i<m->∀j,j<w+1->(S.t i j).natAbs<2^8900:=by
 obtain⟨M,h1,h2,h3⟩:=H.ex;exact I.bound h1 h2 h3
def sB(w m:Nat)(v:Nat->Nat->Int)(k b c g n u p:Nat)(S0:Sh)(o:Out):Prop:=∃(S:Sh)(st':aa)(a':Nat)(rows':List AV),Rep st' k a' b c g n u rows' S/\Kept m p S0 S /\
 ((o=.rt (.bl true) st'/\MI w m v { S with gd:=S.gd++[S0.s p] }/\MI w m v { S with nl:=S.nl++[S0.s p] }) \/
  (o=.rt (.bl false) st'/\MI w m v S/\S.s p=S0.s p/\S.t p w<0/\∀j,j<w->S.h j∉S.nl->¬0<S.t p j) \/
  ∃sl,o=.nx sl st'/\MI w m v S/\S.s p=S0.s p/\0<=S0.t p w)
theorem vH(H:Bnd w m v)(R:Rep st k a b c g n u rows S0)(I:MI w m v S0)(hp:p<m)(ng:S0.s p∉S0.gd)(nn:S0.s p∉S0.nl) :
  ∃o,kC (tv [aF,aE,aP,aI] (.cmp .Lt (.ix (.ix (.fd "Sheet" "lines" (.v 0)) (.v 1)) (.un .USub (.i 1))) (.i 0)))
   (aj [aF,aE,aP,aI] (.cons (.as (.me "Sheet" "raising_column" 0 (.v 0) (.cons (.v 1) .nil)) (.nm 2))
    (.cons (.iff (.cmp .Is (.v 2) .n) (.cons (.rt (.b false)) .nil) .nil)
    (.cons (.as (.me "Sheet" "tightest_place" 1 (.v 0) (.cons (.v 2) .nil)) (.nm 3))
    (.cons (.iff (.or (.cmp .Is (.v 3) .n) (.va (.me "Sheet" "is_up_first" 2 (.v 0) (.cons (.v 1) (.cons (.v 3) (.cons (.v 2) .nil)))))) (.cons (.ex (.me "Sheet" "exchange" 3 (.v 0) (.cons (.v 1) (.cons (.v 2) .nil)))) (.cons (.rt (.b true)) .nil)) .nil)
    (.cons (.ex (.me "Sheet" "exchange" 3 (.v 0) (.cons (.v 3) (.cons (.v 2) .nil)))) .nil)))))) [Rs k,Is p,x,y] st=some o/\sB w m v k b c g n u p S0 o:=by
 refine qQ (α:=Sh) (a0:=S0) (I:=fun S sl s=>(∃a' rows' x y,sl=[Rs k,Is p,x,y]/\Rep s k a' b c g n u rows' S)/\MI w m v S/\Kept m p S0 S/\S.s p=S0.s p/\(S0.t p w<0->S.t p w<0))
  (Q:=fun S T=>MI w m v S/\(∃r q e,SX.Bl w m p (·∈S.gd) (·∈S.nl) r q e (SX.toSt S) (SX.toSt T))/\Kept m p S T) (fun f h0 hf=>SX.no_chain hp f hf (by rw[h0];exact ng)) (fun S sl s hI=>?_) ⟨⟨a,rows,x,y,rfl,R⟩,I,Kept.refl,rfl,id⟩
 obtain⟨⟨a',rows',x,y,rfl,R⟩,I,K,sp,lw⟩:=hI;have B:=H.bd I;have P:=I.shp;have ng':S.s p∉S.gd:=by rw[sp,K.gd];exact ng
 have nn':S.s p∉S.nl:=by rw[sp,K.nl];exact nn
 have ht:tv [aF,aE,aP,aI] (.cmp .Lt (.ix (.ix (.fd "Sheet" "lines" (.v 0)) (.v 1)) (.un .USub (.i 1))) (.i 0)) [Rs k,Is p,x,y] s=some (decide (S.t p w<0),s):=by
  simp[R.ins,R.line P hp,R.last P hp]
 by_cases low:S.t p w<0
 ·rw[yW low]at ht
  obtain⟨o,e1,h1⟩:=pB R P H.hw hp;cases o with
  |none =>
   left;refine⟨_,o8 (v:=.bl false) (st2:=s) ht ?_,S,s,a',rows',R,K,.inr (.inl ⟨rfl,I,sp,low,h1.1 rfl⟩)⟩;simp[R.ins,e1,oN]
  |some q =>
   obtain⟨q1,_,q3,_⟩:=h1.2 q rfl;obtain⟨o,e2,h2⟩:=qU R P B q1;have d0:S.d≠0:=by have:=I.lin.pos;lia
   have ax:(LY S w q m none\/∃r,LY S w q m (some r)/\S.t p w*S.t r q<=S.t r w*S.t p q)->o=none\/(∃r,o=some r/\S.t p w*S.t r q<=S.t r w*S.t p q)->∃o,cP (tv [aF,aE,aP,aI] (.cmp .Lt (.ix (.ix (.fd "Sheet" "lines" (.v 0)) (.v 1)) (.un .USub (.i 1))) (.i 0)))
     (aj [aF,aE,aP,aI] (.cons (.as (.me "Sheet" "raising_column" 0 (.v 0) (.cons (.v 1) .nil)) (.nm 2))
    (.cons (.iff (.cmp .Is (.v 2) .n) (.cons (.rt (.b false)) .nil) .nil)
    (.cons (.as (.me "Sheet" "tightest_place" 1 (.v 0) (.cons (.v 2) .nil)) (.nm 3))
    (.cons (.iff (.or (.cmp .Is (.v 3) .n) (.va (.me "Sheet" "is_up_first" 2 (.v 0) (.cons (.v 1) (.cons (.v 3) (.cons (.v 2) .nil)))))) (.cons (.ex (.me "Sheet" "exchange" 3 (.v 0) (.cons (.v 1) (.cons (.v 2) .nil)))) (.cons (.rt (.b true)) .nil)) .nil)
    (.cons (.ex (.me "Sheet" "exchange" 3 (.v 0) (.cons (.v 3) (.cons (.v 2) .nil)))) .nil)))))) 1 [Rs k,Is p,x,y] s=some o/\sB w m v k b c g n u p S0 o:=fun hT ho=>by
    obtain⟨st',a2,rows2,e3,R2⟩:=mF R P B d0 H.hw H.hm hp q1;obtain⟨m1,m2,m3⟩:=I.up hp ng' nn' low h1 hT;refine⟨_,o8 (v:=.bl true) (st2:=st') ht ?_,L1 S p q,st',a2,rows2,R2,K.trans m3,.inl ⟨rfl,by rw[<- sp];exact m1,by rw[<- sp];exact m2⟩⟩;rcases ho with rfl|⟨r,rfl,hu⟩
    ·simp[R.ins,e1,oN,e2,e3]
    ·have:=zm R P B hp (h2.2 r rfl).1 q1
     simp[R.ins,e1,oN,e2,e3,this,dY,bA,dr,hu]
   cases o with
   |none=>exact .inl (ax (.inl h2) (.inl rfl))
   |some r =>
    by_cases hu:S.t p w*S.t r q<=S.t r w*S.t p q
    ·exact .inl (ax (.inr ⟨r,h2,hu⟩) (.inr ⟨r,rfl,hu⟩))
    ·right
     have r1:=(h2.2 r rfl).1;obtain⟨st',a2,rows2,e3,R2⟩:=mF R P B d0 H.hw H.hm r1 q1;obtain⟨m1,m2,m3,m4⟩:=I.step hp ng' h1 h2;refine⟨L1 S r q,[Rs k,Is p,Is q,Is r],st',⟨I,⟨r,q,_,m2⟩,m3⟩,⟨⟨a2,rows2,_,_,rfl,R2⟩,m1,K.trans m3,m4.trans sp,fun _=>I.low hp ng' h1 h2 hu⟩,fun n o h=>mX ht ?_ h⟩
     have:=zm R P B hp r1 q1
     simp[R.ins,e1,oN,e2,e3,this,dY,bA,dr,hu]
 ·rw[yA low]at ht
  left;exact⟨_,j3 ht,S,s,a',rows',R,K,.inr (.inr ⟨_,rfl,I,sp,by
   rcases yV (S0.t p w) 0 with z|z
   ·exact absurd (lw z) low
   ·exact z⟩)⟩
end
section
variable{st:aa}{k a b c g n u w m:Nat}{rows:List AV}{S:Sh}{p:Nat}{v:Nat->Nat->Int}
theorem vG(H:Bnd w m v)(R:Rep st k a b c g n u rows S0)(I:MI w m v S0)(hp:p<m)(ng:S0.s p∉S0.gd)(nn:S0.s p∉S0.nl) :
  ∃(S:Sh)(st':aa)(a':Nat)(rows':List AV)(bb:Bool),b9 [.ref k,.int p] st=some (.bl bb,st')/\Rep st' k a' b c g n u rows' S/\Kept m p S0 S /\
   ((bb=true/\MI w m v { S with gd:=S.gd++[S0.s p] }/\(S0.t p w<0->MI w m v { S with nl:=S.nl++[S0.s p] })) \/
    (bb=false/\MI w m v S/\S.s p=S0.s p/\S.t p w<0/\∀j,j<w->S.h j∉S.nl->¬0<S.t p j)):=by
 by_cases low:S0.t p w<0
 ·obtain⟨o,e,S,st',a',rows',R',K,h⟩:=vH H R I hp ng nn (x:=none) (y:=none)
  rcases h with⟨rfl,h1,h2⟩|⟨rfl,h1,h2,h3,h4⟩|⟨sl,rfl,h1,h2,h3⟩
  ·refine⟨S,st',a',rows',true,?_,R',K,.inl ⟨rfl,h1,fun _=>h2⟩⟩
   simp[b9,aD,dN,e]
  ·refine⟨S,st',a',rows',false,?_,R',K,.inr ⟨rfl,h1,h2,h3,h4⟩⟩
   simp[b9,aD,dN,e]
  ·lia
 ·refine⟨S0,st,a,rows,true,?_,R,Kept.refl,.inl ⟨rfl,I.guard hp oM,fun z=>absurd z low⟩⟩
  have P:=I.shp;rw[b9,aD];unfold dN;refine ah (sl':=[Rs k,Is p,none,none]) (st':=st) (lM (n:=1) (j3 (by simp[R.ins,R.line P hp,R.last P hp,low]))) ?_;simp
theorem Ci(H:Bnd w m v)(R:Rep st k a b c g n u rows S0)(I:MI w m v S0)(hp:p<m)(ng:S0.s p∉S0.gd) :
  ∃r,bt [.ref k,.int p] st=some r/\∃(S:Sh)(a':Nat)(rows':List AV),Rep r.2 k a' b c g n u rows' S/\Kept m p S0 S/\MI w m v S/\S.s p=S0.s p /\
   ((r.1=.non/\Rais w S p none)\/∃q,r.1=.int ((q:Nat):Int)/\Rais w S p (some q)/\LY S w q m none):=by
 rw[bt];simp only[aD];unfold eS;obtain⟨o,e1,h1⟩:=pB R I.shp H.hw hp;refine ar (sl':=[Rs k,Is p,some (oN o),none]) (st':=st) (by simp[R.ins,e1]) ?_;refine C6 (Post:=fun out=>∃(S:Sh)(a':Nat)(rows':List AV)(st':aa),Rep st' k a' b c g n u rows' S/\Kept m p S0 S/\MI w m v S/\S.s p=S0.s p /\
   ((∃sl,out=.nx sl st'/\Rais w S p none)\/∃q,out=.rt (.int ((q:Nat):Int)) st'/\Rais w S p (some q)/\LY S w q m none))
  (qQ (α:=Sh) (a0:=S0) (I:=fun S sl s=>(∃a' rows' x o,sl=[Rs k,Is p,some (oN o),x]/\Rep s k a' b c g n u rows' S/\Rais w S p o)/\MI w m v S/\Kept m p S0 S/\S.s p=S0.s p)
   (Q:=fun S T=>MI w m v S/\(∃r q e,SX.Bl w m p (·∈S.gd) (·∈S.nl) r q e (SX.toSt S) (SX.toSt T))/\Kept m p S T) (fun f h0 hf=>SX.no_chain hp f hf (by rw[h0];exact ng)) (fun S sl s hI=>?_) ⟨⟨a,rows,none,o,rfl,R,h1⟩,I,Kept.refl,rfl⟩) ?_
 ·obtain⟨⟨a',rows',x,o,rfl,R,h1⟩,I,K,sp⟩:=hI
  have B:=H.bd I;have P:=I.shp;have ng':S.s p∉S.gd:=by rw[sp,K.gd];exact ng
  cases o with
  |none =>
   left;exact⟨_,j3 (st':=s) (by simp[oN]),S,a',rows',s,R,K,I,sp,.inl ⟨_,rfl,h1⟩⟩
  |some q =>
   obtain⟨q1,_,q3,_⟩:=h1.2 q rfl;obtain⟨o,e2,h2⟩:=qU R P B q1;cases o with
   |none =>
    left;refine⟨_,o8 (v:=.int q) (st':=s) (st2:=s) (by simp[oN]) ?_,S,a',rows',s,R,K,I,sp,.inr ⟨q,rfl,h1,h2⟩⟩;simp[R.ins,oN,e2]
   |some r =>
    right;have d0:S.d≠0:=by have:=I.lin.pos;lia
    have r1:=(h2.2 r rfl).1;obtain⟨st',a2,rows2,e3,R2⟩:=mF R P B d0 H.hw H.hm r1 q1;obtain⟨m1,m2,m3,m4⟩:=I.step hp ng' h1 h2;obtain⟨o,e4,h4⟩:=pB R2 m1.shp H.hw hp;refine⟨L1 S r q,[Rs k,Is p,some (oN o),Is r],st',⟨I,⟨r,q,_,m2⟩,m3⟩,⟨⟨a2,rows2,_,o,rfl,R2,h4⟩,m1,K.trans m3,m4.trans sp⟩,fun n o' h=>mX (st':=s) (by simp[oN]) ?_ h⟩;simp[R.ins,oN,e2,e3,R2.ins,e4]
 ·rintro out ⟨S,a',rows',st',R',K,I',sp,⟨sl,rfl,h⟩|⟨q,rfl,h⟩⟩
  ·exact⟨(.non,st'),by simp,S,a',rows',R',K,I',sp,.inl ⟨rfl,h⟩⟩
  ·exact⟨(.int q,st'),by simp,S,a',rows',R',K,I',sp,.inr ⟨q,rfl,h⟩⟩
end
structure Kj(m p:Nat)(S T:Sh):Prop where
 tn:T.tn=S.tn\/T.tn=S.tn++[S.s p]
 si:∀i,i<m->i≠p->S.s i∉S.gd->T.s i=S.s i
section
variable{st:aa}{k a b c g n u w m:Nat}{rows:List AV}{S:Sh}{p:Nat}{v:Nat->Nat->Int}
theorem GD(H:Bnd w m v)(R:Rep st k a b c g n u rows S0)(I:MI w m v S0)(hp:p<m)(ng:S0.s p∉S0.gd)(nn:S0.s p∉S0.nl)(hl:S0.gd.length<=1000) :
  ∃(S:Sh)(st':aa)(a':Nat)(rows':List AV)(bb:Bool),bv [.ref k,.int p] st=some (.bl bb,st')/\Rep st' k a' b c g n u rows' S/\Kj m p S0 S/\S.tn=S0.tn/\S.nl=S0.nl/\MI w m v S /\
   ((bb=true/\S.gd=S0.gd++[S0.s p])\/(bb=false/\S.gd=S0.gd/\S.s p=S0.s p/\S.t p w<0/\∀j,j<w->S.h j∉S.nl->¬0<S.t p j)):=by
 have P:=I.shp;obtain⟨S,st1,a1,rows1,bb,e1,R1,K,h⟩:=vG H R I hp ng nn;rcases h with⟨rfl,h1,_⟩|⟨rfl,h1,h2⟩
 ·obtain⟨st2,e2,R2⟩:=rW (q:=S0.s p) R1 (by rw[K.gd];exact hl)
  have ei:ins S.gd (S0.s p)=S.gd++[S0.s p]:=yH (by rw[K.gd];exact ng);rw[ei]at R2;refine⟨{ S with gd:=S.gd++[S0.s p] },st2,a1,rows1,true,?_,R2,⟨.inl K.tn,K.si⟩,K.tn,K.nl,h1,.inl ⟨rfl,by rw[K.gd]⟩⟩;simp[bv,aD,dS,R.ins,R.side P hp,e1,dY,bA,dr,R1.ins,e2]
 ·refine⟨S,st1,a1,rows1,false,?_,R1,⟨.inl K.tn,K.si⟩,K.tn,K.nl,h1,.inr ⟨rfl,K.gd,h2⟩⟩
  simp[bv,aD,dS,R.ins,R.side P hp,e1,dY,bA,dr]
theorem GE(H:Bnd w m v)(R:Rep st k a b c g n u rows S0)(I:MI w m v S0)(hp:p<m)(ng:S0.s p∉S0.gd)(nn:S0.s p∉S0.nl)(nt:S0.s p∉S0.tn)(hl:S0.nl.length<=1000)(hl2:S0.tn.length<=1000) :
  ∃(S:Sh)(st':aa)(a':Nat)(rows':List AV)(bb:Bool),bY [.ref k,.int p] st=some (.bl bb,st')/\Rep st' k a' b c g n u rows' S/\Kj m p S0 S/\S.gd=S0.gd/\MI w m v S /\
   ((bb=true/\S.nl=S0.nl++[S0.s p])\/(bb=false/\S.nl=S0.nl/\S.s p=S0.s p/\S.t p w<0/\∀j,j<w->S.h j∉S.nl->¬0<S.t p j)):=by
 have P:=I.shp
 -- turned about,if need be
 have s1:∃(S1:Sh)(st1:aa)(rows1:List AV),cA [cb,b9,bE,aI,dk] (.iff (.cmp .Gt (.ix (.ix (.fd "Sheet" "lines" (.v 0)) (.v 1)) (.un .USub (.i 1))) (.i 0)) (.cons (.ex (.me "Sheet" "turn_line" 0 (.v 0) (.cons (.v 1) .nil))) .nil) .nil) [Rs k,Is p,Is (S0.s p:Int),none] st=some (.nx [Rs k,Is p,Is (S0.s p:Int),none] st1) /\
   Rep st1 k a b c g n u rows1 S1/\MI w m v S1/\S1.gd=S0.gd/\S1.nl=S0.nl/\(S1.tn=S0.tn\/S1.tn=S0.tn++[S0.s p])/\S1.sd=S0.sd/\S1.t p w<=0:=by
  by_cases h:0<S0.t p w
  ·obtain⟨st1,rows1,e1,R1⟩:=CB R P H.hw hp hl2
   refine⟨SX.trn S0 p,st1,rows1,?_,R1,I.turn hp ng nn nt,rfl,rfl,.inr (yH nt),rfl,?_⟩
   ·simp[R.ins,R.line P hp,R.last P hp,h,e1]
   ·rw[(SX.trn_t P hp).1 w oM];lia
  ·refine⟨S0,st,rows,?_,R,I,rfl,rfl,.inl rfl,rfl,by lia⟩
   simp[R.ins,R.line P hp,R.last P hp,h]
 obtain⟨S1,st1,rows1,e1,R1,I1,g1,n1,t1,d1,low1⟩:=s1;have ss:∀i,S1.s i=S0.s i:=fun i=>by show S1.sd.getD i 0=S0.sd.getD i 0;rw[d1]
 have P1:=I1.shp;have nn1:S1.s p∉S1.nl:=by rw[ss,n1];exact nn
 have ng1:S1.s p∉S1.gd:=by rw[ss,g1];exact ng
 have kj:∀T:Sh,Kept m p S1 T->Kj m p S0 T:=fun T K=>⟨by rw[K.tn];exact t1,fun i hi ne h=>by rw[K.si i hi ne (by rw[ss,g1];exact h),ss]⟩
 have hd:∀{r:AV×aa},(aj [cb,b9,bE,aI,dk] (.cons (.iff (.cmp .Lt (.ix (.ix (.fd "Sheet" "lines" (.v 0)) (.v 1)) (.un .USub (.i 1))) (.i 0)) (.cons (.iff (.no (.va (.me "Sheet" "lift" 1 (.v 0) (.cons (.v 1) .nil)))) (.cons (.rt (.b false)) .nil) .nil) .nil)
   (.cons (.as (.me "Sheet" "moving_column" 2 (.v 0) (.cons (.v 1) .nil)) (.nm 3)) (.cons (.iff (.cmp .IsNot (.v 3) .n) (.cons (.ex (.me "Sheet" "exchange" 3 (.v 0) (.cons (.v 1) (.cons (.v 3) .nil)))) .nil) .nil) .nil)))
   (.cons (.ex (.me "Sheet" "nail" 4 (.v 0) (.cons (.v 2) .nil))) (.cons (.rt (.b true)) .nil))) [Rs k,Is p,Is (S0.s p:Int),none] st1).bind ax=some r->bY [.ref k,.int p] st=some r:=fun h=>by
  rw[bY,aD];unfold iN;exact ah (sl':=[Rs k,Is p,Is (S0.s p:Int),none]) (st':=st) (by simp[R.ins,R.side P hp]) (ah e1 h)
 by_cases low:S1.t p w<0
 ·obtain⟨S,st2,a2,rows2,bb,e2,R2,K,h⟩:=vG H R1 I1 hp ng1 nn1
  rcases h with⟨rfl,h1,h2⟩|⟨rfl,h1,h2⟩
  ·obtain⟨st3,e3,R3⟩:=pF (q:=S0.s p) R2 (by rw[K.nl,n1];exact hl)
   have ei:ins S.nl (S0.s p)=S.nl++[S0.s p]:=yH (by rw[K.nl,n1];exact nn);rw[ei]at R3;have h2:=h2 low;rw[ss]at h2;refine⟨{ S with nl:=S.nl++[S0.s p] },st3,a2,rows2,true,hd ?_,R3,⟨(kj S K).tn,(kj S K).si⟩,K.gd.trans g1,h2,.inl ⟨rfl,by rw[K.nl,n1]⟩⟩;simp[R1.ins,R1.line P1 hp,R1.last P1 hp,low,e2,dY,bA,dr,R2.ins,e3]
  ·refine⟨S,st2,a2,rows2,false,hd ?_,R2,kj S K,K.gd.trans g1,h1,.inr ⟨rfl,K.nl.trans n1,h2.1.trans (ss p),h2.2⟩⟩
   simp[R1.ins,R1.line P1 hp,R1.last P1 hp,low,e2,dY,bA,dr]
 ·have z0:S1.t p w=0:=by lia
  obtain⟨o,e2,h1,h2⟩:=Gr R1 P1 H.hw hp;cases o with
  |none =>
   obtain⟨st3,e3,R3⟩:=pF (q:=S0.s p) R1 (by rw[n1];exact hl);have ei:ins S1.nl (S0.s p)=S1.nl++[S0.s p]:=yH (by rw[n1];exact nn);rw[ei]at R3;have m1:=I1.nail hp z0 (h1 rfl);rw[ss]at m1;refine⟨{ S1 with nl:=S1.nl++[S0.s p] },st3,a,rows1,true,hd ?_,R3,⟨(kj S1 Kept.refl).tn,(kj S1 Kept.refl).si⟩,g1,m1,.inl ⟨rfl,by rw[n1]⟩⟩;simp[R1.ins,R1.line P1 hp,R1.last P1 hp,z0,e2,oN,e3]
  |some q =>
   obtain⟨q1,q2,q3⟩:=h2 q rfl;have d0:S1.d≠0:=by have:=I1.lin.pos;lia
   obtain⟨st2,a2,rows2,e4,R2⟩:=mF R1 P1 (H.bd I1) d0 H.hw H.hm hp q1;obtain⟨st3,e3,R3⟩:=pF (q:=S0.s p) R2 (by show S1.nl.length<=1000;rw[n1];exact hl);have ei:ins (L1 S1 p q).nl (S0.s p)=S1.nl++[S0.s p]:=yH (by show S0.s p∉S1.nl;rw[n1];exact nn);rw[ei]at R3;obtain⟨m1,K⟩:=I1.move hp q1 q2 z0 q3;rw[ss]at m1;refine⟨{ L1 S1 p q with nl:=S1.nl++[S0.s p] },st3,a2,rows2,true,hd ?_,R3,⟨(kj _ K).tn,(kj _ K).si⟩,g1,m1,.inl ⟨rfl,by rw[n1]⟩⟩;simp[R1.ins,R1.line P1 hp,R1.last P1 hp,z0,e2,oN,e4,R2.ins,e3]
end
open SX (openS)
structure Gv where
 row:List Int
 eq:Bool
 num:Int
def Gv.av(x:Gv):AV:=.tup [.fz (iL x.row),.str (if x.eq then "=" else ">"),.int x.num]
def ak(RR:List (List Int))(gv:List Gv)(goal:List Int):List (List Int):=RR.map (·++[0])++gv.map (fun x=>x.row++[-x.num])++[goal.map (fun x=>- x)++[0]]
section
variable{w:Nat}{L RR:List (List Int)}{gv:List Gv}{goal:List Int}
abbrev ow:List (Str×AV):=[("below",.int 1)]
abbrev Fe:List (Str×AV):=[("below",.int 1),("lines",.ref 2)]
abbrev Fd:List (Str×AV):=[("below",.int 1),("lines",.ref 2),("heads",.ref 3)]
abbrev Fc:List (Str×AV):=[("below",.int 1),("lines",.ref 2),("heads",.ref 3),("sides",.ref 4)]
abbrev Fb:List (Str×AV):=[("below",.int 1),("lines",.ref 2),("heads",.ref 3),("sides",.ref 4),("guarded",.ref 5)]
abbrev Fa:List (Str×AV):=[("below",.int 1),("lines",.ref 2),("heads",.ref 3),("sides",.ref 4),("guarded",.ref 5),("nailed",.ref 6)]
abbrev JV(w:Nat)(L:List (List Int)):aa:=[.lst (ay L),.ins "Sheet" (cD 1 2 3 4 5 6 7),.lst (ay L),.lst (nL (List.range w)),.lst (nL ((List.range L.length).map (w+·))),.dK [],.dK [],.dK []]
theorem ES(hw:w<=100)(hL:L.length<=400):aB [.ref 1,.int w,.ref 0] [.lst (ay L),.ins "Sheet" []]=some (.non,[.lst (ay L),.ins "Sheet" (cD 1 2 3 4 5 6 7),.lst (ay L),.lst (nL (List.range w)),.lst (nL ((List.range L.length).map (w+·))),.dK [],.dK [],.dK []]):=by
 have sm:oe (w:Int)=true:=by unfold oe;simp;lia
 have sm2:oe ((w:Int)+(L.length:Int))=true:=by unfold oe;simp;lia
 have l0:∀X:aa,bA (.lst (ay L)::X) (.ref 0)=some (ay L):=fun X=>bu rfl
 rw[aB,aD];unfold eT;refine ah (st':=[.lst (ay L),.ins "Sheet" ow]) (gA (v:=.int 1) (st':=[.lst (ay L),.ins "Sheet" []]) (k:=1) (fs:=[]) rfl rfl rfl rfl) ?_;refine ah (st':=[.lst (ay L),.ins "Sheet" Fe,.lst (ay L)]) (gA (v:=.ref 2) (st':=[.lst (ay L),.ins "Sheet" ow,.lst (ay L)]) (k:=1) (fs:=ow) ?_ rfl rfl rfl) ?_
 ·have e:=tR (gd:=[(0,.lst (ay L))]) (g:=bM [] (.nm 3)) (t:=iy [] .no) (f:=ev [] (.nw false (.lof (.v 3)))) (sl:=[Rs 1,Is w,Rs 0,none]) (st:=[.lst (ay L),.ins "Sheet" ow]) (em:=fun l=>.fz (iL l)) (F:=fun l=>l) (xs:=L) (fO rfl) fun l hl=>⟨_,rfl,rfl,by simp[ny]⟩
  rw [List.map_id'] at e;have e':f8 [(0,.lst (ay L))] (bM [] (.nm 3)) (iy [] .no) (ev [] (.nw false (.lof (.v 3)))) [Rs 1,Is w,Rs 0,none] (ay L) [.lst (ay L),.ins "Sheet" ow]=some (ay L,[.lst (ay L),.ins "Sheet" ow]):=e;have i0:md [.lst (ay L),.ins "Sheet" ow] (.ref 0)=some ⟨ay L,[(0,.lst (ay L))]⟩:=nF rfl;show ev [] (.nw true (.lc 1 (.e (.v 2)) (.nm 3) .no (.nw false (.lof (.v 3))))) [Rs 1,Is w,Rs 0] [.lst (ay L),.ins "Sheet" ow]=_;simp [-ay,i0,bU (show L.length <= 1000 by lia),e']
 refine ah (st':=[.lst (ay L),.ins "Sheet" Fd,.lst (ay L),.lst (nL (List.range w))]) (gA (v:=.ref 3) (st':=[.lst (ay L),.ins "Sheet" Fe,.lst (ay L),.lst (nL (List.range w))]) (k:=1) (fs:=Fe) ?_ rfl rfl rfl) ?_
 ·simp[tH,sm,lO]
 refine ah (st':=[.lst (ay L),.ins "Sheet" Fc,.lst (ay L),.lst (nL (List.range w)),.lst (nL ((List.range L.length).map (w+·)))]) (gA (v:=.ref 4) (st':=[.lst (ay L),.ins "Sheet" Fd,.lst (ay L),.lst (nL (List.range w)),.lst (nL ((List.range L.length).map (w+·)))]) (k:=1) (fs:=Fd) ?_ rfl rfl rfl) ?_
 ·simp[tG,sm,sm2,bZ,d5,l0]
  have e:((w:Int)+(L.length:Int)).toNat-w=L.length:=by lia
  rw[e,FV,yI oM];simp
 refine ah (st':=[.lst (ay L),.ins "Sheet" Fb,.lst (ay L),.lst (nL (List.range w)),.lst (nL ((List.range L.length).map (w+·))),.dK []]) (gA (v:=.ref 5) (st':=[.lst (ay L),.ins "Sheet" Fc,.lst (ay L),.lst (nL (List.range w)),.lst (nL ((List.range L.length).map (w+·))),.dK []]) (k:=1) (fs:=Fc) rfl rfl rfl rfl) ?_;refine ah (st':=[.lst (ay L),.ins "Sheet" Fa,.lst (ay L),.lst (nL (List.range w)),.lst (nL ((List.range L.length).map (w+·))),.dK [],.dK []]) (gA (v:=.ref 6) (st':=[.lst (ay L),.ins "Sheet" Fb,.lst (ay L),.lst (nL (List.range w)),.lst (nL ((List.range L.length).map (w+·))),.dK [],.dK []]) (k:=1) (fs:=Fb) rfl rfl rfl rfl) ?_;refine ah (st':=[.lst (ay L),.ins "Sheet" (cD 1 2 3 4 5 6 7),.lst (ay L),.lst (nL (List.range w)),.lst (nL ((List.range L.length).map (w+·))),.dK [],.dK [],.dK []]) (gA (v:=.ref 7) (st':=[.lst (ay L),.ins "Sheet" Fa,.lst (ay L),.lst (nL (List.range w)),.lst (nL ((List.range L.length).map (w+·))),.dK [],.dK [],.dK []]) (k:=1) (fs:=Fa) rfl rfl rfl rfl) ?_;rfl
theorem GW{k:Nat}(h1:ev ks a sl st=some (.ref k,st))(h2:ev ks e sl st=some (y,st))(h3:st[k]?=some (.lst xs))(h4:bA st y=some ys)(hl:xs.length+ys.length<=1000):ev ks (.mt .ext a (.cons e .nil)) sl st=some (.non,st.set k (.lst (xs++ys))):=by
 simp[k4,pM,pL,h1,ph,bu h3,h2,tP,gD,h3,h4,bU hl]
theorem Aw{k:Nat}(h1:ev ks a sl st=some (.ref k,st))(h2:ev ks e sl st=some (y,st))(h3:st[k]?=some (.lst xs))(hl:xs.length<=1000):ev ks (.mt .app a (.cons e .nil)) sl st=some (.non,st.set k (.lst (xs++[y]))):=by
 simp[k4,pM,pL,h1,ph,bu h3,h2,pP,gD,h3,bU hl]
theorem D0{n:Int}(HR:∀st,pm aN [.int n] st=some (.fz (ay RR),st))(HA:∀st,pm ao [.int n] st=some (.int w,st))(hw:w<=15)(hR:RR.length<=100)(hr:∀l∈RR,l.length=w)(hg:gv.length<=100)(hgr:∀x∈gv,x.row.length=w)(hgo:goal.length=w) :
  ∃st',bC [.int n,.fz (gv.map Gv.av),.fz (iL goal)] []=some (.ref 1,st')/\Rep st' 1 2 3 4 5 6 7 (ay (ak RR gv goal)) (openS w (ak RR gv goal) (w+RR.length)):=by
 have hL:(ak RR gv goal).length=RR.length+gv.length+1:=by simp[ak];lia
 -- the loop that guards
 have R0:Rep [.lst (ay (ak RR gv goal)),.ins "Sheet" (cD 1 2 3 4 5 6 7),.lst (ay (ak RR gv goal)),.lst (nL (List.range w)),.lst (nL ((List.range (ak RR gv goal).length).map (w+·))),.dK [],.dK [],.dK []] 1 2 3 4 5 6 7 (ay (ak RR gv goal)) (openS w (ak RR gv goal) 0):=by
  refine⟨rfl,rfl,rfl,rfl,rfl,rfl,rfl,by simp[openS],fun i x h=>.inl ?_,by decide,by decide,by decide,by decide,by decide,by decide,fun i r h=>?_⟩
  ·unfold ay at h
   rw[zR]at h;obtain⟨l,h1,rfl⟩:=zE.mp h;show _=AV.fz (iL ((ak RR gv goal).getD i []));rw[zD,h1];rfl
  ·unfold ay at h
   rw[zR]at h;obtain⟨l,h1,h2⟩:=zE.mp h;cases h2
 obtain⟨sl',st',e,x,rfl,R'⟩:=dR (gd:=[]) (g:=bM [aN,ao,aB,aL] (.nm 6)) (s:=aj [aN,ao,aB,aL] (.cons (.ex (.me "Sheet" "guard" 3 (.v 5) (.cons (.v 6) .nil))) .nil))
  (I:=fun i sl s=>∃x,sl=[Is n,Zs (gv.map Gv.av),Ls goal,Rs 0,Is ((w:Int)+(RR.length:Int)),Rs 1,x]/\Rep s 1 2 3 4 5 6 7 (ay (ak RR gv goal)) (openS w (ak RR gv goal) i)) (xs:=cF 0 (w+RR.length)) (fun _ _ _ _ _=>rfl)
  (fun i y sl s hy hI=>by
   obtain⟨x,rfl,R⟩:=hI;rw[lO]at hy;have hi:i<w+RR.length:=by have:=(zB.mp hy).1;simpa using this
   have ey:y=.int ((i:Nat):Int):=by
    rw[fK (by simpa using hi)]at hy;injection hy with hy;rw[<- hy];simp[zD,hi]
   subst ey;obtain⟨s',e1,R1⟩:=rW (q:=i) R (by simp[openS];lia);refine⟨_,[Is n,Zs (gv.map Gv.av),Ls goal,Rs 0,Is ((w:Int)+(RR.length:Int)),Rs 1,Is ((i:Nat):Int)],s',rfl,?_,_,rfl,?_⟩
   ·simp[R.ins,e1]
   ·have:ins (List.range i) i=List.range (i+1):=by unfold ins;rw[yH (by simp),List.range_succ]
    have h2:{ openS w (ak RR gv goal) i with gd:=ins (openS w (ak RR gv goal) i).gd i }=openS w (ak RR gv goal) (i+1):=by show Sh.mk _ _ _ _ (ins (List.range i) i) _ _=_;rw[this];rfl
    rw[h2]at R1;exact R1) (sl:=[Is n,Zs (gv.map Gv.av),Ls goal,Rs 0,Is ((w:Int)+(RR.length:Int)),Rs 1,none]) (st:=_) ⟨none,rfl,R0⟩
 have ll:(cF 0 (w+RR.length)).length=w+RR.length:=by rw[lO];simp
 rw[ll]at R';refine⟨st',?_,R'⟩;rw[bC,aD];unfold fy;refine ah (sl':=[Is n,Zs (gv.map Gv.av),Ls goal,Rs 0,none,none,none]) (st':=[.lst (ay (RR.map (·++[0])))]) ?_ ?_
 ·have lc:=tR (gd:=[]) (g:=bM [aN,ao,aB,aL] (.nm 7)) (t:=iy [aN,ao,aB,aL] .no) (f:=ev [aN,ao,aB,aL] (.nw false (.cat (.v 7) (.nw false (.li (.cons (.i 0) .nil))))))
   (sl:=[Is n,Zs (gv.map Gv.av),Ls goal,none,none,none,none,none]) (st:=[]) (em:=fun l=>.fz (iL l)) (F:=fun l=>l++[0]) (xs:=RR) rfl fun l hl=>⟨_,rfl,rfl,by
    rw[lq,i8 (l:=l) (l':=[0]) (s1:=[]) (s2:=[]) (y:=.fz (iL [0])) rfl (by simp[cj,iL]) rfl rfl (by rw[hr l hl];simp;lia)];simp⟩
  have lc':f8 [] (bM [aN,ao,aB,aL] (.nm 7)) (iy [aN,ao,aB,aL] .no) (ev [aN,ao,aB,aL] (.nw false (.cat (.v 7) (.nw false (.li (.cons (.i 0) .nil)))))) [Is n,Zs (gv.map Gv.av),Ls goal,none,none,none,none,none] (ay RR) []=some (ay (RR.map (·++[0])),[]):=lc;simp [HR,bU (show RR.length <= 1000 by lia),lc']
 have l0:∀(x:List AV)(X:aa),bA (.lst x::X) (.ref 0)=some x:=fun x X=>bu rfl
 refine ah (sl':=[Is n,Zs (gv.map Gv.av),Ls goal,Rs 0,Is ((w:Int)+(RR.length:Int)),none,none]) (st':=[.lst (ay (RR.map (·++[0])))]) (by simp[HA,bZ,d5,l0]) ?_;refine ah (sl':=[Is n,Zs (gv.map Gv.av),Ls goal,Rs 0,Is ((w:Int)+(RR.length:Int)),none,none]) (st':=[.lst (ay (RR.map (·++[0]))++ay (gv.map fun x=>x.row++[-x.num]))]) ?_ ?_
 ·rw[xc,GW (k:=0) (xs:=ay (RR.map (·++[0]))) (ys:=ay (gv.map fun x=>x.row++[-x.num])) (y:=.fz (ay (gv.map fun x=>x.row++[-x.num]))) rfl ?_ rfl rfl (by simp;lia)]
  ·rfl
  ·have lc:=tR (gd:=[]) (g:=bM [aN,ao,aB,aL] (.tu 3 (.cons (.nm 7) (.cons (.nm 8) (.cons (.nm 9) .nil))))) (t:=iy [aN,ao,aB,aL] .no) (f:=ev [aN,ao,aB,aL] (.nw false (.cat (.nw false (.lof (.v 7))) (.nw false (.li (.cons (.un .USub (.v 9)) .nil))))))
    (sl:=[Is n,Zs (gv.map Gv.av),Ls goal,Rs 0,Is ((w:Int)+(RR.length:Int)),none,none,none,none,none]) (st:=[.lst (ay (RR.map (·++[0])))]) (em:=Gv.av) (F:=fun x=>x.row++[-x.num]) (xs:=gv) rfl fun x hx=>⟨_,rfl,rfl,by
     rw[lq,i8 (l:=x.row) (l':=[-x.num]) (s1:=[.lst (ay (RR.map (·++[0])))]) (s2:=[.lst (ay (RR.map (·++[0])))]) (x:=.fz (iL x.row)) (y:=.fz (iL [-x.num])) (by simp[ny]) (by simp[cj,iL]) rfl rfl (by rw[hgr x hx];simp;lia)];simp⟩
   simp [bU (show gv.length <= 1000 by lia),lc]
 refine ah (sl':=[Is n,Zs (gv.map Gv.av),Ls goal,Rs 0,Is ((w:Int)+(RR.length:Int)),none,none]) (st':=[.lst (ay (ak RR gv goal))]) ?_ ?_
 ·rw[xc,Aw (k:=0) (xs:=ay (RR.map (·++[0]))++ay (gv.map fun x=>x.row++[-x.num])) (y:=.fz (iL (goal.map (fun x=>- x)++[0]))) rfl ?_ rfl (by simp;lia)]
  ·rw[bind_some]
   have:ay (RR.map (·++[0]))++ay (gv.map fun x=>x.row++[-x.num])++[AV.fz (iL (goal.map (fun x=>- x)++[0]))]=ay (ak RR gv goal):=by
    simp[ak,ay]
   show some (Out.nx _ [.lst (_++[_])])=_;rw[this]
  ·rw[lq,i8 (l:=goal.map fun x=>- x) (l':=[0]) (s1:=[.lst (ay (RR.map (·++[0]))++ay (gv.map fun x=>x.row++[-x.num]))]) (s2:=[.lst (ay (RR.map (·++[0]))++ay (gv.map fun x=>x.row++[-x.num]))]) (x:=.fz (iL (goal.map fun x=>- x))) (y:=.fz (iL [0])) ?_ (by simp[cj,iL]) rfl rfl (by simp[hgo];lia)]
   ·simp
   ·simp [bU (show goal.length <= 1000 by lia)]
    rw[ji (F:=fun x=>- x) fc fun x hx=>⟨_,rfl,rfl,by simp⟩];simp
 refine ah (sl':=[Is n,Zs (gv.map Gv.av),Ls goal,Rs 0,Is ((w:Int)+(RR.length:Int)),Rs 1,none]) (st':=JV w (ak RR gv goal)) ?_ ?_
 ·have:=ES (w:=w) (L:=ak RR gv goal) oM oM
  simp[wC,HA,this]
 ·refine ah (sl':=[Is n,Zs (gv.map Gv.av),Ls goal,Rs 0,Is ((w:Int)+(RR.length:Int)),Rs 1,x]) (st':=st') ?_ (by simp)
  have rb:eM ((w:Int)+(RR.length:Int))=true:=by
   unfold eM;refine yL ?_;have:((w:Int)+(RR.length:Int)).natAbs=w+RR.length:=by lia
   rw[this];by_cases h0:w+RR.length=0
   ·rw[h0];decide
   ·exact yZ ((Nat.log2_lt h0).mpr oM)
  simp[vT,rb];rw[show((w:Int)+(RR.length:Int)).toNat=w+RR.length by lia];exact e
end
noncomputable def gL(l:List Int):Nat:=l.foldl (fun g x=>Nat.gcd g x.natAbs) 0
def aG(l:List Int):List Int:=if gL l=0 then l else l.map fun x=>x/(gL l:Int)
theorem ym{d o:Nat}:Nat.gcd o (d%o)=Nat.gcd d o:=by rw[Nat.gcd_comm,<- Nat.gcd_rec,Nat.gcd_comm]
theorem Kf:∀(o d:Nat)(y:Option AV),∃y',cA [] (.wh (.cmp .NotEq (.v 3) (.i 0)) (.cons (.as (.bin .Mod (.v 1) (.v 3)) (.nm 4)) (.cons (.as (.v 3) (.nm 1)) (.cons (.as (.v 4) (.nm 3)) .nil)))) [l,Is d,x,Is o,y] st=some (.nx [l,Is (Nat.gcd d o:Nat),x,Is 0,y'] st):=by
 intro o
 induction o using Nat.strongRecOn with
 |_ o ih =>
  intro d y;by_cases h:o=0
  ·subst h
   refine⟨y,?_⟩;rw[Nat.gcd_zero_right];exact lM (n:=1) (j3 (by simp))
  ·obtain⟨y',e⟩:=ih (d%o) (Nat.mod_lt _ oM) o (some (.int ((d%o:Nat):Int)))
   obtain⟨n,e'⟩:=vx e;refine⟨y',?_⟩;rw[ym]at e';refine lM (n:=n+1) (mX (st':=st) (by simp;lia) ?_ e');have h0:(o:Int)≠0:=by lia
   have hm:ou (d:Int) (o:Int)=((d%o:Nat):Int):=by unfold ou;rw[yI oM];simp
   simp[gE h0,hm]
theorem v7:gL (a++b)=b.foldl (fun g x=>Nat.gcd g x.natAbs) (gL a):=by unfold gL;rw[List.foldl_append]
theorem qc:∀b:List Int,b.foldl (fun g x=>Nat.gcd g x.natAbs) 1=1
 |[]=>rfl
 |x::b=>by rw[List.foldl_cons,Nat.gcd_one_left];exact qc b
theorem Jt:∃r,ci [.fz (iL l)] st=some (r,st)/\r=.int (gL l:Int):=by
 have hl:=nK (gd:=[]) (g:=bM [] (.nm 2)) (s:=aj [] (.cons (.as (.bi .abs (.cons (.v 2) .nil)) (.nm 3)) (.cons (.wh (.cmp .NotEq (.v 3) (.i 0)) (.cons (.as (.bin .Mod (.v 1) (.v 3)) (.nm 4)) (.cons (.as (.v 3) (.nm 1)) (.cons (.as (.v 4) (.nm 3)) .nil)))) (.cons (.iff (.cmp .Eq (.v 1) (.i 1)) (.cons (.rt (.i 1)) .nil) .nil) .nil))))
  (I:=fun i sl s=>s=st/\∃x y z,sl=[Ls l,Is (gL (l.take i):Nat),x,y,z]) (Post:=fun v s=>s=st/\v=.int (gL l:Nat)) (xs:=iL l) (fun _ _ _ _ _=>rfl)
  (fun i x sl s hx hI=>by
   obtain⟨rfl,x1,x2,x3,rfl⟩:=hI;have hi:i<l.length:=by have:=(zB.mp hx).1;simpa using this
   rw[bL hi]at hx;injection hx with hx;subst hx;have ht:l.take (i+1)=l.take i++[gI l i]:=by
    rw[List.take_succ,zF hi];unfold gI;rw[zD,zF hi];rfl
   have hg:gL (l.take (i+1))=Nat.gcd (gL (l.take i)) (gI l i).natAbs:=by rw[ht,v7];rfl
   obtain⟨y',e⟩:=Kf (l:=some (.fz (iL l))) (x:=some (.int (gI l i))) (st:=s) (gI l i).natAbs (gL (l.take i)) x3;rw[<- hg]at e;have ea:qC s [.int (gI l i)]=some (.int ((gI l i).natAbs:Nat)):=by
    show some (AV.int (if gI l i<0 then-gI l i else gI l i))=_;congr 2;split<;>lia
   have st1:cA [] (.as (.bi .abs (.cons (.v 2) .nil)) (.nm 3)) [Ls l,Is (gL (l.take i):Nat),Is (gI l i),x2,x3] s=some (.nx [Ls l,Is (gL (l.take i):Nat),Is (gI l i),Is ((gI l i).natAbs:Nat),x3] s):=by
    simp[bZ,ea]
   by_cases h1:gL (l.take (i+1))=1
   ·refine⟨_,.rt (.int 1) s,rfl,aq st1 (aq e ?_),.inr ⟨_,s,rfl,rfl,?_⟩⟩
    ·simp[h1]
    ·have:gL l=1:=by
      have:l=l.take (i+1)++l.drop (i+1):=(List.take_append_drop _ _).symm;rw[this,v7,h1,qc]
     rw[this];rfl
   ·refine⟨_,.nx [Ls l,Is (gL (l.take (i+1)):Nat),Is (gI l i),Is 0,y'] s,rfl,aq st1 (aq e ?_),.inl ⟨_,s,rfl,rfl,_,_,_,rfl⟩⟩
    have:¬((gL (l.take (i+1)):Nat):Int)=1:=by lia
    simp[this]) (sl:=[Ls l,Is 0,none,none,none]) (st:=st) ⟨rfl,none,none,none,rfl⟩
 rcases hl with⟨sl',st',e,rfl,x,y,z,rfl⟩|⟨v,st',e,rfl,rfl⟩
 ·refine⟨_,?_,rfl⟩
  rw[fq,List.take_length]at e;simp[ci,aD,dw,e]
 ·refine⟨_,?_,rfl⟩
  simp[ci,aD,dw,e]
theorem EY:∀x∈l,gL l ∣ x.natAbs:=by
 have go:∀(b:List Int)(g:Nat),(b.foldl (fun g x=>Nat.gcd g x.natAbs) g) ∣ g/\∀x∈b,(b.foldl (fun g x=>Nat.gcd g x.natAbs) g) ∣ x.natAbs:=fun b=>by
  induction b with
  |nil=>intro g;exact⟨Nat.dvd_refl g,fun x hx=>by cases hx⟩
  |cons y b ih =>
   intro g;obtain⟨h1,h2⟩:=ih (Nat.gcd g y.natAbs);refine⟨Nat.dvd_trans h1 (Nat.gcd_dvd_left _ _),fun x hx=>?_⟩;rcases zT.mp hx with rfl|hx
   ·exact Nat.dvd_trans h1 (Nat.gcd_dvd_right _ _)
   ·exact h2 x hx
 exact(go l 0).2
theorem GQ{B:Nat}(hB:0<B)(h:∀x∈l,x.natAbs<B):gL l<B:=by
 by_cases hz:∃x∈l,x≠0
 ·obtain⟨x,hx,h0⟩:=hz
  exact yM (Nat.le_of_dvd oM (EY x hx)) (h x hx)
 ·have:∀(b:List Int),(∀x∈b,x=0)->b.foldl (fun g x=>Nat.gcd g x.natAbs) 0=0:=fun b=>by
   induction b with
   |nil=>intro _;rfl
   |cons y b ih=>intro hb;rw[List.foldl_cons,hb y z7];exact ih fun x hx=>hb x (zQ _ hx)
  have e:gL l=0:=this l fun x hx=>Classical.byContradiction fun z=>hz ⟨x,hx,z⟩
  lia
theorem oV(hl:l.length<=1000)(hb:∀x∈l,x.natAbs<2^9000):ag [.fz (iL l)] []=some (.fz (iL (aG l)),[]):=by
 obtain⟨r,e,rfl⟩:=Jt (l:=l) (st:=[]);have ep:∀st,pm ci [.fz (iL l)] st=some (.int (gL l:Int),st):=fun st=>cL rfl e rfl
 unfold aG;by_cases h:gL l=0
 ·rw[yI h]
  simp[ag,aD,c4,ep,h,ny]
 ·rw[yH h]
  have h':¬((gL l:Nat):Int)=0:=by lia
  have dv:dD ((gL l:Nat):Int)=true:=wl h' (by rw[Int.natAbs_natCast];exact GQ (Nat.two_pow_pos _) hb);simp[ag,aD,c4,ep,h,bU hl];rw[ji (F:=fun x=>x/(gL l:Int)) fc fun x hx=>⟨_,rfl,rfl,by
   simp[kt dv];unfold rZ;rw[yI oM]⟩]
  simp
theorem pQ(hl:l.length<=1000)(hb:∀x∈l,x.natAbs<2^9000):pm ag [.fz (iL l)] st=some (.fz (iL (aG l)),st):=cL rfl (oV hl hb) rfl
theorem lB:(aG l).length=l.length:=by unfold aG;split<;>simp
theorem E7{a b:Int}(ha:a.natAbs<2^9000)(hb:b.natAbs<2^9000):pm cE [.int a,.int b] st=some (.tup [.int (gI (aG [a,b]) 0),.int (gI (aG [a,b]) 1)],st):=by
 have e:=pQ (l:=[a,b]) (st:=[]) (by simp) (fun x hx=>by simp at hx;rcases hx with rfl|rfl<;>assumption);have h2:(aG [a,b]).length=2:=lB;have x0:cm [] (.fz (iL (aG [a,b]))) (.int 0)=some (.int (gI (aG [a,b]) 0)):=by
  have:=cq (st:=[]) (x:=.fz (iL (aG [a,b]))) (i:=((0:Nat):Int)) fj;rw[b8,bL oM]at this;exact this
 have x1:cm [] (.fz (iL (aG [a,b]))) (.int 1)=some (.int (gI (aG [a,b]) 1)):=by
  have:=cq (st:=[]) (x:=.fz (iL (aG [a,b]))) (i:=((1:Nat):Int)) fj;rw[b8,bL oM]at this;exact this
 refine cL rfl (v:=.tup [.int (gI (aG [a,b]) 0),.int (gI (aG [a,b]) 1)]) (st':=[]) ?_ rfl;have e':pm ag [.fz [.int a,.int b]] []=some (.fz (iL (aG [a,b])),[]):=e;simp[cE,aD,d7,cj,e',x0,x1]
structure GX(S:Sh)(w cc k:Nat)(X:List Int):Prop where
 len:X.length=w
 at_:∀i,i<k->S.s i<w->gI X (S.s i)=S.t i cc
 no:∀q,q<w->(∀i,i<k->S.s i≠q)->gI X q=0
section
variable{st:aa}{k a b c g n u w m:Nat}{rows:List AV}{S:Sh}{v:Nat->Nat->Int}{nn:Int}
theorem zx{j:Nat}(h:ev ks e sl st=some (.int (j:Int),st))(hj:j<=1000):g7 ks (.rep (.cons (.i 0) .nil) e) sl st=some (iL (List.replicate j 0),st):=by
 rw[Gq];unfold tF;have h1:dJ ks (.cons (.i 0) .nil) sl st=some ([.int 0],st):=rfl;rw[h1,bind_some];dsimp only;rw[h,bind_some];dsimp only;have rb:eM (j:Int)=true:=by
  unfold eM;refine yL ?_;rw[Int.natAbs_natCast];by_cases h0:j=0
  ·rw[h0];decide
  ·exact yZ ((Nat.log2_lt h0).mpr (yM hj dC))
 rw[rb,bU (n:=[AV.int 0].length*((j:Int)).toNat) (by simp;lia),bU (n:=[AV.int 0].length) (by simp)];show some _=some _;congr 2;show(List.replicate j [AV.int 0]).flatten=iL (List.replicate j 0);unfold iL
 induction j with
 |zero=>rfl
 |succ j ih=>rw[List.replicate_succ,List.flatten_cons,List.replicate_succ,zO];simp
theorem wa{j q:Nat}:gI (List.replicate j 0) q=0:=by
 unfold gI;rw[zD,List.getElem?_replicate];split<;>rfl
theorem Aj(R:Rep st k a b c g n u rows S)(P:L4 w m S)(Q:SX.Pm w m S.h S.s)(HA:∀st,pm ao [.int nn] st=some (.int w,st))(hw:w<=100)(hm:m<=1000){cI:Int}{cc:Nat}
  (hx:∀{s:aa}{a:Nat}{rows:List AV},Rep s k a b c g n u rows S->∀i,i<m->cm s (jD rows i) (.int cI)=some (.int (S.t i cc))) :
  ∃X,cz [.int nn,.ref k,.int cI] st=some (.ref st.length,st++[.lst (iL X)])/\GX S w cc m X:=by
 have sl:S.sd.length=m:=P.sd;obtain⟨sl',st',e,X,x1,x2,rfl,rfl,hX⟩:=dR (gd:=[(c,.lst (nL S.sd))]) (g:=bM [ao] (.tu 2 (.cons (.nm 4) (.cons (.nm 5) .nil)))) (s:=aj [ao] (.cons (.iff (.cmp .Lt (.v 5) (.bi .len (.cons (.v 3) .nil))) (.cons (.as (.ix (.ix (.fd "Sheet" "lines" (.v 1)) (.v 4)) (.v 2)) (.su (.v 3) (.v 5))) .nil) .nil) .nil))
  (I:=fun i sl s=>∃X x1 x2,s=st++[.lst (iL X)]/\sl=[Is nn,Rs k,Is cI,Rs st.length,x1,x2]/\GX S w cc i X) (xs:=dG 0 (nL S.sd)) (fun i sl s _ hI=>by obtain⟨X,_,_,rfl,_⟩:=hI;exact fO (R.app (ys:=[_])).hc)
  (fun i y sl s hy hI=>by
   obtain⟨X,x1,x2,rfl,rfl,hX⟩:=hI;obtain⟨x,hx',rfl⟩:=mG hy;have hi:i<m:=by have:=(zB.mp hx').1;simpa [sl] using this
   have hs0:(nL S.sd)[i]?=some (.int ((S.s i:Nat):Int)):=fK oM;rw[hs0]at hx';injection hx' with hx';subst hx';have Ra:=R.app (ys:=[LQ.lst (iL X)]);have ll:bA (st++[LQ.lst (iL X)]) (.ref st.length)=some (iL X):=bu gl;by_cases h:S.s i<w
   ·refine⟨_,[Is nn,Rs k,Is cI,Rs st.length,Is i,Is (S.s i:Int)],st++[.lst (iL (X.set (S.s i) (S.t i cc)))],rfl,?_,X.set (S.s i) (S.t i cc),_,_,rfl,rfl,?_⟩
    ·have hs:=cO (x:=.int (S.t i cc)) (gl (st:=st) (e:=LQ.lst (iL X))) (show S.s i < (iL X).length by simp [hX.len,h])
     rw[dI,eJ]at hs;have lt':S.s i<X.length:=by rw[hX.len];exact h
     simp[bZ,d5,ll,lt',Ra.ins,Ra.line P hi,hx Ra i hi,hs]
    ·refine⟨by simp[hX.len],fun j hj hs=>?_,fun q hq hn=>?_⟩
     ·by_cases e:j=i
      ·subst e;rw[SX.gI_set_at (by rw[hX.len];exact h)]
      ·rw[SX.gI_set_ne (fun z=>e (Q.si j i oM hi z))];exact hX.at_ j oM hs
     ·rw[SX.gI_set_ne (fun z=>hn i oM z.symm)];exact hX.no q hq fun j hj=>hn j oM
   ·refine⟨_,[Is nn,Rs k,Is cI,Rs st.length,Is i,Is (S.s i:Int)],st++[.lst (iL X)],rfl,?_,X,_,_,rfl,rfl,?_⟩
    ·have lt':¬S.s i<X.length:=by rw[hX.len];exact h
     simp[bZ,d5,ll,lt']
    ·refine⟨hX.len,fun j hj hs=>?_,fun q hq hn=>hX.no q hq fun j hj=>hn j oM⟩
     by_cases e:j=i
     ·subst e;exact absurd hs h
     ·exact hX.at_ j oM hs) (sl:=[Is nn,Rs k,Is cI,Rs st.length,none,none]) (st:=st++[.lst (iL (List.replicate w 0))]) ⟨_,none,none,rfl,rfl,by simp,fun i hi=>by lia,fun q _ _=>wa⟩
 rw[ki,pH,sl]at hX;refine⟨X,?_,hX⟩;rw[cz,aD];unfold dM;refine ah (sl':=[Is nn,Rs k,Is cI,Rs st.length,none,none]) (st':=st++[.lst (iL (List.replicate w 0))]) ?_ ?_
 ·rw[dB,wP,zx (j:=w) (by simp[HA]) oM];rfl
 refine ah (sl':=[Is nn,Rs k,Is cI,Rs st.length,x1,x2]) (st':=st++[.lst (iL X)]) ?_ (by simp);have Ra:=R.app (ys:=[LQ.lst (iL (List.replicate w 0))]);simp[Ra.ins,iV Ra.hc];exact e
theorem rP{n:Nat}:(iL l).take n=iL (l.take n):=by unfold iL;rw[List.map_take]
theorem rQ{n:Nat}:(iL l).drop n=iL (l.drop n):=by unfold iL;rw[List.map_drop]
theorem qp{n:Nat}(hl:l.length=n+1):cut (iL l) none (some (-1))=iL (l.take n):=by
 unfold cut;rw[fq,hl,HT.sIx_none,List.drop_zero];have:HT.L6 (n+1) (n+1) (some (-1))=n:=by
  show(if(-1:Int)<0 then((-1:Int)+((n+1:Nat):Int)).toNat else min (-1:Int).toNat (n+1))=n;rw[yI dC];lia
 rw[this,Nat.sub_zero,rP]
theorem Cm{w m:Nat}(hl:l.length=w+(m+1)):cut (iL l) (some (w:Int)) (some (-1))=iL ((l.drop w).take m):=by
 unfold cut;rw[fq,hl,HT.sIx_nat];have:HT.L6 (w+(m+1)) (w+(m+1)) (some (-1))=w+m:=by
  show(if(-1:Int)<0 then((-1:Int)+((w+(m+1):Nat):Int)).toNat else min (-1:Int).toNat (w+(m+1)))=w+m;rw[yI dC];lia
 rw[this,Nat.min_eq_left oM,rQ,rP,show w+m-w=m by lia]
theorem Ez{d:Int}(hl:X.length<=100)(hb:∀x∈X,x.natAbs<2^9000)(hd:d.natAbs<2^9000):dh [.fz (iL X),.int d] []=some (.tup [.fz (iL ((aG (X++[d])).take X.length)),.int (gI (aG (X++[d])) X.length)],[]):=by
 have ll:(aG (X++[d])).length=X.length+1:=by rw[lB];simp
 have e:=pQ (l:=X++[d]) (st:=[]) (by simp;lia) fun x hx=>by
  rcases zZ.mp hx with h|h
  ·exact hb x h
  ·rw[zM.mp h];exact hd
 have xl:cm [] (.fz (iL (aG (X++[d])))) (.int (-1))=some (.int (gI (aG (X++[d])) X.length)):=by
  rw[cq fj,nT (n:=X.length) (by simp[ll]),bL oM]
 rw[dh,aD];unfold fQ;refine ah (sl':=[Ls X,Is d,Ls (aG (X++[d]))]) (st':=[]) ?_ ?_
 ·have c:=i8 (ks:=[ag]) (a:=.v 0) (b:=.nw false (.li (.cons (.v 1) .nil))) (sl:=[Ls X,Is d,none]) (st:=[]) (s1:=[]) (s2:=[]) (x:=.fz (iL X)) (y:=.fz (iL [d])) (l:=X) (l':=[d]) rfl (by simp[cj,iL]) rfl rfl (by simp;lia)
  simp[-tE,c,e]
 ·simp[lV,lS,qp ll,xl]
theorem zr(R:Rep st k a b c g n u rows S)(P:L4 w m S)(Q:SX.Pm w m S.h S.s)(B:Bd w m S)(HA:∀st,pm ao [.int nn] st=some (.int w,st))(hw:w<=100)(hm:m<=1000) :
  ∃X T st1,aO [.int nn,.ref k] st=some (.tup [.fz (iL T),.int (gI (aG (X++[S.d])) w)],st1)/\T=(aG (X++[S.d])).take w/\GX S w w m X/\Rep st1 k a b c g n u rows S:=by
 obtain⟨X,e,hX⟩:=Aj (cI:=-1) (cc:=w) R P Q HA hw hm fun R' i hi=>R'.last P hi
 have hb:∀x∈X,x.natAbs<2^9000:=fun x hx=>by
  obtain⟨q,hq⟩:=z9 hx;have hl:=(zB.mp hq).1;rw[hX.len]at hl;have eg:gI X q=x:=by unfold gI;rw[zD,hq];rfl
  by_cases h:∃i,i<m/\S.s i=q
  ·obtain⟨i,hi,rfl⟩:=h
   rw[<- eg,hX.at_ i hi hl];exact B.2 i hi w oM
  ·rw[<- eg,hX.no q hl fun i hi z=>h ⟨i,hi,z⟩];exact Nat.two_pow_pos _
 obtain⟨st1,e1,h1⟩:=jF (fn:=dh) (rest:=[.int S.d]) (x:=.ref st.length) (l:=X) (.inr ⟨_,rfl,.inl (gl (st:=st) (e:=.lst (iL X)))⟩) rfl rfl (fun s=>by simp[mB,oq]) (Ez (by rw[hX.len];lia) hb B.1) rfl (by simp[flat,mE]);refine⟨X,_,st1,?_,rfl,hX,?_⟩
 ·have Ra:=R.app (ys:=[LQ.lst (iL X)])
  rw[hX.len]at e1;simp[aO,aD,eO,e,Ra.ins,e1]
 ·rcases h1 with rfl|⟨r,hr,_,rfl⟩
  ·exact R.app
  ·cases hr;rw[eJ];exact R.app
theorem FJ(R:Rep st k a b c g n u rows S)(P:L4 w m S)(Q:SX.Pm w m S.h S.s)(B:Bd w m S)(HA:∀st,pm ao [.int nn] st=some (.int w,st))(hw:w<=100)(hm:m<=1000){q:Nat}(hq:q<w) :
  ∃X st1,bX [.int nn,.ref k,.int q] st=some (.fz (iL (aG (if S.h q<w then X.set (S.h q) S.d else X))),st1)/\GX S w q m X:=by
 obtain⟨X,e,hX⟩:=Aj (cI:=q) (cc:=q) R P Q HA hw hm fun R' i hi=>R'.cell P hi oM
 have hb:∀x∈X,x.natAbs<2^9000:=fun x hx=>by
  obtain⟨j,hj⟩:=z9 hx;have hl:=(zB.mp hj).1;rw[hX.len]at hl;have eg:gI X j=x:=by unfold gI;rw[zD,hj];rfl
  by_cases h:∃i,i<m/\S.s i=j
  ·obtain⟨i,hi,rfl⟩:=h
   rw[<- eg,hX.at_ i hi hl];exact B.2 i hi q oM
  ·rw[<- eg,hX.no j hl fun i hi z=>h ⟨i,hi,z⟩];exact Nat.two_pow_pos _
 have Ra:=R.app (ys:=[LQ.lst (iL X)]);have ll:bA (st++[LQ.lst (iL X)]) (.ref st.length)=some (iL X):=bu gl;by_cases h:S.h q<w
 ·have hb2:∀x∈X.set (S.h q) S.d,x.natAbs<2^9000:=fun x hx=>by
   rcases List.mem_or_eq_of_mem_set hx with h|h
   ·exact hb x h
   ·rw[h];exact B.1
  obtain ⟨st1,e1,h1⟩:=jF (fn:=ag) (rest:=[]) (st:=st++[.lst (iL (X.set (S.h q) S.d))]) (x:=.ref st.length) (l:=X.set (S.h q) S.d) (.inr ⟨_,rfl,.inl gl⟩) rfl rfl (fun s=>rfl) (oV (by simp [hX.len];lia) hb2) rfl (by simp [flat]);refine ⟨X,st1,?_,hX⟩;rw [yI h];have hs:=cO (x:=.int S.d) (gl (st:=st) (e:=LQ.lst (iL X))) (show S.h q < (iL X).length by simp [hX.len,h]);rw [dI,eJ] at hs;have lt':S.h q < X.length:=by rw [hX.len];exact h
  simp[bX,aD,fV,e,Ra.ins,Ra.head P hq,bZ,d5,ll,lt',hs,e1]
 ·obtain⟨st1,e1,h1⟩:=jF (fn:=ag) (rest:=[]) (st:=st++[.lst (iL X)]) (x:=.ref st.length) (l:=X) (.inr ⟨_,rfl,.inl gl⟩) rfl rfl (fun s=>rfl) (oV (by simp[hX.len];lia) hb) rfl (by simp[flat])
  refine⟨X,st1,?_,hX⟩;rw[yH h];have lt':¬S.h q<X.length:=by rw[hX.len];exact h
  simp[bX,aD,fV,e,Ra.ins,Ra.head P hq,bZ,d5,ll,lt',e1]
end
open SX (LV)
structure TK(S:Sh)(w m p:Nat)(T:List Int):Prop where
 len:T.length=w+m
 hd:∀j,j<w->gI T (S.h j)=if S.h j∈S.tn then S.t p j else-S.t p j
 sd:gI T (S.s p)=if S.s p∈S.tn then-S.d else S.d
 no:∀q,q<w+m->(∀j,j<w->S.h j≠q)->q≠S.s p->gI T q=0
def wt(T:List Int)(HO:Nat->List Int)(w j k:Nat):Int:=gI T (w+k)+LV j fun x=>gI T x*gI (HO (x+1)) k
section
variable{st:aa}{k a b c g n u w m p:Nat}{rows:List AV}{S:Sh}{nn:Int}{HO:Nat->List Int}
abbrev KW:List Fn:=[ao,cB,dA]
theorem p8{q x:Nat}{y:Int}(h:q<T.length):gI (T.set q y) x=if x=q then y else gI T x:=by
 by_cases e:x=q
 ·subst e;rw[yI rfl,SX.gI_set_at h]
 ·rw[yH e,SX.gI_set_ne e]
theorem A4(R:Rep st k a b c g n u rows S)(P:L4 w m S)(Q:SX.Pm w m S.h S.s)(hp:p<m)(nt:S.tn.Nodup)(ht:∀q∈S.tn,q<w+m)(hw:w<=100)(hm:m<=800){ss:L5}{r:AV×aa->Prop}
  (h:∀T x1 x2,TK S w m p T->∃z,(aj KW ss [Is nn,Rs k,Is p,Rs st.length,x1,x2,none,none,none,none,none] (st++[LQ.lst (iL T)])).bind ax=some z/\r z) :
  ∃z,(aj KW (.cons (.as (.nw true (.rep (.cons (.i 0) .nil) (.bin .Add (.bi .len (.cons (.fd "Sheet" "heads" (.v 1)) .nil)) (.bi .len (.cons (.fd "Sheet" "sides" (.v 1)) .nil))))) (.nm 3))
   (.cons (.fo (.en (.fd "Sheet" "heads" (.v 1))) (.tu 2 (.cons (.nm 4) (.cons (.nm 5) .nil))) (.cons (.as (.un .USub (.ix (.ix (.fd "Sheet" "lines" (.v 1)) (.v 2)) (.v 4))) (.su (.v 3) (.v 5))) .nil))
   (.cons (.as (.fd "Sheet" "below" (.v 1)) (.su (.v 3) (.ix (.fd "Sheet" "sides" (.v 1)) (.v 2))))
   (.cons (.fd (.fd "Sheet" "turned" (.v 1)) (.nm 5) (.cons (.as (.un .USub (.ix (.v 3) (.v 5))) (.su (.v 3) (.v 5))) .nil)) ss)))) [Is nn,Rs k,Is p,none,none,none,none,none,none,none,none] st).bind ax=some z/\r z:=by
 have lh:bA st (.ref b)=some (nL S.hd):=bu R.hb;have lsd:bA st (.ref c)=some (nL S.sd):=bu R.hc;refine ar (sl':=[Is nn,Rs k,Is p,Rs st.length,none,none,none,none,none,none,none]) (st':=st++[LQ.lst (iL (List.replicate (w+m) 0))]) ?_ ?_
 ·rw[dB,wP,zx (j:=w+m) ?_ oM]
  ·rfl
  ·simp[R.ins,bZ,d5,lh,lsd,P.hd,P.sd]
 -- the heads
 obtain⟨sl',st',e,T,x1,x2,rfl,rfl,hl,h1,h2⟩:=dR (gd:=[(b,.lst (nL S.hd))]) (g:=bM KW (.tu 2 (.cons (.nm 4) (.cons (.nm 5) .nil)))) (s:=aj KW (.cons (.as (.un .USub (.ix (.ix (.fd "Sheet" "lines" (.v 1)) (.v 2)) (.v 4))) (.su (.v 3) (.v 5))) .nil))
  (I:=fun i sl s=>∃T x1 x2,s=st++[LQ.lst (iL T)]/\sl=[Is nn,Rs k,Is p,Rs st.length,x1,x2,none,none,none,none,none]/\T.length=w+m/\(∀j,j<i->gI T (S.h j)=- S.t p j)/\∀q,(∀j,j<i->S.h j≠q)->gI T q=0) (xs:=dG 0 (nL S.hd)) (fun i sl s _ hI=>by obtain⟨X,_,_,rfl,_⟩:=hI;exact fO (R.app (ys:=[_])).hb)
  (fun i y sl s hy hI=>by
   obtain⟨T,x1,x2,rfl,rfl,hl,h1,h2⟩:=hI;obtain⟨x,hx',rfl⟩:=mG hy;have hi:i<w:=by have:=(zB.mp hx').1;simpa [P.hd] using this
   have hs0:(nL S.hd)[i]?=some (.int ((S.h i:Nat):Int)):=fK (by rw [P.hd];exact hi);rw [hs0] at hx';injection hx' with hx';subst hx';have Ra:=R.app (ys:=[LQ.lst (iL T)]);have hb:=Q.hl i hi;have hs:=cO (x:=.int (- S.t p i)) (gl (st:=st) (e:=LQ.lst (iL T))) (show S.h i < (iL T).length by simp [hl,hb]);rw [dI,eJ] at hs;refine ⟨_,[Is nn,Rs k,Is p,Rs st.length,Is i,Is (S.h i:Int),none,none,none,none,none],st++[LQ.lst (iL (T.set (S.h i) (- S.t p i)))],rfl,?_,T.set (S.h i) (- S.t p i),_,_,rfl,rfl,by simp [hl],fun j hj=>?_,fun q hq=>?_⟩
   ·simp [Ra.ins,Ra.line P hp,Ra.cell P hp (show i < w + 1 by lia),hs]
   ·rw[p8 (by rw[hl];exact hb)]
    by_cases e:j=i
    ·subst e;rw[yI rfl]
    ·rw[yH fun z=>e (Q.hi j i oM hi z)];exact h1 j oM
   ·rw[p8 (by rw[hl];exact hb),yH fun z=>hq i oM z.symm];exact h2 q fun j hj=>hq j oM) (sl:=[Is nn,Rs k,Is p,Rs st.length,none,none,none,none,none,none,none]) (st:=st++[LQ.lst (iL (List.replicate (w+m) 0))]) ⟨_,none,none,rfl,rfl,by simp,fun j hj=>by lia,fun q _=>wa⟩
 rw[ki,pH,P.hd]at h1 h2;refine ar (sl':=[Is nn,Rs k,Is p,Rs st.length,x1,x2,none,none,none,none,none]) (st':=st++[LQ.lst (iL T)]) ?_ ?_
 ·have Ra:=R.app (ys:=[LQ.lst (iL (List.replicate (w+m) 0))])
  simp[Ra.ins,iV Ra.hb];exact e
 have Ra:=R.app (ys:=[LQ.lst (iL T)]);have sb:=Q.sl p hp;have hs:=cO (x:=.int S.d) (gl (st:=st) (e:=LQ.lst (iL T))) (show S.s p < (iL T).length by simp [hl,sb]);rw [dI,eJ] at hs;refine ar (sl':=[Is nn,Rs k,Is p,Rs st.length,x1,x2,none,none,none,none,none]) (st':=st++[LQ.lst (iL (T.set (S.s p) S.d))]) (by simp [Ra.ins,Ra.side P hp,hs]) ?_;have l2:(T.set (S.s p) S.d).length=w + m:=by simp [hl]
 obtain⟨T2,hT2⟩:∃x,x=T.set (S.s p) S.d:=⟨_,rfl⟩;rw[<- hT2]at l2 ⊢
 -- the turned
 have Ru:=(R.app (ys:=[LQ.lst (iL T2)])).hu;have ult:u<st.length:=(zB.mp R.hu).1;obtain⟨sl',st',e,T3,x2,rfl,rfl,l3,h3⟩:=dR (gd:=[]) (g:=bM KW (.nm 5)) (s:=aj KW (.cons (.as (.un .USub (.ix (.v 3) (.v 5))) (.su (.v 3) (.v 5))) .nil))
  (I:=fun i sl s=>∃T3 x2,s=(st++[LQ.lst (iL T3)]).set u (.wk (kL S.tn))/\sl=[Is nn,Rs k,Is p,Rs st.length,x1,x2,none,none,none,none,none]/\T3.length=w+m/\∀q,gI T3 q=if q∈S.tn.take i then-gI T2 q else gI T2 q) (xs:=nL S.tn) (fun _ _ _ _ _=>rfl)
  (fun i y sl s hy hI=>by
   obtain⟨T3,x2,rfl,rfl,l3,h3⟩:=hI;have hi:i<S.tn.length:=by have:=(zB.mp hy).1;simpa using this
   rw[fK hi]at hy;injection hy with hy;subst hy;obtain⟨q,hq⟩:∃q,q=S.tn.getD i 0:=⟨_,rfl⟩;rw[<- hq];have qi:S.tn[i]=q:=by rw[hq,zD,zF hi];rfl
   have qm:q∈S.tn:=by rw[<- qi];exact List.getElem_mem hi
   have ql:=ht q qm;have tk:S.tn.take (i+1)=S.tn.take i++[q]:=by rw[List.take_succ,zF hi,qi];rfl
   have qn:q∉S.tn.take i:=fun z=>by
    have:=nt.sublist (List.take_sublist (i+1) S.tn)
    rw[tk,List.nodup_append]at this;exact this.2.2 q z q (by simp) rfl
   have gc:((st++[LQ.lst (iL T3)]).set u (.wk (kL S.tn)))[st.length]?=some (.lst (iL T3)):=by rw[au (zU ult)];exact gl
   have hs:=cO (x:=.int (- gI T3 q)) gc (show q < (iL T3).length by simp [l3,ql]);have sc:((st++[LQ.lst (iL T3)]).set u (.wk (kL S.tn))).set st.length (.lst (iL (T3.set q (- gI T3 q))))=(st++[LQ.lst (iL (T3.set q (- gI T3 q)))]).set u (.wk (kL S.tn)):=by
    rw[List.set_comm _ _ (zU ult),eJ]
   rw[dI,sc]at hs;have xi:cm ((st++[LQ.lst (iL T3)]).set u (.wk (kL S.tn))) (.ref st.length) (.int (q:Int))=some (.int (gI T3 q)):=by rw[cq (bu gc),b8,bL oM]
   refine⟨_,[Is nn,Rs k,Is p,Rs st.length,x1,Is q,none,none,none,none,none],(st++[LQ.lst (iL (T3.set q (- gI T3 q)))]).set u (.wk (kL S.tn)),rfl,?_,_,_,rfl,rfl,by simp[l3],fun x=>?_⟩
   ·simp[xi,hs]
   ·rw[p8 oM,tk]
    by_cases e:x=q
    ·subst e;rw[yI rfl,yI (by simp),h3 x,yH qn]
    ·rw[yH e,h3 x];simp[e]) (sl:=[Is nn,Rs k,Is p,Rs st.length,x1,x2,none,none,none,none,none]) (st:=(st++[LQ.lst (iL T2)]).set u (.wk (kL S.tn))) ⟨T2,x2,rfl,rfl,l2,fun q=>by simp⟩
 rw[pH,List.take_length]at h3;refine ar (sl':=[Is nn,Rs k,Is p,Rs st.length,x1,x2,none,none,none,none,none]) (st':=st++[LQ.lst (iL T3)]) ?_ (h T3 x1 x2 ?_)
 ·have Rb:=R.app (ys:=[LQ.lst (iL T2)])
  have ky:(kL S.tn).map (fun q=>l8 q.1)=nL S.tn:=by unfold kL nL;rw[List.map_map];rfl
  have f1:(((st++[LQ.lst (iL T3)]).set u (.wk (kL S.tn))))[u]?=some (.wk (kL S.tn)):=fu (R.app (ys:=[LQ.lst (iL T3)])).hu;have f2:((st++[LQ.lst (iL T3)]).set u (.wk (kL S.tn))).set u (.dK (kL S.tn))=st++[LQ.lst (iL T3)]:=by
   rw[List.set_set]
   have:=(R.app (ys:=[LQ.lst (iL T3)])).hu
   obtain⟨hlt,hget⟩:=zB.mp this;rw[<- hget,List.set_getElem_self]
  simp[sS,Rb.ins,Rb.hu];rw[show(kL S.tn).map ((fun q=>l8 q.1))=nL S.tn from ky]at *;rw[e];simp[zq,f1,f2]
 ·have e2:∀q,gI T2 q=if q=S.s p then S.d else gI T q:=fun q=>by rw[hT2,p8 (by rw[hl];exact sb)]
  refine⟨l3,fun j hj=>?_,?_,fun q hq hn hns=>?_⟩
  ·rw[h3,e2,yH (Q.hs j p hj hp),h1 j hj];split<;>lia
  ·rw[h3,e2,yI rfl]
  ·rw[h3,e2,yH hns,h2 q hn];split<;>rfl
end
structure HOk(nn:Int)(w nr:Nat)(HO:Nat->List Int):Prop where
 ex:∀grp:Nat,1<=grp->grp<=w->∃rr,(∀st,pm cB [.int nn,.int grp,.int 0] st=some (rr,st))/\∀st,pm dA [.int nn,rr] st=some (.fz (iL (HO grp)),st)
 len:∀grp:Nat,1<=grp->grp<=w->(HO grp).length=nr
 bd:∀(grp:Nat),1<=grp->grp<=w->∀x∈HO grp,x.natAbs<=15
section
variable{st:aa}{k a b c g n u w m p nr:Nat}{rows:List AV}{S:Sh}{nn:Int}{HO:Nat->List Int}
theorem Hl{r q:Nat}{x:Int}(h1:ev ks ea sl s=some (.ref r,s))(h2:ev ks eb sl s=some (.int (q:Int),s))(h3:ev ks ec sl s=some (.int x,s))(hr:s[r]?=some (.lst (iL l)))(hq:q<l.length):cA ks (.aus .Add ea eb ec) sl s=some (.nx sl (s.set r (.lst (iL (l.set q (gI l q+x)))))):=by
 rw[FU];unfold sU;rw[h1,bind_some];dsimp only;rw[h2,bind_some];dsimp only;rw[bu hr,bind_some,b8,bL hq,bind_some,h3,bind_some];dsimp only;have:uf .Add s (.int (gI l q)) (.int x)=some (.int (gI l q+x)):=rfl;rw[this,bind_some,cO hr (by simp[hq]),dI,bind_some]
theorem zg(R:Rep st k a b c g n u rows S)(P:L4 w (m+1) S)(Q:SX.Pm w (m+1) S.h S.s)(hp:p<m+1)(nt:S.tn.Nodup)(ht:∀q∈S.tn,q<w+(m+1))(hw:w<=100)(hm:m+1<=800)(HA:∀st,pm ao [.int nn] st=some (.int w,st))(H:HOk nn w nr HO)(hnr:nr<=m) :
  ∃z,aK [.int nn,.ref k,.int p] st=some z/\∃T W,TK S w (m+1) p T/\W.length=m/\(∀x,x<m->gI W x=wt T HO w w x)/\z.1=.ref (st.length+1)/\z.2=st++[LQ.lst (iL T)]++[LQ.lst (iL W)]:=by
 rw[aK];simp only[aD];unfold d6;refine A4 R P Q hp nt ht hw hm fun T x1 x2 hT=>?_
 have sT:(st++[LQ.lst (iL T)])[st.length]?=some (.lst (iL T)):=gl;refine ar (sl':=[Is nn,Rs k,Is p,Rs st.length,x1,x2,Rs (st.length+1),none,none,none,none]) (st':=st++[LQ.lst (iL T)]++[LQ.lst (iL ((T.drop w).take m))]) ?_ ?_
 ·simp[lV,lS,HA,bu sT,Cm hT.len]
 have ll:(st++[LQ.lst (iL T)]).length=st.length+1:=by simp
 have sT2:∀W:List Int,(st++[LQ.lst (iL T)]++[LQ.lst (iL W)])[st.length]?=some (.lst (iL T)):=fun W=>ga sT
 have sW:∀W:List Int,(st++[LQ.lst (iL T)]++[LQ.lst (iL W)])[st.length+1]?=some (.lst (iL W)):=fun W=>by rw[<- ll];exact gl
 have sSet:∀W W':List Int,(st++[LQ.lst (iL T)]++[LQ.lst (iL W)]).set (st.length+1) (.lst (iL W'))=st++[LQ.lst (iL T)]++[LQ.lst (iL W')]:=fun W W'=>by rw[<- ll];exact eJ
 have hW0:∀x,x<m->gI ((T.drop w).take m) x=wt T HO w 0 x:=fun x hx=>by
  unfold wt gI;rw[zD,List.getElem?_take_of_lt hx,List.getElem?_drop,zD];simp[LV]
 obtain⟨sl',st',e,W,y1,y2,y3,y4,rfl,rfl,hl,hW⟩:=dR (gd:=[]) (g:=bM KW (.nm 7)) (s:=aj KW (.cons (.as (.ix (.v 3) (.bin .Sub (.v 7) (.i 1))) (.nm 8)) (.cons (.iff (.cmp .NotEq (.v 8) (.i 0))
   (.cons (.fo (.en (.ca true 2 (.cons (.v 0) (.cons (.ca true 1 (.cons (.v 0) (.cons (.v 7) (.cons (.i 0) .nil)))) .nil)))) (.tu 2 (.cons (.nm 9) (.cons (.nm 10) .nil))) (.cons (.aus .Add (.v 6) (.v 9) (.bin .Mult (.v 8) (.v 10))) .nil)) .nil) .nil) .nil)))
  (I:=fun i sl s=>∃W y1 y2 y3 y4,s=st++[LQ.lst (iL T)]++[LQ.lst (iL W)]/\sl=[Is nn,Rs k,Is p,Rs st.length,x1,x2,Rs (st.length+1),y1,y2,y3,y4]/\W.length=m/\∀x,x<m->gI W x=wt T HO w i x) (xs:=cF 1 w) (fun _ _ _ _ _=>rfl)
  (fun i y sl s hy hI=>by
   obtain⟨W,y1,y2,y3,y4,rfl,rfl,hl,hW⟩:=hI;have hi:i<w:=by have:=(zB.mp hy).1;unfold cF at this;simpa using this
   have ey:y=.int (((i+1:Nat)):Int):=by
    unfold cF at hy;rw[zR,List.getElem?_range hi]at hy;injection hy with hy;rw[<- hy];show AV.int (1+(i:Int))=_;congr 1;lia
   subst ey;have xi:cm (st++[LQ.lst (iL T)]++[LQ.lst (iL W)]) (.ref st.length) (.int (i:Int))=some (.int (gI T i)):=by rw[cq (bu (sT2 W)),b8,bL (by rw[hT.len];lia)]
   have st1:cA KW (.as (.ix (.v 3) (.bin .Sub (.v 7) (.i 1))) (.nm 8)) [Is nn,Rs k,Is p,Rs st.length,x1,x2,Rs (st.length+1),Is ((i+1:Nat):Int),y2,y3,y4] (st++[LQ.lst (iL T)]++[LQ.lst (iL W)])=some (.nx [Is nn,Rs k,Is p,Rs st.length,x1,x2,Rs (st.length+1),Is ((i+1:Nat):Int),Is (gI T i),y3,y4] (st++[LQ.lst (iL T)]++[LQ.lst (iL W)])):=by
    have e0:((i+1:Nat):Int)-1=(i:Int):=by lia
    have hb:bh .Sub (st++[LQ.lst (iL T)]++[LQ.lst (iL W)]) (.int ((i+1:Nat):Int)) (.int 1)=some (.int (i:Int)):=by rw[Hf,e0]
    simp only[dB,sD,sE,kB,nZ,iP,iO,bind_some,hb,map_some,xi];rfl
   by_cases h0:gI T i=0
   ·refine⟨_,_,_,rfl,aq st1 ?_,W,Is ((i+1:Nat):Int),Is (gI T i),y3,y4,rfl,rfl,hl,fun x hx=>?_⟩
    ·simp[h0]
    ·rw[hW x hx];unfold wt;simp only[LV,h0];lia
   ·obtain⟨rr,r1,r2⟩:=H.ex (i+1) oM oM
    have hlen:=H.len (i+1) oM oM;obtain⟨sl',st',e,W',z3,z4,rfl,rfl,hl',hW'⟩:=dR (gd:=[]) (g:=bM KW (.tu 2 (.cons (.nm 9) (.cons (.nm 10) .nil)))) (s:=aj KW (.cons (.aus .Add (.v 6) (.v 9) (.bin .Mult (.v 8) (.v 10))) .nil))
     (I:=fun j sl s=>∃W' z3 z4,s=st++[LQ.lst (iL T)]++[LQ.lst (iL W')]/\sl=[Is nn,Rs k,Is p,Rs st.length,x1,x2,Rs (st.length+1),Is ((i+1:Nat):Int),Is (gI T i),z3,z4]/\W'.length=m/\∀x,x<m->gI W' x=gI W x+if x<j then gI T i*gI (HO (i+1)) x else 0) (xs:=dG 0 (iL (HO (i+1)))) (fun _ _ _ _ _=>rfl)
     (fun j y sl s hy hI=>by
      obtain⟨W',z3,z4,rfl,rfl,hl',hW'⟩:=hI;obtain⟨x,hx',rfl⟩:=mG hy;have hj:j<nr:=by have:=(zB.mp hx').1;simpa [hlen] using this
      rw[bL oM]at hx';injection hx' with hx';subst hx';have hc:(gI (HO (i+1)) j).natAbs<=15:=by
       refine H.bd (i+1) oM oM _ ?_;unfold gI;exact SX.getD_mem oM
      have mb:cG (gI T i) (gI (HO (i+1)) j)=true:=by
       unfold cG;have:Nat.ble (gI (HO (i+1)) j).natAbs.log2 62=true:=yL (by
        by_cases hz:(gI (HO (i+1)) j).natAbs=0
        ·rw[hz];decide
        ·exact yZ ((Nat.log2_lt hz).mpr (yM hc dC)))
       rw[this];simp
      refine⟨_,_,_,rfl,aq (Hl (r:=st.length+1) (q:=j) (l:=W') (x:=gI T i*gI (HO (i+1)) j) rfl rfl (by simp[bO mb]) (sW W') oM) rfl,W'.set j (gI W' j+gI T i*gI (HO (i+1)) j),_,_,sSet _ _,rfl,by simp[hl'],fun x hx=>?_⟩;rw[p8 oM];by_cases e:x=j
      ·subst e;rw[yI rfl,hW' x hx,yH oM,yI oM];lia
      ·rw[yH e,hW' x hx]
       by_cases e2:x<j
       ·rw[yI e2,yI oM]
       ·rw[yH e2,yH oM]) (sl:=[Is nn,Rs k,Is p,Rs st.length,x1,x2,Rs (st.length+1),Is ((i+1:Nat):Int),Is (gI T i),y3,y4]) (st:=st++[LQ.lst (iL T)]++[LQ.lst (iL W)]) ⟨W,y3,y4,rfl,rfl,hl,fun x hx=>by simp⟩
    rw[ki,fq,hlen]at hW';refine⟨_,_,_,rfl,aq st1 (aq (sl':=[Is nn,Rs k,Is p,Rs st.length,x1,x2,Rs (st.length+1),Is ((i+1:Nat):Int),Is (gI T i),z3,z4]) (st':=st++[LQ.lst (iL T)]++[LQ.lst (iL W')]) ?_ rfl),W',Is ((i+1:Nat):Int),Is (gI T i),z3,z4,rfl,rfl,hl',fun x hx=>?_⟩
    ·have r1':=r1 (st++[LQ.lst (iL T)]++[LQ.lst (iL W)])
     have r2':=r2 (st++[LQ.lst (iL T)]++[LQ.lst (iL W)]);simp only[j5,sL,kB,nZ,iP,iO,bind_some,Jv,map_some,yA h0,Bool.not_false,ite_true];refine aq (sl':=[Is nn,Rs k,Is p,Rs st.length,x1,x2,Rs (st.length+1),Is ((i+1:Nat):Int),Is (gI T i),z3,z4]) (st':=st++[LQ.lst (iL T)]++[LQ.lst (iL W')]) ?_ rfl;rw[nk,Jk];simp only[mZ,fG,gM,kB,nZ,iP,iO,bind_some,Aa,nD,nB];rw[r1'];simp only[bind_some];rw[r2'];simp only[bind_some,EN,map_some];exact e
    ·rw[hW' x hx,hW x hx]
     unfold wt;simp only[LV];by_cases e:x<nr
     ·rw[yI e];lia
     ·rw[yH e]
      have:gI (HO (i+1)) x=0:=by unfold gI;rw[zD,List.getElem?_eq_none oM];rfl
      rw[this,yP];lia) (sl:=[Is nn,Rs k,Is p,Rs st.length,x1,x2,Rs (st.length+1),none,none,none,none]) (st:=st++[LQ.lst (iL T)]++[LQ.lst (iL ((T.drop w).take m))]) ⟨_,none,none,none,none,rfl,rfl,by simp[hT.len],hW0⟩
 have rl:(cF 1 w).length=w:=by unfold cF;simp
 rw[rl]at hW;refine⟨(.ref (st.length+1),st++[LQ.lst (iL T)]++[LQ.lst (iL W)]),?_,T,W,hT,hl,hW,rfl,rfl⟩;refine ah (sl':=[Is nn,Rs k,Is p,Rs st.length,x1,x2,Rs (st.length+1),y1,y2,y3,y4]) (st':=st++[LQ.lst (iL T)]++[LQ.lst (iL W)]) ?_ (by simp);have rb1:eM 1=true:=by decide
 have rb2:eM ((w:Int)+1)=true:=by
  unfold eM;refine yL ?_;rw[show((w:Int)+1).natAbs=w+1 by lia];exact yZ ((Nat.log2_lt oM).mpr oM)
 rw[nk];have ei:dz KW (.r2 (.i 1) (.bin .Add (.ca true 0 (.cons (.v 0) .nil)) (.i 1))) [Is nn,Rs k,Is p,Rs st.length,x1,x2,Rs (st.length+1),none,none,none,none] (st++[LQ.lst (iL T)]++[LQ.lst (iL ((T.drop w).take m))])=some (⟨cF 1 w,[]⟩,st++[LQ.lst (iL T)]++[LQ.lst (iL ((T.drop w).take m))]):=by
  have e2:((w:Int)+1-1).toNat=w:=by lia
  simp[-List.append_assoc,Ah,HA,rb1,rb2]
 rw[ei,bind_some];exact e
end
section
variable{st:aa}{k a b c g n u w m p nr:Nat}{rows:List AV}{S:Sh}{nn:Int}{HO:Nat->List Int}{v:Nat->Nat->Int}
theorem TK.bd(hT:TK S w m p T)(hp:p<m)(Q:SX.Pm w m S.h S.s)(B:S.d.natAbs<2^8900/\∀i,i<m->∀j,j<w+1->(S.t i j).natAbs<2^8900)(q:Nat):(gI T q).natAbs<2^8900:=by
 by_cases hq:q<w+m
 ·by_cases h1:∃j,j<w/\S.h j=q
  ·obtain⟨j,hj,rfl⟩:=h1
   rw[hT.hd j hj]
   have:=B.2 p hp j oM
   split
   ·exact this
   ·rw[Int.natAbs_neg];exact this
  ·by_cases h2:q=S.s p
   ·rw[h2,hT.sd]
    split
    ·rw[Int.natAbs_neg];exact B.1
    ·exact B.1
   ·rw[hT.no q hq (fun j hj z=>h1 ⟨j,hj,z⟩) h2];exact Nat.two_pow_pos _
 ·have:gI T q=0:=by unfold gI;rw[zD,List.getElem?_eq_none (by rw[hT.len];lia)];rfl
  rw[this];exact Nat.two_pow_pos _
theorem zh(hb:∀q,(gI T q).natAbs<2^8900)(H:HOk nn w nr HO)(hw:w<=15)(x:Nat):(wt T HO w w x).natAbs<2^9000:=by
 unfold wt;have h1:=SX.abs_sum (n:=w) (f:=fun y=>gI T y*gI (HO (y+1)) x) (M:=2^8900*15) fun i hi=>by
  rw[xA];refine Nat.mul_le_mul (yZ (hb i)) ?_;unfold gI;rw[zD];cases e:(HO (i+1))[x]? with
  |none=>simp
  |some z=>exact H.bd (i+1) oM oM z (zW e)
 have h2:=hb (w+x);have h3:=Int.natAbs_add_le (gI T (w+x)) (LV w fun y=>gI T y*gI (HO (y+1)) x);have h4:w*(2^8900*15)<=15*(2^8900*15):=Nat.mul_le_mul_right _ hw;have h5:(2:Nat)^9000=2^8900*2^100:=by rw[<- Nat.pow_add]
 have h6:(2:Nat)^100=1267650600228229401496703205376:=by decide
 rw[h5,h6];generalize (2:Nat)^8900=B at *;lia
theorem ya(R:Rep st k a b c g n u rows S)(I:MI w (m+1) v S)(Hb:Bnd w (m+1) v)(hp:p<m+1)(nt:S.tn.Nodup)(ht:∀q∈S.tn,q<w+(m+1))(hw:w<=15)(hm:m+1<=400)(HA:∀st,pm ao [.int nn] st=some (.int w,st))(H:HOk nn w nr HO)(hnr:nr<=m) :
  ∃z,br [.int nn,.ref k,.int p] st=some z/\∃X T W,GX S w w (m+1) X/\TK S w (m+1) p T/\W.length=m/\(∀x,x<m->gI W x=wt T HO w w x) /\
   z.1=.tup [.str "least",.tup [.int (gI (aG [- S.t p w,S.d]) 0),.int (gI (aG [- S.t p w,S.d]) 1)],.tup [.fz (iL ((aG (X++[S.d])).take w)),.int (gI (aG (X++[S.d])) w)],.int (gI (aG (W++[S.d])) m),.fz (iL ((aG (W++[S.d])).take m))]:=by
 have P:=I.shp;have B:=Hb.bd I;obtain⟨z,e1,T,W,hT,hl,hW,hz1,hz2⟩:=zg R P I.pm hp nt ht oM oM HA H hnr;obtain⟨z1,z2⟩:=z;dsimp only at hz1 hz2;subst hz1;subst hz2;have R2:=(R.app (ys:=[LQ.lst (iL T)])).app (ys:=[LQ.lst (iL W)]);have wb:∀x∈W++[S.d],x.natAbs<2^9000:=fun x hx=>by
  rcases zZ.mp hx with h|h
  ·obtain⟨j,hj⟩:=z9 h
   have hjl:=(zB.mp hj).1;have eg:gI W j=x:=by unfold gI;rw[zD,hj];rfl
   rw[<- eg,hW j oM];exact zh (hT.bd hp I.pm (Hb.bd8 I)) H hw j
  ·rw[zM.mp h];exact B.1
 have e2:=pQ (l:=W++[S.d]) (st:=st++[LQ.lst (iL T)]++[LQ.lst (iL W)]) (by simp[hl];lia) wb;obtain⟨X,T',st3,e3,rfl,hX,R3⟩:=zr R2 P I.pm B HA oM oM;have fr:=E7 (a:=- S.t p w) (b:=S.d) (st:=st) (by rw[Int.natAbs_neg];exact B.2 p hp w oM) B.1;refine⟨(_,st3),?_,X,T,W,hX,hT,hl,hW,rfl⟩;have ll:(aG (W++[S.d])).length=m+1:=by rw[lB];simp[hl]
 rw[br,aD];unfold eP;refine ah (sl':=[Is nn,Rs k,Is p,some (.tup [.int (gI (aG [- S.t p w,S.d]) 0),.int (gI (aG [- S.t p w,S.d]) 1)]),none]) (st':=st) (by simp[R.ins,R.line P hp,R.last P hp,fr]) ?_;refine ah (sl':=[Is nn,Rs k,Is p,some (.tup [.int (gI (aG [- S.t p w,S.d]) 0),.int (gI (aG [- S.t p w,S.d]) 1)]),Ls (aG (W++[S.d]))]) (st':=st++[LQ.lst (iL T)]++[LQ.lst (iL W)]) ?_ ?_
 ·have gW:(st++[LQ.lst (iL T)]++[LQ.lst (iL W)])[st.length+1]?=some (.lst (iL W)):=by
   have:(st++[LQ.lst (iL T)]).length=st.length+1:=by simp
   rw[<- this];exact gl
  have c:=i8 (ks:=[cE,aK,ag,aO]) (a:=.ca false 1 (.cons (.v 0) (.cons (.v 1) (.cons (.v 2) .nil)))) (b:=.nw false (.li (.cons (.fd "Sheet" "below" (.v 1)) .nil)))
   (sl:=[Is nn,Rs k,Is p,some (.tup [.int (gI (aG [- S.t p w,S.d]) 0),.int (gI (aG [- S.t p w,S.d]) 1)]),none]) (st:=st) (s1:=st++[LQ.lst (iL T)]++[LQ.lst (iL W)]) (s2:=st++[LQ.lst (iL T)]++[LQ.lst (iL W)]) (x:=.ref (st.length+1)) (y:=.fz [AV.int S.d]) (l:=W) (l':=[S.d])
   (by simp only[mZ,fG,gM,kB,iP,iO,bind_some,oU,nD,nB];exact e1) (by simp[-List.append_assoc,cj,R2.ins]) (bu gW) rfl (by simp[hl];lia)
  simp only[dB,mZ,fG,gM,lq,c,bind_some,mj,ite_true,Aa,nD,nB,e2,yn];rfl
 ·have xl:cm st3 (.fz (iL (aG (W++[S.d])))) (.int (-1))=some (.int (gI (aG (W++[S.d])) m)):=by rw[cq fj,nT (n:=m) (by simp[ll]),bL oM]
  simp[-List.append_assoc,e3,lV,lS,qp ll,xl]
end
open SX (Qt v0)
def val(w:Nat)(r:List Int)(Y:Nat->Int):Int:=LV w fun x=>gI r x*Y x
structure Kp(w:Nat)(RR:List (List Int))(gv:List Gv)(Y:Nat->Int)(e:Int):Prop where
 rule:∀r∈RR,0<=val w r Y
 eq:∀z∈gv,z.eq=true->val w z.row Y=z.num*e
 ge:∀z∈gv,z.eq=false->z.num*e<=val w z.row Y
def o7(w:Nat)(RR:List (List Int))(gv:List Gv)(goal:List Int)(t:AV):Prop :=
 ((∃W,t=.tup [.str "never",.fz (iL W)])/\∀Y e,0<e->¬Kp w RR gv Y e) \/
 (∃T d x1 x2 x3,t=.tup [.str "least",.tup [.int (gI (aG [T,d]) 0),.int (gI (aG [T,d]) 1)],x1,x2,x3]/\0<d/\(T.natAbs<2^9000/\d.natAbs<2^9000/\(rf x1&&rf x2&&rf x3)=true)/\(∃X,Kp w RR gv X d/\val w goal X=T)/\∀Y e,0<e->Kp w RR gv Y e->T*e<=val w goal Y*d) \/
 ∃x1 x2,t=.tup [.str "endless",x1,x2]/\(rf x1&&rf x2)=true/\(∃X d,0<d/\Kp w RR gv X d)/\∃Z,Kp w RR gv Z 0/\val w goal Z<0
structure AI(w nr:Nat)(gv:List Gv)(L:List (List Int))(i:Nat)(S:Sh):Prop where
 mi:MI w (nr+gv.length+1) (v0 w L) S
 un:∀x,nr+i<=x->x<nr+gv.length+1->S.s x=w+x
 g1:∀q∈S.gd,q<w+nr\/∃y z,y<i/\gv[y]?=some z/\z.eq=false/\q=w+nr+y
 g2:∀q,q<w+nr->q∈S.gd
 g3:∀y z,y<i->gv[y]?=some z->z.eq=false->w+nr+y∈S.gd
 n1:∀q∈S.nl,∃y z,y<i/\gv[y]?=some z/\z.eq=true/\q=w+nr+y
 n2:∀y z,y<i->gv[y]?=some z->z.eq=true->w+nr+y∈S.nl
 t1:∀q∈S.tn,q∈S.nl
 tn:S.tn.Nodup
 lg:S.gd.length<=w+nr+i
 ln:S.nl.length<=i
 lt:S.tn.length<=i
section
variable{w nr i:Nat}{RR:List (List Int)}{gv:List Gv}{goal:List Int}{S:Sh}{Y:Nat->Int}{e:Int}
theorem qa{c:Int}{x:Nat}(h:r.length=w):gI (r++[c]) x=if x<w then gI r x else if x=w then c else 0:=by
 unfold gI;simp only[zD];by_cases h1:x<w
 ·rw[yI h1,zN oM]
 ·rw[yH h1,z6 oM]
  by_cases h2:x=w
  ·rw[yI h2,h,h2];simp
  ·rw[yH h2,List.getElem?_eq_none (by simp;lia)];rfl
theorem dU{c:Int}{j:Nat}(hj:L[j]?=some (r++[c]))(hr:r.length=w):Qt w (v0 w L) Y e (w+j)=val w r Y+c*e:=by
 have hv:∀x,v0 w L (w+j) x=gI (r++[c]) x:=fun x=>by
  unfold v0;rw[yH oM,show w+j-w=j by lia,zD,hj];rfl
 unfold Qt val;rw[hv,qa hr,yH oM,yI rfl];congr 1;exact SX.sum_congr fun x hx=>by rw[hv,qa hr,yI hx]
theorem Fv{q:Nat}(hq:q<w):Qt w (v0 w L) Y e q=Y q:=by
 have hv:∀x,v0 w L q x=if x=q then 1 else 0:=fun x=>by unfold v0;rw[yI hq]
 unfold Qt;rw[SX.sum_one hq fun x _ ne=>by rw[hv,yH ne,yQ],hv,yI rfl,hv,yH oM];lia
theorem qH(hi:i<RR.length):(ak RR gv goal)[i]?=some (RR[i]++[0]):=by
 unfold ak;rw[yN,zN (by simpa using hi)];simp[hi]
theorem ja(hz:gv[i]?=some z):(ak RR gv goal)[RR.length+i]?=some (z.row++[- z.num]):=by
 have hi:=(zB.mp hz).1;unfold ak;rw[yN,z6 (by simp),zN (by simp;exact hi)];simp[hz]
theorem wH:(ak RR gv goal)[RR.length+gv.length]?=some (goal.map (fun x=>- x)++[0]):=by
 unfold ak;rw[z6 (by simp)];simp
theorem uj:(ak RR gv goal).length=RR.length+gv.length+1:=by simp[ak];lia
theorem qR:val w (goal.map fun x=>- x) Y=- val w goal Y:=by
 unfold val;have:∀x,gI (goal.map fun x=>- x) x=- gI goal x:=fun x=>by
  unfold gI;rw[zD,zD,zR];cases goal[x]?<;>rfl
 rw[SX.sum_congr (g:=fun x=>(-1)*(gI goal x*Y x)) fun x _=>by rw[this];grind,SX.sum_mul];lia
structure Sz(w:Nat)(RR:List (List Int))(gv:List Gv)(goal:List Int):Prop where
 r:∀l∈RR,l.length=w
 g:∀z∈gv,z.row.length=w
 o:goal.length=w
 hg:∀Y:Nat->Int,(∀r∈RR,0<=val w r Y)->∀x,x<w->0<=Y x
theorem AI.of(Z:Sz w RR gv goal)(A:AI w RR.length gv (ak RR gv goal) i S)(F:Kp w RR gv Y e):(∀q∈S.gd,0<=Qt w (v0 w (ak RR gv goal)) Y e q)/\∀q∈S.nl,Qt w (v0 w (ak RR gv goal)) Y e q=0:=by
 refine⟨fun q hq=>?_,fun q hq=>?_⟩
 ·rcases A.g1 q hq with h|⟨y,z,h1,h2,h3,rfl⟩
  ·by_cases hw:q<w
   ·rw[Fv hw];exact Z.hg Y F.rule q hw
   ·have hi:q-w<RR.length:=by lia
    have:=dU (Y:=Y) (e:=e) (qH (gv:=gv) (goal:=goal) hi) (Z.r _ (List.getElem_mem hi))
    rw[show w+(q-w)=q by lia]at this;rw[this,yQ,Int.add_zero];exact F.rule _ (List.getElem_mem hi)
  ·have hm:=zW h2
   rw[Nat.add_assoc,dU (ja h2) (Z.g z hm)]
   have:=F.ge z hm h3
   have e1:- z.num*e=- (z.num*e):=by grind
   lia
 ·obtain⟨y,z,h1,h2,h3,rfl⟩:=A.n1 q hq
  have hm:=zW h2;rw[Nat.add_assoc,dU (ja h2) (Z.g z hm)]
  have:=F.eq z hm h3
  have e1:- z.num*e=- (z.num*e):=by grind
  lia
theorem AI.to(Z:Sz w RR gv goal)(A:AI w RR.length gv (ak RR gv goal) gv.length S)(h1:∀q∈S.gd,0<=Qt w (v0 w (ak RR gv goal)) Y e q)(h2:∀q∈S.nl,Qt w (v0 w (ak RR gv goal)) Y e q=0):Kp w RR gv Y e:=by
 refine⟨fun r hr=>?_,fun z hz he=>?_,fun z hz he=>?_⟩
 ·obtain⟨i,hi⟩:=z9 hr
  have hl:=(zB.mp hi).1;have er:RR[i]=r:=(zB.mp hi).2
  have:=h1 (w+i) (A.g2 _ oM)
  rw[dU (qH hl) (Z.r _ (List.getElem_mem hl)),yQ,Int.add_zero,er]at this;exact this
 ·obtain⟨y,hy⟩:=z9 hz
  have hl:=(zB.mp hy).1
  have:=h2 _ (A.n2 y z hl hy he)
  rw[Nat.add_assoc,dU (ja hy) (Z.g z hz)]at this;have e1:- z.num*e=- (z.num*e):=by grind
  lia
 ·obtain⟨y,hy⟩:=z9 hz
  have hl:=(zB.mp hy).1
  have:=h1 _ (A.g3 y z hl hy he)
  rw[Nat.add_assoc,dU (ja hy) (Z.g z hz)]at this;have e1:- z.num*e=- (z.num*e):=by grind
  lia
theorem AS:∀q,q<w->∀x,x<w+1->v0 w L q x=if x=q then 1 else 0:=fun q hq x _=>by unfold v0;rw[yI hq]
theorem AI.vert(Z:Sz w RR gv goal)(A:AI w RR.length gv (ak RR gv goal) gv.length S){c:Nat}(hc:c<w+1)(hcn:c<w->S.h c∉S.nl){X:Nat->Int}(h1:∀i,i<RR.length+gv.length+1->S.s i<w->X (S.s i)=S.t i c)(h2:∀j,j<w->S.h j<w->X (S.h j)=if j=c then S.d else 0)
  (hpos:∀i,i<RR.length+gv.length+1->S.s i∈S.gd->0<=S.t i c):Kp w RR gv X (if c=w then S.d else 0)/\val w goal X=- S.t (RR.length+gv.length) c:=by
 have I:=A.mi;have tw:∀q∈S.tn,w<=q:=fun q hq=>by obtain⟨y,z,_,_,_,rfl⟩:=A.n1 q (A.t1 q hq);lia
 obtain⟨v1,v2⟩:=I.vert AS tw hc h1 h2;have dis:∀q∈S.gd,q∉S.tn:=fun q hg ht=>by
  obtain⟨y,z,y1,y2,y3,y4⟩:=A.n1 q (A.t1 q ht);rcases A.g1 q hg with h|⟨y',z',h1,h2,h3,h4⟩
  ·lia
  ·have:y=y':=by lia
   subst this;rw[y2]at h2;cases h2;rw[y3]at h3;cases h3
 have hd:=I.lin.pos;refine⟨A.to Z (fun q hq=>?_) (fun q hq=>?_),?_⟩
 ·have hlt:q<w+(RR.length+gv.length+1):=by
   rcases A.g1 q hq with h|⟨y,z,_,h2,_,rfl⟩
   ·lia
   ·have:=(zB.mp h2).1;lia
  rcases I.pm.cov q hlt with⟨i,hi,rfl⟩|⟨j,hj,rfl⟩
  ·rw[v1 i hi,yH (dis _ hq)];exact hpos i hi hq
  ·rw[v2 j hj,yH (dis _ hq)];split<;>lia
 ·have hlt:q<w+(RR.length+gv.length+1):=by
   obtain⟨y,z,_,h2,_,rfl⟩:=A.n1 q hq
   have:=(zB.mp h2).1;lia
  rcases I.pm.cov q hlt with⟨i,hi,rfl⟩|⟨j,hj,rfl⟩
  ·obtain⟨n1,n2⟩:=I.fea.n i hi hq
   have:S.t i c=0:=by
    by_cases h:c=w
    ·rw[h];exact n1
    ·exact n2 c oM (hcn oM)
   rw[v1 i hi,this];split<;>rfl
  ·rw[v2 j hj,yH fun z=>hcn oM (by rw[<- z];exact hq)]
 ·have hs:=A.un (RR.length+gv.length) oM oM
  have h3:=v1 (RR.length+gv.length) oM;rw[hs]at h3;have hnt:w+(RR.length+gv.length)∉S.tn:=fun z=>by
   obtain⟨y,z',y1,_,_,y4⟩:=A.n1 _ (A.t1 _ z);lia
  rw[yH hnt,dU wH (by rw[zH];exact Z.o),qR,yQ,Int.add_zero]at h3;lia
end
section
variable{w:Nat}{RR:List (List Int)}{gv:List Gv}{goal:List Int}{nn:Int}{HO:Nat->List Int}
theorem Ch{n0:Nat}{i:Nat}(h:(dG n0 xs)[i]?=some y):∃x,xs[i]?=some x/\y=.tup [.int ((n0+i:Nat):Int),x]:=by
 unfold dG at h;rw[zR]at h;obtain⟨z,h1,rfl⟩:=zE.mp h;rw[List.getElem?_zipIdx]at h1;obtain⟨x,h2,rfl⟩:=zE.mp h1;exact⟨x,h2,rfl⟩
theorem G0:cx .Eq s (.str "=") (.str "=")=some true:=by kernel_rfl
theorem GN:cx .Eq s (.str ">") (.str "=")=some false:=by kernel_rfl
structure Qu(nn:Int)(w:Nat)(RR:List (List Int))(HO:Nat->List Int)(gv:List Gv)(goal:List Int):Prop where
 HR:∀st,pm aN [.int nn] st=some (.fz (ay RR),st)
 HA:∀st,pm ao [.int nn] st=some (.int w,st)
 H:HOk nn w RR.length HO
 Z:Sz w RR gv goal
 hw:w<=15
 hR:RR.length<=100
 hg:gv.length<=100
 B:Bnd w (RR.length+gv.length+1) (v0 w (ak RR gv goal))
theorem rp(q:Qu nn w RR HO gv goal){k a b c g n u p:Nat}(R:Rep st k a b c g n u rows S)(I:MI w (RR.length+gv.length+1) (v0 w (ak RR gv goal)) S)(hp:p<RR.length+gv.length+1)(nt:S.tn.Nodup)(ht:∀x∈S.tn,x<w+(RR.length+gv.length+1)) :
  ∃st1 W st2,aK [.int nn,.ref k,.int p] st=some (.ref (st.length+1),st1)/\pm ag [.ref (st.length+1)] st1=some (.fz (iL W),st2):=by
 obtain⟨z,e1,T,W,hT,hl,hW,hz1,hz2⟩:=zg R I.shp I.pm hp nt ht (by have:=q.hw;lia) (by have:=q.hg;have:=q.hR;lia) q.HA q.H oM;obtain⟨z1,z2⟩:=z;dsimp only at hz1 hz2;subst hz1;subst hz2;have gW:(st++[LQ.lst (iL T)]++[LQ.lst (iL W)])[st.length+1]?=some (.lst (iL W)):=by
  have:(st++[LQ.lst (iL T)]).length=st.length+1:=by simp
  rw[<- this];exact gl
 have wb:∀x∈W,x.natAbs<2^9000:=fun x hx=>by
  obtain⟨j,hj⟩:=z9 hx;have hjl:=(zB.mp hj).1;have eg:gI W j=x:=by unfold gI;rw[zD,hj];rfl
  rw[<- eg,hW j oM];exact zh (hT.bd hp I.pm (q.B.bd8 I)) q.H q.hw j
 obtain⟨st2,e2,_⟩:=jF (fn:=ag) (rest:=[]) (st:=st++[LQ.lst (iL T)]++[LQ.lst (iL W)]) (x:=.ref (st.length+1)) (l:=W) (.inr ⟨_,rfl,.inl gW⟩) rfl rfl (fun s=>rfl) (oV (by have:=q.hg;have:=q.hR;lia) wb) rfl (by simp[flat]);exact⟨_,_,st2,e1,e2⟩
theorem zc(q:Qu nn w RR HO gv goal):∃z,eU [.int nn,.fz (gv.map Gv.av),.fz (iL goal)] []=some z/\∃t,eA z.2 z.1=some t/\o7 w RR gv goal t:=by
 have Z:=q.Z;obtain⟨m,hm⟩:∃m,m=RR.length+gv.length:=⟨_,rfl⟩;have hLl:(ak RR gv goal).length=m+1:=by rw[uj,hm]
 obtain⟨L,hL⟩:∃L,L=ak RR gv goal:=⟨_,rfl⟩;obtain⟨st1,e1,R1⟩:=D0 (gv:=gv) (goal:=goal) q.HR q.HA q.hw q.hR Z.r q.hg Z.g Z.o;have A0:AI w RR.length gv (ak RR gv goal) 0 (SX.openS w (ak RR gv goal) (w+RR.length)):=by
  have hLen:∀l∈ak RR gv goal,l.length=w+1:=fun l hl=>by
   unfold ak at hl;simp only[zZ,yD,zM]at hl;rcases hl with(⟨r,hr,rfl⟩|⟨z,hz,rfl⟩)|rfl
   ·simp[Z.r r hr]
   ·simp[Z.g z hz]
   ·simp[Z.o]
  have hI:=SX.open_MI (w:=w) (nr:=RR.length) (L:=ak RR gv goal) hLen fun i hi=>by
   rw[zD,qH hi];show gI (RR[i]++[0]) w=0;rw[qa (Z.r _ (List.getElem_mem hi)),yH oM,yI rfl]
  rw[uj]at hI;refine⟨hI,fun x _ hx=>SX.open_s (by rw[uj];exact hx),fun x hx=>.inl (List.mem_range.mp hx),fun x hx=>List.mem_range.mpr hx,fun y z h=>by lia,fun x hx=>?_,fun y z h=>by lia,fun x hx=>?_,List.nodup_nil,by simp[SX.openS],zP 0,zP 0⟩
  ·exact absurd (show x ∈ ([]:List Nat) from hx) (by simp)
  ·exact absurd (show x ∈ ([]:List Nat) from hx) (by simp)
 have sm:=q.hg;have sm2:=q.hR;have sm3:=q.hw;rw[eU];simp only[aD];unfold lH;refine ar (sl':=[Is nn,Zs (gv.map Gv.av),Ls goal,Rs 1,none,none,none,none,none]) (st':=st1) (by simp[e1]) ?_;have l2:bA st1 (.ref 2)=some (ay (ak RR gv goal)):=bu R1.ha;refine ar (sl':=[Is nn,Zs (gv.map Gv.av),Ls goal,Rs 1,Is (m:Int),none,none,none,none]) (st':=st1) (by simp[R1.ins,bZ,d5,l2,hLl]) ?_
 -- the givens
 have loop:=nK (gd:=[]) (g:=bM [bC,bY,bv,aK,ag,bt,br,aO,bX] (.tu 2 (.cons (.nm 5) (.cons (.nm 6) .nil))))
  (s:=aj [bC,bY,bv,aK,ag,bt,br,aO,bX] (.cons (.as (.ife (.cmp .Eq (.ix (.v 6) (.i 1)) (.s "=")) (.ca false 1 (.cons (.v 3) (.cons (.v 5) .nil))) (.ca false 2 (.cons (.v 3) (.cons (.v 5) .nil)))) (.nm 7))
   (.cons (.iff (.no (.va (.v 7))) (.cons (.rt (.tu (.cons (.s "never") (.cons (.ca true 4 (.cons (.ca false 3 (.cons (.v 0) (.cons (.v 3) (.cons (.v 5) .nil)))) .nil)) .nil)))) .nil) .nil) .nil)))
  (I:=fun i sl s=>∃a rows S x5 x6 x7,sl=[Is nn,Zs (gv.map Gv.av),Ls goal,Rs 1,Is (m:Int),x5,x6,x7,none]/\Rep s 1 a 3 4 5 6 7 rows S/\AI w RR.length gv (ak RR gv goal) i S)
  (Post:=fun v s=>∃t,eA s v=some t/\o7 w RR gv goal t) (xs:=dG RR.length (gv.map Gv.av)) (fun _ _ _ _ _=>rfl)
  (fun i y sl s hy hI=>by
   obtain⟨a,rows,S,x5,x6,x7,rfl,R,A⟩:=hI;obtain⟨x,hx,rfl⟩:=Ch hy;rw[zR]at hx;obtain⟨z,hz,rfl⟩:=zE.mp hx;have hzm:=zW hz;have hi:=(zB.mp hz).1;have hp:RR.length+i<RR.length+gv.length+1:=by lia
   have I:=A.mi;have sp:S.s (RR.length+i)=w+RR.length+i:=by rw[A.un _ (zP _) hp];lia
   have ng:S.s (RR.length+i)∉S.gd:=fun h=>by
    rcases A.g1 _ h with h|⟨y,_,h,_,_,h2⟩<;>lia
   have nn':S.s (RR.length+i)∉S.nl:=fun h=>by obtain⟨y,_,h,_,_,h2⟩:=A.n1 _ h;lia
   have nt:S.s (RR.length+i)∉S.tn:=fun h=>nn' (A.t1 _ h)
   have unk:∀T:Sh,Kj (RR.length+gv.length+1) (RR.length+i) S T->∀x,RR.length+(i+1)<=x->x<RR.length+gv.length+1->T.s x=w+x:=fun T K x h1 h2=>by
    have e:=A.un x oM h2;rw[K.si x h2 oM (by rw[e];intro h;rcases A.g1 _ h with h|⟨y,_,h,_,_,h2⟩<;>lia),e]
   have lst:∀x∈S.nl,x<w+(RR.length+gv.length+1):=fun x hx=>by
    obtain⟨y,_,h,_,_,h2⟩:=A.n1 _ hx;lia
   -- no table
   have nev:∀(T:Sh),MI w (RR.length+gv.length+1) (v0 w (ak RR gv goal)) T->T.gd=S.gd->T.nl=S.nl->(∀x∈T.tn,x∈T.nl\/x=T.s (RR.length+i))->T.s (RR.length+i)=S.s (RR.length+i)->T.t (RR.length+i) w<0->(∀j,j<w->T.h j∉T.nl->¬0<T.t (RR.length+i) j)->(z.eq=false->T.s (RR.length+i)∉T.tn)->∀Y e,0<e->¬Kp w RR gv Y e:=fun T I' hg hn ht hs low hr hzt Y e he F=>by
    obtain⟨f1,f2⟩:=A.of Z F;have d:=I'.dual hp hr ht (Y:=Y) (e:=e) (fun j hj h=>by
     rcases I'.fea.f j hj with h1|h1
     ·rw[show(T.h j∈T.gd)=(T.h j∈S.gd) by rw[hg]]at h1;exact f1 _ h1
     ·exact absurd h1 h) (fun j hj h=>by rw[hn]at h;exact f2 _ h)
    have neg:=Int.mul_neg_of_neg_of_pos low he;have qe:=dU (Y:=Y) (e:=e) (ja (RR:=RR) (goal:=goal) hz) (Z.g z hzm);have e1:- z.num*e=- (z.num*e):=by grind
    rw[hs,sp,Nat.add_assoc,qe]at d;cases hze:z.eq with
    |true =>
     have:=F.eq z hzm hze
     rw[show val w z.row Y+- z.num*e=0 by lia]at d;split at d<;>lia
    |false =>
     have h3:=F.ge z hzm hze;have h4:=hzt hze;rw[hs,sp,Nat.add_assoc]at h4;rw[yH h4]at d
     have:=Int.mul_nonneg (Int.le_of_lt I'.lin.pos) (show 0 <= val w z.row Y + - z.num * e by lia)
     lia
   cases hze:z.eq with
   |true =>
    obtain⟨T,s2,a2,rows2,bb,e2,R2,K,hg,I2,hb⟩:=GE q.B R I hp ng nn' nt (by have:=A.ln;lia) (by have:=A.lt;lia);have tnd:T.tn.Nodup:=by
     rcases K.tn with h|h
     ·rw[h];exact A.tn
     ·rw[h]
      rw[List.nodup_append];exact⟨A.tn,by simp,fun x hx y hy e=>nt (by rw[<- zM.mp hy,<- e];exact hx)⟩
    have es:cA [bC,bY,bv,aK,ag,bt,br,aO,bX] (.as (.ife (.cmp .Eq (.ix (.v 6) (.i 1)) (.s "=")) (.ca false 1 (.cons (.v 3) (.cons (.v 5) .nil))) (.ca false 2 (.cons (.v 3) (.cons (.v 5) .nil)))) (.nm 7)) [Is nn,Zs (gv.map Gv.av),Ls goal,Rs 1,Is (m:Int),Is ((RR.length+i:Nat):Int),some z.av,x7,none] s
      = some (.nx [Is nn,Zs (gv.map Gv.av),Ls goal,Rs 1,Is (m:Int),Is ((RR.length+i:Nat):Int),some z.av,some (.bl bb),none] s2):=by
     have xi:cm s z.av (.int 1)=some (.str "="):=by
      have:z.av=.tup [.fz (iL z.row),.str "=",.int z.num]:=by unfold Gv.av;rw[hze];rfl
      rw[this];rfl
     simp only[dB,zl,sL,sD,kB,nZ,Hm,iP,iO,bind_some,xi,map_some,G0,ite_true,mZ,fG,gM,oU,nD,nB,e2,yn];rfl
    rcases hb with⟨rfl,hn⟩|⟨rfl,hn,hs,low,hr⟩
    ·refine⟨_,.nx [Is nn,Zs (gv.map Gv.av),Ls goal,Rs 1,Is (m:Int),Is ((RR.length+i:Nat):Int),some z.av,some (.bl true),none] s2,rfl,aq es ?_,.inl ⟨_,s2,rfl,a2,rows2,T,_,_,_,rfl,R2,⟨I2,unk T K,fun x hx=>?_,fun x hx=>by rw[hg];exact A.g2 x hx,fun y z' hy h1 h2=>?_,fun x hx=>?_,fun y z' hy h1 h2=>?_,fun x hx=>?_,tnd,?_,?_,?_⟩⟩⟩
     ·simp[dY,bA,dr]
     ·rw[hg]at hx
      rcases A.g1 x hx with h|⟨y,z',h1,h2⟩
      ·exact .inl h
      ·exact .inr ⟨y,z',by lia,h2⟩
     ·rw[hg]
      by_cases e:y=i
      ·subst e;rw[hz]at h1;cases h1;rw[hze]at h2;cases h2
      ·exact A.g3 y z' oM h1 h2
     ·rw[hn,zZ,zM]at hx
      rcases hx with hx|hx
      ·obtain⟨y,z',h1,h2⟩:=A.n1 x hx;exact⟨y,z',by lia,h2⟩
      ·exact⟨i,z,by lia,hz,hze,by rw[hx,sp]⟩
     ·rw[hn,zZ,zM]
      by_cases e:y=i
      ·subst e;exact .inr (by rw[sp])
      ·exact .inl (A.n2 y z' oM h1 h2)
     ·rw[hn,zZ,zM]
      rcases K.tn with h|h
      ·rw[h]at hx;exact .inl (A.t1 x hx)
      ·rw[h,zZ,zM]at hx
       exact hx.imp (A.t1 x) id
     ·rw[hg];have:=A.lg;lia
     ·rw[hn,zV];have:=A.ln;simp;lia
     ·rcases K.tn with h|h
      ·rw[h];have:=A.lt;lia
      ·rw[h,zV];have:=A.lt;simp;lia
    ·have tq:∀x∈T.tn,x∈T.nl\/x=T.s (RR.length+i):=fun x hx=>by
      rw[hn,hs];rcases K.tn with h|h
      ·rw[h]at hx;exact .inl (A.t1 x hx)
      ·rw[h,zZ,zM]at hx
       exact hx.imp (A.t1 x) id
     obtain⟨s3,W,s4,e3,e4⟩:=rp q R2 I2 hp tnd fun x hx=>by
      rcases tq x hx with h|h
      ·rw[hn]at h;exact lst x h
      ·rw[h,hs,sp];lia
     refine⟨_,.rt (.tup [.str "never",.fz (iL W)]) s4,rfl,aq es ?_,.inr ⟨_,s4,rfl,_,rfl,.inl ⟨⟨W,rfl⟩,nev T I2 hg hn tq hs low hr (fun h=>by rw[hze]at h;cases h)⟩⟩⟩;rw[Int.natCast_add]at e3;simp[dY,bA,dr,e3,e4]
   |false =>
    obtain⟨T,s2,a2,rows2,bb,e2,R2,K,ht,hn,I2,hb⟩:=GD q.B R I hp ng nn' (by have:=A.lg;lia);have es:cA [bC,bY,bv,aK,ag,bt,br,aO,bX] (.as (.ife (.cmp .Eq (.ix (.v 6) (.i 1)) (.s "=")) (.ca false 1 (.cons (.v 3) (.cons (.v 5) .nil))) (.ca false 2 (.cons (.v 3) (.cons (.v 5) .nil)))) (.nm 7)) [Is nn,Zs (gv.map Gv.av),Ls goal,Rs 1,Is (m:Int),Is ((RR.length+i:Nat):Int),some z.av,x7,none] s
      = some (.nx [Is nn,Zs (gv.map Gv.av),Ls goal,Rs 1,Is (m:Int),Is ((RR.length+i:Nat):Int),some z.av,some (.bl bb),none] s2):=by
     have xi:cm s z.av (.int 1)=some (.str ">"):=by
      have:z.av=.tup [.fz (iL z.row),.str ">",.int z.num]:=by unfold Gv.av;rw[hze];rfl
      rw[this];rfl
     simp only[dB,zl,sL,sD,kB,nZ,Hm,iP,iO,bind_some,xi,map_some,GN,yB,ite_false,mZ,fG,gM,oU,nD,nB,e2,yn];rfl
    rcases hb with⟨rfl,hg⟩|⟨rfl,hg,hs,low,hr⟩
    ·refine⟨_,.nx [Is nn,Zs (gv.map Gv.av),Ls goal,Rs 1,Is (m:Int),Is ((RR.length+i:Nat):Int),some z.av,some (.bl true),none] s2,rfl,aq es ?_,.inl ⟨_,s2,rfl,a2,rows2,T,_,_,_,rfl,R2,⟨I2,unk T K,fun x hx=>?_,fun x hx=>by rw[hg];exact zL _ (A.g2 x hx),fun y z' hy h1 h2=>?_,fun x hx=>?_,fun y z' hy h1 h2=>?_,fun x hx=>by rw[ht]at hx;rw[hn];exact A.t1 x hx,by rw[ht];exact A.tn,?_,by rw[hn];have:=A.ln;lia,by rw[ht];have:=A.lt;lia⟩⟩⟩
     ·simp[dY,bA,dr]
     ·rw[hg,zZ,zM]at hx
      rcases hx with hx|hx
      ·rcases A.g1 x hx with h|⟨y,z',h1,h2⟩
       ·exact .inl h
       ·exact .inr ⟨y,z',by lia,h2⟩
      ·exact .inr ⟨i,z,by lia,hz,hze,by rw[hx,sp]⟩
     ·rw[hg,zZ,zM]
      by_cases e:y=i
      ·subst e;exact .inr (by rw[sp])
      ·exact .inl (A.g3 y z' oM h1 h2)
     ·rw[hn]at hx
      obtain⟨y,z',h1,h2⟩:=A.n1 x hx;exact⟨y,z',by lia,h2⟩
     ·rw[hn]
      by_cases e:y=i
      ·subst e;rw[hz]at h1;cases h1;rw[hze]at h2;cases h2
      ·exact A.n2 y z' oM h1 h2
     ·rw[hg,zV];have:=A.lg;simp;lia
    ·have tq:∀x∈T.tn,x∈T.nl\/x=T.s (RR.length+i):=fun x hx=>.inl (by rw[ht]at hx;rw[hn];exact A.t1 x hx)
     obtain⟨s3,W,s4,e3,e4⟩:=rp q R2 I2 hp (by rw[ht];exact A.tn) fun x hx=>by rw[ht]at hx;exact lst x (A.t1 x hx)
     refine⟨_,.rt (.tup [.str "never",.fz (iL W)]) s4,rfl,aq es ?_,.inr ⟨_,s4,rfl,_,rfl,.inl ⟨⟨W,rfl⟩,nev T I2 hg hn tq hs low hr (fun _=>by rw[ht,hs];exact nt)⟩⟩⟩;rw[Int.natCast_add]at e3;simp[dY,bA,dr,e3,e4]) (sl:=[Is nn,Zs (gv.map Gv.av),Ls goal,Rs 1,Is (m:Int),none,none,none,none]) (st:=st1) ⟨2,_,_,none,none,none,rfl,R1,A0⟩
 have ei:dz [bC,bY,bv,aK,ag,bt,br,aO,bX] (.es (.v 1) (.bin .Sub (.v 4) (.bi .len (.cons (.v 1) .nil)))) [Is nn,Zs (gv.map Gv.av),Ls goal,Rs 1,Is (m:Int),none,none,none,none] st1=some (⟨dG RR.length (gv.map Gv.av),[]⟩,st1):=by
  have h1:(m:Int)-(gv.length:Int)=(RR.length:Int):=by lia
  have h2:Nat.ble RR.length 1000000=true:=yL oM;simp[tX,bZ,d5,h1];lia
 rcases loop with⟨sl',st2,e2,a,rows,S,x5,x6,x7,rfl,R,A⟩|⟨v,st2,e2,t,ht,hA⟩
 ·rw[show(dG RR.length (gv.map Gv.av)).length=gv.length by unfold dG;simp]at A
  refine ar (sl':=[Is nn,Zs (gv.map Gv.av),Ls goal,Rs 1,Is (m:Int),x5,x6,x7,none]) (st':=st2) (by rw[nk,ei,bind_some];exact e2) ?_;have hp:m<RR.length+gv.length+1:=by lia
  have spg:S.s m=w+m:=A.un m oM hp;have ng:S.s m∉S.gd:=fun h=>by rcases A.g1 _ h with h|⟨y,_,h,_,_,h2⟩<;>lia
  obtain⟨r,e3,S2,a3,rows3,R3,K,I3,sp3,h3⟩:=Ci q.B R A.mi hp ng;have A3:AI w RR.length gv (ak RR gv goal) gv.length S2:=by
   refine⟨I3,fun x h1 h2=>?_,by rw[K.gd];exact A.g1,by rw[K.gd];exact A.g2,by rw[K.gd];exact A.g3,by rw[K.nl];exact A.n1,by rw[K.nl];exact A.n2,by rw[K.tn,K.nl];exact A.t1,by rw[K.tn];exact A.tn,by rw[K.gd];exact A.lg,by rw[K.nl];exact A.ln,by rw[K.tn];exact A.lt⟩;have:x=m:=by lia
   subst this;rw[sp3,spg]
  have P3:=I3.shp;have lst:∀x∈S2.tn,x<w+(RR.length+gv.length+1):=fun x hx=>by
   obtain⟨y,_,h,_,_,h2⟩:=A3.n1 _ (A3.t1 x hx);lia
  obtain⟨r1,r2⟩:=r;dsimp only at R3 h3
  -- the table
  have tb:∀X,GX S2 w w (RR.length+gv.length+1) X->Kp w RR gv (gI X) S2.d/\val w goal (gI X)=- S2.t m w:=fun X hX=>by
   have:=A3.vert Z (c:=w) oM (fun h=>by lia) (X:=gI X) hX.at_ (fun j hj h=>by
    rw[yH oM];exact hX.no _ h fun i hi=>Ne.symm (I3.pm.hs j i hj hi)) (fun i hi hg=>I3.fea.g i hi hg)
   rw[yI rfl,<- hm]at this;exact this
  rcases h3 with⟨rfl,hr⟩|⟨qq,rfl,hr,htn⟩
  ·refine ar (sl':=[Is nn,Zs (gv.map Gv.av),Ls goal,Rs 1,Is (m:Int),x5,x6,x7,some .non]) (st':=r2) (by simp[R.ins,e3]) ?_
   obtain⟨z,e4,X,T,W,hX,hT,hl,hW,hz⟩:=ya (m:=RR.length+gv.length) (p:=m) R3 I3 q.B oM A3.tn lst q.hw oM q.HA q.H oM;obtain⟨z1,z2⟩:=z;dsimp only at hz;refine⟨(z1,z2),by simp[e4],z1,by rw[hz];rfl,.inr (.inl ⟨- S2.t m w,S2.d,_,_,_,hz,I3.lin.pos,⟨by rw[Int.natAbs_neg];exact(q.B.bd I3).2 m oM w oM,(q.B.bd I3).1,rfl⟩,⟨gI X,(tb X hX).1,(tb X hX).2⟩,fun Y e he F=>?_⟩)⟩;obtain⟨f1,f2⟩:=A3.of Z F;have d:=I3.dual hp (hr.1 rfl) (fun x hx=>.inl (A3.t1 x hx)) (Y:=Y) (e:=e) (fun j hj h=>by
    rcases I3.fea.f j hj with h1|h1
    ·exact f1 _ h1
    ·exact absurd h1 h) (fun j hj h=>f2 _ h)
   have hnt:S2.s m∉S2.tn:=fun z=>by
    obtain⟨y,_,h,_,_,h2⟩:=A3.n1 _ (A3.t1 _ z);rw[sp3,spg]at h2;lia
   rw[yH hnt,sp3,spg,hm,dU wH (by rw[zH];exact Z.o),qR,yQ,Int.add_zero,<- hm]at d;have e5:S2.d*- val w goal Y=- (val w goal Y*S2.d):=by grind
   have e6:- S2.t m w*e=- (S2.t m w*e):=by grind
   lia
  ·refine ar (sl':=[Is nn,Zs (gv.map Gv.av),Ls goal,Rs 1,Is (m:Int),x5,x6,x7,Is (qq:Int)]) (st':=r2) (by simp[R.ins,e3]) ?_
   obtain⟨q1,q2,q3,_⟩:=hr.2 qq rfl;obtain⟨X,T,st4,e4,_,hX,R4⟩:=zr R3 P3 I3.pm (q.B.bd I3) q.HA oM oM;obtain⟨X2,st5,e5,hX2⟩:=FJ R4 P3 I3.pm (q.B.bd I3) q.HA oM oM q1;refine⟨(.tup [.str "endless",.tup [.fz (iL T),.int (gI (aG (X++[S2.d])) w)],.fz (iL (aG (if S2.h qq<w then X2.set (S2.h qq) S2.d else X2)))],st5),by simp[e4,e5],_,rfl,.inr (.inr ⟨_,_,rfl,rfl,⟨gI X,S2.d,I3.lin.pos,(tb X hX).1⟩,fun x=>if x=S2.h qq then S2.d else gI X2 x,?_⟩)⟩
   have:=A3.vert Z (c:=qq) oM (fun _=>q2) (X:=fun x=>if x=S2.h qq then S2.d else gI X2 x) (fun i hi hs=>by
    rw[yH (Ne.symm (I3.pm.hs qq i q1 hi))];exact hX2.at_ i hi hs) (fun j hj h=>by
    by_cases e:j=qq
    ·subst e;rw[yI rfl,yI rfl]
    ·rw[yH fun z=>e (I3.pm.hi j qq hj q1 z),yH e]
     exact hX2.no _ h fun i hi=>Ne.symm (I3.pm.hs j i hj hi)) (fun i hi hg=>by have:=htn.1 rfl i hi hg;lia)
   rw[yH oM,<- hm]at this;exact⟨this.1,by rw[this.2];lia⟩
 ·refine⟨(v,st2),?_,t,ht,hA⟩
  refine fH ?_;rw[nk,ei,bind_some];exact e2
end
noncomputable def RR2:List (List Int):=[[0,-1,1],[-1,0,1],[1,1,-1]]
noncomputable def Ik:Nat->List Int
 |1=>[1,0,1]
 |2=>[0,1,1]
 |_=>[1,1,1]
noncomputable def RR3:List (List Int):=[[0,0,0,0,0,-1,1],[0,0,0,0,-1,0,1],[0,0,-1,0,0,0,1],[1,1,-1,0,0,0,0],[0,0,0,-1,1,1,-1],[1,0,0,1,-1,0,0],[0,-1,1,0,0,1,-1],[0,1,0,1,0,-1,0],[-1,0,1,0,1,0,-1]]
noncomputable def Ij:Nat->List Int
 |1=>[1,0,0,1,0,0,1,0,0]
 |2=>[0,1,0,1,0,0,0,0,1]
 |3=>[1,1,0,1,0,0,1,0,1]
 |4=>[0,0,1,0,0,1,0,0,1]
 |5=>[1,0,1,1,0,0,1,0,1]
 |6=>[0,1,1,1,0,0,1,0,1]
 |_=>[1,1,1,1,0,0,1,0,1]
noncomputable def mk(w p m:Nat):List Int:=(List.range w).map fun i=>if p.testBit i then 1 else if m.testBit i then -1 else 0
def RR4:List (List Int):=[(16384,8192),(16384,4096),(16384,1024),(16384,64),(3,4),(48,72),(768,1152),(12288,18432),(9,16),(36,66),(2304,4224),(9216,16896),(129,256),(516,1026),(2064,4104),(8256,16416),(10,32),(20,65),(2560,8320),(5120,16640),(130,512),(260,1025),(2080,8200),(4160,16400),(136,2048),(272,4097),(544,8194),(1088,16388)].map fun z:Nat×Nat=>mk 15 z.1 z.2
def Ii(g:Nat):List Int:=mk 28 ([33297,8519698,8552979,134349060,134382101,142737942,142770711,136318984,136348185,142745626,142770715,142754060,142770717,142770718,142770719].getD (g-1) 0) 0
theorem c6(hr:rfs args=true)(h:((fn args []).bind fun p=>eA p.2 p.1)=some t):pm fn args st=some (t,st):=by
 obtain⟨p,h1,h2⟩:=zA h;exact cL hr h1 h2
def J9(nn:Int)(w nr:Nat)(HO:Nat->List Int):Bool:=(List.range w).all fun g=>(match (cB [.int nn,.int ((g+1:Nat):Int),.int 0] []).bind fun p=>eA p.2 p.1 with
 |some rr=>rf rr&&(match (dA [.int nn,rr] []).bind fun p=>eA p.2 p.1 with
  |some x=>cC x (.fz (iL (HO (g+1))))
  |none=>false)
 |none=>false)&&((HO (g+1)).length==nr&&(HO (g+1)).all fun x=>Nat.ble x.natAbs 15)
theorem oY{nn:Int}{w nr:Nat}{HO:Nat->List Int}(h:J9 nn w nr HO=true):HOk nn w nr HO:=by
 have at_:∀grp:Nat,1<=grp->grp<=w->(∃rr,(∀st,pm cB [.int nn,.int grp,.int 0] st=some (rr,st))/\∀st,pm dA [.int nn,rr] st=some (.fz (iL (HO grp)),st))/\(HO grp).length=nr/\∀x∈HO grp,x.natAbs<=15:=fun grp h1 h2=>by
  obtain⟨g,rfl⟩:∃g,grp=g+1:=⟨grp-1,by lia⟩;have h:=yR.mp h g (List.mem_range.mpr oM);simp only[zC]at h;obtain⟨h3,h4,h5⟩:=h;refine⟨?_,yK h4,fun x hx=>zS (yR.mp h5 x hx)⟩;split at h3
  ·rename_i rr e1
   simp only[zC]at h3;obtain⟨h6,h7⟩:=h3;split at h7
   ·rename_i x e2
    rw[sn h7]at e2;exact⟨rr,fun st=>c6 rfl e1,fun st=>c6 (by simp[rfs,rf,h6]) e2⟩
   ·cases h7
  ·cases h3
 exact⟨fun grp h1 h2=>(at_ grp h1 h2).1,fun grp h1 h2=>(at_ grp h1 h2).2.1,fun grp h1 h2=>(at_ grp h1 h2).2.2⟩
theorem KD:∀st,pm ao [.int 2] st=some (.int ((3:Nat):Int),st):=fun st=>c6 rfl (by kernel_rfl)
theorem KC:∀st,pm ao [.int 3] st=some (.int ((7:Nat):Int),st):=fun st=>c6 rfl (by kernel_rfl)
theorem KB:∀st,pm ao [.int 4] st=some (.int ((15:Nat):Int),st):=fun st=>c6 rfl (by kernel_rfl)
theorem Kv:∀st,pm aN [.int 2] st=some (.fz (ay RR2),st):=fun st=>c6 rfl (by kernel_rfl)
theorem Ku:∀st,pm aN [.int 3] st=some (.fz (ay RR3),st):=fun st=>c6 rfl (by kernel_rfl)
theorem Kt:∀st,pm aN [.int 4] st=some (.fz (ay RR4),st):=fun st=>c6 rfl (by kernel_rfl)
theorem Kz:HOk 2 3 RR2.length Ik:=oY (by kernel_rfl)
theorem Ky:HOk 3 7 RR3.length Ij:=oY (by kernel_rfl)
theorem Kx:HOk 4 15 RR4.length Ii:=oY (by kernel_rfl)
noncomputable def RR1:List (List Int):=[[1]]
noncomputable def Il:Nat->List Int:=fun _=>[1]
theorem KF:∀st,pm ao [.int 1] st=some (.int ((1:Nat):Int),st):=fun st=>c6 rfl (by kernel_rfl)
theorem Kw:∀st,pm aN [.int 1] st=some (.fz (ay RR1),st):=fun st=>c6 rfl (by kernel_rfl)
theorem KA:HOk 1 1 RR1.length Il:=oY (by kernel_rfl)
noncomputable def M0:Nat:=2^200
theorem Fl{w:Nat}(hw:w<=15)(hR:RR.length<=100)(hg:gv.length<=100)(h1:∀l∈RR,∀x∈l,x.natAbs<=M0)(h2:∀z∈gv,(∀x∈z.row,x.natAbs<=M0)/\z.num.natAbs<=M0)(h3:∀x∈goal,x.natAbs<=M0):Bnd w (RR.length+gv.length+1) (v0 w (ak RR gv goal)):=by
 refine⟨⟨M0,Nat.one_le_two_pow,fun q x hx=>?_,?_⟩,by lia,by lia⟩
 ·have hM:1<=M0:=Nat.one_le_two_pow
  unfold v0;split
  ·split<;>simp[hM]
  ·unfold gI
   rw[zD,zD];cases e:(ak RR gv goal)[q-w]? with
   |none=>simp
   |some l =>
    have hl:=zW e;simp only[Option.getD_some];cases e2:l[x]? with
    |none=>simp
    |some y =>
     have hy:=zW e2;simp only[Option.getD_some];unfold ak at hl;simp only[zZ,yD,zM]at hl;rcases hl with(⟨r,hr,rfl⟩|⟨z,hz,rfl⟩)|rfl
     ·rcases zZ.mp hy with h|h
      ·exact h1 r hr y h
      ·rw[zM.mp h];simp
     ·rcases zZ.mp hy with h|h
      ·exact(h2 z hz).1 y h
      ·rw[zM.mp h,Int.natAbs_neg];exact(h2 z hz).2
     ·rcases zZ.mp hy with h|h
      ·obtain⟨u,hu,rfl⟩:=yD.mp h
       rw[Int.natAbs_neg];exact h3 u hu
      ·rw[zM.mp h];simp
 ·have f:SX.fct (w+1)<=2^45:=by
   have:w=0\/w=1\/w=2\/w=3\/w=4\/w=5\/w=6\/w=7\/w=8\/w=9\/w=10\/w=11\/w=12\/w=13\/w=14\/w=15:=by lia
   rcases this with rfl|rfl|rfl|rfl|rfl|rfl|rfl|rfl|rfl|rfl|rfl|rfl|rfl|rfl|rfl|rfl<;>decide
  have p:M0^(w+1)<=2^3200:=by
   unfold M0;rw[<- Nat.pow_mul];exact Nat.pow_le_pow_right dC oM
  refine yM (Nat.mul_le_mul f p) ?_;rw[<- Nat.pow_add];exact Nat.pow_lt_pow_right dC dC
def jh(cs:List Int)(RR:List (List Int))(x:Nat):Int:=((cs.zip RR).map fun z=>z.1*gI z.2 x).sum
theorem rD{w:Nat}{Y:Nat->Int}:∀(cs:List Int)(RR:List (List Int)),LV w (fun x=>jh cs RR x*Y x)=((cs.zip RR).map fun z=>z.1*val w z.2 Y).sum
 |[],_=>by simp[jh];exact SX.sum_zero fun _ _=>rfl
 |_::_,[]=>by simp[jh];exact SX.sum_zero fun _ _=>rfl
 |c::cs,r::RR=>by
  rw[List.zip_cons_cons,zO,List.sum_cons,<- rD cs RR];unfold val;rw[<- SX.sum_mul,<- SX.sum_add];refine SX.sum_congr fun x _=>?_
  show jh (c::cs) (r::RR) x*Y x=_;have:jh (c::cs) (r::RR) x=c*gI r x+jh cs RR x:=by simp[jh]
  rw[this];grind
theorem ED{w:Nat}{Y:Nat->Int}{cs:List Int}{RR:List (List Int)}(hc:∀c∈cs,0<=c)(h:∀r∈RR,0<=val w r Y):0<=((cs.zip RR).map fun z=>z.1*val w z.2 Y).sum:=by
 have:∀l:List (Int×List Int),(∀z∈l,0<=z.1/\0<=val w z.2 Y)->0<=(l.map fun z=>z.1*val w z.2 Y).sum:=fun l=>by
  induction l with
  |nil=>intro _;simp
  |cons z l ih =>
   intro h;rw[zO,List.sum_cons];have h1:=Int.mul_nonneg (h z z7).1 (h z z7).2;have h2:=ih fun y hy=>h y (zQ _ hy)
   lia
 exact this _ fun z hz=>⟨hc _ (List.of_mem_zip hz).1,h _ (List.of_mem_zip hz).2⟩
def HF(w:Nat)(RR:List (List Int))(HO:Nat->List Int):Bool:=(List.range w).all fun g=>(HO (g+1)).all (fun c=>decide (0<=c))&&(List.range w).all fun x=>jh (HO (g+1)) RR x==if x=g then 1 else 0
theorem tz{w:Nat}{RR:List (List Int)}{HO:Nat->List Int}(hb:HF w RR HO=true):∀Y:Nat->Int,(∀r∈RR,0<=val w r Y)->∀x,x<w->0<=Y x:=fun Y h g hg=>by
 have hb:=yR.mp hb g (List.mem_range.mpr hg);rw[zC]at hb;have hc:∀c∈HO (g+1),0<=c:=fun c hc=>of_decide_eq_true (yR.mp hb.1 c hc)
 have hx:∀x,x<w->jh (HO (g+1)) RR x=if x=g then 1 else 0:=fun x hx=>yK (yR.mp hb.2 x (List.mem_range.mpr hx))
 have e:=rD (w:=w) (Y:=Y) (HO (g+1)) RR;rw[SX.sum_one hg fun x h1 h2=>by rw[hx x h1,yH h2,yQ],hx g hg,yI rfl,Int.one_mul]at e;rw[e];exact ED hc h
def ie(n:Nat):Prop:=n=1\/n=2\/n=3\/n=4
def mP(n:Nat):List (List Int):=if n=1 then RR1 else if n=2 then RR2 else if n=3 then RR3 else RR4
def Ih(n:Nat):Nat->List Int:=if n=1 then Il else if n=2 then Ik else if n=3 then Ij else Ii
theorem HD{n:Nat}{gv:List Gv}{goal:List Int}(hn:ie n)(hg:gv.length<=100)(h2:∀z∈gv,z.row.length=2^n-1/\(∀x∈z.row,x.natAbs<=M0)/\z.num.natAbs<=M0)(h3:goal.length=2^n-1/\∀x∈goal,x.natAbs<=M0):Qu n (2^n-1) (mP n) (Ih n) gv goal:=by
 have h1:∀l∈mP n,l.length=2^n-1/\∀x∈l,x.natAbs<=1:=by rcases hn with rfl|rfl|rfl|rfl<;>decide +kernel
 have hR:(mP n).length<=100:=by rcases hn with rfl|rfl|rfl|rfl<;>decide
 have hw:2^n-1<=15:=by rcases hn with rfl|rfl|rfl|rfl<;>decide
 have hM:1<=M0:=Nat.one_le_two_pow;have hb:HF (2^n-1) (mP n) (Ih n)=true:=by rcases hn with rfl|rfl|rfl|rfl<;>kernel_rfl
 have B:=Fl hw hR hg (fun l hl x hx=>z5 ((h1 l hl).2 x hx) hM) (fun z hz=>(h2 z hz).2) h3.2;have Z:Sz (2^n-1) (mP n) gv goal:=⟨fun l hl=>(h1 l hl).1,fun z hz=>(h2 z hz).1,h3.1,tz hb⟩;rcases hn with rfl|rfl|rfl|rfl
 ·exact⟨Kw,KF,KA,Z,hw,hR,hg,B⟩
 ·exact⟨Kv,KD,Kz,Z,hw,hR,hg,B⟩
 ·exact⟨Ku,KC,Ky,Z,hw,hR,hg,B⟩
 ·exact⟨Kt,KB,Kx,Z,hw,hR,hg,B⟩
theorem wB{nn:Int}{w:Nat}{RR:List (List Int)}{HO:Nat->List Int}{gv:List Gv}{goal:List Int}(q:Qu nn w RR HO gv goal):∃t,(∀st,pm eU [.int nn,.fz (gv.map Gv.av),.fz (iL goal)] st=some (t,st))/\o7 w RR gv goal t:=by
 obtain⟨z,e,t,h,A⟩:=zc q;exact⟨t,fun st=>cL rfl e h,A⟩
theorem jg{a b:Int}(h:a.natAbs<2^62):cG a b=true:=by
 unfold cG;have:Nat.ble a.natAbs.log2 62=true:=yL (by
  by_cases hz:a.natAbs=0
  ·rw[hz];decide
  ·exact yZ ((Nat.log2_lt hz).mpr h))
 rw[this];simp
theorem lX{a b:Int}(h:b.natAbs<2^62):cG a b=true:=by
 unfold cG;have:Nat.ble b.natAbs.log2 62=true:=yL (by
  by_cases hz:b.natAbs=0
  ·rw[hz];decide
  ·exact yZ ((Nat.log2_lt hz).mpr h))
 rw[this];simp
theorem kg{a b:Int}(h:0<b):ou a b=a%b:=yI h
theorem Al{a b:Int}(h:0<b):rZ a b=a/b:=yI h
theorem lZ{a b:Int}(h:0<b):0<=a%b/\a%b<b:=⟨Int.emod_nonneg _ oM,Int.emod_lt_of_pos _ h⟩
theorem Gs{c:Int}{k:Nat}(hk:k<=1000):∃m:Int,pm cJ [.int c,.int k] st=some (.int m,st)/\0<=m/\m<2147483629:=by
 have hkk:((k:Int)*(k:Int)).natAbs<2^62:=by
  rw[xA,Int.natAbs_natCast];have:k*k<=1000*1000:=Nat.mul_le_mul hk hk;exact yM this dC
 obtain⟨x,hx⟩:∃x,x=(c%2147483647+(k:Int)*(k:Int)*7919+104729)*48271%2147483647:=⟨_,rfl⟩;have xr:=lZ (a:=(c%2147483647+(k:Int)*(k:Int)*7919+104729)*48271) (b:=2147483647) dC;rw[<- hx]at xr;have xs:x.natAbs<2^62:=by have:(2:Nat)^62=4611686018427387904:=dC;lia
 refine⟨(x*x+69621*(k:Int))%2147483629,cL rfl (v:=.int ((x*x+69621*(k:Int))%2147483629)) (st':=[]) ?_ rfl,(lZ dC).1,(lZ dC).2⟩;have m1:cG (k:Int) (k:Int)=true:=jg (by rw[Int.natAbs_natCast];exact yM hk dC);have m2:cG ((k:Int)*(k:Int)) 7919=true:=lX dC;have m3:cG (c%2147483647+(k:Int)*(k:Int)*7919+104729) 48271=true:=lX dC;have m4:cG x x=true:=jg xs;have m5:cG 69621 (k:Int)=true:=jg dC;rw[cJ,aD];unfold jq;refine ah (sl':=[Is c,Is (k:Int),Is x]) (st':=[]) ?_ ?_
 ·simp [gE (show (2147483647:Int) ≠ 0 by decide),kg (show (0:Int) < 2147483647 by decide),bO m1,bO m2,bO m3,<- hx]
 ·simp [gE (show (2147483629:Int) ≠ 0 by decide),kg (show (0:Int) < 2147483629 by decide),bO m4,bO m5]
theorem sZ:bh .Pow st (.int 10) (.int 18)=some (.int 1000000000000000000):=by kernel_rfl
theorem Cj(hn:ns.length<=63):∃A B D,dP [.fz (iL ns),.int 1,.int 400] []=some (.ref 2,[A,B,LQ.lst (iL D)])/\D.length=400/\∀x∈D,0<=x/\x<2147483587:=by
 obtain⟨C,hC⟩:∃C,C=ns++[1]:=⟨_,rfl⟩;have lC:C.length=ns.length+1:=by rw[hC];simp
 obtain⟨sl',st',e,lf,fd,y6,y7,y8,rfl,rfl,h1,h2,h3⟩:=dR (gd:=[]) (g:=bM [cJ] (.nm 6)) (s:=aj [cJ] (.cons (.as (.bin .Mod (.v 6) (.bi .len (.cons (.v 3) .nil))) (.nm 7))
 (.cons (.as (.ca true 0 (.cons (.ix (.v 3) (.v 7)) (.cons (.v 6) .nil))) (.nm 8))
 (.cons (.as (.bin .Mod (.bin .Add (.bin .Mult (.v 8) (.v 8)) (.bin .Mult (.i 7) (.v 6))) (.i 2147483587)) (.nm 8))
 (.cons (.iff (.an (.cmp .GtE (.ix (.v 3) (.v 7)) (.bin .Pow (.i 10) (.i 18))) (.cmp .Gt (.ix (.v 4) (.v 7)) (.i 0)))
 (.cons (.as (.bin .Mod (.ix (.v 4) (.v 7)) (.i 2147483587)) (.nm 8))
 (.cons (.as (.bin .FloorDiv (.ix (.v 4) (.v 7)) (.i 2147483587)) (.su (.v 4) (.v 7)))
 .nil))
 .nil)
 (.cons (.ex (.mt .app (.v 5) (.cons (.v 8) .nil)))
 .nil))))))
  (I:=fun i sl s=>∃lf fd y6 y7 y8,s=[LQ.lst (iL lf),LQ.lst (iL fd)]/\sl=[Ls ns,Is 1,Is 400,Ls C,Rs 0,Rs 1,y6,y7,y8]/\lf.length=C.length/\fd.length=i/\∀x∈fd,0<=x/\x<2147483587) (xs:=cF 0 401) (fun _ _ _ _ _=>rfl)
  (fun i y sl s hy hI=>by
   obtain⟨lf,fd,y6,y7,y8,rfl,rfl,h1,h2,h3⟩:=hI;rw[lO]at hy;have hi:i<401:=by have:=(zB.mp hy).1;simpa using this
   have ey:y=.int ((i:Nat):Int):=by
    rw[fK (by simpa using hi)]at hy;injection hy with hy;rw[<- hy];simp[zD,hi]
   subst ey;obtain⟨q,hq⟩:∃q,q=i%C.length:=⟨_,rfl⟩;have ql:q<C.length:=by rw[hq];exact Nat.mod_lt _ oM
   obtain⟨m,em,m0,m1⟩:=Gs (c:=gI C q) (k:=i) oM (st:=[LQ.lst (iL lf),LQ.lst (iL fd)]);have xC:cm [LQ.lst (iL lf),LQ.lst (iL fd)] (.fz (iL C)) (.int (q:Int))=some (.int (gI C q)):=by rw[cq fj,b8,bL ql]
   have xL:cm [LQ.lst (iL lf),LQ.lst (iL fd)] (.ref 0) (.int (q:Int))=some (.int (gI lf q)):=by rw[cq (bu rfl),b8,bL oM]
   have mm:cG m m=true:=jg (by have:(2:Nat)^62=4611686018427387904:=dC;lia);have m7:cG 7 (i:Int)=true:=jg dC;have am:ou ((i:Nat):Int) ((C.length:Nat):Int)=((q:Nat):Int):=by rw[kg oM,hq];simp
   have P0:(0:Int)<2147483587:=by decide
   -- the number
   have app:∀(lf':List Int)(x:Int)(z8:Option AV),cA [cJ] (.ex (.mt .app (.v 5) (.cons (.v 8) .nil))) [Ls ns,Is 1,Is 400,Ls C,Rs 0,Rs 1,Is (i:Int),Is (q:Int),Is x] [LQ.lst (iL lf'),LQ.lst (iL fd)]=some (.nx [Ls ns,Is 1,Is 400,Ls C,Rs 0,Rs 1,Is (i:Int),Is (q:Int),Is x] [LQ.lst (iL lf'),LQ.lst (iL (fd++[x]))]):=fun lf' x _=>by
    rw[xc,Aw (k:=1) (xs:=iL fd) (y:=.int x) rfl rfl rfl (by simp;lia),ET,vU];rfl
   by_cases hc:1000000000000000000<=gI C q/\0<gI lf q
   ·refine⟨_,[Ls ns,Is 1,Is 400,Ls C,Rs 0,Rs 1,Is (i:Int),Is (q:Int),Is (gI lf q%2147483587)],[LQ.lst (iL (lf.set q (gI lf q/2147483587))),LQ.lst (iL (fd++[gI lf q%2147483587]))],rfl,?_,_,_,_,_,_,rfl,rfl,by simp[h1],by simp[h2],fun x hx=>?_⟩
    ·refine aq (sl':=[Ls ns,Is 1,Is 400,Ls C,Rs 0,Rs 1,Is (i:Int),Is (q:Int),y8]) (st':=[LQ.lst (iL lf),LQ.lst (iL fd)]) ?_ ?_
     ·simp [bZ,d5,gE (show ((C.length:Nat):Int) ≠ 0 by lia),am]
     refine aq (sl':=[Ls ns,Is 1,Is 400,Ls C,Rs 0,Rs 1,Is (i:Int),Is (q:Int),Is m]) (st':=[LQ.lst (iL lf),LQ.lst (iL fd)]) (by simp[xC,em]) ?_;refine aq (sl':=[Ls ns,Is 1,Is 400,Ls C,Rs 0,Rs 1,Is (i:Int),Is (q:Int),Is ((m*m+7*(i:Int))%2147483587)]) (st':=[LQ.lst (iL lf),LQ.lst (iL fd)]) ?_ ?_
     ·simp [bO mm,bO m7,gE (show (2147483587:Int) ≠ 0 by decide),kg P0]
     refine aq (sl':=[Ls ns,Is 1,Is 400,Ls C,Rs 0,Rs 1,Is (i:Int),Is (q:Int),Is (gI lf q%2147483587)]) (st':=[LQ.lst (iL (lf.set q (gI lf q/2147483587))),LQ.lst (iL fd)]) ?_ (aq (app _ _ none) rfl);have dv:dD 2147483587=true:=by decide
     have hs:=cO (st:=[LQ.lst (iL lf),LQ.lst (iL fd)]) (k:=0) (q:=q) (xs:=iL lf) (x:=.int (gI lf q / 2147483587)) rfl (by simp;lia);rw [dI] at hs;simp [xC,xL,sZ,hc.1,hc.2,gE (show (2147483587:Int) ≠ 0 by decide),kg P0,kt dv,Al P0,hs]
    ·rcases zZ.mp hx with h|h
     ·exact h3 x h
     ·rw[zM.mp h];exact lZ P0
   ·refine⟨_,[Ls ns,Is 1,Is 400,Ls C,Rs 0,Rs 1,Is (i:Int),Is (q:Int),Is ((m*m+7*(i:Int))%2147483587)],[LQ.lst (iL lf),LQ.lst (iL (fd++[(m*m+7*(i:Int))%2147483587]))],rfl,?_,_,_,_,_,_,rfl,rfl,h1,by simp[h2],fun x hx=>?_⟩
    ·refine aq (sl':=[Ls ns,Is 1,Is 400,Ls C,Rs 0,Rs 1,Is (i:Int),Is (q:Int),y8]) (st':=[LQ.lst (iL lf),LQ.lst (iL fd)]) ?_ ?_
     ·simp [bZ,d5,gE (show ((C.length:Nat):Int) ≠ 0 by lia),am]
     refine aq (sl':=[Ls ns,Is 1,Is 400,Ls C,Rs 0,Rs 1,Is (i:Int),Is (q:Int),Is m]) (st':=[LQ.lst (iL lf),LQ.lst (iL fd)]) (by simp[xC,em]) ?_;refine aq (sl':=[Ls ns,Is 1,Is 400,Ls C,Rs 0,Rs 1,Is (i:Int),Is (q:Int),Is ((m*m+7*(i:Int))%2147483587)]) (st':=[LQ.lst (iL lf),LQ.lst (iL fd)]) ?_ ?_
     ·simp [bO mm,bO m7,gE (show (2147483587:Int) ≠ 0 by decide),kg P0]
     refine aq (sl':=[Ls ns,Is 1,Is 400,Ls C,Rs 0,Rs 1,Is (i:Int),Is (q:Int),Is ((m*m+7*(i:Int))%2147483587)]) (st':=[LQ.lst (iL lf),LQ.lst (iL fd)]) ?_ (aq (app _ _ none) rfl);by_cases hc1:1000000000000000000<=gI C q
     ·have hc2:¬0<gI lf q:=fun z=>hc ⟨hc1,z⟩
      simp[xC,xL,sZ,hc1,hc2]
     ·simp[xC,sZ,hc1]
    ·rcases zZ.mp hx with h|h
     ·exact h3 x h
     ·rw[zM.mp h];exact lZ P0) (sl:=[Ls ns,Is 1,Is 400,Ls C,Rs 0,Rs 1,none,none,none]) (st:=[LQ.lst (iL (C.map fun x=>x/100000)),LQ.lst (iL [])]) ⟨_,[],none,none,none,rfl,rfl,by simp,rfl,by simp⟩
 have rl:(cF 0 401).length=401:=by decide
 rw[rl]at h2;refine⟨LQ.lst (iL lf),LQ.lst (iL fd),fd.drop 1,?_,by simp[h2],fun x hx=>h3 x (List.mem_of_mem_drop hx)⟩;rw[dP,aD];unfold hU;refine ah (sl':=[Ls ns,Is 1,Is 400,Ls C,none,none,none,none,none]) (st':=[]) ?_ ?_
 ·have cu:cut (iL ns) none (some 63)=iL ns:=by
   unfold cut;have:HT.L6 (iL ns).length (iL ns).length (some 63)=(iL ns).length:=by
    rw[show(63:Int)=((63:Nat):Int) from rfl,HT.sIx_nat,fq];lia
   rw[this,HT.sIx_none,List.drop_zero,Nat.sub_zero,List.take_length]
  have c:=i8 (ks:=[cJ]) (a:=.nw false (.sl (.v 0) .no (.so (.i 63)))) (b:=.nw false (.li (.cons (.v 1) .nil))) (sl:=[Ls ns,Is 1,Is 400,none,none,none,none,none,none]) (st:=[]) (s1:=[]) (s2:=[]) (x:=.fz (iL ns)) (y:=.fz [AV.int 1]) (l:=ns) (l':=[1]) (by simp[lV,lS,cu]) (by simp[cj]) rfl rfl (by simp;lia);simp[-tE,c,hC]
 refine ah (sl':=[Ls ns,Is 1,Is 400,Ls C,Rs 0,none,none,none,none]) (st':=[LQ.lst (iL (C.map fun x=>x/100000))]) ?_ ?_
 ·have dv:dD 100000=true:=by decide
  simp [bU (show C.length <= 1000 by lia)];rw [ji (F:=fun x=>x / 100000) fc fun x hx=>⟨_,rfl,rfl,by simp [kt dv,Al (show (0:Int) < 100000 by decide)]⟩];simp
 refine ah (sl':=[Ls ns,Is 1,Is 400,Ls C,Rs 0,Rs 1,none,none,none]) (st':=[LQ.lst (iL (C.map fun x=>x/100000)),LQ.lst (iL [])]) (by simp[cj,iL]) ?_;refine ah (sl':=[Ls ns,Is 1,Is 400,Ls C,Rs 0,Rs 1,y6,y7,y8]) (st':=[LQ.lst (iL lf),LQ.lst (iL fd)]) ?_ ?_
 ·have rb:eM 401=true:=by decide
  have:dz [cJ] (.r1 (.bin .Add (.v 1) (.v 2))) [Ls ns,Is 1,Is 400,Ls C,Rs 0,Rs 1,none,none,none] [LQ.lst (iL (C.map fun x=>x/100000)),LQ.lst (iL [])]=some (⟨cF 0 401,[]⟩,[LQ.lst (iL (C.map fun x=>x/100000)),LQ.lst (iL [])]):=by
   simp[vT,rb]
  rw[nk,this,bind_some];exact e
 ·have cu:cut (iL fd) (some 1) none=iL (fd.drop 1):=by
   unfold cut;rw[HT.sIx_none,show(1:Int)=((1:Nat):Int) from rfl,HT.sIx_nat,fq,h2,rQ];rw[List.take_of_length_le (by simp[h2])];rfl
  have l1:bA [LQ.lst (iL lf),LQ.lst (iL fd)] (.ref 1)=some (iL fd):=bu rfl;simp[lV,lS,l1,cu]
theorem oT{r:Nat}{x:Int}(h:st[r]?=some (.lst (iL (D++[x])))):af [.ref r] st=some (.int x,st.set r (.lst (iL D))):=by
 have hp:∀l:List Int,bI (ce 8 st) (iL l)=some (l.map PyData.int):=fun l=>fM (f:=ce 8 st) (i:=AV.int) (g:=PyData.int) (fun _=>rfl) l
 have hl:∀l:List Int,PyData.canLayAll0 (l.map PyData.int)=true:=fun l=>by
  induction l with
  |nil=>rfl
  |cons a l ih=>simp only[zO,PyData.canLayAll0,PyData.canLay0,ih,Bool.and_self]
 have c:cx .Eq st (.ref r) (.fz [])=some false:=by
  show jz st (.ref r) (.fz [])=_;unfold jz;have p1:ce 9 st (.ref r)=some (.list ((D++[x]).map PyData.int)):=by
   unfold ce;simp only[h,hp,map_some]
  have p2:ce 9 st (.fz [])=some (.list []):=rfl;rw[p1,p2,bind_some,bind_some,yI ?_]
  ·rw[List.map_append]
   cases D.map PyData.int<;>rfl
  ·have h1:(PyData.list ((D++[x]).map PyData.int)).canLay0=true:=by unfold PyData.canLay0;exact hl _
   have h2:(PyData.list []).canLay0=true:=rfl;have h3:min (PyData.list ((D++[x]).map PyData.int)).depth (PyData.list []).depth<=50:=z5 (Nat.min_le_right _ _) dC;unfold DD.pyOk;rw[h1,h2,yW h3];rfl
 have e1:(iL (D++[x]))[D.length]?=some (.int x):=by unfold iL;simp
 have e2:(iL (D++[x])).dropLast=iL D:=by unfold iL;simp
 simp[af,aD,jp,cj,c,k4,pM,pL,ph,bu h,tO,gD,h,e1,e2];exact(zB.mp e1).2
section
variable{ks:List Fn}{sl:Sl}{st:aa}{ss:L5}{P:AV×aa->Prop}
theorem eK{s:Sx}{v:AV}{st':aa}(h:cA ks s sl st=some (.rt v st'))(hp:P (v,st')):∃r,(aj ks (.cons s ss) sl st).bind ax=some r/\P r:=⟨_,fH h,hp⟩
theorem jE{α:Type}{em:α->AV}{it:Ix}{t:Tg}{b:L5}{xs:List α}{gd:Gd}{st0:aa}(I:Nat->Sl->aa->Prop)(hi:dz ks it sl st=some (⟨xs.map em,gd⟩,st0))(hg:∀i sl st,I i sl st->bQ gd st=true)(h0:I 0 sl st0)
  (h:∀i x sl st,xs[i]?=some x->I i sl st->∃p sl2 st2,bM ks t (em x) sl st=some p/\aj ks b p.1 p.2=some (.nx sl2 st2)/\I (i+1) sl2 st2)
  (hr:∀sl' st',I xs.length sl' st'->∃r,(aj ks ss sl' st').bind ax=some r/\P r):∃r,(aj ks (.cons (.fo it t b) ss) sl st).bind ax=some r/\P r:=by
 obtain⟨sl',st',e,hI⟩:=dR (gd:=gd) (g:=bM ks t) (s:=aj ks b) (I:=I) (xs:=xs.map em) (fun i sl st _ hI=>hg i sl st hI) (fun i y sl st hy hI=>by
  rw[zR]at hy;obtain⟨x,hx,rfl⟩:=zE.mp hy;exact h i x sl st hx hI) h0
 rw[zH]at hI;obtain⟨r,e2,hp⟩:=hr sl' st' hI;exact⟨r,ah (by rw[nk,hi,bind_some];exact e) e2,hp⟩
end
theorem CO{f:AV->AV->Option AV}{h:Nat->Nat->Nat} (t:∀x:Nat,x<16->∀y:Nat,y<16->(match f (.int x) (.int y) with
  |some (.int b)=>decide (b=(h x y:Int))
  |_=>false)=true) {x y:Nat} (hx:x<16) (hy:y<16):f (.int (x:Int)) (.int (y:Int))=some (.int (h x y:Int)):=by
 have t:=t x hx y hy;split at t
 ·rename_i b e
  rw[of_decide_eq_true t]at e;exact e
 ·cases t
section
variable{st:aa}{os:List Nat}{n g k j:Nat}{D:List Int}
theorem tf{x y:Nat}(hx:x<16)(hy:y<16):bh .BitOr st (.int (x:Int)) (.int (y:Int))=some (.int ((x ||| y:Nat):Int)):=by
 show bh .BitOr [] (.int (x:Int)) (.int (y:Int))=_;exact CO (f:=bh .BitOr []) (h:=fun x y=>x ||| y) (by decide +kernel) hx hy
theorem je{ks:List Fn}{a:Ex}{sl:Sl}{n:Nat}(h:ev ks a sl st=some (.int (n:Int),st))(hn:n<=1000):dz ks (.r1 a) sl st=some (⟨(List.range n).map fun q:Nat=>AV.int (q:Int),[]⟩,st):=by
 show(ev ks a sl st).bind _=_;rw[h,bind_some];dsimp only;have:eM (n:Int)=true:=by
  unfold eM;refine yL ?_;rw[Int.natAbs_natCast];by_cases hz:n=0
  ·subst hz;decide
  ·exact yZ ((Nat.log2_lt hz).mpr (yM hn dC))
 rw[yI this,Int.toNat_natCast,lO];rfl
theorem Ax{ks:List Fn}{a e:Ex}{sl:Sl}{y:AV}{xs:List AV}{k:Nat}(h1:ev ks a sl st=some (.ref k,st))(h2:ev ks e sl st=some (y,st))(h3:st[k]?=some (.lst xs))(hl:xs.length<=1000):cA ks (.ex (.mt .app a (.cons e .nil))) sl st=some (.nx sl (st.set k (.lst (xs++[y])))):=by
 simp[k4,pM,pL,h1,ph,bu h3,h2,pP,gD,h3,bU hl]
theorem yb{α:Type}{ks:List Fn}{k:Nat}{it:Ix}{t:Tg}{c:Cx'}{e:Ex}{sl:Sl}{gd:Gd}{em:α->AV}{B:α->Bool}{F:α->AV}{xs:List α}(hi:dz ks it sl st=some (⟨xs.map em,gd⟩,st))(hg:bQ gd st=true)(hz:xs.length<=1000)
  (h:∀x∈xs,∃sl1,bM ks t (em x) (sl++List.replicate k none) st=some (sl1,st)/\iy ks c sl1 st=some (B x,st)/\(B x=true->ev ks e sl1 st=some (F x,st))):g7 ks (.lc k it t c e) sl st=some ((xs.filter B).map F,st):=by
 rw[Ek,hi,bind_some];dsimp only;rw[yI (bU (by rw[zH];exact hz))];exact fN hg h
theorem uF{b:Bool}:dY st (.bl b)=some b:=rfl
theorem Ey{m:Nat}{l:List Int}:bI (ce (m+1) st) (iL l)=some (l.map PyData.int):=fM (f:=ce (m+1) st) (i:=AV.int) (g:=PyData.int) (fun _=>rfl) l
theorem fm(h:D≠[]):∃D' x,D=D'++[x]:=⟨D.dropLast,D.getLast h,(List.dropLast_concat_getLast h).symm⟩
end
section
variable{st:aa}{os:List Nat}{n g k j:Nat}{A B O:LQ}{D T:List Int}
def okD(D:List Int):Prop:=∀x∈D,0<=x/\x<2147483587
theorem okD.at{D:List Int}{x:Int}(h:okD (D++[x])):0<=x/\okD D:=⟨(h x (by simp)).1,fun y hy=>h y (by simp[hy])⟩
def HV(m:Nat):Bool:=match (aZ [.int m] []).bind fun p=>eA p.2 p.1 with
 |some (.int b)=>decide (0<=b/\b<=4/\(0<m->1<=b))
 |_=>false
theorem Fj:(List.range 16).all HV=true:=by kernel_rfl
theorem wx{m:Nat}(hm:m<16):∃b:Int,0<=b/\b<=4/\(0<m->1<=b)/\∀st,pm aZ [.int (m:Int)] st=some (.int b,st):=by
 have h:=yR.mp Fj m (List.mem_range.mpr hm);unfold HV at h;split at h
 ·rename_i b e
  obtain⟨h1,h2,h3⟩:=of_decide_eq_true h;exact⟨b,h1,h2,h3,fun st=>c6 rfl e⟩
 ·cases h
theorem Gu{a b:Int}:∃c:Int,bZ nA [.int a,.int b] st=some (.int c,st)/\(c=a\/c=b):=by
 have:bZ nA [.int a,.int b] st=some (.int (if b<a then b else a),st):=rfl;exact⟨_,this,by split<;>simp⟩
theorem pY{i:Nat}(hi:i<T.length):cm st (.fz (iL T)) (.int (i:Int))=some (.int (SX.gI T i)):=by rw[cq fj,b8,bL hi]
theorem C1{c:Int}(h:c.natAbs<=100):c.natAbs<2^62:=yM h dC
theorem jS{z c:Int}(hc:dD c=true)(h0:0<c):bh .FloorDiv st (.int z) (.int c)=some (.int (z/c)):=by rw[kt hc];exact congrArg (fun q=>some (AV.int q)) (yI h0)
theorem dy{z c:Int}(h0:0<c):bh .Mod st (.int z) (.int c)=some (.int (z%c)):=by rw[gE oM];exact congrArg (fun q=>some (AV.int q)) (yI h0)
theorem Jw{x y:Nat}:bh .BitAnd st (.int (x:Int)) (.int (y:Int))=some (.int ((x &&& y:Nat):Int)):=by
 show some (AV.int (Builtin.bitAnd (x:Int) (y:Int)))=_;rfl
theorem tQ{l:List Int}:bZ d5 [.fz (iL l)] st=some (.int ((l.length:Nat):Int),st):=by
 show some (AV.int ((iL l).length:Int),st)=_;rw[fq]
theorem ku{l:List AV}{i:Int}(h0:0<=i)(h1:i<l.length):∃x∈l,cm st (.fz l) (.int i)=some x:=by
 obtain⟨q,rfl⟩:∃q:Nat,i=(q:Int):=⟨i.toNat,by lia⟩;have hq:q<l.length:=by lia
 refine⟨l[q],List.getElem_mem hq,?_⟩;rw[cq fj,b8,zF hq]
end
section
variable{st:aa}{n k:Nat}{A B:LQ}{D T:List Int}{R:aa}
theorem iI{x:Int}:af [.ref 2] (A::B::.lst (iL (D++[x]))::R)=some (.int x,A::B::.lst (iL D)::R):=oT (st:=A::B::.lst (iL (D++[x]))::R) (r:=2) rfl
theorem gR{P:Int->Prop}{ks:List Fn}{k:Nat}{it:Ix}{t:Tg}{e:Ex}{sl:Sl}{N:Nat}(hi:dz ks it sl st=some (⟨(List.range N).map fun q:Nat=>AV.int (q:Int),[]⟩,st))(hz:N<=1000)(h:∀q,q<N->∃sl1 v,P v/\bM ks t (.int (q:Int)) (sl++List.replicate k none) st=some (sl1,st)/\ev ks e sl1 st=some (.int v,st)):∃L:List Int,(L.length=N/\∀x∈L,P x)/\ev ks (.nw false (.lc k it t .no e)) sl st=some (.fz (iL L),st):=by
 have hc:∀q,∃v:Int,q<N->P v/\∃sl1,bM ks t (.int (q:Int)) (sl++List.replicate k none) st=some (sl1,st)/\ev ks e sl1 st=some (.int v,st):=fun q=>by
  by_cases hq:q<N
  ·obtain⟨sl1,v,h0,h1,h2⟩:=h q hq;exact⟨v,fun _=>⟨h0,sl1,h1,h2⟩⟩
  ·exact⟨0,fun z=>absurd z hq⟩
 obtain⟨f,hf⟩:=Classical.axiomOfChoice hc;refine⟨(List.range N).map f,⟨by simp,fun x hx=>?_⟩,?_⟩
 ·obtain⟨q,hq,rfl⟩:=yD.mp hx
  exact(hf q (List.mem_range.mp hq)).1
 have e:=yb (c:=.no) (B:=fun _=>true) (F:=fun q:Nat=>AV.int (f q)) hi rfl (by simpa using hz) fun q hq=>by
  obtain⟨_,sl1,h1,h2⟩:=hf q (List.mem_range.mp hq);exact⟨sl1,h1,rfl,fun _=>h2⟩
 rw[List.filter_eq_self.mpr (fun _ _=>rfl)]at e;have:(List.range N).map (fun q=>AV.int (f q))=iL ((List.range N).map f):=by unfold iL;rw[List.map_map];rfl
 rw[this]at e;rw[lq,e,bind_some,yI mj]
theorem vJ{f:Int->Int}{ks:List Fn}{it:Ix}{e:Ex}{sl:Sl}{s:Nat}{N:Nat}(hi:∀st,dz ks it sl st=some (⟨(List.range N).map fun q:Nat=>AV.int (q:Int),[]⟩,st))(hz:N<=1000)(hs:sl.length=s)(h:∀q D x,0<=x->x<2147483587->ev ks e (sl++[Is (q:Int)]) (A::B::.lst (iL (D++[x]))::R)=some (.int (f x),A::B::.lst (iL D)::R))(hD:N<=D.length)(hd:okD D) :
  ∃D' L,ev ks (.nw false (.lc 1 it (.nm s) .no e)) sl (A::B::.lst (iL D)::R)=some (.fz (iL L),A::B::.lst (iL D')::R)/\okD D'/\D.length=D'.length+N/\L.length=N/\∀x∈L,∃y,0<=y/\y<2147483587/\x=f y:=by
 have gm:∀(q:Nat)(st:aa),bM ks (.nm s) (.int (q:Int)) (sl++[none]) st=some (sl++[Is (q:Int)],st):=fun q st=>by
  show some ((sl++[none]).set s (some (.int (q:Int))),st)=_;rw[<- hs,List.set_append_right _ _ (zP _),Nat.sub_self];rfl
 obtain⟨st',e1,j1,j2⟩:=vI (gd:=[]) (g:=bM ks (.nm s)) (t:=iy ks .no) (f:=ev ks e) (sl:=sl++[none]) (xs:=(List.range N).map fun q:Nat=>AV.int (q:Int))
  (J:=fun i st=>i<=N/\st=A::B::.lst (iL (D.take (D.length-i)))::R) (F:=fun i=>.int (f (SX.gI D (D.length-1-i)))) (fun _ _ _ _=>rfl) (fun i x st hx hq0=>by
   obtain⟨hi1,hst⟩:=hq0;rw[zR]at hx;obtain⟨q,hq,rfl⟩:=zE.mp hx;have hi2:i<N:=by have:=(zB.mp hq).1;simpa using this
   subst hst;have hl:D.length-1-i<D.length:=by lia
   have e2:D.take (D.length-i)=D.take (D.length-(i+1))++[SX.gI D (D.length-1-i)]:=by
    rw[show D.length-i=(D.length-1-i)+1 by lia,List.take_add_one,show D.length-(i+1)=D.length-1-i by lia,zF hl];congr 2;simp[SX.gI,zD,zF hl]
   have hm:SX.gI D (D.length-1-i)∈D:=by
    unfold SX.gI;rw[zD,zF hl];exact List.getElem_mem hl
   refine⟨_,_,gm q _,rfl,?_,by lia,rfl⟩;rw[e2];exact h q _ _ (hd _ hm).1 (hd _ hm).2) (st:=A::B::.lst (iL D)::R) ⟨Nat.zero_le _,by rw[Nat.sub_zero,List.take_length]⟩
 rw[zH,List.length_range]at e1 j1 j2;refine⟨D.take (D.length-N),(List.range N).map fun i=>f (SX.gI D (D.length-1-i)),?_,fun x hx=>hd x (List.mem_of_mem_take hx),by rw[List.length_take];lia,by simp,fun x hx=>?_⟩
 ·rw[lq,Ek,hi,bind_some]
  dsimp only;rw[yI (bU (by simpa using hz))];show((f8 [] _ _ _ (sl++[none]) _ _).bind _)=_;rw[e1,bind_some,j2];dsimp only;have:(List.range N).map (fun i=>AV.int (f (SX.gI D (D.length-1-i))))=iL ((List.range N).map fun i=>f (SX.gI D (D.length-1-i))):=by unfold iL;rw[List.map_map];rfl
  rw[this,yI mj]
 ·obtain⟨i,hi,rfl⟩:=yD.mp hx
  have hi:=List.mem_range.mp hi;have hl:D.length-1-i<D.length:=by lia
  have hm:SX.gI D (D.length-1-i)∈D:=by
   unfold SX.gI;rw[zD,zF hl];exact List.getElem_mem hl
  exact⟨_,(hd _ hm).1,(hd _ hm).2,rfl⟩
end
section
variable{st:aa}{n g k j:Nat}{A B:LQ}{R:aa}{D T:List Int}
theorem sV{ks:List Fn}{r:Sl}(hn:ie n):dz ks (.r1 (.bin .Sub (.bin .LShift (.i 1) (.v 0)) (.i 1))) (some (.int (n:Int))::r) st=some (⟨(List.range (2^n-1)).map fun q:Nat=>AV.int (q:Int),[]⟩,st):=by
 rcases hn with rfl|rfl|rfl|rfl<;>rfl
theorem iq{T:List Int}{q:Nat}(h:q<T.length):SX.gI T q∈T:=by
 unfold SX.gI;rw[zD,zF h];exact List.getElem_mem h
theorem turnT(hn:ie n){b0:Int}(hT:T.length=2^n-1/\∀x∈T,0<=x/\x<=b0){z:Int}(hz:0<=z)(hz1:z<2147483587){x3 x5 x6 x7 x8 x9:Option AV}{S:aa}:∃T' y5 y6 y7,(T'.length=2^n-1/\∀x∈T',0<=x/\x<=b0+1000000000)/\aj [af,aZ] (.cons (.as (.bin .Mod (.v 4) (.bin .LShift (.i 1) (.v 0))) (.nm 5))
 (.cons (.as (.bin .Add (.i 1) (.bin .Mod (.bin .FloorDiv (.v 4) (.i 16)) (.i 3))) (.nm 6))
 (.cons (.as (.ix (.nw false (.li (.cons (.i 1) (.cons (.i 2) (.cons (.bin .Add (.i 1) (.bin .Mod (.bin .FloorDiv (.v 4) (.i 48)) (.i 5))) (.cons (.bin .Add (.i 1) (.bin .FloorDiv (.v 4) (.i 48))) .nil)))))) (.bin .Mod (.bin .FloorDiv (.v 4) (.i 240)) (.i 4))) (.nm 7))
 (.cons (.as (.nw false (.lc 1 (.r1 (.bi .len (.cons (.v 2) .nil))) (.nm 10) .no (.bin .Add (.ix (.v 2) (.v 10)) (.bin .Mult (.v 7) (.bi .min (.cons (.v 6) (.cons (.ca true 1 (.cons (.bin .BitAnd (.v 5) (.bin .Add (.v 10) (.i 1))) .nil)) .nil))))))) (.nm 2))
 .nil)))) [Is n,Rs 2,Ls T,x3,Is z,x5,x6,x7,x8,x9] S=some (.nx [Is n,Rs 2,Ls T',x3,Is z,y5,y6,y7,x8,x9] S):=by
 obtain⟨m,m16,em⟩:∃m:Nat,m<16/\z%2^n=(m:Int):=by
  have hp:(0:Int)<2^n:=by rcases hn with rfl|rfl|rfl|rfl<;>decide
  have h1:=Int.emod_nonneg z (show (2:Int) ^ n ≠ 0 by lia);have h2:=Int.emod_lt_of_pos z hp;have h3:(2:Int) ^ n <= 16:=by rcases hn with rfl | rfl | rfl | rfl <;> decide
  exact⟨(z%2^n).toNat,by lia,by lia⟩
 have sh:bh .LShift S (.int 1) (.int (n:Int))=some (.int (2^n)):=by rcases hn with rfl|rfl|rfl|rfl<;>rfl
 have hp:(0:Int)<2^n:=by rcases hn with rfl|rfl|rfl|rfl<;>decide
 have q1:=Int.emod_nonneg (z / 16) (show (3:Int) ≠ 0 by decide);have q2:=Int.emod_lt_of_pos (z / 16) (show (0:Int) < 3 by decide);have w1:=Int.emod_nonneg (z / 240) (show (4:Int) ≠ 0 by decide);have w2:=Int.emod_lt_of_pos (z / 240) (show (0:Int) < 4 by decide);obtain ⟨v,hv,ev⟩:=ku (st:=S) (l:=[.int 1,.int 2,.int (1 + z / 48 % 5),.int (1 + z / 48)]) w1 w2;obtain ⟨tm,rfl,tm0,tm1⟩:∃ tm:Int,v=.int tm/\1 <= tm/\tm <= 50000000:=by
  simp only[zT,zX,or_false]at hv;rcases hv with rfl|rfl|rfl|rfl<;>exact⟨_,rfl,by lia,by lia⟩
 have hN:2^n-1<=15:=by rcases hn with rfl|rfl|rfl|rfl<;>decide
 obtain⟨L,hL,eL⟩:=gR (P:=fun v=>0<=v/\v<=b0+1000000000) (ks:=[af,aZ]) (k:=1) (st:=S) (it:=.r1 (.bi .len (.cons (.v 2) .nil))) (t:=.nm 10) (e:=.bin .Add (.ix (.v 2) (.v 10)) (.bin .Mult (.v 7) (.bi .min (.cons (.v 6) (.cons (.ca true 1 (.cons (.bin .BitAnd (.v 5) (.bin .Add (.v 10) (.i 1))) .nil)) .nil)))))
  (sl:=[Is n,Rs 2,Ls T,x3,Is z,Is (m:Int),Is (1+z/16%3),Is tm,x8,x9]) (N:=2^n-1) (je (by simp[tQ,hT.1]) oM) oM fun q hq=>by
   obtain⟨b,b0,b4,_,eb⟩:=wx (m:=m &&& (q+1)) (yM Nat.and_le_left m16);obtain⟨c,ec,hc⟩:=Gu (st:=S) (a:=1+z/16%3) (b:=b);have mm:bh .Mult S (.int tm) (.int c)=some (.int (tm*c)):=bO (lX (C1 oM));have ix:=pY (st:=S) (T:=T) (i:=q) (by rw[hT.1];exact hq);have an:=Jw (st:=S) (x:=m) (y:=q+1);have eb:=eb S;have c1:((q:Int)+1)=((q+1:Nat):Int):=by lia
   generalize ((m &&& (q+1):Nat):Int)=u at an eb;generalize ((q+1:Nat):Int)=u1 at an c1;have hg:SX.gI T q∈T:=iq (by rw[hT.1];exact hq)
   have:=hT.2 _ hg
   have cc:c=0\/c=1\/c=2\/c=3\/c=4:=by lia
   exact⟨[Is n,Rs 2,Ls T,x3,Is z,Is (m:Int),Is (1+z/16%3),Is tm,x8,x9,Is (q:Int)],SX.gI T q+tm*c,by rcases cc with rfl|rfl|rfl|rfl|rfl<;>lia,rfl,by simp[ix,c1,an,eb,ec,mm]⟩
 refine ⟨L,Is (m:Int),Is (1 + z / 16 % 3),Is tm,hL,?_⟩;refine aq (sl':=[Is n,Rs 2,Ls T,x3,Is z,Is (m:Int),x6,x7,x8,x9]) (st':=S) (by simp [sh,dy hp,em]) ?_;refine aq (sl':=[Is n,Rs 2,Ls T,x3,Is z,Is (m:Int),Is (1 + z / 16 % 3),x7,x8,x9]) (st':=S) (by simp [jS (show dD 16=true from rfl),dy (show (0:Int) < 3 by decide)]) ?_;refine aq (sl':=[Is n,Rs 2,Ls T,x3,Is z,Is (m:Int),Is (1 + z / 16 % 3),Is tm,x8,x9]) (st':=S) (by simp [jS (show dD 48=true from rfl),jS (show dD 240=true from rfl),dy (show (0:Int) < 5 by decide),dy (show (0:Int) < 4 by decide),cj,rfs,rf,ev]) ?_;refine aq (sl':=[Is n,Rs 2,Ls L,x3,Is z,Is (m:Int),Is (1 + z / 16 % 3),Is tm,x8,x9]) (st':=S) ?_ rfl;rw [dB,eL];rfl
theorem A6(hn:ie n)(hD:50<=D.length)(hd:okD D):∃D' T,dj [.int n,.ref 2] (A::B::.lst (iL D)::R)=some (.fz (iL T),(A::B::.lst (iL D')::R))/\(T.length=2^n-1/\∀x∈T,0<=x/\x<=10000000000)/\okD D'/\D.length<=D'.length+6:=by
 have key:∃r,dj [.int n,.ref 2] (A::B::.lst (iL D)::R)=some r/\∃D' T,r=(.fz (iL T),(A::B::.lst (iL D')::R))/\(T.length=2^n-1/\∀x∈T,0<=x/\x<=10000000000)/\okD D'/\D.length<=D'.length+6:=by
  have hN:2^n-1<=15:=by rcases hn with rfl|rfl|rfl|rfl<;>decide
  rw[dj,aD];show ∃r,(aj [af,aZ] fC [Is n,Rs 2,none,none,none,none,none,none,none,none] (A::B::.lst (iL D)::R)).bind ax=some r/\_;unfold fC;obtain⟨T0,hT0,e0⟩:=gR (P:=fun v=>0<=v/\v<=0) (ks:=[af,aZ]) (k:=1) (st:=(A::B::.lst (iL D)::R)) (t:=.nm 10) (e:=.i 0) (sl:=[Is n,Rs 2,none,none,none,none,none,none,none,none]) (sV hn) oM fun q hq=>⟨_,0,by lia,rfl,rfl⟩
  refine ar (sl':=[Is n,Rs 2,Ls T0,none,none,none,none,none,none,none]) (st':=(A::B::.lst (iL D)::R)) (by rw[dB,e0];rfl) ?_;obtain⟨D1,x,rfl⟩:=fm (D:=D) (fun z=>by rw[z]at hD;simp at hD);obtain⟨hx0,hd1⟩:=hd.at;simp only[zV,List.length_singleton]at hD ⊢;have p:=oT (st:=(A::B::LQ.lst (iL (D1++[x]))::R)) (r:=2) (D:=D1) (x:=x) rfl;obtain⟨c,hc,hm⟩:∃c:Nat,c<=4/\x%5=(c:Int):=by
   have h1:=Int.emod_nonneg x (show (5:Int) ≠ 0 by decide);have h2:=Int.emod_lt_of_pos x (show (0:Int) < 5 by decide);exact ⟨(x % 5).toNat,by lia,by lia⟩
  have it:dz [af,aZ] (.r1 (.bin .Mod (.ca false 0 (.cons (.v 1) .nil)) (.i 5))) [Is n,Rs 2,Ls T0,none,none,none,none,none,none,none] (A::B::.lst (iL (D1++[x]))::R)=some (⟨(List.range c).map fun q:Nat=>AV.int (q:Int),[]⟩,(A::B::.lst (iL D1)::R)):=by
   have e:ev [af,aZ] (.bin .Mod (.ca false 0 (.cons (.v 1) .nil)) (.i 5)) [Is n,Rs 2,Ls T0,none,none,none,none,none,none,none] (A::B::.lst (iL (D1++[x]))::R)=some (.int (c:Int),(A::B::.lst (iL D1)::R)):=by
    simp [p,dy (show (0:Int) < 5 by decide),hm,dF]
   show(ev _ _ _ _).bind _=_;rw[e];exact je (ks:=[]) (a:=.i c) (sl:=[]) rfl oM
  refine jE (em:=fun q:Nat=>.int (q:Int)) (xs:=List.range c) (gd:=[]) (st0:=(A::B::.lst (iL D1)::R)) (fun i sl s=>∃D' T,s=(A::B::.lst (iL D')::R)/\D'.length+i=D1.length/\okD D'/\(T.length=2^n-1/\∀x∈T,0<=x/\x<=(i:Int)*1000000000)/\∃x3 x4 x5 x6 x7 x8 x9,sl=[Is n,Rs 2,Ls T,x3,x4,x5,x6,x7,x8,x9]) it (fun _ _ _ _=>rfl) ⟨D1,T0,rfl,by lia,hd1,⟨hT0.1,fun x hx=>by have:=hT0.2 x hx;lia⟩,_,_,_,_,_,_,_,rfl⟩ ?_ ?_
  ·rintro i q sl s hq ⟨D',T,rfl,hl,hd',hT,x3,x4,x5,x6,x7,x8,x9,rfl⟩
   have hi:i<c:=by have:=(zB.mp hq).1;simpa using this
   obtain⟨D2,z,rfl⟩:=fm (D:=D') (fun e=>by rw[e]at hl;simp at hl;lia);obtain⟨hz0,hd2⟩:=hd'.at;have hz1:=(hd' z (by simp)).2;have p2:=oT (st:=(A::B::LQ.lst (iL (D2++[z]))::R)) (r:=2) (D:=D2) (x:=z) rfl;obtain⟨T',y5,y6,y7,hT',e⟩:=turnT hn hT hz0 hz1 (x3:=some (.int (q:Int))) (x5:=x5) (x6:=x6) (x7:=x7) (x8:=x8) (x9:=x9) (S:=(A::B::.lst (iL D2)::R));exact⟨_,_,_,rfl,aq (sl':=[Is n,Rs 2,Ls T,Is (q:Int),Is z,x5,x6,x7,x8,x9]) (st':=(A::B::.lst (iL D2)::R)) (by simp[p2,dF]) e,D2,T',rfl,by simp at hl;lia,hd2,⟨hT'.1,fun x hx=>by have:=hT'.2 x hx;lia⟩,_,_,_,_,_,_,_,rfl⟩
  ·rintro sl s ⟨D',T,rfl,hl,hd',hT,x3,x4,x5,x6,x7,x8,x9,rfl⟩
   simp only[List.length_range]at hl hT;obtain⟨D2,z,rfl⟩:=fm (D:=D') (fun e=>by rw[e]at hl;simp at hl;lia);obtain⟨hz0,hd2⟩:=hd'.at;have hz1:=(hd' z (by simp)).2;simp only[zV,List.length_singleton]at hl;have p2:=oT (st:=(A::B::LQ.lst (iL (D2++[z]))::R)) (r:=2) (D:=D2) (x:=z) rfl;refine ar (sl':=[Is n,Rs 2,Ls T,x3,Is z,x5,x6,x7,x8,x9]) (st':=(A::B::.lst (iL D2)::R)) (by simp[p2,dF]) ?_;have fin':∀(T':List Int)(y8 y9:Option AV),(T'.length=2^n-1/\∀x∈T',0<=x/\x<=10000000000)->∃r,(aj [af,aZ] (.cons (.rt (.v 2)) .nil) [Is n,Rs 2,Ls T',x3,Is z,x5,x6,x7,y8,y9] (A::B::.lst (iL D2)::R)).bind ax=some r/\∃D' T,r=(.fz (iL T),(A::B::.lst (iL D')::R))/\(T.length=2^n-1/\∀x∈T,0<=x/\x<=10000000000)/\okD D'/\D1.length+1<=D'.length+6:=fun T' y8 y9 h=>⟨_,rfl,D2,T',rfl,h,hd2,by lia⟩
   by_cases hc4:n=4/\z%3=0
   ·obtain⟨rfl,h3⟩:=hc4
    have w1:=Int.emod_nonneg (z / 3) (show (6:Int) ≠ 0 by decide);have w2:=Int.emod_lt_of_pos (z / 3) (show (0:Int) < 6 by decide);obtain ⟨v,hv,ev⟩:=ku (st:=(A::B::.lst (iL D2)::R)) (l:=[.int 3,.int 5,.int 6,.int 9,.int 10,.int 12]) w1 w2;obtain ⟨pr,rfl⟩:∃ pr:Int,v=.int pr:=by
     simp only[zT,zX,or_false]at hv;rcases hv with rfl|rfl|rfl|rfl|rfl|rfl<;>exact⟨_,rfl⟩
    obtain⟨Q,hQ,eQ⟩:=gR (P:=fun v=>0<=v/\v<=5) (ks:=[af,aZ]) (k:=1) (st:=(A::B::.lst (iL D2)::R)) (it:=.r1 (.i 15)) (t:=.nm 10) (e:=.bin .Add (.ix (.nw false (.li (.cons (.i 2) (.cons (.i 3) (.cons (.i 4) (.cons (.i 4) .nil)))))) (.bin .Sub (.ca true 1 (.cons (.bin .Add (.v 10) (.i 1)) .nil)) (.i 1))) (.bi .int (.cons (.cmp .Eq (.bin .Add (.v 10) (.i 1)) (.v 8)) .nil)))
     (sl:=[Is ((4:Nat):Int),Rs 2,Ls T,x3,Is z,x5,x6,x7,Is pr,x9]) (N:=15) rfl oM fun q hq=>by
      obtain⟨b,b0,b4,b1,eb⟩:=wx (m:=q+1) oM;obtain⟨u,hu,eu⟩:=ku (st:=(A::B::.lst (iL D2)::R)) (l:=[.int 2,.int 3,.int 4,.int 4]) (i:=b-1) (by have:=b1 oM;lia) (by simp;lia);obtain⟨uu,rfl,uu0,uu1⟩:∃uu:Int,u=.int uu/\0<=uu/\uu<=4:=by
       simp only[zT,zX,or_false]at hu;rcases hu with rfl|rfl|rfl|rfl<;>exact⟨_,rfl,by lia,by lia⟩
      have eb:=eb (A::B::.lst (iL D2)::R);have c1:((q:Int)+1)=((q+1:Nat):Int):=by lia
      generalize ((q+1:Nat):Int)=u1 at eb c1;exact⟨[Is ((4:Nat):Int),Rs 2,Ls T,x3,Is z,x5,x6,x7,Is pr,x9,Is (q:Int)],uu+(if u1=pr then 1 else 0),by split<;>lia,rfl,by simp[c1,eb,eu,cj,rfs,rf,bZ,p4]⟩
    obtain⟨L,hL,eL⟩:=gR (P:=fun v=>0<=v/\v<=10000000000) (ks:=[af,aZ]) (k:=1) (st:=(A::B::.lst (iL D2)::R)) (it:=.r1 (.i 15)) (t:=.nm 10) (e:=.bin .Add (.ix (.v 2) (.v 10)) (.ix (.v 9) (.v 10)))
     (sl:=[Is ((4:Nat):Int),Rs 2,Ls T,x3,Is z,x5,x6,x7,Is pr,Ls Q]) (N:=15) rfl oM fun q hq=>by
      have i1:=pY (st:=(A::B::.lst (iL D2)::R)) (T:=T) (i:=q) (by rw[hT.1];exact hq);have i2:=pY (st:=(A::B::.lst (iL D2)::R)) (T:=Q) (i:=q) (by rw[hQ.1];exact hq);have g1:=hT.2 _ (iq (T:=T) (q:=q) (by rw[hT.1];exact hq));have g2:=hQ.2 _ (iq (T:=Q) (q:=q) (by rw[hQ.1];exact hq));exact⟨[Is ((4:Nat):Int),Rs 2,Ls T,x3,Is z,x5,x6,x7,Is pr,Ls Q,Is (q:Int)],SX.gI T q+SX.gI Q q,by lia,rfl,by simp[i1,i2]⟩
    refine ar (sl':=[Is ((4:Nat):Int),Rs 2,Ls L,x3,Is z,x5,x6,x7,Is pr,Ls Q]) (st':=(A::B::.lst (iL D2)::R)) ?_ (fin' L _ _ hL);have t1:tv [af,aZ] (.an (.cmp .Eq (.v 0) (.i 4)) (.cmp .Eq (.bin .Mod (.v 4) (.i 3)) (.i 0))) [Is ((4:Nat):Int),Rs 2,Ls T,x3,Is z,x5,x6,x7,x8,x9] (A::B::.lst (iL D2)::R)=some (true,(A::B::.lst (iL D2)::R)):=by
     simp [dy (show (0:Int) < 3 by decide),h3]
    rw [j5,t1,bind_some];show aj _ _ _ _=_;refine aq (sl':=[Is ((4:Nat):Int),Rs 2,Ls T,x3,Is z,x5,x6,x7,Is pr,x9]) (st':=(A::B::.lst (iL D2)::R)) (by simp [jS (show dD 3=true from rfl),dy (show (0:Int) < 6 by decide),cj,rfs,rf,ev]) ?_;refine aq (sl':=[Is ((4:Nat):Int),Rs 2,Ls T,x3,Is z,x5,x6,x7,Is pr,Ls Q]) (st':=(A::B::.lst (iL D2)::R)) (by rw [dB,eQ];rfl) ?_;refine aq (sl':=[Is ((4:Nat):Int),Rs 2,Ls L,x3,Is z,x5,x6,x7,Is pr,Ls Q]) (st':=(A::B::.lst (iL D2)::R)) (by rw [dB,eL];rfl) rfl
   ·refine ar (sl':=[Is n,Rs 2,Ls T,x3,Is z,x5,x6,x7,x8,x9]) (st':=(A::B::.lst (iL D2)::R)) ?_ (fin' T _ _ ⟨hT.1,fun x hx=>by have:=hT.2 x hx;lia⟩)
    by_cases h4:n=4
    ·have h3:¬z%3=0:=fun e=>hc4 ⟨h4,e⟩
     simp [dy (show (0:Int) < 3 by decide),h3,h4]
    ·simp[show ¬(n:Int)=4 by lia]
 obtain⟨r,e,D',T,rfl,h1,h2⟩:=key;exact⟨D',T,e,h1,h2⟩
end
section
variable{st:aa}{n g k j:Nat}{A B:LQ}{R:aa}{D T:List Int}
noncomputable def fW(z:Nat×Int):AV:=.tup [.int (z.1:Int),.int z.2]
def Ec(n:Nat)(ts:List (Nat×Int)):Prop:=ts.length<=4/\∀z∈ts,z.1<2^n/\(z.2=1\/z.2=-1)
theorem Bg(hn:ie n){ts:List (Nat×Int)}(ht:Ec n ts):∃L,pm aS [.int n,.fz (ts.map fW)] st=some (.fz (iL L),st)/\L.length=2^n-1/\∀x∈L,-4<=x/\x<=4:=by
 have hN:2^n-1<=15:=by rcases hn with rfl|rfl|rfl|rfl<;>decide
 have key:∃r,aS [.int n,.fz (ts.map fW)] []=some r/\∃L,eA r.2 r.1=some (.fz (iL L))/\L.length=2^n-1/\∀x∈L,-4<=x/\x<=4:=by
  rw[aS,aD];show ∃r,(aj [] eF [Is n,Zs (ts.map fW),none,none,none] []).bind ax=some r/\_;unfold eF;refine ar (sl':=[Is n,Zs (ts.map fW),Rs 0,none,none]) (st':=[.lst (iL (List.replicate (2^n-1) 0))]) (by rcases hn with rfl|rfl|rfl|rfl<;>rfl) ?_;refine jE (em:=fW) (xs:=ts) (gd:=[]) (st0:=[.lst (iL (List.replicate (2^n-1) 0))]) (fun i sl s=>i<=4/\∃L,s=[.lst (iL L)]/\L.length=2^n-1/\(∀x∈L,-(i:Int)<=x/\x<=(i:Int))/\∃x y,sl=[Is n,Zs (ts.map fW),Rs 0,x,y]) rfl (fun _ _ _ _=>rfl) ⟨by lia,_,rfl,by simp,by simp,_,_,rfl⟩ ?_ ?_
  ·rintro i z sl s hz ⟨hi,L,rfl,hL,hb,x,y,rfl⟩
   have hi4:i<4:=by have:=(zB.mp hz).1;have:=ht.1;lia
   obtain⟨z1,z2⟩:=ht.2 z (zW hz);obtain⟨g,c⟩:=z;by_cases h0:g=0
   ·refine⟨_,[Is n,Zs (ts.map fW),Rs 0,Is (g:Int),Is c],[.lst (iL L)],rfl,?_,by lia,L,rfl,hL,fun x hx=>by have:=hb x hx;lia,_,_,rfl⟩
    refine aq (s:=.iff _ _ _) ?_ rfl;simp [eq_false (show ¬ 0 < g by lia)]
   ·dsimp only at z1 z2
    have hg:g-1<L.length:=by rw[hL];lia
    have ix:cm [.lst (iL L)] (.ref 0) (.int ((g-1:Nat):Int))=some (.int (SX.gI L (g-1))):=by rw[cq (bu (xs:=iL L) rfl),b8,bL hg]
    have hs:=cO (st:=[.lst (iL L)]) (k:=0) (q:=g-1) (xs:=iL L) (x:=.int (SX.gI L (g-1)+c)) rfl (by rw[fq];exact hg);rw[dI]at hs;have e1:(g:Int)-1=((g-1:Nat):Int):=by lia
    refine⟨_,[Is n,Zs (ts.map fW),Rs 0,Is (g:Int),Is c],[.lst (iL (L.set (g-1) (SX.gI L (g-1)+c)))],rfl,?_,by lia,_,rfl,by rw[List.length_set];exact hL,fun x hx=>?_,_,_,rfl⟩
    ·refine aq (s:=.iff _ _ _) ?_ rfl
     simp [eq_true (show 0 < g by lia),e1,ix,hs]
    ·rcases List.mem_or_eq_of_mem_set hx with h|h
     ·have:=hb x h;lia
     ·have:=hb _ (iq hg)
      rw[h];lia
  ·rintro sl s ⟨hi,L,rfl,hL,hb,x,y,rfl⟩
   refine⟨_,rfl,L,j6 rfl,hL,fun x hx=>?_⟩
   have:=hb x hx
   have:=ht.1
   lia
 obtain⟨r,e,L,e2,h⟩:=key;exact⟨L,cL (by
  have:rfs (ts.map fW)=true:=gJ fun x hx=>by obtain⟨z,_,rfl⟩:=yD.mp hx;rfl
  simp[rfs,rf,this]) e e2,h⟩
theorem A2(hn:ie n)(hD:0<D.length)(hd:okD D):∃D' ts,aU [.int n,.ref 2] (A::B::.lst (iL D)::R)=some (.fz (ts.map fW),A::B::.lst (iL D')::R)/\Ec n ts/\okD D'/\D.length=D'.length+1:=by
 obtain⟨D1,z,rfl⟩:=fm (D:=D) (fun e=>by rw[e]at hD;simp at hD);obtain⟨hz,hd1⟩:=hd.at;obtain⟨w,hw,w0,w16⟩:∃w:Nat,w=2^n-1/\0<w/\w<=15:=⟨_,rfl,by rcases hn with rfl|rfl|rfl|rfl<;>decide,by rcases hn with rfl|rfl|rfl|rfl<;>decide⟩;have hp:2^n=w+1:=by rw[hw];rcases hn with rfl|rfl|rfl|rfl<;>rfl
 have p:=iI (A:=A) (B:=B) (R:=R) (D:=D1) (x:=z);obtain⟨S,hS⟩:∃S,S=A::B::LQ.lst (iL D1)::R:=⟨_,rfl⟩;rw[<- hS]at p;have ew:ev [af] (.bin .Sub (.bin .LShift (.i 1) (.v 0)) (.i 1)) [Is n,Rs 2,none,none,none,none,none] (A::B::.lst (iL (D1++[z]))::R)=some (.int (w:Int),A::B::.lst (iL (D1++[z]))::R):=by
  rw[hw];rcases hn with rfl|rfl|rfl|rfl<;>rfl
 obtain⟨a,ha,ea⟩:∃a:Nat,(1<=a/\a<=w)/\1+z%(w:Int)=(a:Int):=by
  have h1:=Int.emod_nonneg z (show (w:Int) ≠ 0 by lia);have h2:=Int.emod_lt_of_pos z (show (0:Int) < w by lia);exact ⟨(1 + z % (w:Int)).toNat,by lia,by lia⟩
 obtain⟨b,hb,eb⟩:∃b:Nat,(1<=b/\b<=w)/\1+z/16%(w:Int)=(b:Int):=by
  have h1:=Int.emod_nonneg (z / 16) (show (w:Int) ≠ 0 by lia);have h2:=Int.emod_lt_of_pos (z / 16) (show (0:Int) < w by lia);exact ⟨(1 + z / 16 % (w:Int)).toNat,by lia,by lia⟩
 obtain⟨c,hc,ec⟩:∃c:Nat,c<=w/\z/256%((w:Int)+1)=(c:Int):=by
  have h1:=Int.emod_nonneg (z / 256) (show ((w:Int) + 1) ≠ 0 by lia);have h2:=Int.emod_lt_of_pos (z / 256) (show (0:Int) < (w:Int) + 1 by lia);exact ⟨(z / 256 % ((w:Int) + 1)).toNat,by lia,by lia⟩
 have o1:=tf (st:=S) (x:=a) (y:=c) oM oM;have o2:=tf (st:=S) (x:=b) (y:=c) oM oM;have o3:=tf (st:=S) (x:=a) (y:=b) oM oM;have l1:a ||| c<2^n:=Nat.or_lt_two_pow oM oM;have l2:b ||| c<2^n:=Nat.or_lt_two_pow oM oM;have l3:a ||| b<2^n:=Nat.or_lt_two_pow oM oM;have l4:a ||| b ||| c<2^n:=Nat.or_lt_two_pow l3 oM;have o4:=tf (st:=S) (x:=a ||| b) (y:=c) oM oM;have ng:lJ .USub S (.int 1)=some (.int (-1)):=rfl;have f3:bh .FloorDiv S (.int z) (.int 4096)=some (.int (z/4096)):=jS rfl dC;have m3:bh .Mod S (.int (z/4096)) (.int 3)=some (.int (z/4096%3)):=dy dC;have key:∃r,aU [.int n,.ref 2] (A::B::.lst (iL (D1++[z]))::R)=some r/\∃ts,r=(.fz (ts.map fW),S)/\Ec n ts:=by
  rw [aU,aD];show ∃ r,(aj [af] fB [Is n,Rs 2,none,none,none,none,none] (A::B::.lst (iL (D1++[z]))::R)).bind ax=some r/\_;unfold fB;refine ar (sl':=[Is n,Rs 2,Is (w:Int),none,none,none,none]) (st':=A::B::.lst (iL (D1++[z]))::R) (by rw [dB,ew];rfl) ?_;refine ar (sl':=[Is n,Rs 2,Is (w:Int),Is z,none,none,none]) (st':=S) (by simp [p,dF]) ?_;refine ar (sl':=[Is n,Rs 2,Is (w:Int),Is z,Is (a:Int),none,none]) (st':=S) (by simp [dy (show (0:Int) < (w:Int) by lia),ea]) ?_;refine ar (sl':=[Is n,Rs 2,Is (w:Int),Is z,Is (a:Int),Is (b:Int),none]) (st':=S) (by simp [jS (show dD 16=true from rfl),dy (show (0:Int) < (w:Int) by lia),eb]) ?_;refine ar (sl':=[Is n,Rs 2,Is (w:Int),Is z,Is (a:Int),Is (b:Int),Is (c:Int)]) (st':=S) (by simp [jS (show dD 256=true from rfl),dy (show (0:Int) < (w:Int) + 1 by lia),ec]) ?_;have h0:=Int.emod_nonneg (z / 4096) (show (3:Int) ≠ 0 by decide);by_cases e0:z / 4096 % 3=0
  ·refine eK (v:=.fz ([(a,1)].map fW)) (st':=S) ?_ ⟨_,rfl,by simp,?_⟩
   ·simp[f3,m3,e0,cj,rfs,rf,fW,lT]
   ·simp only[zM];rintro z rfl;exact⟨by dsimp only;lia,.inl rfl⟩
  ·refine ar (sl':=[Is n,Rs 2,Is (w:Int),Is z,Is (a:Int),Is (b:Int),Is (c:Int)]) (st':=S) (by simp[f3,m3,e0]) ?_
   generalize hq1:a ||| c=q1 at *;generalize hq2:b ||| c=q2 at *;generalize hq4:a ||| b ||| c=q4 at *;generalize hq3:a ||| b=q3 at *;by_cases e1:z/4096%3=1
   ·refine eK (v:=.fz ([(q1,1),(c,-1)].map fW)) (st':=S) ?_ ⟨_,rfl,by simp,?_⟩
    ·simp[f3,m3,e1,cj,rfs,rf,fW,o1,ng,lT]
    ·simp only[zT,zX,or_false]
     rintro z (rfl|rfl)
     ·exact⟨l1,.inl rfl⟩
     ·exact⟨by dsimp only;lia,.inr rfl⟩
   ·refine ar (sl':=[Is n,Rs 2,Is (w:Int),Is z,Is (a:Int),Is (b:Int),Is (c:Int)]) (st':=S) (by simp[f3,m3,e1]) ?_
    refine eK (v:=.fz ([(q1,1),(q2,1),(q4,-1),(c,-1)].map fW)) (st':=S) ?_ ⟨_,rfl,by simp,?_⟩
    ·simp[cj,rfs,rf,fW,o1,o2,o3,o4,ng]
    ·simp only[zT,zX,or_false]
     rintro z (rfl|rfl|rfl|rfl)
     ·exact⟨l1,.inl rfl⟩
     ·exact⟨l2,.inl rfl⟩
     ·exact⟨l4,.inr rfl⟩
     ·exact⟨by dsimp only;lia,.inr rfl⟩
 obtain⟨r,e,ts,rfl,h⟩:=key;rw[hS]at e;exact⟨D1,ts,e,h,hd1,by simp⟩
end
section
variable{st:aa}{n g k j:Nat}{A B:LQ}{R:aa}{D T:List Int}
def wA(L:List Int):Prop:=∀x∈L,x.natAbs<=10000000000000000000000
theorem J1:bh .Pow st (.int 10) (.int 12)=some (.int 1000000000000):=by kernel_rfl
theorem JZ:bh .Pow st (.int 10) (.int 21)=some (.int 1000000000000000000000):=by kernel_rfl
theorem zw(hn:ie n)(hD:20<=D.length)(hd:okD D):∃D' L,bD [.int n,.ref 2] (A::B::.lst (iL D)::R)=some (.fz (iL L),A::B::.lst (iL D')::R)/\L.length=2^n-1/\wA L/\okD D'/\D.length<=D'.length+17:=by
 have hN:2^n-1<=15:=by rcases hn with rfl|rfl|rfl|rfl<;>decide
 have key:∃r,bD [.int n,.ref 2] (A::B::.lst (iL D)::R)=some r/\∃D' L,r=(.fz (iL L),A::B::.lst (iL D')::R)/\L.length=2^n-1/\wA L/\okD D'/\D.length<=D'.length+17:=by
  rw[bD,aD];show ∃r,(aj [af,aU,aS] gF [Is n,Rs 2,none,none,none,none,none] (A::B::.lst (iL D)::R)).bind ax=some r/\_;unfold gF;obtain⟨D1,z,rfl⟩:=fm (D:=D) (fun e=>by rw[e]at hD;simp at hD);obtain⟨hz,hd1⟩:=hd.at;simp only[zV,List.length_singleton]at hD ⊢;have p:=iI (A:=A) (B:=B) (R:=R) (D:=D1) (x:=z);refine ar (sl':=[Is n,Rs 2,Is z,none,none,none,none]) (st':=A::B::.lst (iL D1)::R) (by simp[p,dF]) ?_;have m8:bh .Mod (A::B::.lst (iL D1)::R) (.int z) (.int 8)=some (.int (z%8)):=dy dC;have m64:bh .Mod (A::B::.lst (iL D1)::R) (.int z) (.int 64)=some (.int (z%64)):=dy dC;by_cases h8:z%8=0
  ·obtain⟨D2,L,e,hd2,hl,hL,hb⟩:=vJ (A:=A) (B:=B) (R:=R) (D:=D1) (f:=fun x=>x%7-3) (ks:=[af,aU,aS]) (it:=.r1 (.bin .Sub (.bin .LShift (.i 1) (.v 0)) (.i 1))) (e:=.bin .Sub (.bin .Mod (.ca false 0 (.cons (.v 1) .nil)) (.i 7)) (.i 3)) (sl:=[Is n,Rs 2,Is z,none,none,none,none]) (s:=7) (N:=2^n-1) (fun st=>sV hn) oM rfl (fun q D x _ _=>by
    simp[iI,dF,dy (show(0:Int)<7 by decide)]) oM hd1
   refine eK (v:=.fz (iL L)) (st':=A::B::.lst (iL D2)::R) ?_ ⟨D2,L,rfl,hL,fun x hx=>?_,hd2,by lia⟩
   ·rw[j5]
    have t1:tv [af,aU,aS] (.cmp .Eq (.bin .Mod (.v 2) (.i 8)) (.i 0)) [Is n,Rs 2,Is z,none,none,none,none] (A::B::.lst (iL D1)::R)=some (true,A::B::.lst (iL D1)::R):=by simp[m8,h8]
    rw[t1,bind_some];show aj _ _ _ _=_;refine um ?_;rw[xb,e];rfl
   ·obtain⟨y,_,_,rfl⟩:=hb x hx
    have:=Int.emod_nonneg y (show (7:Int) ≠ 0 by decide)
    have:=Int.emod_lt_of_pos y (show (0:Int) < 7 by decide)
    lia
  refine ar (sl':=[Is n,Rs 2,Is z,none,none,none,none]) (st':=A::B::.lst (iL D1)::R) (by simp[m8,h8]) ?_;by_cases h64:z%64=1
  ·obtain⟨D2,L,e,hd2,hl,hL,hb⟩:=vJ (A:=A) (B:=B) (R:=R) (D:=D1) (f:=fun x=>x*1000000000000-1000000000000000000000) (ks:=[af,aU,aS]) (it:=.r1 (.bin .Sub (.bin .LShift (.i 1) (.v 0)) (.i 1))) (e:=.bin .Sub (.bin .Mult (.ca false 0 (.cons (.v 1) .nil)) (.bin .Pow (.i 10) (.i 12))) (.bin .Pow (.i 10) (.i 21))) (sl:=[Is n,Rs 2,Is z,none,none,none,none]) (s:=7) (N:=2^n-1) (fun st=>sV hn) oM rfl (fun q D x _ _=>by
    have mm:bh .Mult (A::B::.lst (iL D)::R) (.int x) (.int 1000000000000)=some (.int (x*1000000000000)):=bO (lX dC);simp[iI,dF,J1,JZ,mm]) oM hd1
   refine eK (v:=.fz (iL L)) (st':=A::B::.lst (iL D2)::R) ?_ ⟨D2,L,rfl,hL,fun x hx=>?_,hd2,by lia⟩
   ·rw[j5]
    have t1:tv [af,aU,aS] (.cmp .Eq (.bin .Mod (.v 2) (.i 64)) (.i 1)) [Is n,Rs 2,Is z,none,none,none,none] (A::B::.lst (iL D1)::R)=some (true,A::B::.lst (iL D1)::R):=by simp[m64,h64]
    rw[t1,bind_some];show aj _ _ _ _=_;refine um ?_;rw[xb,e];rfl
   ·obtain⟨y,y0,y1,rfl⟩:=hb x hx
    lia
  refine ar (sl':=[Is n,Rs 2,Is z,none,none,none,none]) (st':=A::B::.lst (iL D1)::R) (by simp[m64,h64]) ?_;obtain⟨L0,hL0,e0⟩:=gR (P:=fun v=>v=0) (ks:=[af,aU,aS]) (k:=1) (st:=A::B::.lst (iL D1)::R) (t:=.nm 7) (e:=.i 0) (sl:=[Is n,Rs 2,Is z,none,none,none,none]) (sV hn) oM fun q hq=>⟨_,0,rfl,rfl,rfl⟩
  refine ar (sl':=[Is n,Rs 2,Is z,Ls L0,none,none,none]) (st':=A::B::.lst (iL D1)::R) (by rw[dB,e0];rfl) ?_;obtain⟨c,hc,ec⟩:∃c:Nat,c<=3/\1+z/64%3=(c:Int):=by
   have h1:=Int.emod_nonneg (z / 64) (show (3:Int) ≠ 0 by decide);have h2:=Int.emod_lt_of_pos (z / 64) (show (0:Int) < 3 by decide);exact ⟨(1 + z / 64 % 3).toNat,by lia,by lia⟩
  have it:dz [af,aU,aS] (.r1 (.bin .Add (.i 1) (.bin .Mod (.bin .FloorDiv (.v 2) (.i 64)) (.i 3)))) [Is n,Rs 2,Is z,Ls L0,none,none,none] (A::B::.lst (iL D1)::R)=some (⟨(List.range c).map fun q:Nat=>AV.int (q:Int),[]⟩,A::B::.lst (iL D1)::R):=je (by simp [jS (show dD 64=true from rfl),dy (show (0:Int) < 3 by decide),ec]) oM;refine jE (em:=fun q:Nat=>.int (q:Int)) (xs:=List.range c) (gd:=[]) (st0:=A::B::.lst (iL D1)::R) (fun i sl s=>∃ D' L,s=A::B::.lst (iL D')::R/\D1.length=D'.length + 2 * i/\okD D'/\L.length=2 ^ n - 1/\(∀ x ∈ L,-(12 * (i:Int)) <= x/\x <= 12 * (i:Int))/\∃ x4 x5 x6,sl=[Is n,Rs 2,Is z,Ls L,x4,x5,x6]) it (fun _ _ _ _=>rfl) ⟨D1,L0,rfl,by lia,hd1,hL0.1,fun x hx=>by have:=hL0.2 x hx;lia,_,_,_,rfl⟩ ?_ ?_
  ·rintro i q sl s hq ⟨D',L,rfl,hl,hd',hL,hb,x4,x5,x6,rfl⟩
   have hi:i<c:=by have:=(zB.mp hq).1;simpa using this
   obtain ⟨D2,ts,e1,ht,hd2,hl2⟩:=A2 (A:=A) (B:=B) (R:=R) (D:=D') hn oM hd';obtain ⟨M,e2,hM,hMb⟩:=Bg (st:=A::B::.lst (iL D2)::R) hn ht;obtain ⟨D3,y,rfl⟩:=fm (D:=D2) (fun e=>by rw [e] at hl2;simp at hl2;lia);obtain ⟨hy,hd3⟩:=hd2.at;simp only [zV,List.length_singleton] at hl2;have w1:=Int.emod_nonneg y (show (6:Int) ≠ 0 by decide);have w2:=Int.emod_lt_of_pos y (show (0:Int) < 6 by decide);obtain ⟨v,hv,ev⟩:=ku (st:=A::B::.lst (iL D3)::R) (l:=[.int 1,.int 1,.int (-1),.int 2,.int 3,.int (-2)]) w1 w2;obtain ⟨tm,rfl,tmv⟩:∃ tm:Int,v=.int tm/\(tm=1\/tm=-1\/tm=2\/tm=3\/tm=-2):=by
    simp only[zT,zX,or_false]at hv;rcases hv with rfl|rfl|rfl|rfl|rfl|rfl<;>exact⟨_,rfl,by lia⟩
   have n1:∀st,lJ .USub st (.int 1)=some (.int (-1)):=fun _=>rfl
   have n2:∀st,lJ .USub st (.int 2)=some (.int (-2)):=fun _=>rfl
   obtain⟨L2,hL2,eL2⟩:=gR (P:=fun v=>-(12*((i+1:Nat):Int))<=v/\v<=12*((i+1:Nat):Int)) (ks:=[af,aU,aS]) (k:=1) (st:=A::B::.lst (iL D3)::R) (it:=.r1 (.bi .len (.cons (.v 3) .nil))) (t:=.nm 7) (e:=.bin .Add (.ix (.v 3) (.v 7)) (.bin .Mult (.v 6) (.ix (.v 5) (.v 7)))) (sl:=[Is n,Rs 2,Is z,Ls L,Is (q:Int),Ls M,Is tm]) (N:=2^n-1) (je (by simp[tQ,hL]) oM) oM fun g hg=>by
    have i1:=pY (st:=A::B::.lst (iL D3)::R) (T:=L) (i:=g) oM;have i2:=pY (st:=A::B::.lst (iL D3)::R) (T:=M) (i:=g) oM;have b1:=hb _ (iq (T:=L) (q:=g) oM);have b2:=hMb _ (iq (T:=M) (q:=g) oM);have mm:bh .Mult (A::B::.lst (iL D3)::R) (.int tm) (.int (SX.gI M g))=some (.int (tm*SX.gI M g)):=bO (jg (C1 oM));exact⟨[Is n,Rs 2,Is z,Ls L,Is (q:Int),Ls M,Is tm,Is (g:Int)],SX.gI L g+tm*SX.gI M g,by rcases tmv with rfl|rfl|rfl|rfl|rfl<;>lia,rfl,by simp[i1,i2,mm]⟩
   refine ⟨_,[Is n,Rs 2,Is z,Ls L2,Is (q:Int),Ls M,Is tm],A::B::.lst (iL D3)::R,rfl,?_,D3,L2,rfl,by lia,hd3,hL2.1,hL2.2,_,_,_,rfl⟩;refine aq (sl':=[Is n,Rs 2,Is z,Ls L,Is (q:Int),Ls M,x6]) (st':=A::B::.lst (iL (D3++[y]))::R) (by simp [e1,e2,dF]) ?_;refine aq (sl':=[Is n,Rs 2,Is z,Ls L,Is (q:Int),Ls M,Is tm]) (st':=A::B::.lst (iL D3)::R) (by simp [n1,n2,iI,dF,dy (show (0:Int) < 6 by decide),cj,rfs,rf,ev]) ?_;refine aq (sl':=[Is n,Rs 2,Is z,Ls L2,Is (q:Int),Ls M,Is tm]) (st':=A::B::.lst (iL D3)::R) (by rw [dB,eL2];rfl) rfl
  ·rintro sl s ⟨D',L,rfl,hl,hd',hL,hb,x4,x5,x6,rfl⟩
   simp only[List.length_range]at hl hb;exact⟨_,rfl,D',L,rfl,hL,fun x hx=>by have:=hb x hx;lia,hd',by lia⟩
 obtain⟨r,e,D',L,rfl,h⟩:=key;exact⟨D',L,e,h⟩
theorem u6{b:Nat}:∀l:List Int,(∀x∈l,x.natAbs<=b)->l.sum.natAbs<=l.length*b
 |[],_=>by simp
 |x::l,h=>by
  have h1:=h x z7;have h2:=u6 l fun y hy=>h y (zQ _ hy)
  rw[List.sum_cons,yY,Nat.add_mul];lia
theorem Gy{l:List Int}:lsI st (.fz (iL l))=some l:=by
 unfold lsI;rw[fj,bind_some];unfold kb;rw[show iL l=l.map AV.int from rfl,fM (i:=AV.int) (g:=id) (fun _=>rfl),List.map_id]
theorem xV{r:List Int}(hr:r.length<=15)(hb:wA r)(hT:T.length=r.length/\∀x∈T,0<=x/\x<=10000000000):∃v:Int,v.natAbs<=10000000000000000000000000000000000/\∀st,pm bH [.fz (iL r),.fz (iL T)] st=some (.int v,st):=by
 obtain⟨L,hL,e⟩:=gR (P:=fun v=>v.natAbs<=100000000000000000000000000000000) (ks:=[]) (k:=1) (st:=[]) (it:=.r1 (.bi .len (.cons (.v 0) .nil))) (t:=.nm 2) (e:=.bin .Mult (.ix (.v 0) (.v 2)) (.ix (.v 1) (.v 2))) (sl:=[Ls r,Ls T]) (N:=r.length) (je (by simp[tQ]) oM) oM fun g hg=>by
  have i1:=pY (st:=[]) (T:=r) (i:=g) hg;have i2:=pY (st:=[]) (T:=T) (i:=g) oM;have b1:=hb _ (iq (T:=r) (q:=g) hg);have b2:=hT.2 _ (iq (T:=T) (q:=g) oM);have mm:bh .Mult [] (.int (SX.gI r g)) (.int (SX.gI T g))=some (.int (SX.gI r g * SX.gI T g)):=bO (lX (yM (m:=10000000000) oM dC));refine ⟨[Ls r,Ls T,Is (g:Int)],SX.gI r g * SX.gI T g,?_,rfl,by simp [i1,i2,mm]⟩;rw [xA];exact z5 (Nat.mul_le_mul b1 (show (SX.gI T g).natAbs <= 10000000000 by lia)) dC
 refine⟨L.sum,?_,fun st=>cL (by simp[rfs,rf,mj]) (v:=.int L.sum) (st':=[]) ?_ rfl⟩
 ·have:=u6 L hL.2
  have h15:L.length*100000000000000000000000000000000<=15*100000000000000000000000000000000:=Nat.mul_le_mul_right _ oM;lia
 ·rw[bH,aD]
  show(aj [] g9 [Ls r,Ls T] []).bind ax=_;refine fH ?_;simp only[xb,Iw,fG,gM,e,bind_some,Fo,bZ,pi,Gy,map_some]
end
section
variable{st:aa}{n g k j:Nat}{A B:LQ}{R:aa}{D T:List Int}
def rk(n:Nat)(z:Gv):Prop:=z.row.length=2^n-1/\wA z.row/\z.num.natAbs<=10000000000000000000000000000000010
theorem Au:∀l:List Gv,rfs (l.map Gv.av)=true:=fun l=>gJ fun x hx=>by
 obtain⟨z,_,rfl⟩:=yD.mp hx;simp[Gv.av,rf,rfs,mj]
def oo(z:Gv):PyData:=.tuple [.list (z.row.map PyData.int),.str (if z.eq=true then "=" else ">"),.int z.num]
theorem Ga(z:Gv):ce 8 st z.av=some (oo z):=by
 obtain⟨r,e,m⟩:=z;have:ce 7 st (.fz (iL r))=some (.list (r.map PyData.int)):=by show(bI (ce 6 st) _).map _=_;rw[Ey];rfl
 show(bI (ce 7 st) [.fz (iL r),_,_]).map _=_;simp only[bI,this,bind_some];cases e<;>rfl
theorem EG(z:Gv):(oo z).canLay0=true:=by
 obtain⟨r,e,m⟩:=z;have:∀l:List Int,PyData.canLayAll0 (l.map PyData.int)=true:=fun l=>by
  induction l with
  |nil=>rfl
  |cons x l ih=>simp only[zO,PyData.canLayAll0,PyData.canLay0,ih,Bool.and_self]
 have s1:PyData.strOk "="=true:=by decide +kernel
 have s2:PyData.strOk ">"=true:=by decide +kernel
 cases e<;>simp[oo,PyData.canLay0,PyData.canLayAll0,this,s1,s2]
theorem Gp{r:Nat}{G:List Gv}(h:st[r]?=some (.lst (G.map Gv.av))):cx .NotEq st (.ref r) (.fz [])=some (!G.isEmpty):=by
 change (jz st (.ref r) (.fz [])).map (fun b=>!b)=_;have h1:ce 9 st (.ref r)=some (.list (G.map oo)):=by
  unfold ce;have:bI (ce 8 st) (G.map Gv.av)=some (G.map oo):=fM (f:=ce 8 st) (i:=Gv.av) (g:=oo) (fun z=>Ga z) G;simp only[h,this,map_some]
 have h2:PyData.canLayAll0 (G.map oo)=true:=by
  clear h h1
  induction G with
  |nil=>rfl
  |cons x l ih=>simp only[zO,PyData.canLayAll0,EG,ih,Bool.and_self]
 unfold jz;rw[h1,show ce 9 st (.fz [])=some (.list []) from rfl,bind_some,bind_some,yI (by
  unfold DD.pyOk;rw[show(PyData.list (G.map oo)).canLay0=true by simp only[PyData.canLay0,h2],yW (z5 (Nat.min_le_right _ _) dC)];rfl)]
 cases G<;>rfl
theorem Jp{a b:Bool}:cx .Eq st (.str (if a=true then "=" else ">")) (.str ">")=some (!a):=by cases a<;>kernel_rfl
theorem yi(hn:ie n)(hD:200<=D.length)(hd:okD D)(hT:T.length=2^n-1/\∀x∈T,0<=x/\x<=10000000000):∃(D':List Int)(G:List Gv)(O:LQ),cQ [.int n,.ref 2,.fz (iL T)] [A,B,.lst (iL D)]=some (.fz (G.map Gv.av),[A,B,.lst (iL D'),O])/\G.length<=8/\(∀z∈G,rk n z)/\okD D'/\D.length<=D'.length+160:=by
 have hN:0<2^n-1/\2^n-1<=15:=by rcases hn with rfl|rfl|rfl|rfl<;>decide
 have key:∃r,cQ [.int n,.ref 2,.fz (iL T)] [A,B,.lst (iL D)]=some r/\∃(D':List Int)(G:List Gv)(O:LQ),r=(.fz (G.map Gv.av),[A,B,.lst (iL D'),O])/\G.length<=8/\(∀z∈G,rk n z)/\okD D'/\D.length<=D'.length+160:=by
  rw [cQ,aD];show ∃ r,(aj [af,bD,bH] eG [Is n,Rs 2,Ls T,none,none,none,none,none,none] [A,B,.lst (iL D)]).bind ax=some r/\_;unfold eG;refine ar (sl':=[Is n,Rs 2,Ls T,Rs 3,none,none,none,none,none]) (st':=[A,B,.lst (iL D),.lst (([]:List Gv).map Gv.av)]) rfl ?_;obtain ⟨D1,x,rfl⟩:=fm (D:=D) (fun e=>by rw [e] at hD;simp at hD);obtain ⟨hx,hd1⟩:=hd.at;simp only [zV,List.length_singleton] at hD ⊢;have p:=iI (A:=A) (B:=B) (R:=[.lst (([]:List Gv).map Gv.av)]) (D:=D1) (x:=x);have w1:=Int.emod_nonneg x (show (8:Int) ≠ 0 by decide);have w2:=Int.emod_lt_of_pos x (show (0:Int) < 8 by decide);obtain ⟨v,hv,xv⟩:=ku (st:=[A,B,.lst (iL D1),.lst (([]:List Gv).map Gv.av)]) (l:=[.int 0,.int 1,.int 2,.int 3,.int 4,.int 5,.int 8,.int 2]) w1 w2;obtain ⟨c,rfl,hc⟩:∃ c:Nat,v=.int (c:Int)/\c <= 8:=by
   simp only[zT,zX,or_false]at hv;rcases hv with rfl|rfl|rfl|rfl|rfl|rfl|rfl|rfl
   ·exact⟨0,rfl,by decide⟩
   ·exact⟨1,rfl,by decide⟩
   ·exact⟨2,rfl,by decide⟩
   ·exact⟨3,rfl,by decide⟩
   ·exact⟨4,rfl,by decide⟩
   ·exact⟨5,rfl,by decide⟩
   ·exact⟨8,rfl,by decide⟩
   ·exact⟨2,rfl,by decide⟩
  have it:dz [af,bD,bH] (.r1 (.ix (.nw false (.li (.cons (.i 0) (.cons (.i 1) (.cons (.i 2) (.cons (.i 3) (.cons (.i 4) (.cons (.i 5) (.cons (.i 8) (.cons (.i 2) .nil)))))))))) (.bin .Mod (.ca false 0 (.cons (.v 1) .nil)) (.i 8)))) [Is n,Rs 2,Ls T,Rs 3,none,none,none,none,none] [A,B,.lst (iL (D1++[x])),.lst (([]:List Gv).map Gv.av)]=some (⟨(List.range c).map fun q:Nat=>AV.int (q:Int),[]⟩,[A,B,.lst (iL D1),.lst (([]:List Gv).map Gv.av)]):=by
   have e:ev [af,bD,bH] (.ix (.nw false (.li (.cons (.i 0) (.cons (.i 1) (.cons (.i 2) (.cons (.i 3) (.cons (.i 4) (.cons (.i 5) (.cons (.i 8) (.cons (.i 2) .nil)))))))))) (.bin .Mod (.ca false 0 (.cons (.v 1) .nil)) (.i 8))) [Is n,Rs 2,Ls T,Rs 3,none,none,none,none,none] [A,B,.lst (iL (D1++[x])),.lst (([]:List Gv).map Gv.av)]=some (.int (c:Int),[A,B,.lst (iL D1),.lst (([]:List Gv).map Gv.av)]):=by
    simp at p xv;simp [p,dy (show (0:Int) < 8 by decide),xv,rfs,rf,cj,dF]
   show(ev _ _ _ _).bind _=_;rw[e];exact je (ks:=[]) (a:=.i c) (sl:=[]) rfl oM
  refine jE (em:=fun q:Nat=>.int (q:Int)) (xs:=List.range c) (gd:=[]) (st0:=[A,B,.lst (iL D1),.lst (([]:List Gv).map Gv.av)]) (fun i sl s=>∃(D':List Int)(G:List Gv),s=[A,B,.lst (iL D'),.lst (G.map Gv.av)]/\D1.length<=D'.length+18*i/\okD D'/\G.length=i/\(∀z∈G,rk n z)/\∃x4 x5 x6 x7 x8,sl=[Is n,Rs 2,Ls T,Rs 3,x4,x5,x6,x7,x8]) it (fun _ _ _ _=>rfl) ⟨D1,[],rfl,by lia,hd1,rfl,by simp,_,_,_,_,_,rfl⟩ ?_ ?_
  ·rintro i q sl s hq ⟨D',G,rfl,hl,hd',hG,hz,x4,x5,x6,x7,x8,rfl⟩
   have hi:i<c:=by have:=(zB.mp hq).1;simpa using this
   obtain⟨D2,r,e1,hr,hrb,hd2,hl2⟩:=zw (A:=A) (B:=B) (R:=[.lst (G.map Gv.av)]) (D:=D') hn oM hd';obtain⟨D3,z,rfl⟩:=fm (D:=D2) (fun e=>by rw[e]at hl2;simp at hl2;lia);obtain⟨hz0,hd3⟩:=hd2.at;simp only[zV,List.length_singleton]at hl2;obtain⟨v,vb,xv⟩:=xV (r:=r) (T:=T) oM hrb ⟨by lia,hT.2⟩;have p2:=iI (A:=A) (B:=B) (R:=[.lst (G.map Gv.av)]) (D:=D3) (x:=z);obtain⟨S,hS⟩:∃S,S=[A,B,.lst (iL D3),.lst (G.map Gv.av)]:=⟨_,rfl⟩;have xv:=xv S;have f2:bh .FloorDiv S (.int z) (.int 2)=some (.int (z/2)):=jS rfl dC;have f6:bh .FloorDiv S (.int z) (.int 6)=some (.int (z/6)):=jS rfl dC;have f48:bh .FloorDiv S (.int z) (.int 48)=some (.int (z/48)):=jS rfl dC;have m2:bh .Mod S (.int z) (.int 2)=some (.int (z%2)):=dy dC;have m3:bh .Mod S (.int (z/2)) (.int 3)=some (.int (z/2%3)):=dy dC;have m8:bh .Mod S (.int (z/6)) (.int 8)=some (.int (z/6%8)):=dy dC;have m9:bh .Mod S (.int (z/48)) (.int 9)=some (.int (z/48%9)):=dy dC;have b2:=Int.emod_two_eq z;obtain⟨sg,es⟩:∃sg:Bool,cm S (.fz [.str "=",.str ">"]) (.int (z%2))=some (.str (if sg=true then "=" else ">")):=by
    rcases b2 with h|h<;>rw[h]
    ·exact⟨true,rfl⟩
    ·exact⟨false,rfl⟩
   obtain⟨du,hdu⟩:∃du:Int,du=if sg=true then v else v-z/2%3:=⟨_,rfl⟩
   obtain⟨dv,hdv⟩:∃dv:Int,dv=if z/6%8=0 then z/48%9-4 else du:=⟨_,rfl⟩
   have bd:dv.natAbs<=10000000000000000000000000000000010:=by
    have:=Int.emod_nonneg (z / 48) (show (9:Int) ≠ 0 by decide)
    have:=Int.emod_lt_of_pos (z / 48) (show (0:Int) < 9 by decide)
    have:=Int.emod_nonneg (z / 2) (show (3:Int) ≠ 0 by decide)
    have:=Int.emod_lt_of_pos (z / 2) (show (0:Int) < 3 by decide)
    rw[hdv];split
    ·lia
    ·rw[hdu];split<;>lia
   refine⟨_,[Is n,Rs 2,Ls T,Rs 3,Is (q:Int),Ls r,Is z,some (.str (if sg=true then "=" else ">")),Is dv],[A,B,.lst (iL D3),.lst ((G++[(⟨r,sg,dv⟩:Gv)]).map Gv.av)],rfl,?_,D3,_,rfl,by lia,hd3,by simp[hG],fun z hz'=>?_,_,_,_,_,_,rfl⟩
   ·refine aq (sl':=[Is n,Rs 2,Ls T,Rs 3,Is (q:Int),Ls r,x6,x7,x8]) (st':=[A,B,.lst (iL (D3++[z])),.lst (G.map Gv.av)]) (by simp[e1,dF]) ?_
    refine aq (sl':=[Is n,Rs 2,Ls T,Rs 3,Is (q:Int),Ls r,Is z,x7,x8]) (st':=S) (by simp[p2,dF,hS]) ?_;refine aq (sl':=[Is n,Rs 2,Ls T,Rs 3,Is (q:Int),Ls r,Is z,some (.str (if sg=true then "=" else ">")),x8]) (st':=S) (by simp[m2,es,cj,rfs,rf]) ?_;refine aq (sl':=[Is n,Rs 2,Ls T,Rs 3,Is (q:Int),Ls r,Is z,some (.str (if sg=true then "=" else ">")),Is v]) (st':=S) (by simp[xv]) ?_;refine aq (sl':=[Is n,Rs 2,Ls T,Rs 3,Is (q:Int),Ls r,Is z,some (.str (if sg=true then "=" else ">")),Is du]) (st':=S) ?_ ?_
    ·have e:=Jp (st:=S) (a:=sg) (b:=true)
     generalize (AV.str (if sg=true then "=" else ">"))=w at e;rw[hdu];cases sg<;>simp[e,f2,m3]
    refine aq (sl':=[Is n,Rs 2,Ls T,Rs 3,Is (q:Int),Ls r,Is z,some (.str (if sg=true then "=" else ">")),Is dv]) (st':=S) ?_ ?_
    ·rw[hdv]
     by_cases h:z/6%8=0
     ·simp[f6,m8,h,f48,m9]
     ·simp[f6,m8,h]
    have ap:=Ax (ks:=[af,bD,bH]) (a:=.v 3) (e:=.tu (.cons (.v 5) (.cons (.v 7) (.cons (.v 8) .nil)))) (y:=(⟨r,sg,dv⟩:Gv).av) (k:=3) (xs:=G.map Gv.av) (sl:=[Is n,Rs 2,Ls T,Rs 3,Is (q:Int),Ls r,Is z,some (.str (if sg=true then "=" else ">")),Is dv]) (st:=[A,B,.lst (iL D3),.lst (G.map Gv.av)]) rfl rfl rfl (by simp;lia);rw[hS];refine aq ap ?_;show some _=some _;simp
   ·rcases zZ.mp hz' with h|h
    ·exact hz z h
    ·rw[zM.mp h];exact⟨hr,hrb,bd⟩
  ·rintro sl s ⟨D',G,rfl,hl,hd',hG,hz,x4,x5,x6,x7,x8,rfl⟩
   simp only[List.length_range]at hl hG;have fin':∀(D2:List Int)(G':List Gv),G'.length<=100->(∀z∈G',rk n z)->okD D2->D1.length+1<=D2.length+160->∃r,(aj [af,bD,bH] (.cons (.rt (.nw false (.sl (.v 3) .no (.so (.i 8))))) .nil) [Is n,Rs 2,Ls T,Rs 3,x4,x5,x6,x7,x8] [A,B,.lst (iL D2),.lst (G'.map Gv.av)]).bind ax=some r/\∃(D':List Int)(G:List Gv)(O:LQ),r=(.fz (G.map Gv.av),[A,B,.lst (iL D'),O])/\G.length<=8/\(∀z∈G,rk n z)/\okD D'/\D1.length+1<=D'.length+160:=fun D2 G' hG' hz' h1 h2=>by
    refine eK (v:=.fz ((G'.take 8).map Gv.av)) (st':=[A,B,.lst (iL D2),.lst (G'.map Gv.av)]) ?_ ⟨D2,G'.take 8,_,rfl,by rw[List.length_take];lia,fun z hz=>hz' z (List.mem_of_mem_take hz),h1,h2⟩;have cu:cut (G'.map Gv.av) none (some 8)=(G'.take 8).map Gv.av:=by
     unfold cut;rw[HT.sIx_none,show(8:Int)=((8:Nat):Int) from rfl,HT.sIx_nat,zH,List.drop_zero,Nat.sub_zero,List.map_take];rcases Nat.le_total 8 G'.length with h|h
     ·rw[Nat.min_eq_left h]
     ·rw[Nat.min_eq_right h,List.take_of_length_le (by simp),List.take_of_length_le (by simpa using h)]
    have l3:bA [A,B,.lst (iL D2),.lst (G'.map Gv.av)] (.ref 3)=some (G'.map Gv.av):=bu rfl;have rr:rfs ((G'.take 8).map Gv.av)=true:=Au _;simp[-List.map_take,lV,lS,Ee,l3,cu,rr]
   have ne:=Gp (st:=[A,B,.lst (iL D'),.lst (G.map Gv.av)]) (r:=3) (G:=G) rfl;cases G with
   |nil =>
    refine ar (sl':=[Is n,Rs 2,Ls T,Rs 3,x4,x5,x6,x7,x8]) (st':=[A,B,.lst (iL D'),.lst (([]:List Gv).map Gv.av)]) ?_ (fin' D' [] (by simp) (by simp) hd' oM);simp at ne;simp[ne,cj]
   |cons z0 G =>
    obtain⟨D2,y,rfl⟩:=fm (D:=D') (fun e=>by rw[e]at hl;simp at hl;lia);obtain⟨hy,hd2⟩:=hd'.at;simp only[zV,List.length_singleton]at hl;have p2:=iI (A:=A) (B:=B) (R:=[.lst ((z0::G).map Gv.av)]) (D:=D2) (x:=y);have m8:bh .Mod [A,B,.lst (iL D2),.lst ((z0::G).map Gv.av)] (.int y) (.int 8)=some (.int (y%8)):=dy dC;have tt:tv [af,bD,bH] (.an (.cmp .NotEq (.v 3) (.nw false (.li .nil))) (.cmp .Eq (.bin .Mod (.ca false 0 (.cons (.v 1) .nil)) (.i 8)) (.i 0))) [Is n,Rs 2,Ls T,Rs 3,x4,x5,x6,x7,x8] [A,B,.lst (iL (D2++[y])),.lst ((z0::G).map Gv.av)]=some (decide (y%8=0),[A,B,.lst (iL D2),.lst ((z0::G).map Gv.av)]):=by
     generalize (z0::G).map Gv.av=GG at ne p2 m8;simp[ne,p2,dF,m8,cj]
    by_cases h8:y%8=0
    ·refine ar (sl':=[Is n,Rs 2,Ls T,Rs 3,x4,x5,x6,x7,x8]) (st':=[A,B,.lst (iL D2),.lst ((z0::G++[z0]).map Gv.av)]) ?_ (fin' D2 (z0::G++[z0]) (by simp at hG ⊢;lia) (fun z h=>by
      rcases zZ.mp h with h|h
      ·exact hz z h
      ·rw[zM.mp h];exact hz z0 z7) hd2 oM)
     have ap:=Ax (ks:=[af,bD,bH]) (a:=.v 3) (e:=.ix (.v 3) (.i 0)) (y:=z0.av) (k:=3) (xs:=(z0::G).map Gv.av) (sl:=[Is n,Rs 2,Ls T,Rs 3,x4,x5,x6,x7,x8]) (st:=[A,B,.lst (iL D2),.lst ((z0::G).map Gv.av)]) rfl (by
      have:cm [A,B,.lst (iL D2),.lst ((z0::G).map Gv.av)] (.ref 3) (.int 0)=some z0.av:=by
       rw[cq (bu (xs:=(z0::G).map Gv.av) rfl),show(0:Int)=((0:Nat):Int) from rfl,b8];rfl
      simp only[sD,kB,nZ,iP,iO,bind_some,this,map_some]) rfl (by simp at hG ⊢;lia)
     rw[j5,tt,bind_some,yW h8];show aj _ _ _ _=_;refine aq ap ?_;show some _=some _;simp
    ·refine ar (sl':=[Is n,Rs 2,Ls T,Rs 3,x4,x5,x6,x7,x8]) (st':=[A,B,.lst (iL D2),.lst ((z0::G).map Gv.av)]) ?_ (fin' D2 (z0::G) oM hz hd2 oM)
     rw[j5,tt,bind_some,yA h8];rfl
 obtain⟨r,e,D',G,O,rfl,h⟩:=key;exact⟨D',G,O,e,h⟩
end
section
variable{st:aa}{n g k j:Nat}{A B:LQ}{D T:List Int}{ns:List Int}
theorem sX(hns:ns.length<=63):∃(n:Nat)(T:List Int)(G:List Gv)(goal D:List Int)(A B O:LQ),cU [.fz (iL ns)] []=some (.tup [.int n,.fz (iL T),.fz (G.map Gv.av),.fz (iL goal),.ref 2],[A,B,.lst (iL D),O])/\(n=1\/n=2\/n=3)/\G.length<=8/\(∀z∈G,rk n z)/\goal.length=2^n-1/\wA goal/\okD D/\100<=D.length:=by
 obtain ⟨A,B,D,e1,hD,hd⟩:=Cj hns;obtain ⟨D1,x,rfl⟩:=fm (D:=D) (fun z=>by rw [z] at hD;cases hD);have hd:okD (D1++[x]):=hd;obtain ⟨hx,hd1⟩:=hd.at;simp only [zV,List.length_singleton] at hD;have p:=iI (A:=A) (B:=B) (R:=[]) (D:=D1) (x:=x);have w1:=Int.emod_nonneg x (show (8:Int) ≠ 0 by decide);have w2:=Int.emod_lt_of_pos x (show (0:Int) < 8 by decide);obtain ⟨v,hv,xv⟩:=ku (st:=[A,B,.lst (iL D1)]) (l:=[.int 1,.int 2,.int 2,.int 3,.int 2,.int 2,.int 1,.int 3]) w1 w2;obtain ⟨n,rfl,hn3⟩:∃ n:Nat,v=.int (n:Int)/\(n=1\/n=2\/n=3):=by
  simp only[zT,zX,or_false]at hv;rcases hv with rfl|rfl|rfl|rfl|rfl|rfl|rfl|rfl
  ·exact⟨1,rfl,by decide⟩
  ·exact⟨2,rfl,by decide⟩
  ·exact⟨2,rfl,by decide⟩
  ·exact⟨3,rfl,by decide⟩
  ·exact⟨2,rfl,by decide⟩
  ·exact⟨2,rfl,by decide⟩
  ·exact⟨1,rfl,by decide⟩
  ·exact⟨3,rfl,by decide⟩
 have hn:ie n:=by unfold ie;lia
 obtain ⟨D2,T,e2,hT,hd2,hl2⟩:=A6 (A:=A) (B:=B) (R:=[]) (D:=D1) hn oM hd1;obtain ⟨D3,G,O,e3,hG,hz,hd3,hl3⟩:=yi (A:=A) (B:=B) (D:=D2) hn oM hd2 hT;obtain ⟨D4,goal,e4,hg,hgb,hd4,hl4⟩:=zw (A:=A) (B:=B) (R:=[O]) (D:=D3) hn oM hd3;refine ⟨n,T,G,goal,D4,A,B,O,?_,hn3,hG,hz,hg,hgb,hd4,by lia⟩;rw [cU,aD];show (aj [dP,af,dj,cQ,bD] dH [Ls ns,none,none,none,none] []).bind ax=_;unfold dH;refine ah (sl':=[Ls ns,Rs 2,none,none,none]) (st':=[A,B,.lst (iL (D1++[x]))]) (by simp [e1,dF]) ?_;refine ah (sl':=[Ls ns,Rs 2,Is n,none,none]) (st':=[A,B,.lst (iL D1)]) (by simp [p,dF,dy (show (0:Int) < 8 by decide),xv,cj,rfs,rf]) ?_;refine ah (sl':=[Ls ns,Rs 2,Is n,Ls T,none]) (st':=[A,B,.lst (iL D2)]) (by simp [e2,dF]) ?_;refine ah (sl':=[Ls ns,Rs 2,Is n,Ls T,Zs (G.map Gv.av)]) (st':=[A,B,.lst (iL D3),O]) (by simp [e3,dF]) ?_;refine fH ?_;simp [e4,dF]
variable{w:Nat}{RR:List (List Int)}{gv:List Gv}{X Y Z:Nat->Int}{e:Int}{goal:List Int}
theorem j4{r:List Int}:val w r (fun x=>X x+Z x)=val w r X+val w r Z:=by
 unfold val;rw[<- SX.sum_add];exact SX.sum_congr fun x _=>by grind
theorem Kp.add(h:Kp w RR gv X e)(h0:Kp w RR gv Z 0):Kp w RR gv (fun x=>X x+Z x) e:=by
 refine⟨fun r hr=>?_,fun z hz he=>?_,fun z hz he=>?_⟩
 ·have:=h.rule r hr;have:=h0.rule r hr;rw[j4];lia
 ·have h1:=h.eq z hz he;have h2:=h0.eq z hz he;rw[j4];rw[yP]at h2;lia
 ·have h1:=h.ge z hz he;have h2:=h0.ge z hz he;rw[j4];rw[yP]at h2;lia
theorem ur{T d:Int}(hd:0<d)(hX:Kp w RR gv X d/\val w goal X=T)(h:∀Y e,0<e->Kp w RR gv Y e->T*e<=val w goal Y*d)(hZ:Kp w RR gv Z 0):0<=val w goal Z:=by
 have:=h _ d hd (hX.1.add hZ)
 rw[j4,hX.2]at this
 have:=Int.le_of_mul_le_mul_right this hd
 lia
theorem EB{T d:Int}(hd:0<d):∃q:Int,0<q/\T=gI (aG [T,d]) 0*q/\d=gI (aG [T,d]) 1*q/\0<gI (aG [T,d]) 1:=by
 have hg:gL [T,d]=Nat.gcd T.natAbs d.natAbs:=by
  show Nat.gcd (Nat.gcd 0 T.natAbs) d.natAbs=_;rw[Nat.gcd_zero_left]
 have hp:0<Nat.gcd T.natAbs d.natAbs:=Nat.gcd_pos_of_pos_right _ oM;have e:aG [T,d]=[T/(Nat.gcd T.natAbs d.natAbs:Int),d/(Nat.gcd T.natAbs d.natAbs:Int)]:=by
  unfold aG;rw[yH (by rw[hg];lia),hg];rfl
 have d1:((Nat.gcd T.natAbs d.natAbs:Nat):Int) ∣ T:=Int.dvd_natAbs.mp (Int.natCast_dvd_natCast.mpr (Nat.gcd_dvd_left _ _));have d2:((Nat.gcd T.natAbs d.natAbs:Nat):Int) ∣ d:=Int.dvd_natAbs.mp (Int.natCast_dvd_natCast.mpr (Nat.gcd_dvd_right _ _));rw[e];refine⟨(Nat.gcd T.natAbs d.natAbs:Nat),by lia,(Int.ediv_mul_cancel d1).symm,(Int.ediv_mul_cancel d2).symm,?_⟩;show 0<d / _;have h2:=Int.ediv_mul_cancel d2;rcases Int.lt_trichotomy 0 (d/((Nat.gcd T.natAbs d.natAbs:Nat):Int)) with h|h|h
 ·exact h
 ·rw[<- h]at h2;lia
 ·have:=Int.mul_neg_of_neg_of_pos h (show (0:Int) < ((Nat.gcd T.natAbs d.natAbs:Nat):Int) by lia);lia
theorem Ab{a b q:Int}{m:Nat}(h:b=a*q)(hq:0<q)(hb:b.natAbs<2^m):a.natAbs<2^m:=by
 refine yM ?_ hb;rw[h,xA];exact Nat.le_mul_of_pos_right _ oM
end
section
variable{st:aa}{ns:List Int}
theorem Iq{x:AV}(h:rf x=true):pm aY [.tup [.str "never",x]] st=some (.tup [.str "never"],st):=by
 refine cL (by simp[rfs,rf,h]) (v:=.tup [.str "never"]) (st':=[]) ?_ rfl;rw[aY,aD];show(aj [] cT [some (.tup [.str "never",x])] []).bind ax=_;have i0:cm [] (.tup [.str "never",x]) (.int 0)=some (.str "never"):=rfl;have eq:cx .Eq [] (.str "never") (.str "least")=some false:=by kernel_rfl
 refine ah (sl':=[some (.tup [.str "never",x])]) (st':=[]) (by simp[i0,eq]) (fH ?_);simp[i0]
theorem Iu{x y:AV}(h:(rf x&&rf y)=true):pm aY [.tup [.str "endless",x,y]] st=some (.tup [.str "endless"],st):=by
 rw[zC]at h;refine cL (by simp[rfs,rf,h.1,h.2]) (v:=.tup [.str "endless"]) (st':=[]) ?_ rfl;rw[aY,aD];show(aj [] cT [some (.tup [.str "endless",x,y])] []).bind ax=_;have i0:cm [] (.tup [.str "endless",x,y]) (.int 0)=some (.str "endless"):=rfl;have eq:cx .Eq [] (.str "endless") (.str "least")=some false:=by kernel_rfl
 refine ah (sl':=[some (.tup [.str "endless",x,y])]) (st':=[]) (by simp[i0,eq]) (fH ?_);simp[i0]
theorem Ir{x y z:AV}{p q:Int}(h:(rf x&&rf y&&rf z)=true):pm aY [.tup [.str "least",.tup [.int p,.int q],x,y,z]] st=some (.tup [.str "least",.tup [.int p,.int q]],st):=by
 simp only[zC]at h;refine cL (by simp[rfs,rf,h.1.1,h.1.2,h.2]) (v:=.tup [.str "least",.tup [.int p,.int q]]) (st':=[]) ?_ rfl;rw[aY,aD];show(aj [] cT [some (.tup [.str "least",.tup [.int p,.int q],x,y,z])] []).bind ax=_;have i0:cm [] (.tup [.str "least",.tup [.int p,.int q],x,y,z]) (.int 0)=some (.str "least"):=rfl;have i1:cm [] (.tup [.str "least",.tup [.int p,.int q],x,y,z]) (.int 1)=some (.tup [.int p,.int q]):=rfl;have eq:cx .Eq [] (.str "least") (.str "least")=some true:=by kernel_rfl
 refine fH (s:=.iff _ _ _) ?_;simp[i0,i1,eq,lT]
end
section
variable{st:aa}{w:Nat}{RR:List (List Int)}{gv gv':List Gv}{goal:List Int}{u u':AV}
inductive VG(w:Nat)(RR:List (List Int))(gv:List Gv)(goal:List Int):AV->Prop where
 |never (h:∀Y e,0<e->¬Kp w RR gv Y e):VG w RR gv goal (.tup [.str "never"])
 |least {p q c:Int}{X:Nat->Int} (hc:0<c) (hq:0<q) (bp:p.natAbs<2^9000) (bq:q.natAbs<2^9000) (lo:Nat.gcd p.natAbs q.natAbs=1) (hX:Kp w RR gv X (q*c)/\val w goal X=p*c) (h:∀Y e,0<e->Kp w RR gv Y e->p*c*e<=val w goal Y*(q*c)):VG w RR gv goal (.tup [.str "least",.tup [.int p,.int q]])
 |endless {X Z:Nat->Int}{d:Int} (hd:0<d) (hX:Kp w RR gv X d) (hZ:Kp w RR gv Z 0) (hn:val w goal Z<0):VG w RR gv goal (.tup [.str "endless"])
theorem B6{T d:Int}(hd:0<d):Nat.gcd (gI (aG [T,d]) 0).natAbs (gI (aG [T,d]) 1).natAbs=1:=by
 have hg:gL [T,d]=Nat.gcd T.natAbs d.natAbs:=by
  show Nat.gcd (Nat.gcd 0 T.natAbs) d.natAbs=_;rw[Nat.gcd_zero_left]
 have hp:0<Nat.gcd T.natAbs d.natAbs:=Nat.gcd_pos_of_pos_right _ oM;have e:aG [T,d]=[T/(Nat.gcd T.natAbs d.natAbs:Int),d/(Nat.gcd T.natAbs d.natAbs:Int)]:=by
  unfold aG;rw[yH (by rw[hg];lia),hg];rfl
 have d1:((Nat.gcd T.natAbs d.natAbs:Nat):Int) ∣ T:=Int.dvd_natAbs.mp (Int.natCast_dvd_natCast.mpr (Nat.gcd_dvd_left _ _));have d2:((Nat.gcd T.natAbs d.natAbs:Nat):Int) ∣ d:=Int.dvd_natAbs.mp (Int.natCast_dvd_natCast.mpr (Nat.gcd_dvd_right _ _));have f1:=congrArg Int.natAbs (Int.ediv_mul_cancel d1);have f2:=congrArg Int.natAbs (Int.ediv_mul_cancel d2);rw[xA,Int.natAbs_natCast]at f1 f2;rw[e];show Nat.gcd (T / _).natAbs (d / _).natAbs=1;generalize hk:Nat.gcd (T/((Nat.gcd T.natAbs d.natAbs:Nat):Int)).natAbs (d/((Nat.gcd T.natAbs d.natAbs:Nat):Int)).natAbs=k;have k1:k ∣ (T/((Nat.gcd T.natAbs d.natAbs:Nat):Int)).natAbs:=hk▸Nat.gcd_dvd_left _ _;have k2:k ∣ (d/((Nat.gcd T.natAbs d.natAbs:Nat):Int)).natAbs:=hk▸Nat.gcd_dvd_right _ _;have m1:=Nat.mul_dvd_mul_right k1 (Nat.gcd T.natAbs d.natAbs);have m2:=Nat.mul_dvd_mul_right k2 (Nat.gcd T.natAbs d.natAbs);rw[f1]at m1;rw[f2]at m2;have m3:=Nat.le_of_dvd hp (Nat.dvd_gcd m1 m2);have k0:0<k:=by
  rw[<- hk];refine Nat.gcd_pos_of_pos_right _ (Nat.pos_of_ne_zero fun z=>?_);rw[z,Nat.zero_mul]at f2;lia
 have:k<=1:=Nat.le_of_mul_le_mul_right (c:=Nat.gcd T.natAbs d.natAbs) oM hp;lia
theorem xW{p1 q1 p2 q2:Int}(h1:Nat.gcd p1.natAbs q1.natAbs=1)(h2:Nat.gcd p2.natAbs q2.natAbs=1)(k1:0<q1)(k2:0<q2)(e:p1*q2=p2*q1):p1=p2/\q1=q2:=by
 have e':=congrArg Int.natAbs e;rw[xA,xA]at e';have c1:Nat.Coprime q1.natAbs p1.natAbs:=by rw[Nat.Coprime,Nat.gcd_comm];exact h1
 have c2:Nat.Coprime q2.natAbs p2.natAbs:=by rw[Nat.Coprime,Nat.gcd_comm];exact h2
 have d1:q1.natAbs ∣ q2.natAbs:=c1.dvd_of_dvd_mul_left (by rw[e'];exact Nat.dvd_mul_left _ _);have d2:q2.natAbs ∣ q1.natAbs:=c2.dvd_of_dvd_mul_left (by rw[<- e'];exact Nat.dvd_mul_left _ _);have d3:=Nat.dvd_antisymm d1 d2;have eq:q1=q2:=by lia
 subst eq;exact⟨Int.eq_of_mul_eq_mul_right oM e,rfl⟩
theorem VG.nev(h:∀Y e,0<e->¬Kp w RR gv Y e)(V:VG w RR gv goal u):u=.tup [.str "never"]:=by
 cases V with
 |never _=>rfl
 |least hc hq _ _ _ hX _=>exact absurd hX.1 (h _ _ (Int.mul_pos hq hc))
 |endless hd hX _ _=>exact absurd hX (h _ _ hd)
theorem VG.uniq(V:VG w RR gv goal u)(V':VG w RR gv' goal u')(hK:∀Y e,Kp w RR gv Y e ↔ Kp w RR gv' Y e):u=u':=by
 cases V with
 |never h=>rw[V'.nev fun Y e he hk=>h Y e he ((hK Y e).mpr hk)]
 |@least p q c X hc hq _ _ lo hX h =>
  cases V' with
  |never h'=>exact absurd ((hK _ _).mp hX.1) (h' _ _ (Int.mul_pos hq hc))
  |endless _ _ hZ hn=>have:=ur (Int.mul_pos hq hc) hX h ((hK _ _).mpr hZ);lia
  |@least p' q' c' X' hc' hq' _ _ lo' hX' h' =>
   have f1:=h X' _ (Int.mul_pos hq' hc') ((hK _ _).mpr hX'.1);have f2:=h' X _ (Int.mul_pos hq hc) ((hK _ _).mp hX.1);rw[hX'.2]at f1;rw[hX.2]at f2;have cc:=Int.mul_pos hc hc';have g1:p*q'<=p'*q:=Int.le_of_mul_le_mul_right (a:=c*c') (by rw[show p*q'*(c*c')=p*c*(q'*c') by grind,show p'*q*(c*c')=p'*c'*(q*c) by grind];exact f1) cc;have g2:p'*q<=p*q':=Int.le_of_mul_le_mul_right (a:=c*c') (by rw[show p'*q*(c*c')=p'*c'*(q*c) by grind,show p*q'*(c*c')=p*c*(q'*c') by grind];exact f2) cc;obtain⟨rfl,rfl⟩:=xW lo lo' hq hq' oM;rfl
 |endless hd hX hZ hn =>
  cases V' with
  |never h'=>exact absurd ((hK _ _).mp hX) (h' _ _ hd)
  |least hc hq _ _ _ hX' h'=>have:=ur (Int.mul_pos hq hc) hX' h' ((hK _ _).mp hZ);lia
  |endless _ _ _ _=>rfl
theorem zj{t:AV}(A:o7 w RR gv goal t):∃u,(∀st,pm aY [t] st=some (u,st))/\VG w RR gv goal u:=by
 rcases A with⟨⟨W,rfl⟩,h⟩|⟨T,d,x1,x2,x3,rfl,hd,⟨bT,bd,hr⟩,⟨X,fX,vX⟩,h⟩|⟨x1,x2,rfl,hr,⟨X,d,hd,fX⟩,Z,fZ,vZ⟩
 ·exact⟨_,fun st=>Iq rfl,.never h⟩
 ·obtain⟨c,hc,e1,e2,hq⟩:=EB (T:=T) hd
  have lo:=B6 (T:=T) hd;refine⟨_,fun st=>Ir hr,?_⟩;have bp:=Ab e1 hc bT;have bq:=Ab e2 hc bd;generalize gI (aG [T,d]) 0=p at *;generalize gI (aG [T,d]) 1=q at *;subst e1;subst e2;exact .least hc hq bp bq lo ⟨fX,vX⟩ h
 ·exact⟨_,fun st=>Iu hr,.endless hd fX fZ vZ⟩
noncomputable def sc(k:Int)(r:List Int):List Int:=r.map (k*·)
end
section
variable{w w':Nat}{RR RR':List (List Int)}{gv gv':List Gv}{goal goal':List Int}{u u':AV}
theorem VG.move(V:VG w RR gv goal u)(f g:(Nat->Int)->Nat->Int)(h1:∀Y e,Kp w RR gv Y e->Kp w' RR' gv' (f Y) e/\val w' goal' (f Y)=val w goal Y)(h2:∀Y e,Kp w' RR' gv' Y e->Kp w RR gv (g Y) e/\val w goal (g Y)=val w' goal' Y):VG w' RR' gv' goal' u:=by
 cases V with
 |never h=>exact .never fun Y e he k=>h _ e he (h2 Y e k).1
 |least hc hq bp bq lo hX h=>exact .least hc hq bp bq lo ⟨(h1 _ _ hX.1).1,(h1 _ _ hX.1).2.trans hX.2⟩ fun Y e he k=>(h2 Y e k).2▸h _ e he (h2 Y e k).1
 |endless hd hX hZ hn=>exact .endless hd (h1 _ _ hX).1 (h1 _ _ hZ).1 (by rw[(h1 _ _ hZ).2];exact hn)
def tn(s:List Nat)(w':Nat)(r:List Int):List Int:=(List.range w').map fun x=>gI r (s.idxOf x)
def pb(p:List Nat)(w w':Nat)(r:List Int):List Int:=(List.range w).map fun k=>LV w' fun x=>if p.getD x w=k then gI r x else 0
noncomputable def we(w:Nat)(Y:Nat->Int)(k:Nat):Int:=if k<w then Y k else 0
theorem v8{f:Nat->Int}{n k:Nat}(h:k<n):gI ((List.range n).map f) k=f k:=by simp[gI,zD,h]
theorem uU{s:List Nat}{r:List Int}:(tn s w' r).length=w':=by simp[tn]
theorem Cv{s:List Nat}(nd:s.Nodup)(hs:∀x∈s,x<w'){r:List Int}(hr:r.length=s.length)(Y:Nat->Int):val w' (tn s w' r) Y=val s.length r fun k=>Y (s.getD k 0):=by
 have h1:∀x,x<w'->gI (tn s w' r) x*Y x=LV s.length fun k=>if s.getD k 0=x then gI r k*Y x else 0:=fun x hx=>by
  rw[tn,v8 hx];by_cases hm:x∈s
  ·have hi:=List.idxOf_lt_length_iff.mpr hm
   have e:s.getD (s.idxOf x) 0=x:=by rw[zD,zF hi];exact List.getElem_idxOf hi
   rw[SX.sum_one hi fun k hk ne=>yH fun z=>ne ?_,yI e];rw[zD,zF hk]at z;have z:s[k]=x:=z;refine(List.getElem_inj (h₀:=hk) (h₁:=hi) nd).mp ?_;rw[List.getElem_idxOf hi,z]
  ·rw[SX.sum_zero fun k hk=>yH fun z=>hm ?_,List.idxOf_eq_length hm]
   ·unfold gI;rw[zD,List.getElem?_eq_none oM];simp
   ·rw[<- z,zD,zF hk];exact List.getElem_mem hk
 unfold val;rw[SX.sum_congr h1,SX.sum_swap];refine SX.sum_congr fun k hk=>?_
 have hw:s.getD k 0<w':=hs _ (by rw[zD,zF hk];exact List.getElem_mem hk);rw[SX.sum_one hw fun x _ ne=>yH fun z=>ne z.symm,yI rfl]
theorem Cw{p:List Nat}{r:List Int}{Y:Nat->Int}:val w' r (fun x=>we w Y (p.getD x w))=val w (pb p w w' r) Y:=by
 unfold val;have h1:∀k,k<w->gI (pb p w w' r) k*Y k=LV w' fun x=>if p.getD x w=k then gI r x*Y k else 0:=fun k hk=>by
  rw[pb,v8 hk,Int.mul_comm,<- SX.sum_mul];exact SX.sum_congr fun x _=>by split<;>grind
 rw[SX.sum_congr h1,SX.sum_swap];refine SX.sum_congr fun x _=>?_
 dsimp only[we];by_cases h:p.getD x w<w
 ·rw[yI h,SX.sum_one h fun k _ ne=>yH fun z=>ne z.symm,yI rfl]
 ·rw[yH h,SX.sum_zero fun k hk=>yH fun z=>h oM,yP]
noncomputable def Ay(a b:List Int):List Int:=(a.zip b).map fun z=>z.1+z.2
def vE(w w':Nat)(RR RR':List (List Int))(s p:List Nat):Bool :=
 decide (s.length=w)&&decide s.Nodup&&s.all (fun x=>decide (x<w'))&&(List.range w).all (fun k=>p.getD (s.getD k 0) w==k) &&
 RR.all (fun r=>decide (r.length=w)&&(RR'.contains (tn s w' r)||RR'.any fun a=>RR'.any fun b=>decide (a.length=w')&&decide (b.length=w')&&tn s w' r==Ay a b))&&RR'.all fun r=>(pb p w w' r).all (·==0)||RR.contains (pb p w w' r)
theorem Cy{a b:List Int}(ha:a.length=w)(hb:b.length=w)(Y:Nat->Int):val w (Ay a b) Y=val w a Y+val w b Y:=by
 unfold val;rw[<- SX.sum_add];refine SX.sum_congr fun x hx=>?_
 have:gI (Ay a b) x=gI a x+gI b x:=by
  unfold gI Ay;simp only [zD,zR,List.getElem?_zip_eq_some,List.zip_eq_zipWith,List.getElem?_zipWith,zF (show x < a.length by lia),zF (show x < b.length by lia)];rfl
 rw[this];grind
def n8(s:List Nat)(w':Nat)(z:Gv):Gv:=⟨tn s w' z.row,z.eq,z.num⟩
theorem FK{s p:List Nat}(hb:vE w w' RR RR' s p=true)(hg:∀z∈gv,z.row.length=w)(ho:goal.length=w)(V:VG w' RR' (gv.map (n8 s w')) (tn s w' goal) u):VG w RR gv goal u:=by
 unfold vE at hb;simp only[zC,yC,yR,Bool.or_eq_true,List.mem_range,beq_iff_eq,List.contains_iff_mem,List.any_eq_true]at hb;obtain⟨⟨⟨⟨⟨rfl,nd⟩,hs⟩,hk⟩,h1⟩,h2⟩:=hb;have vt:∀{r:List Int},r.length=s.length->∀Y,val w' (tn s w' r) Y=val s.length r fun k=>Y (s.getD k 0):=fun hr Y=>Cv nd hs hr Y
 have vb:∀{r:List Int},r.length=s.length->∀Y:Nat->Int,val w' (tn s w' r) (fun x=>we s.length Y (p.getD x s.length))=val s.length r Y:=fun hr Y=>by
  rw[vt hr];exact SX.sum_congr fun k hk'=>by dsimp only;rw[hk k hk',we,yI hk']
 refine V.move (fun Y k=>Y (s.getD k 0)) (fun Y x=>we s.length Y (p.getD x s.length)) (fun Y e K=>⟨⟨fun r hr=>?_,fun z hz he=>?_,fun z hz he=>?_⟩,(vt ho Y).symm⟩) fun Y e K=>⟨⟨fun r hr=>?_,fun z hz he=>?_,fun z hz he=>?_⟩,vb ho Y⟩
 ·obtain⟨hl,h⟩:=h1 r hr
  rw[<- vt hl];rcases h with h|⟨a,ha,b,hb,⟨la,lb⟩,e⟩
  ·exact K.rule _ h
  ·rw[e,Cy la lb]
   have:=K.rule _ ha
   have:=K.rule _ hb
   lia
 ·rw[<- vt (hg z hz)];exact K.eq (n8 s w' z) (yD.mpr ⟨z,hz,rfl⟩) he
 ·rw[<- vt (hg z hz)];exact K.ge (n8 s w' z) (yD.mpr ⟨z,hz,rfl⟩) he
 ·rw[Cw]
  rcases h2 r hr with h|h
  ·have:val s.length (pb p s.length w' r) Y=0:=SX.sum_zero fun k hk'=>by
    have:gI (pb p s.length w' r) k=0:=by
     unfold gI;rw[zD];cases e:(pb p s.length w' r)[k]? with
     |none=>rfl
     |some y=>exact h y (zW e)
    rw[this,yQ]
   lia
  ·exact K.rule _ h
 ·obtain⟨y,hy,rfl⟩:=yD.mp hz
  exact(vb (hg y hy) Y).trans (K.eq y hy he)
 ·obtain⟨y,hy,rfl⟩:=yD.mp hz
  exact Int.le_trans (K.ge y hy he) (Int.le_of_eq (vb (hg y hy) Y).symm)
theorem pR{s:List Nat}{r:List Int}{B:Nat}(hr:∀x∈r,x.natAbs<=B):(tn s w' r).length=w'/\∀x∈tn s w' r,x.natAbs<=B:=by
 refine⟨uU,fun x hx=>?_⟩;obtain⟨k,_,rfl⟩:=yD.mp hx;unfold gI;rw[zD];cases e:r[s.idxOf k]? with
 |none=>exact Nat.zero_le _
 |some y=>exact hr y (zW e)
end
def sW(n:Nat)(b:Bool):List Nat:=(List.range (2^n-1)).map fun k=>if b=true then 2*k+1 else k
def pW(n:Nat)(b:Bool):List Nat:=(List.range (2^(n+1)-1)).map fun x=>((if b=true then(x+1)/2 else(x+1)%2^n)+2^n-1)%2^n
def o9(n:Nat):Bool:=[true,false].all fun b=>vE (2^n-1) (2^(n+1)-1) (mP n) (mP (n+1)) (sW n b) (pW n b)
theorem Ip:o9 1=true:=by kernel_rfl
theorem Io:o9 2=true:=by kernel_rfl
theorem Im:o9 3=true:=by kernel_rfl
theorem uo{n:Nat}(hn:n=1\/n=2\/n=3)(b:Bool):vE (2^n-1) (2^(n+1)-1) (mP n) (mP (n+1)) (sW n b) (pW n b)=true:=by
 have h:o9 n=true:=by
  rcases hn with rfl|rfl|rfl
  ·exact Ip
  ·exact Io
  ·exact Im
 unfold o9 at h;exact yR.mp h b (by cases b<;>simp)
section
variable{st:aa}{n:Nat}{b:Bool}{r:List Int}
theorem Jq:dG 0 (iL r)=r.zipIdx.map fun z=>.tup [.int ((z.2:Nat):Int),.int z.1]:=by
 unfold dG iL;rw[List.zipIdx_map,List.map_map];rfl
theorem AR(hn:n=1\/n=2\/n=3)(hr:r.length=2^n-1):pm di [.fz (iL r),.int n,.bl b] st=some (.fz (iL (tn (sW n b) (2^(n+1)-1) r)),st):=by
 have hb:=uo hn b;have hw':2^(n+1)-1<=15:=by rcases hn with rfl|rfl|rfl<;>decide
 have hww:2^(n+1)-1=2*(2^n-1)+1:=by rcases hn with rfl|rfl|rfl<;>rfl
 have z0':ev [] (.bin .Sub (.bin .LShift (.i 2) (.v 1)) (.i 1)) [Ls r,Is n,some (.bl b),none,none,none,none] []=some (.int ((2^(n+1)-1:Nat):Int),[]):=by rcases hn with rfl|rfl|rfl<;>rfl
 have hs:(sW n b).length=2^n-1/\(sW n b).Nodup/\∀x∈sW n b,x<2^(n+1)-1:=by
  unfold vE at hb;simp only[zC,yC,yR]at hb;exact⟨hb.1.1.1.1.1,hb.1.1.1.1.2,hb.1.1.1.2⟩
 have at_:∀{k},k<2^n-1->(sW n b)[k]?=some (if b=true then 2*k+1 else k):=fun {k} hk=>by simp[sW,hk]
 clear hb;generalize 2^(n+1)-1=w' at *;generalize 2^n-1=w at *;have key:∃r',di [.fz (iL r),.int n,.bl b] []=some r'/\∃L,eA r'.2 r'.1=some (.fz (iL L))/\L.length=w'/\∀x,x<w'->gI L x=gI r ((sW n b).idxOf x):=by
  rw[di,aD];show ∃r',(aj [] fA [Ls r,Is n,some (.bl b),none,none,none,none] []).bind ax=some r'/\_;unfold fA;have z0:ev [] (.nw true (.lc 1 (.r1 (.bin .Sub (.bin .LShift (.i 2) (.v 1)) (.i 1))) (.nm 7) .no (.i 0))) [Ls r,Is n,some (.bl b),none,none,none,none] []=some (.ref 0,[.lst (iL (List.replicate w' 0))]):=by
   have e:=yb (st:=[]) (ks:=[]) (k:=1) (it:=.r1 (.bin .Sub (.bin .LShift (.i 2) (.v 1)) (.i 1))) (t:=.nm 7) (c:=.no) (e:=.i 0) (sl:=[Ls r,Is n,some (.bl b),none,none,none,none]) (gd:=[]) (em:=fun q:Nat=>AV.int (q:Int)) (xs:=List.range w') (B:=fun _=>true) (F:=fun _=>.int 0) (je z0' oM) rfl (by simp;lia) fun y _=>⟨[Ls r,Is n,some (.bl b),none,none,none,none]++[Is (y:Int)],rfl,rfl,fun _=>rfl⟩
   rw[List.filter_eq_self.mpr (fun _ _=>rfl)]at e;rw[wP,e,bind_some];have:(List.range w').map (fun _=>AV.int 0)=iL (List.replicate w' 0):=by unfold iL;rw[List.map_replicate,List.map_const',List.length_range]
   rw[this];rfl
  refine ar (sl':=[Ls r,Is n,some (.bl b),Rs 0,none,none,none]) (st':=[.lst (iL (List.replicate w' 0))]) (by rw[dB,z0];rfl) ?_;refine jE (em:=fun z:Int×Nat=>.tup [.int ((z.2:Nat):Int),.int z.1]) (xs:=r.zipIdx) (gd:=[]) (st0:=[.lst (iL (List.replicate w' 0))]) (fun i sl s=>i<=w/\∃L x y g,s=[.lst (iL L)]/\L.length=w'/\(∀x,x<w'->gI L x=if(sW n b).idxOf x<i then gI r ((sW n b).idxOf x) else 0)/\sl=[Ls r,Is n,some (.bl b),Rs 0,x,y,g]) (by
   rw[<- Jq];rfl) (fun _ _ _ _=>rfl) ⟨Nat.zero_le _,_,_,_,_,rfl,by simp,fun x hx=>by simp[gI,zD,hx],rfl⟩ ?_ ?_
  ·rintro i ⟨v,j⟩ sl s hz ⟨hi,L,x,y,g,rfl,hL,hv,rfl⟩
   rw[List.getElem?_zipIdx]at hz;obtain⟨v',e1,e2⟩:=zE.mp hz;simp only[Prod.mk.injEq]at e2;obtain⟨rfl,rfl⟩:=e2;rw[Nat.zero_add]at *;have hi':i<w:=by have:=(zB.mp e1).1;lia
   have ai:=at_ hi';have hm:=hs.2.2 _ (zW ai);have ix:=cO (st:=[.lst (iL L)]) (k:=0) (q:=if b=true then 2*i+1 else i) (xs:=iL L) (x:=.int v') rfl (by rw[fq];lia);rw[dI]at ix;refine⟨_,[Ls r,Is n,some (.bl b),Rs 0,Is (i:Int),Is v',Is (if b=true then 2*((i:Int)+1) else(i:Int)+1)],[.lst (iL (L.set (if b=true then 2*i+1 else i) v'))],rfl,?_,by lia,_,_,_,_,rfl,by rw[List.length_set];exact hL,fun z hz=>?_,rfl⟩
   ·refine aq (sl':=[Ls r,Is n,some (.bl b),Rs 0,Is (i:Int),Is v',Is ((i:Int)+1)]) (st':=[.lst (iL L)]) (by simp) ?_
    have m2:bh .Mult [.lst (iL L)] (.int 2) (.int ((i:Int)+1))=some (.int (2*((i:Int)+1))):=bO (jg dC);cases b with
    |true =>
     have e3:(2*((i:Int)+1))-1=((2*i+1:Nat):Int):=by lia
     have ix:gQ [.lst (iL L)] (.ref 0) (.int ((2*i+1:Nat):Int)) (.int v')=some [.lst (iL (L.set (2*i+1) v'))]:=ix;refine aq (sl':=[Ls r,Is n,some (.bl true),Rs 0,Is (i:Int),Is v',Is (2*((i:Int)+1))]) (st':=[.lst (iL L)]) (by simp[uF,m2]) ?_;refine aq (s:=.as _ _) ?_ rfl;simp only[dB,kB,iP,iO,bind_some,EW,sE,nZ];rw[show bh .Sub [.lst (iL L)] (.int (2*((i:Int)+1))) (.int 1)=some (.int ((2*((i:Int)+1))-1)) from rfl,e3];simp only[map_some,bind_some,ix];rfl
    |false =>
     have e3:((i:Int)+1)-1=((i:Nat):Int):=by lia
     have ix:gQ [.lst (iL L)] (.ref 0) (.int ((i:Nat):Int)) (.int v')=some [.lst (iL (L.set i v'))]:=ix;refine aq (sl':=[Ls r,Is n,some (.bl false),Rs 0,Is (i:Int),Is v',Is ((i:Int)+1)]) (st':=[.lst (iL L)]) (by simp[uF]) ?_;refine aq (s:=.as _ _) ?_ rfl;simp only[dB,kB,iP,iO,bind_some,EW,sE,nZ];rw[show bh .Sub [.lst (iL L)] (.int ((i:Int)+1)) (.int 1)=some (.int (((i:Int)+1)-1)) from rfl,e3];simp only[map_some,bind_some,ix];rfl
   ·generalize (if b=true then 2*i+1 else i)=m at *
    have ei:gI r i=v':=by unfold gI;rw[zD,e1];rfl
    by_cases e:z=m
    ·have:(sW n b).idxOf z=i:=by
      rw[<- e]at ai;obtain⟨h2,h3⟩:=zB.mp ai;rw[<- h3];exact hs.2.1.idxOf_getElem _ _
     rw[this,yI oM,ei,e];exact SX.gI_set_at oM
    ·have:(sW n b).idxOf z≠i:=fun h2=>e (by
      have hm:z∈sW n b:=by
       apply Classical.byContradiction;intro hm;rw[List.idxOf_eq_length hm]at h2;lia
      rw[<- h2,zF (List.idxOf_lt_length_iff.mpr hm),List.getElem_idxOf]at ai;exact yE ai)
     rw[SX.gI_set_ne (fun h=>e h),hv z hz];by_cases h4:(sW n b).idxOf z<i
     ·rw[yI h4,yI oM]
     ·rw[yH h4,yH oM]
  ·rintro sl s ⟨_,L,x,y,g,rfl,hL,hv,rfl⟩
   refine⟨_,rfl,L,j6 rfl,hL,fun z hz=>?_⟩;rw[hv z hz,List.length_zipIdx,hr];split
   ·rfl
   ·rename_i h5
    unfold gI;rw[zD,List.getElem?_eq_none oM];rfl
 obtain⟨r',e,L,e2,hL,hv⟩:=key;have:L=tn (sW n b) w' r:=by
  refine List.ext_getElem? fun x=>?_
  by_cases hx:x<w'
  ·have:=hv x hx
   unfold gI at this;rw [zD,zF (show x < L.length by lia)] at this;rw [zF (show x < L.length by lia)];simp only [Option.getD_some] at this;rw [this,tn];simp [hx];rfl
  ·rw[List.getElem?_eq_none oM,List.getElem?_eq_none (by rw[uU];lia)]
 rw[<- this];exact cL (by simp[rfs,rf]) e e2
end
abbrev KL:List Fn:=[cU,af,di,eU,aY]
section
variable{st:aa}
theorem GZ{p q:Int}:jz st (.tup [.str "least",.tup [.int p,.int q]]) (.tup [.str "least",.tup [.int p,.int q]])=some true:=by
 unfold jz;show(if DD.pyOk _ _=true then some (PyData.eqv (.tuple [.str "least",.tuple [.int p,.int q]]) (.tuple [.str "least",.tuple [.int p,.int q]])) else _)=_;rw[yI (by kernel_rfl)];simp[PyData.eqv,PyData.eqvAll]
theorem VG.eq{w:Nat}{RR:List (List Int)}{gv:List Gv}{goal:List Int}{u:AV}(V:VG w RR gv goal u):cx .Eq st u u=some true:=by
 cases V with
 |never _=>kernel_rfl
 |endless _ _ _ _=>kernel_rfl
 |least _ _ _ _ _ _ _=>exact GZ
theorem GA{ns:List Int}(hns:ns.length<=63):∃st,mV [.fz (iL ns)] []=some (.bl true,st):=by
 have key:∃r,mV [.fz (iL ns)] []=some r/\r.1=.bl true:=by
  obtain⟨n,T,G,goal,D,A,B,O,e1,hn3,hG,hz,hg,hgb,hd,hD⟩:=sX hns;have hn:ie n:=by unfold ie;lia
  have hn1:ie (n+1):=by unfold ie;lia
  have hN:2^n-1<=15:=by rcases hn with rfl|rfl|rfl|rfl<;>decide
  have M1:10000000000000000000000000000000010<=M0:=by unfold M0;decide
  have bz:∀z∈G,z.row.length=2^n-1/\(∀x∈z.row,x.natAbs<=M0)/\z.num.natAbs<=M0:=fun z h=>⟨(hz z h).1,fun x hx=>z5 ((hz z h).2.1 x hx) (z5 dC M1),z5 (hz z h).2.2 M1⟩
  have bg:∀x∈goal,x.natAbs<=M0:=fun x hx=>z5 (hgb x hx) (z5 dC M1)
  obtain⟨D1,z,rfl⟩:=fm (D:=D) (fun z=>by rw[z]at hD;cases hD);have p:=iI (A:=A) (B:=B) (R:=[O]) (D:=D1) (x:=z);obtain⟨q0,a0,A0⟩:=wB (HD (goal:=goal) hn oM bz ⟨hg,bg⟩);obtain⟨u0,c0,V0⟩:=zj A0;obtain⟨S,hS⟩:∃S,S=[A,B,.lst (iL D1),O]:=⟨_,rfl⟩;rw[<- hS]at p;obtain⟨b,hb⟩:∃b,b=decide (z%2=1):=⟨_,rfl⟩;obtain⟨q1,a1,A1⟩:=wB (HD (gv:=G.map (n8 (sW n b) (2^(n+1)-1))) (goal:=tn (sW n b) (2^(n+1)-1) goal) hn1 (by simp;lia) (fun z h=>by
    obtain⟨y,hy,rfl⟩:=yD.mp h;exact⟨(pR (bz y hy).2.1).1,(pR (bz y hy).2.1).2,(bz y hy).2.2⟩) (pR bg))
  obtain⟨u1,c1,V1⟩:=zj A1;have h1:u1=u0:=(FK (uo hn3 b) (fun z h=>(bz z h).1) hg V1).uniq V0 fun _ _=>Iff.rfl
  subst h1;have wv:=fun(r:List Int) hr=>AR (st:=S) (b:=b) (r:=r) hn3 hr
  rw [mV,aD];show ∃ r,(aj KL oZ [Ls ns,none,none,none,none,none,none,none,none] []).bind ax=some r/\_;unfold oZ;refine ar (sl':=[Ls ns,Is n,Ls T,Zs (G.map Gv.av),Ls goal,Rs 2,none,none,none]) (st':=[A,B,.lst (iL (D1++[z])),O]) (by rw [dB];simp only [mZ,fG,gM,kB,iP,iO,bind_some,oU,nD,nB,e1];rfl) ?_;refine ar (sl':=[Ls ns,Is n,Ls T,Zs (G.map Gv.av),Ls goal,Rs 2,some (.bl b),none,none]) (st':=S) (by simp [p,dF,dy (show (0:Int) < 2 by decide),hb]) ?_;have em:g7 KL (.lc 3 (.e (.v 3)) (.tu 3 (.cons (.nm 9) (.cons (.nm 10) (.cons (.nm 11) .nil)))) .no (.tu (.cons (.ca true 2 (.cons (.v 9) (.cons (.v 1) (.cons (.v 6) .nil)))) (.cons (.v 10) (.cons (.v 11) .nil))))) [Ls ns,Is n,Ls T,Zs (G.map Gv.av),Ls goal,Rs 2,some (.bl b),none,none] S=some ((G.map (n8 (sW n b) (2 ^ (n + 1) - 1))).map Gv.av,S):=by
   have e:=yb (st:=S) (ks:=KL) (k:=3) (it:=.e (.v 3)) (t:=.tu 3 (.cons (.nm 9) (.cons (.nm 10) (.cons (.nm 11) .nil)))) (c:=.no) (e:=.tu (.cons (.ca true 2 (.cons (.v 9) (.cons (.v 1) (.cons (.v 6) .nil)))) (.cons (.v 10) (.cons (.v 11) .nil)))) (sl:=[Ls ns,Is n,Ls T,Zs (G.map Gv.av),Ls goal,Rs 2,some (.bl b),none,none]) (gd:=[]) (em:=Gv.av) (xs:=G) (B:=fun _=>true) (F:=fun z=>(n8 (sW n b) (2^(n+1)-1) z).av) rfl rfl oM fun y hy=>by
    have e:=wv y.row (bz y hy).1;exact⟨[Ls ns,Is n,Ls T,Zs (G.map Gv.av),Ls goal,Rs 2,some (.bl b),none,none]++[Ls y.row,some (.str (if y.eq=true then "=" else ">")),Is y.num],rfl,rfl,fun _=>by simp[e,Gv.av,n8]<;>rfl⟩
   rw[List.filter_eq_self.mpr (fun _ _=>rfl)]at e;rw[e,List.map_map];rfl
  obtain⟨MG,hMG⟩:∃MG,MG=(G.map (n8 (sW n b) (2^(n+1)-1))).map Gv.av:=⟨_,rfl⟩;have rMG:rfs MG=true:=by rw[hMG];exact Au _
  rw[<- hMG]at em a1;refine ar (sl':=[Ls ns,Is n,Ls T,Zs (G.map Gv.av),Ls goal,Rs 2,some (.bl b),Zs MG,none]) (st':=S) (by rw[dB,lq,em,bind_some,yI rMG];rfl) ?_;have wg:=wv goal hg;have a1:∀st,pm eU [.int ((n:Int)+1),.fz MG,.fz (iL (tn (sW n b) (2^(n+1)-1) goal))] st=some (q1,st):=a1;refine ar (sl':=[Ls ns,Is n,Ls T,Zs (G.map Gv.av),Ls goal,Rs 2,some (.bl b),Zs MG,some q1]) (st':=S) (by simp[wg,a1]) ?_;have eq4:=V0.eq (st:=S);have c1:=c1 S;have c0:=c0 S;have a0:=a0 S;refine eK (v:=.bl true) (st':=S) ?_ rfl;simp[c1,a0,c0,eq4]
 obtain⟨⟨v,s⟩,e,h⟩:=key;have h:v=.bl true:=h;subst h;exact⟨s,e⟩
theorem IU:Room e_law.d callerA:=⟨rfl,by decide,by decide,rfl⟩
theorem A5:∀t∈(LS.tb:List (Addr×Pos×Str)),t.1∈([(114,112)]:List (Addr×Addr)).map (·.2):=by
 intro t ht;have:t=(112,⟨79,30,79,63⟩,("Sheet.raising_column":Str)++".<locals>."++"<lambda>"):=zM.mp ht;rw[this];exact zM.mpr rfl
theorem holds:∀ns:List Int,ns.length<=63->∃st,HS [.fz (ns.map .int)] []=some (.bl true,st):=fun _ h=>GA h
end
end LW
namespace PySem.W.Fast
def tw2674440629837893405:=()
def tw2189217810242049663:=()
def tw13546065680402662850:=()
def tw4037762121598261210:=()
def tw8015664262085137077:=()
def tw17564385467223940183:=()
def tw183847205054702241:=()
def tw10541969691600086734:=()
def tw5521557463527637005:=()
def tw16775255043638246585:=()
def tw9205309234668104782:=()
def tw2321648289954144099:=()
def tw13870753795847783900:=()
def tw8069189844049404990:=()
def tw5703719778404023438:=()
def tw9875271667254388065:=()
def tw2426683809962234397:=()
def tw963767591010474339:=()
def tw6899013998922350832:=()
def tw3016271385866871389:=()
def tw576642336925931327:=()
def tw5135691211811835651:=()
def tw7354651968169720954:=()
def tw3474922650398396801:=()
def tw2426757175948085010:=()
def tw11967389783760623951:=()
def tw4216138371506921256:=()
def tw17392130322172810852:=()
def tw4606728959005284358:=()
def tw11124142643557687903:=()
def tw17072987308735949720:=()
def tw9240044285663204218:=()
def tw16631419577717234420:=()
def tw11644679806935121392:=()
def tw7679208273092731063:=()
def tw13355524914038489570:=()
def tw352108656666783007:=()
def tw14384582059677127388:=()
def tw14177572133303157923:=()
def tw2259180495894156208:=()
def tw10404428447302075876:=()
def tw16029062351554464780:=()
def tw12386742231910715400:=()
def tw7215562683378198073:=()
def tw6552888020866069412:=()
def tw3680161069277463210:=()
def tw1594607981932356653:=()
def tw9644898086287794315:=()
def tw12335625622501092943:=()
def tw8192167496422830460:=()
def tw3936839899281260761:=()
def tw7340475342837763710:=()
def tw5013059061060127450:=()
def tw8134215362072192849:=()
def tw7284366888043604957:=()
def tw11871868532558842005:=()
def tw13494265849669326725:=()
def tw2156042275328357971:=()
def tw3175507733682276062:=()
def tw12251376622259618149:=()
def tw18046489720217817966:=()
def tw1374728678750621744:=()
def tw15721463303744571804:=()
def tw17073610791873197048:=()
def tw1013522317506707947:=()
def tw7246777852921290515:=()
def tw5634483631996407045:=()
def tw7043511134308538046:=()
def tw17546124286155592446:=()
def tw13551414949982240502:=()
def tw7266692009331596400:=()
def tw10679625828205087415:=()
def tw4372542195196669067:=()
def tw17754249871490868089:=()
def tw13093725975470307724:=()
def tw6076021497175069381:=()
def tw16611956809667106642:=()
def tw7504275665269702243:=()
def tw14819958258538548500:=()
def tw10010758737902498303:=()
def tw5573363515762897987:=()
def tw7482926754092305794:=()
def tw3264551488123658743:=()
def tw11964763369567223400:=()
def tw14545740883633739306:=()
def tw10042815011757232257:=()
def tw3117454649170171626:=()
def tw16513173951855869603:=()
def tw16969885757086713503:=()
def tw1880972146714303098:=()
def tw12714834308210112266:=()
def tw12037100878475077988:=()
def tw13309018539510603965:=()
def tw8796586769216652649:=()
def tw5645052928915266890:=()
def tw154847093236984045:=()
def tw16124081540220536883:=()
def tw13198320223145281760:=()
def tw14558350499517596659:=()
def tw10515467839161480868:=()
def tw1464118173648069918:=()
def tw10377502377185414218:=()
def tw11367550091306495555:=()
def tw16978295678071043913:=()
def tw13323808258194807870:=()
def tw4693084903640472462:=()
def tw15094399867954906320:=()
def tw7177903011139023937:=()
def tw17193643922427794611:=()
def tw16167003413909642589:=()
def tw15451955008609618828:=()
def tw855880582632410308:=()
def tw13979537030820893016:=()
def tw2238639223256881626:=()
def tw8389300226846087475:=()
def tw12009228918791057536:=()
def tw16754547622150611686:=()
def tw14704437749721322986:=()
def tw13746629212026618443:=()
def tw14319454370915074936:=()
def tw6607075404544525153:=()
def tw2295573696051880808:=()
def tw629889001396166655:=()
def tw13259736821042063221:=()
def tw6367784080531722052:=()
def tw4414703228219701724:=()
def tw8308521976759102074:=()
def tw2287562500852207830:=()
def tw18320742030769241999:=()
def tw13283678709673471313:=()
def tw9839506141680519135:=()
def tw9722502035846724209:=()
def tw7665451999998925855:=()
def tw141903576467565207:=()
def tw16998348637172320794:=()
def tw2866173584279149346:=()
def tw2793856829012027741:=()
def tw3318759229423763863:=()
def tw2450189754884468842:=()
def tw8501689147030702637:=()
def tw14799434881560799978:=()
def tw13485283013631975980:=()
def tw11521252885487045307:=()
def tw13089144510932321305:=()
def tw14212923716589892788:=()
def tw11134346128681718939:=()
def tw267172218778428835:=()
def tw9924110724481327567:=()
def tw9126605039434713884:=()
def tw7966284223972369718:=()
def tw6557990412107405780:=()
def tw14224288250553119595:=()
def tw4410818697953534573:=()
def tw2447669948884172414:=()
def tw11704756626040008809:=()
def tw4090178991690688823:=()
def tw12998588643174033556:=()
def tw12010731877867684927:=()
def tw2793686274268231254:=()
def tw15707423608255368743:=()
def tw15624831360476832728:=()
def tw3809350565375571563:=()
def tw14799112508607691402:=()
def tw12689105816716254408:=()
def tw6873832986539113794:=()
def tw13813984279782593588:=()
def tw13444361892415321559:=()
def tw1836788738823271878:=()
def tw12328686905184903153:=()
def tw2217987048430074747:=()
def tw17654799253663668210:=()
def tw16654855923142262707:=()
def tw13582575098291780694:=()
def tw10873523334616340203:=()
def tw9725337797923052521:=()
def tw8795120521542555879:=()
def tw3077788937232731063:=()
def tw2624586604585325263:=()
def tw2340295949489537068:=()
def tw12002307087536470634:=()
def tw12026821005102885849:=()
def tw16235229281971034855:=()
def tw12312393479595799065:=()
def tw9525556919900133307:=()
def tw6925535937565678548:=()
def tw6021670139352450227:=()
def tw4891355274363928450:=()
def tw13478090121801708286:=()
def tw10064942915742144360:=()
def tw4767000287419053815:=()
def tw18031621793563879113:=()
def tw4936457637586621475:=()
def tw3382060778236061439:=()
def tw789235428268999451:=()
def tw7712774278057335343:=()
def tw7259536286320439481:=()
def tw6720798886059867390:=()
def tw6720193061747451864:=()
def tw6193257213344367592:=()
def tw5740545344379922280:=()
def tw5597530982465861867:=()
def tw5231514616173461641:=()
def tw17410930536066420068:=()
def tw17408969529982192343:=()
def tw16433016322287870996:=()
def tw15878778392874149605:=()
def tw15718577209670462978:=()
def tw15643660206872294836:=()
def tw14943123761455564004:=()
def tw14908703102003918685:=()
def tw14569020115576937197:=()
def tw14533752757107739979:=()
def tw14270624865627303565:=()
def tw13488228775970551903:=()
def tw13084447587272383394:=()
def tw12835973870211254405:=()
def tw12386242872871429435:=()
def tw11011347566447083538:=()
def tw1075559518796802407:=()
def tw1032175918078666444:=()
def tw18399062400398930929:=()
def tw3197090491085598293:=()
def tw3665062605211715616:=()
def tw14895972847801349797:=()
def tw6330991412810065301:=()
def tw10007212619743089164:=()
def tw6403054726306451352:=()
def tw16982675655629163061:=()
def tw10995835950586562687:=()
def tw4057952568920271555:=()
def tw4625493107983526754:=()
def tw15062259486629004062:=()
def tw11160697828256745811:=()
def tw11146815627877586282:=()
def tw4768343988675742666:=()
def tw12084818225800968071:=()
def tw17213461290873671091:=()
def tw2659222156465529936:=()
def tw16994619832339883529:=()
def tw16927474297710987124:=()
def tw12370292484081059851:=()
def tw9515738988741364501:=()
def tw9438367745920796240:=()
def tw8859479375212212254:=()
def tw8755047328662511838:=()
def tw4647597955982388315:=()
def tw2105717303635631937:=()
def tw1622317004716650915:=()
def tw15199880575704886489:=()
def tw9972333982723567217:=()
end PySem.W.Fast
open PySem PySem.W PyProof.Rows
set_option maxRecDepth 100000 in
set_option maxHeartbeats 0 in
theorem PySem.Challenge.cw_telltight_k25_whole_a_name_more_holds : PySem.Challenge.rw_telltight_k25_whole_a_name_more.Holds := by
 w_on; o_law; k_head; (case hw => w_witness2)
 k_fill
 refine R.walk_R (l := PySem.Challenge.rw_telltight_k25_whole_a_name_more) (k := LW.e_law.d) (fn := LW.HS) (tabs := [(114, 112)]) rfl rfl ?hrr (fun w h Y => ⟨km_in_of Y, fun q hq => km_tabs_of Y q.2 (by simp only [zM] at hq ⊢; rw [hq])⟩) ?hcc ?hKK ?htt LW.holds ?F
 case hrr => exact LW.IU
 case hcc => intro w q hq; simp only [zM] at hq; rw [hq]; kernel_rfl
 case hKK => intro w; kernel_rfl
 case htt => intro t ht; exact LW.A5 t ht
 case F =>
  intro w mg fa h KX G hmg;refine R.law_F (gs := LW.gs) (cl := LW.cl) (pre := LW.pre) (e := LW.e_law) KX G hmg ?nb ?gs ?cl LW.Cn LW.Co rfl ?fs ?law rfl LW.GB
  case nb => kernel_rfl
  case gs => intro p hp; simp only [LW.gs, zT, zX, or_false] at hp
  case cl => intro p hp; simp only [LW.cl, zT, zX, or_false] at hp; rcases hp with rfl <;> exact ⟨⟨_, by k_is, by kernel_rfl, by kernel_rfl, by kernel_rfl, by kernel_rfl⟩, ⟨_, by k_is, by kernel_rfl⟩⟩
  case law => exact ⟨_, _, _, _, _, _, _, _, _, _, by k_is, by k_is, by kernel_rfl, by k_is, .inl rfl⟩
  case fs =>
   repeat' refine And.intro ?_ ?_
   all_goals first | trivial | exact ⟨_, _, _, _, _, _, _, _, _, _, by k_is, by k_is, by kernel_rfl, by k_is, .inl rfl⟩ | exact ⟨_, _, _, _, _, _, _, _, _, _, _, by k_is, by k_is, by k_is, by kernel_rfl, by k_is, by k_is, .inl rfl⟩ | exact ⟨_, _, _, _, _, _, _, _, _, _, _, by k_is, by k_is, by k_is, by kernel_rfl, by k_is, by k_is, .inr ⟨_, _, _, rfl, rfl, by kernel_rfl, rfl⟩⟩ | exact ⟨_, by k_is, by kernel_rfl, by kernel_rfl⟩
#print axioms PySem.Challenge.cw_telltight_k25_whole_a_name_more_holds
