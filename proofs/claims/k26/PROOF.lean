import PyProof.Rows.All
import Wide.All
import OpenK.AllK
import Wide.FinOn
import PySem.Challenge.RW_telltight_k26_whole_a_given_more
set_option bootstrap.genMatcherCode false
set_option compiler.extract_closed false
noncomputable section
open Option (bind_some map_some)
open PySem.W (CodeHd Frag InitBack InstAt TabsAt any_some bind_fn callWith_K cellsFrom_some codeHdIn codeHd_of_K codeIn codeRec_of emptyDict findIn findObj_own fnOf get_value handedIn hasDictIn hideAll hideAll_get hideAll_none hideAll_size instObj isFn keepIn ki_setAt ki_setBack kla_callFunE kla_codeExpr kla_eval kla_fn kla_makeFunction kla_makeFunctionHit km_in_of km_tabs_of lookIn looks_clsIn looks_findIn make_core makesIn makes_of mem_of_lookupK methodCall_KW methodObj method_fn mg_none_of mg_of noTabs nsIn of_hideAll osa_open plainGet plainGet_of plainOver set_plain tabObj takerIn truthy_bytes typeIn)
theorem oM{p:Prop}(h:p:=by first|lia|omega|(refine @id (@Ne Nat _ _) ?_;omega)):p:=h
theorem dC{p:Prop}(h:p:=by decide):p:=h
set_option Elab.async false
set_option linter.all false
set_option maxRecDepth 100000
theorem zA{α β}{o:Option α}{f:α->Option β}{b}:o.bind f=some b->∃a,o=some a∧f a=some b:=Option.bind_eq_some_iff.mp
theorem zB:type_of% @List.getElem?_eq_some_iff:=@List.getElem?_eq_some_iff
theorem zC:type_of% @Bool.and_eq_true:=@Bool.and_eq_true
theorem zD:type_of% @List.getD_eq_getElem?_getD:=@List.getD_eq_getElem?_getD
theorem zE:type_of% @Option.map_eq_some_iff:=@Option.map_eq_some_iff
theorem zF:type_of% @List.getElem?_eq_getElem:=@List.getElem?_eq_getElem
theorem zG:type_of% @PySem.Heap.get?_push_of_some:=@PySem.Heap.get?_push_of_some
theorem zH:type_of% @List.length_map:=@List.length_map
theorem zI:type_of% @List.size_toArray:=@List.size_toArray
theorem zJ:type_of% @Nat.lt_of_lt_of_le:=@Nat.lt_of_lt_of_le
theorem zK:type_of% @List.mem_append_right:=@List.mem_append_right
theorem zL:type_of% @List.mem_append_left:=@List.mem_append_left
theorem zM:type_of% @List.mem_singleton:=@List.mem_singleton
theorem zN:type_of% @List.getElem?_append_left:=@List.getElem?_append_left
theorem zO:type_of% @List.map_cons:=@List.map_cons
theorem zP:type_of% @Nat.le_refl:=@Nat.le_refl
theorem zQ:type_of% @List.mem_cons_of_mem:=@List.mem_cons_of_mem
theorem zR:type_of% @List.getElem?_map:=@List.getElem?_map
theorem zS:type_of% @Nat.le_of_ble_eq_true:=@Nat.le_of_ble_eq_true
theorem zT:type_of% @List.mem_cons:=@List.mem_cons
theorem zU:type_of% @Nat.ne_of_lt:=@Nat.ne_of_lt
theorem zV:type_of% @List.length_append:=@List.length_append
theorem zW:type_of% @List.mem_of_getElem?:=@List.mem_of_getElem?
theorem zX:type_of% @List.not_mem_nil:=@List.not_mem_nil
theorem zY:type_of% @PySem.Heap.get?_push_size:=@PySem.Heap.get?_push_size
theorem zZ:type_of% @List.mem_append:=@List.mem_append
theorem z5:type_of% @Nat.le_trans:=@Nat.le_trans
theorem z6:type_of% @List.getElem?_append_right:=@List.getElem?_append_right
theorem z7:type_of% @List.mem_cons_self:=@List.mem_cons_self
theorem z9:type_of% @List.getElem?_of_mem:=@List.getElem?_of_mem
theorem yA:type_of% @decide_eq_false:=@decide_eq_false
theorem yB:type_of% @Bool.false_eq_true:=@Bool.false_eq_true
theorem yC:type_of% @decide_eq_true_eq:=@decide_eq_true_eq
theorem yD:type_of% @List.mem_map:=@List.mem_map
theorem yE:type_of% @Option.some.inj:=@Option.some.inj
theorem yF:type_of% @PySem.wpAny_bind:=@PySem.wpAny_bind
theorem yG:type_of% @PySem.wpAny_pure:=@PySem.wpAny_pure
theorem yH:type_of% @if_neg:=@if_neg
theorem yI:type_of% @if_pos:=@if_pos
theorem yJ:type_of% @PySem.Heap.lt_size:=@PySem.Heap.lt_size
theorem yK:type_of% @eq_of_beq:=@eq_of_beq
theorem yL:type_of% @Nat.ble_eq_true_of_le:=@Nat.ble_eq_true_of_le
theorem yM:type_of% @Nat.lt_of_le_of_lt:=@Nat.lt_of_le_of_lt
theorem yN:type_of% @List.append_assoc:=@List.append_assoc
theorem yO:type_of% @List.lookup_cons:=@List.lookup_cons
theorem yP:type_of% @Int.mul_zero:=@Int.mul_zero
theorem yQ:type_of% @Int.zero_mul:=@Int.zero_mul
theorem yR:type_of% @List.all_eq_true:=@List.all_eq_true
theorem yS:type_of% @PySem.wpAny_holding:=@PySem.wpAny_holding
theorem yT:type_of% @PySem.wpAny_mono:=@PySem.wpAny_mono
theorem yU:type_of% @Nat.lt_or_ge:=@Nat.lt_or_ge
theorem yV:type_of% @Int.lt_or_le:=@Int.lt_or_le
theorem yW:type_of% @decide_eq_true:=@decide_eq_true
theorem yX:type_of% @List.getElem?_set:=@List.getElem?_set
theorem yY:type_of% @List.length_cons:=@List.length_cons
theorem yZ:type_of% @Nat.le_of_lt:=@Nat.le_of_lt
theorem xA:type_of% @Int.natAbs_mul:=@Int.natAbs_mul
theorem xB:type_of% @Nat.lt_irrefl:=@Nat.lt_irrefl
namespace L2
open PySem PySem.Spec PyProof.Rows
abbrev aT:=Sum Int Str
def hU:aT->Value->Bool
 |.inl k,v=>Value.isInt k v
 |.inr x,v=>Value.isStrOf x v
def Kc(w:World):aT->Int
 |.inl k=>hashInt k
 |.inr x=>hashStr w x
theorem cO:∀{k:aT}{v:Value},hU k v=true->(∃i t,k=Sum.inl i/\v=Value.int i t)\/(∃x t,k=Sum.inr x/\v=Value.str x t)
 |.inl i,v,h=>by
  obtain⟨t,e⟩:=Value.isInt_shape (k:=i) (v:=v) h;exact .inl ⟨i,t,rfl,e⟩
 |.inr x,v,h=>by
  obtain⟨t,e⟩:=Value.isStrOf_shape (x:=x) (v:=v) h;exact .inr ⟨x,t,rfl,e⟩
theorem xc(i:Int)(t:Tok):hU (.inl i) (.int i t)=true:=by simp[hU,Value.isInt]
theorem xa(x:Str)(t:Tok):hU (.inr x) (.str x t)=true:=by simp[hU,Value.isStrOf]
theorem FF(a b:Int):decide ((Sum.inl a:aT)=Sum.inl b)=(a==b):=by
 by_cases e:a=b
 ·subst e;simp
 ·have h:¬(Sum.inl a:aT)=Sum.inl b:=fun q=>e (Sum.inl.inj q)
  rw[yA h];exact(beq_eq_false_iff_ne.mpr e).symm
theorem FA(a b:Str):decide ((Sum.inr a:aT)=Sum.inr b)=decide (a=b):=by
 by_cases e:a=b
 ·subst e;simp
 ·have h:¬(Sum.inr a:aT)=Sum.inr b:=fun q=>e (Sum.inr.inj q)
  rw[yA h,yA e]
theorem FD(a:Int)(b:Str):decide ((Sum.inl a:aT)=Sum.inr b)=false:=yA (fun q=>nomatch q)
theorem FC(a:Str)(b:Int):decide ((Sum.inr a:aT)=Sum.inl b)=false:=yA (fun q=>nomatch q)
def cb(prog:Program)(w:World):PySem.KeyKind prog w aT where
 is:=hU
 hash:=Kc w
 inj:=fun v a b ha hb=>by
  rcases cO ha with⟨i,t,rfl,rfl⟩|⟨x,t,rfl,rfl⟩
  ·rcases cO hb with⟨j,u,rfl,e⟩|⟨y,u,rfl,e⟩
   ·injection e with e1 _;rw[e1]
   ·exact nomatch e
  ·rcases cO hb with⟨j,u,rfl,e⟩|⟨y,u,rfl,e⟩
   ·exact nomatch e
   ·injection e with e1 _;rw[e1]
 byValue:=fun k v h=>by
  rcases cO h with⟨i,t,rfl,rfl⟩|⟨x,t,rfl,rfl⟩<;>rfl
 pyHash:=fun hv h=>by
  rcases cO hv with⟨i,t,rfl,rfl⟩|⟨x,t,rfl,rfl⟩
  ·exact wpAny_pyHash_int h
  ·exact wpAny_pyHash_str h
 eqBool:=fun hu hv h=>by
  rcases cO hu with⟨i,t,rfl,rfl⟩|⟨x,t,rfl,rfl⟩
  ·rcases cO hv with⟨j,u,rfl,rfl⟩|⟨y,u,rfl,rfl⟩
   ·rw[FF]at h;exact wpAny_eqBool_int h
   ·rw[FD]at h;exact SeqAt.EqAt.int_str i t y u _ _ _ _ h
  ·rcases cO hv with⟨j,u,rfl,rfl⟩|⟨y,u,rfl,rfl⟩
   ·rw[FC]at h;exact SeqAt.EqAt.str_int x t j u _ _ _ _ h
   ·rw[FA]at h;exact wpAny_eqBool_str h
 «strs»:=fun k x t v h=>by
  rcases cO h with⟨i,u,rfl,e⟩|⟨y,u,rfl,e⟩
  ·exact nomatch e
  ·injection e with e1 _
   subst e1;cases v<;>rfl
theorem sK(prog:Program)(w:World)(i:Int)(t:Tok):(cb prog w).is (.inl i) (.int i t)=true:=xc i t
theorem sJ(prog:Program)(w:World)(x:Str)(t:Tok):(cb prog w).is (.inr x) (.str x t)=true:=xa x t
inductive V where
 |non|bl (b:Bool)|int (i:Int)|str (x:Str)|byt (b:Array UInt8)|flt (b:UInt64)|ref (a:Addr)|ty (n:String)
 deriving DecidableEq
def RelV:V->Value->Prop
 |.non,u=>u=Value.none
 |.bl b,u=>u=Value.bool b
 |.int i,u=>∃t,u=Value.int i t
 |.str x,u=>∃t,u=Value.str x t
 |.byt b,u=>∃t,u=Value.bytes b t
 |.flt b,u=>∃t,u=Value.float b t
 |.ref a,u=>u=Value.ref a
 |.ty n,u=>u=Value.type n
abbrev Vals:List V->List Value->Prop:=Paired RelV
theorem Vals.length{xs:List V}{us:List Value}(r:Vals xs us):xs.length=us.length:=Paired.length r
theorem Vals.get:∀{xs:List V}{us:List Value}{i:Nat}{x:V},Vals xs us->xs[i]?=some x->∃u,us[i]?=some u/\RelV x u
 |_,_,_,_,.nil,e=>by simp at e
 |_,_,0,_,.cons r _,e=>by simp at e;subst e;exact⟨_,rfl,r⟩
 |_,_,i+1,x,.cons _ t,e=>by
  obtain⟨u,h1,h2⟩:=Vals.get (i:=i) (x:=x) t (by simpa using e);exact⟨u,by simpa using h1,h2⟩
theorem Vals.set{x:V}{u:Value}(r:RelV x u):∀{xs:List V}{us:List Value} (i:Nat),Vals xs us->Vals (xs.set i x) (us.set i u)
 |_,_,_,.nil=>.nil
 |_,_,0,.cons _ t=>.cons r t
 |_,_,i+1,.cons q t=>.cons q (Vals.set r i t)
theorem Vals.append:∀{xs ys:List V}{us ws:List Value},Vals xs us->Vals ys ws->Vals (xs++ys) (us++ws):=by
 intro xs ys us ws h s
 induction h with
 |nil=>exact s
 |cons r t ih=>exact .cons r ih
theorem Vals.take:∀{xs:List V}{us:List Value} (n:Nat),Vals xs us->Vals (xs.take n) (us.take n):=by
 intro xs us n h
 induction h generalizing n with
 |nil=>cases n<;>exact .nil
 |cons r t ih=>cases n with
  |zero=>exact .nil
  |succ n=>exact .cons r (ih n)
theorem Vals.drop:∀{xs:List V}{us:List Value} (n:Nat),Vals xs us->Vals (xs.drop n) (us.drop n):=by
 intro xs us n h
 induction h generalizing n with
 |nil=>cases n<;>exact .nil
 |cons r t ih=>cases n with
  |zero=>exact .cons r t
  |succ n=>exact ih n
def RelO:Option V->Option Value->Prop
 |some v,some u=>RelV v u
 |none,none=>True
 |_,_=>False
def KV{κ:Type}:List (κ×V)->List (κ×Value)->Prop:=Paired fun(p:κ×V)(q:κ×Value)=>p.1=q.1/\RelV p.2 q.2
def kV:aT->V
 |.inl i=>.int i
 |.inr x=>.str x
inductive HO where
  |lst (xs:List V)
  |tup (xs:List V)
  |dK (MU:List (aT×V))|dT (MU:List (List aT×V))
  |set (S:Int->Bool) (n:Nat)
  |ins (C dx:Addr) (fs:List (Str×V))
  |own (x:Addr)
  |xd (fs:List (Str×V))
  |met (f x:Addr)
  |rng (lo hi:Int)
  |frz (o:Obj) (u:HO)
  |tbl (ps:Array Value)
  |ext (φ:Heap->Prop)
abbrev Hp:=Addr->Option HO
def af(H:Hp)(a:Addr)(o:HO):Hp:=fun b=>if b=a then some o else H b
theorem ay{H:Hp}{a:Addr}{o:HO}:af H a o a=some o:=by unfold af;rw[yI rfl]
theorem ad{H:Hp}{a b:Addr}{o:HO}(h:b≠a):af H a o b=H b:=by unfold af;rw[yH h]
theorem vc{H:Hp}{a b:Addr}{o u:HO}(h:H a=some o)(h':H b=some u)(d:o≠u):a≠b:=by
 intro e;subst e;rw[h]at h';exact d (yE h')
theorem aX{H:Hp}{a b:Addr}{o:HO}(h:H a=some o)(h':H b=none):a≠b:=by
 intro e;subst e;rw[h]at h';cases h'
section
variable(P:Program)(w:World)
def ObjOk(H:Hp)(h:Heap)(a:Addr):HO->Prop
 |.lst xs=>xs.length<=sizeLine/\∃(MW:List Value)(n:Nat),Vals xs MW/\h.get? a=some { cls:=.type "list",data:=.seq MW.toArray n }
 |.tup xs=>xs.length<=sizeLine/\∃MW:List Value,Vals xs MW/\IsTup h a MW.toArray
 |.dK MU=>MU.length<=sizeLine/\(a==sysModules)=false/\∃vs,KV MU vs/\h.DictOf (cb P w) a vs
 |.dT MU=>MU.length<=sizeLine/\(a==sysModules)=false/\∃xs:List (List aT×Addr×Value),
   Paired (fun(p:List aT×V)(q:List aT×Addr×Value)=>p.1=q.1/\H q.2.1=some (.tup (p.1.map kV))/\RelV p.2 q.2.2) MU xs /\
   ∃o es ep,h.get? a=some o/\o.ExactDict/\o.data=.dict es ep/\es.toList=xs.map (entryOfKey (tupleKind (cb P w)))/\(xs.map (·.1)).Nodup
 |.set S n=>h.SetOf (intKind P w) a S n
 |.ins C dx fs=>H dx=some (.own a)/\fs.length<=1000/\dx≠a/\h.get? a=some (instObj C dx) /\
   ∃mA,h.Ns1 dx mA/\(∀f,RelO (fs.lookup f) (mA f))/\PySem.Within mA (fs.map (·.1))
 |.own _=>∃o,h.get? a=some o
 |.xd fs=>∃mA,h.Ns1 a mA/\∀f,RelO (fs.lookup f) (mA f)
 |.rng lo hi=>∃t u v,h.get? a=some { cls:=.type "range",data:=.fields #[.int lo t,.int hi u,.int 1 v] }
 |.frz o u=>h.get? a=some o/\ObjOk H h a u
 |.tbl ps=>h.get? a=some { cls:=.none,data:=.fields ps }
 |.met f x=>h.get? a=some (methodObj (.ref f) (.ref x))
 |.ext φ=>φ h/\(∃o,h.get? a=some o)/\∀h1 h2:Heap,φ h1->(∀o,h1.get? a=some o->h2.get? a=some o)->φ h2
def HOk(H:Hp)(h:Heap):Prop:=∀a o,H a=some o->ObjOk P w H h a o
end
section
variable{P:Program}{w:World}{H H':Hp}{h h':Heap}{a:Addr}{o:HO}
theorem ObjOk.lt(x:ObjOk P w H h a o):a<h.objs.size:=by
 cases o with
 |lst xs=>obtain⟨_,_,_,_,e⟩:=x;exact yJ e
 |tup xs=>obtain⟨_,_,_,p⟩:=x;exact p.lt
 |dK MU=>obtain⟨_,_,_,_,o,_,_,e,_⟩:=x;exact yJ e
 |dT MU=>obtain⟨_,_,_,_,o,_,_,e,_⟩:=x;exact yJ e
 |set S n=>obtain⟨o,_,_,_,e,_⟩:=x;exact yJ e
 |ins C dx fs=>obtain⟨_,_,_,e,_⟩:=x;exact yJ e
 |own y=>obtain⟨_,e⟩:=x;exact yJ e
 |xd fs=>obtain⟨_,⟨_,_,_,e,_⟩,_⟩:=x;exact yJ e
 |rng lo hi=>obtain⟨_,_,_,e⟩:=x;exact yJ e
 |frz ob u=>obtain⟨e,_⟩:=x;exact yJ e
 | tbl ps=>exact yJ (show h.get? a=some _ from x)
 | met f y=>exact yJ (show h.get? a=some _ from x)
 |ext φ=>obtain⟨_,⟨_,e⟩,_⟩:=x;exact yJ e
theorem Paired.mapP{α β:Type}{F G:α->β->Prop}:∀{l₁:List α}{l₂:List β},Paired F l₁ l₂->(∀a b,F a b->G a b)->Paired G l₁ l₂:=by
 intro l₁ l₂ h f
 induction h with
 |nil=>exact .nil
 |cons r t ih=>exact .cons (f _ _ r) ih
theorem ObjOk.stay(x:ObjOk P w H h a o)(k:∀b u,(b=a\/H b=some (.own a))->h.get? b=some u->h'.get? b=some u)
  (ho:∀b,H b=some (.own a)->H' b=some (.own a)) (ht:∀b xs,H b=some (.tup xs)->H' b=some (.tup xs)):ObjOk P w H' h' a o:=by
 induction o with
 |lst xs=>obtain⟨z,MW,n,r,e⟩:=x;exact⟨z,MW,n,r,k _ _ (.inl rfl) e⟩
 |tup xs=>obtain⟨z,MW,r,ob,e,c⟩:=x;exact⟨z,MW,r,ob,k _ _ (.inl rfl) e,c⟩
 |dK MU=>obtain⟨z,y,vs,r,ob,es,ep,e,c⟩:=x;exact⟨z,y,vs,r,ob,es,ep,k _ _ (.inl rfl) e,c⟩
 |dT MU =>
  obtain⟨z,y,xs,r,ob,es,ep,e,c⟩:=x;exact⟨z,y,xs,Paired.mapP r fun p q z=>⟨z.1,ht _ _ z.2.1,z.2.2⟩,ob,es,ep,k _ _ (.inl rfl) e,c⟩
 |set S n=>obtain⟨ob,es,ep,t,e,c⟩:=x;exact⟨ob,es,ep,t,k _ _ (.inl rfl) e,c⟩
 |ins C dx fs =>
  obtain⟨d,z,ne,e,mA,⟨od,es,ep,e2,c⟩,r⟩:=x;exact⟨ho _ d,z,ne,k _ _ (.inl rfl) e,mA,⟨od,es,ep,k _ _ (.inr d) e2,c⟩,r⟩
 |own y=>obtain⟨ob,e⟩:=x;exact⟨ob,k _ _ (.inl rfl) e⟩
 |xd fs=>obtain⟨mA,⟨od,es,ep,e,c⟩,r⟩:=x;exact⟨mA,⟨od,es,ep,k _ _ (.inl rfl) e,c⟩,r⟩
 |rng lo hi=>obtain⟨t,u,v,e⟩:=x;exact⟨t,u,v,k _ _ (.inl rfl) e⟩
 |frz ob u ih=>obtain⟨e,q⟩:=x;exact⟨k _ _ (.inl rfl) e,ih q⟩
 |tbl ps =>
  have e:h.get? a=some { cls:=.none,data:=.fields ps }:=x;show h'.get? a=some { cls:=.none,data:=.fields ps };exact k a _ (.inl rfl) e
 |met f y =>
  have e:h.get? a=some (methodObj (.ref f) (.ref y)):=x;show h'.get? a=some (methodObj (.ref f) (.ref y));exact k a _ (.inl rfl) e
 |ext φ=>obtain⟨p,⟨o,e⟩,st⟩:=x;exact⟨st _ _ p fun o q=>k _ _ (.inl rfl) q,⟨o,k _ _ (.inl rfl) e⟩,st⟩
theorem HOk.lt(x:HOk P w H h)(e:H a=some o):a<h.objs.size:=(x a o e).lt
theorem HOk.fresh(x:HOk P w H h)(e:h.objs.size<=a):H a=none:=by
 cases q:H a with
 |none=>rfl
 |some u=>exact absurd (zJ (x.lt q) e) (xB _)
theorem HOk.kept(x:HOk P w H h)(k:∀b u,h.get? b=some u->h'.get? b=some u):HOk P w H h':=fun a o e =>
 (x a o e).stay (fun b u _ q=>k b u q) (fun _ q=>q) fun _ _ q=>q
theorem HOk.laid(x:HOk P w H h)(k:∀b u,h.get? b=some u->h'.get? b=some u)(hp:h.objs.size<=a)(new:ObjOk P w (af H a o) h' a o):HOk P w (af H a o) h':=fun b u e=>by
 have hn:=x.fresh hp;by_cases hb:b=a
 ·subst hb;rw[ay]at e;cases e;exact new
 ·rw[ad hb]at e
  exact(x b u e).stay (fun c v _ q=>k c v q) (fun c q=>by rw[ad (aX q hn)];exact q) fun c xs q=>by rw[ad (aX q hn)];exact q
end
def Rd(H:Hp)(a:Addr)(u:HO):Prop:=H a=some u\/∃o,H a=some (.frz o u)
theorem Rd.ok{P:Program}{w:World}{H:Hp}{h:Heap}{a:Addr}{u:HO}(r:Rd H a u)(x:HOk P w H h):ObjOk P w H h a u:=by
 rcases r with r|⟨o,r⟩
 ·exact x a u r
 ·obtain⟨_,q⟩:=x a _ r
  exact q
def xU:Option HO->Prop
 |some (.lst _)=>True
 |some (.dK _)=>True
 |some (.dT _)=>True
 |some (.set _ _)=>True
 |some (.ins _ _ _)=>True
 |some (.ext _)=>True
 |_=>False
section
variable{P:Program}{w:World}{H:Hp}{h h':Heap}{x e:Addr}{o':HO}
theorem HOk.write(ok:HOk P w H h)(mu:xU (H x))(he:e=x\/H e=some (.own x))(k:∀b u,b≠e->h.get? b=some u->h'.get? b=some u)(heo:∃u,h'.get? e=some u)
  (new:ObjOk P w (af H x o') h' x o'):HOk P w (af H x o') h':=fun b u q=>by
 have nown:∀c y,H c=some (.own y)->c≠x:=fun c y r z=>by subst z;rw[r]at mu;exact mu
 have ntup:∀c xs,H c=some (.tup xs)->c≠x:=fun c xs r z=>by subst z;rw[r]at mu;exact mu
 by_cases hb:b=x
 ·subst hb;rw[ay]at q;cases q;exact new
 ·rw[ad hb]at q
  by_cases hbe:b=e
  ·have q':H b=some (.own x):=by
    rcases he with z|z
    ·exact absurd (hbe.trans z) hb
    ·rw[hbe];exact z
   rw[q]at q';cases q';obtain⟨v,hv⟩:=heo;exact⟨v,by rw[hbe];exact hv⟩
  ·refine(ok b u q).stay (fun c v hc r=>k c v ?_ r) (fun c r=>by rw[ad (nown c b r)];exact r) fun c xs r=>by rw[ad (ntup c xs r)];exact r
   rcases hc with rfl|hc
   ·exact hbe
   ·rintro rfl
    rcases he with z|z
    ·exact nown c b hc z
    ·rw[hc]at z;cases z;exact hb rfl
end
structure Un(fs ex:List Addr)(H H':Hp)(h h':Heap):Prop where
 keep:∀b o,h.get? b=some o->H b=none->b∉fs->b∉ex->h'.get? b=some o
 slot:∀b o,h.get? b=some o->H b=none->b∈fs->b∉ex->∃sl,h'.get? b=some { o with slots:=sl }
 free:∀b o,h.get? b=some o->H b=none->b∉ex->H' b=none
 there:∀b o,h.get? b=some o->b∉ex->∃o',h'.get? b=some o'
 tups:∀b xs,H b=some (.tup xs)->H' b=some (.tup xs)
 frzs:∀b o u,H b=some (.frz o u)->H' b=some (.frz o u)
 tbls:∀b ps,H b=some (.tbl ps)->∃more,H' b=some (.tbl (ps++more))
section
variable{fs fs' ex ex':List Addr}{H H1 H2:Hp}{h h1 h2 h':Heap}{a x e:Addr}{o:HO}
theorem Un.any(u:Un fs ex H H1 h h1){b:Addr}{ob:Obj}(q:h.get? b=some ob)(n:H b=none)(hx:b∉ex):∃sl,h1.get? b=some { ob with slots:=sl }:=by
 by_cases hb:b∈fs
 ·exact u.slot b ob q n hb hx
 ·exact⟨ob.slots,u.keep b ob q n hb hx⟩
theorem Un.kept(k:∀b u,h.get? b=some u->h'.get? b=some u):Un fs ex H H h h' :=
 ⟨fun b ob q _ _ _=>k b ob q,fun b ob q _ _ _=>⟨ob.slots,k b ob q⟩,fun _ _ _ n _=>n,fun b ob q _=>⟨ob,k b ob q⟩,fun _ _ q=>q,fun _ _ _ q=>q,fun _ ps q=>⟨#[],by rw[q];simp⟩⟩
theorem Un.refl:Un fs ex H H h h:=Un.kept fun _ _ q=>q
theorem Un.laid(k:∀b u,h.get? b=some u->h'.get? b=some u)(hp:h.objs.size<=a)(hn:H a=none):Un fs ex H (af H a o) h h' where
 keep:=fun b u q _ _ _=>k b u q
 slot:=fun b u q _ _ _=>⟨u.slots,k b u q⟩
 free:=fun b u q n _=>by rw[ad (zU (zJ (yJ q) hp))];exact n
 there:=fun b u q _=>⟨u,k b u q⟩
 tups:=fun b xs q=>by rw[ad (aX q hn)];exact q
 frzs:=fun b u xs q=>by rw[ad (aX q hn)];exact q
 tbls:=fun b ps q=>⟨#[],by rw[ad (aX q hn),q];simp⟩
theorem Un.write(mu:xU (H x))(he:e=x\/H e=some (.own x))(k:∀b u,b≠e->h.get? b=some u->h'.get? b=some u)(heo:∃u,h'.get? e=some u):Un fs ex H (af H x o) h h':=by
 have hx:∀b,H b=none->b≠x:=fun b n z=>by subst z;rw[n]at mu;exact mu
 have hb:∀b,H b=none->b≠e:=fun b n z=>by
  subst z;rcases he with r|r
  ·exact hx b n r
  ·rw[n]at r;cases r
 have hm:∀b u,H b=some u->¬xU (some u)->b≠x:=fun b u q nm z=>by subst z;rw[q]at mu;exact nm mu
 refine⟨fun b u q n _ _=>k b u (hb b n) q,fun b u q n _ _=>⟨u.slots,k b u (hb b n) q⟩,fun b u q n _=>by rw[ad (hx b n)];exact n,fun b u q _=>?_,
  fun b xs q=>by rw[ad (hm b _ q fun z=>z)];exact q,fun b u xs q=>by rw[ad (hm b _ q fun z=>z)];exact q,fun b ps q=>⟨#[],by rw[ad (hm b _ q fun z=>z),q];simp⟩⟩
 by_cases hbe:b=e
 ·subst hbe;exact heo
 ·exact⟨u,k b u hbe q⟩
end
def AU(h:Heap)(H:Hp):List Addr:=(List.range h.objs.size).filter fun a=>(H a).isSome
def jm(h:Heap)(H:Hp):Heap:=hideAll h (AU h H)
theorem xk(h:Heap)(H:Hp):(jm h H).objs.size=h.objs.size:=hideAll_size _ _
theorem Ap{h:Heap}{H:Hp}{b:Addr}{o:Obj}(e:h.get? b=some o)(n:H b=none):(jm h H).get? b=some o :=
 hideAll_get _ e fun hm=>by
  have q:(H b).isSome=true:=(List.mem_filter.mp hm).2;rw[n]at q;simp at q
theorem CQ{h:Heap}{H:Hp}{b:Addr}{o:Obj}(e:(jm h H).get? b=some o):h.get? b=some o/\H b=none:=by
 have e':h.get? b=some o:=of_hideAll (AU h H) e;refine⟨e',?_⟩;cases q:H b with
 |none=>rfl
 |some x =>
  have hm:b∈AU h H:=List.mem_filter.mpr ⟨List.mem_range.mpr (yJ e'),by simp[q]⟩;have z:(jm h H).get? b=none:=hideAll_none (AU h H) hm;rw[z]at e;cases e
structure Mod(K:Frag)(mg:Str->Option Value)(base:Heap):Prop where
 kin:K.In base
 glob:base.Ns mainGlobals mg
 blt:∃mb,base.Ns builtinsNs mb/\∀x:Str,x≠"__name__"->mb x=bootBuiltins x
 nolimit:base.NoLimit
structure Cx where
 prog:Program
 w:World
 K:Frag
 mg:Str->Option Value
 base:Heap
 A:Around
 N:List Str
 s₀:Shared
 H₀:Hp
 env:Env
 outer:List Env
 stack:List Env
 ex:List Addr
 fn:Str->Bool
 calm:Bool
 pn:List (Addr×Obj)
 xe:Value->Shared->Prop
noncomputable def jD(l:List Env):List Addr:=l.filterMap (·.frame)
abbrev Cx.fs(X:Cx):List Addr:=jD X.outer
def xQ(sc:Scope)(x:Str):Prop:=sc.names.lookup x=some .local\/sc.names.lookup x=some .cell\/sc.names.lookup x=some .free
def Loc(sc:Scope)(x:Str):Prop:=sc.names.lookup x=some .local\/sc.names.lookup x=some .cell
def Kz(env:Env)(h:Heap)(m:Str->Option Value)(x:Str)(u:Value):Prop :=
 (env.kindOf x=some .local/\m x=some u)\/((env.kindOf x=some .cell\/env.kindOf x=some .free)/\∃c,env.cells.lookup x=some c/\h.IsCell c (some u))
structure Cx.Ok(X:Cx):Prop where
 mod:Mod X.K X.mg X.base
 kind:X.env.scope.kind=.function
 glob:X.env.globals=mainGlobals
 blt:X.env.builtins=builtinsNs
 above:X.s₀.heap.objs.size<=X.env.locals
 inj:∀x y c,X.env.cells.lookup x=some c->X.env.cells.lookup y=some c->x=y
 has:∀x,(X.env.kindOf x=some .cell\/X.env.kindOf x=some .free)->∃c,X.env.cells.lookup x=some c
 cab:∀x c,X.fn x=true->X.env.cells.lookup x=some c->X.s₀.heap.objs.size<=c
 hd:X.calm=true->X.A.handled=none
 frames:X.A.frames=some X.stack
 stk:X.stack=X.outer\/(X.stack=X.env::X.outer/\X.env.frame=some X.env.locals)
 exf:∀b∈X.ex,b≠X.env.locals/\∀x c,X.env.cells.lookup x=some c->c≠b
 bs:∀b o,X.base.get? b=some o->X.s₀.heap.get? b=some o/\X.H₀ b=none
 bsz:X.base.objs.size<=X.s₀.heap.objs.size
 noex:∀b o,X.base.get? b=some o->b∉X.ex
 exfs:∀b∈X.ex,b∉X.fs
 funs:X.s₀.heap.FunFrames X.base X.outer
 frf:∀b∈X.fs,X.H₀ b=none
structure Inv(X:Cx)(MS:List (Addr×Obj))(σ:List (Option V))(H:Hp)(s:Shared):Prop where
 ok:X.Ok
 os:s.os=X.s₀.os
 bare:AllBare s.gens
 base:Un X.fs X.ex X.H₀ H X.s₀.heap s.heap
 loc:∃m,s.heap.Ns X.env.locals m/\∀(i:Nat)(x:Str)(v:V),X.N[i]?=some x->σ[i]?=some (some v)->xQ X.env.scope x->∃u,RelV v u/\Kz X.env s.heap m x u
 cell:∀x c,X.env.cells.lookup x=some c->∃v,s.heap.IsCell c v
 free:H X.env.locals=none
 freeC:∀x c,X.env.cells.lookup x=some c->H c=none
 pin:∀p∈X.pn++MS,s.heap.get? p.1=some p.2/\H p.1=none/\p.1≠X.env.locals/\p.1∉X.fs/\∀v,p.2.data≠.cell v
 M2:HOk X.prog X.w H s.heap
 len:σ.length=X.N.length
section
variable{X:Cx}{MS:List (Addr×Obj)}{σ:List (Option V)}{H H':Hp}{s:Shared}{h':Heap}
theorem Cx.Ok.nofr(ok:X.Ok){b:Addr}{o:Obj}(e:X.base.get? b=some o):b∉X.fs:=fun hb=>by
 have:=(ok.funs.mem hb).1
 rw[e]at this;cases this
theorem Inv.bs(I:Inv X MS σ H s):∀b o,X.base.get? b=some o->s.heap.get? b=some o/\H b=none:=fun b o e =>
 ⟨I.base.keep b o (I.ok.bs b o e).1 (I.ok.bs b o e).2 (I.ok.nofr e) (I.ok.noex b o e),I.base.free b o (I.ok.bs b o e).1 (I.ok.bs b o e).2 (I.ok.noex b o e)⟩
theorem Inv.bk(I:Inv X MS σ H s):∀b o,X.base.get? b=some o->s.heap.get? b=some o:=fun b o e=>(I.bs b o e).1
theorem Inv.mod(I:Inv X MS σ H s):Mod X.K X.mg X.base:=I.ok.mod
theorem Inv.kIn(I:Inv X MS σ H s):X.K.In s.heap:=I.ok.mod.kin.keeps I.bk
theorem Inv.nolimit(I:Inv X MS σ H s):s.heap.NoLimit:=I.ok.mod.nolimit.keeps I.bk
theorem Inv.lt(I:Inv X MS σ H s):X.env.locals<s.heap.objs.size:=let⟨_,hn,_⟩:=I.loc;hn.lt
theorem Inv.sz(I:Inv X MS σ H s):X.s₀.heap.objs.size<=s.heap.objs.size:=z5 I.ok.above (yZ I.lt)
theorem Inv.nofs(I:Inv X MS σ H s){a:Addr}(h:s.heap.objs.size<=a):a∉X.fs:=fun hb=>by
 obtain⟨_,o,ho,_⟩:=I.ok.funs.mem hb;exact absurd (zJ (yJ ho) (z5 I.sz h)) (xB _)
theorem Inv.cne(I:Inv X MS σ H s):∀x c,X.env.cells.lookup x=some c->c≠X.env.locals:=fun x c e z=>by
 obtain⟨v,o,ho,hd⟩:=I.cell x c e;obtain⟨m,⟨o',es,ep,ho',hd',_⟩,_⟩:=I.loc;rw[z,ho']at ho;cases ho;rw[hd']at hd;cases hd
theorem Inv.funs(I:Inv X MS σ H s):s.heap.FunFrames X.base X.outer:=by
 have all:∀(l:List Env),(∀b∈jD l,b∈X.fs)->X.s₀.heap.FunFrames X.base l->s.heap.FunFrames X.base l:=by
  intro l
  induction l with
  |nil=>intro _ _;trivial
  |cons env r ih =>
   intro hs hl;obtain⟨hk,⟨L,o,hf,hn,ho,hd⟩,hr⟩:=hl;have hL:L∈X.fs:=hs L (by unfold jD;rw[List.filterMap_cons,hf];exact z7);obtain⟨sl,e⟩:=I.base.slot L o ho (I.ok.frf L hL) hL fun z=>I.ok.exfs L z hL
   exact⟨hk,⟨L,_,hf,hn,e,hd⟩,ih (fun b hb=>hs b (by unfold jD;rw[List.filterMap_cons,hf];exact zQ _ hb)) hr⟩
 exact all X.outer (fun _ hb=>hb) I.ok.funs
theorem Inv.stack(I:Inv X MS σ H s):s.heap.FunFrames X.base X.stack:=by
 rcases I.ok.stk with e|⟨e,hf⟩
 ·rw[e];exact I.funs
 ·rw[e]
  obtain⟨m,hn,_⟩:=I.loc;refine .cons (by rw[I.ok.kind];decide) hf hn ?_ I.funs;exact Heap.get?_none_of_le (z5 I.ok.bsz I.ok.above)
theorem Inv.stkSub(I:Inv X MS σ H s):∀b∈jD X.stack,b∈X.env.locals::X.fs:=fun b hb=>by
 rcases I.ok.stk with e|⟨e,hf⟩
 ·rw[e]at hb;exact zQ _ hb
 ·rw[e]at hb
  unfold jD at hb;rw[List.filterMap_cons,hf]at hb;exact hb
theorem Inv.stkFree(I:Inv X MS σ H s):∀b∈jD X.stack,H b=none:=fun b hb=>by
 rcases zT.mp (I.stkSub b hb) with e|hb
 ·rw[e];exact I.free
 ·obtain⟨_,o,ho,_⟩:=I.ok.funs.mem hb
  exact I.base.free b o ho (I.ok.frf b hb) fun z=>I.ok.exfs b z hb
theorem Inv.step{g':Array GenState}{t':Nat}{d':Drawn}{ch:List Addr}(I:Inv X MS σ H s)
  (hch:∀b∈ch,(b∈X.ex\/X.s₀.heap.objs.size<=b)/\b≠X.env.locals/\(∀x c,X.env.cells.lookup x=some c->c≠b)/\∀p∈X.pn++MS,p.1≠b)
  (keep:∀b o,b≠X.env.locals->b∉X.fs->b∉ch->s.heap.get? b=some o->H b=none->h'.get? b=some o)
  (slot:∀b o,b≠X.env.locals->b∈X.fs->b∉ch->s.heap.get? b=some o->H b=none->∃sl,h'.get? b=some { o with slots:=sl }) (free:∀b o,b∉ch->s.heap.get? b=some o->H b=none->H' b=none)
  (there:∀b o,b∉ch->s.heap.get? b=some o->∃o',h'.get? b=some o')
  (tups:∀b xs,H b=some (.tup xs)->H' b=some (.tup xs)) (frzs:∀b o u,H b=some (.frz o u)->H' b=some (.frz o u)) (tbls:∀b ps,H b=some (.tbl ps)->∃more,H' b=some (.tbl (ps++more)))
  (ns:∀m,s.heap.Ns X.env.locals m->h'.Ns X.env.locals m) (M2:HOk X.prog X.w H' h') (hg:AllBare g') :
  Inv X MS σ H' { s with heap:=h',gens:=g',drawn:=d',toks:=t' }:=by
 have neL:∀b o,X.s₀.heap.get? b=some o->b≠X.env.locals:=fun b o e=>zU (zJ (yJ e) I.ok.above)
 have neC:∀b o,X.s₀.heap.get? b=some o->b∉X.ex->b∉ch:=fun b o e hx hb=>by
  rcases(hch b hb).1 with z|z
  ·exact hx z
  ·exact absurd (zJ (yJ e) z) (xB _)
 have cellK:∀x c,X.env.cells.lookup x=some c->∀v,s.heap.IsCell c v->h'.IsCell c v:=fun x c e v hq0=>by
  obtain⟨o,ho,hd⟩:=hq0;have nch:c∉ch:=fun z=>(hch c z).2.2.1 x c e rfl
  by_cases hc:c∈X.fs
  ·obtain⟨sl,q⟩:=slot c o (I.cne x c e) hc nch ho (I.freeC x c e)
   exact⟨_,q,hd⟩
  ·exact⟨o,keep c o (I.cne x c e) hc nch ho (I.freeC x c e),hd⟩
 refine⟨I.ok,I.os,hg,⟨fun b o e n hb hx=>?_,fun b o e n hb hx=>?_,fun b o e n hx=>?_,fun b o e hx=>?_,fun b xs e=>tups b xs (I.base.tups b xs e),fun b o xs e=>frzs b o xs (I.base.frzs b o xs e),fun b ps e=>?_⟩,?_,fun x c e=>?_,?_,fun x c e=>?_,fun p hp=>?_,M2,I.len⟩
 ·exact keep b o (neL b o e) hb (neC b o e hx) (I.base.keep b o e n hb hx) (I.base.free b o e n hx)
 ·obtain⟨sl,e1⟩:=I.base.slot b o e n hb hx
  obtain⟨sl',e2⟩:=slot b _ (neL b o e) hb (neC b o e hx) e1 (I.base.free b o e n hx);exact⟨sl',e2⟩
 ·obtain⟨o',e1⟩:=I.base.there b o e hx
  exact free b o' (neC b o e hx) e1 (I.base.free b o e n hx)
 ·obtain⟨o',e1⟩:=I.base.there b o e hx
  exact there b o' (neC b o e hx) e1
 ·obtain⟨m1,e1⟩:=I.base.tbls b ps e
  obtain⟨m2,e2⟩:=tbls b _ e1;exact⟨m1++m2,by rw[e2,Array.append_assoc]⟩
 ·obtain⟨m,hn,hl⟩:=I.loc
  refine⟨m,ns m hn,fun i x v e1 e2 e3=>?_⟩;obtain⟨u,r,l⟩:=hl i x v e1 e2 e3;refine⟨u,r,?_⟩;rcases l with l|⟨k,c,e,z⟩
  ·exact .inl l
  ·exact .inr ⟨k,c,e,cellK x c e _ z⟩
 ·obtain⟨v,z⟩:=I.cell x c e
  exact⟨v,cellK x c e v z⟩
 ·obtain⟨m,⟨o,_,_,ho,_⟩,_⟩:=I.loc
  exact free _ o (fun z=>(hch _ z).2.1 rfl) ho I.free
 ·obtain⟨v,o,ho,hd⟩:=I.cell x c e
  exact free c o (fun z=>(hch c z).2.2.1 x c e rfl) ho (I.freeC x c e)
 ·obtain⟨e,n,ne,nf,d⟩:=I.pin p hp
  have nch:p.1∉ch:=fun z=>(hch p.1 z).2.2.2 p hp rfl
  exact⟨keep p.1 p.2 ne nf nch e n,free p.1 p.2 nch e n,ne,nf,d⟩
theorem Inv.un{t':Nat}(I:Inv X MS σ H s)(u:Un X.fs [] H H' s.heap h')(M2:HOk X.prog X.w H' h'):Inv X MS σ H' { s with heap:=h',toks:=t' }:=by
 obtain⟨m,⟨o,es,ep,ho,r⟩,_⟩:=id I.loc;obtain⟨sl,hL⟩:=u.any ho I.free (by simp);exact I.step (g':=s.gens) (d':=s.drawn) (ch:=[]) (fun _ z=>nomatch z) (fun b o _ hb _ e n=>u.keep b o e n hb (by simp)) (fun b o _ hb _ e n=>u.slot b o e n hb (by simp)) (fun b o _ e n=>u.free b o e n (by simp)) (fun b o _ e=>u.there b o e (by simp)) u.tups u.frzs u.tbls (fun m' hm=>by
  obtain⟨o',es',ep',ho',r'⟩:=hm;rw[ho]at ho';cases ho';exact⟨_,es',ep',hL,r'⟩) M2 I.bare
theorem Inv.call{g':Array GenState}{t':Nat}{d':Drawn}{ch:List Addr}(I:Inv X MS σ H s)(u:Un (jD X.stack) ch H H' s.heap h')(M2:HOk X.prog X.w H' h')(hg:AllBare g')
  (hch:∀b∈ch,(b∈X.ex\/X.s₀.heap.objs.size<=b)/\b≠X.env.locals/\(∀x c,X.env.cells.lookup x=some c->c≠b)/\∀p∈X.pn++MS,p.1≠b) :
  Inv X MS σ H' { s with heap:=h',gens:=g',drawn:=d',toks:=t' }:=by
 obtain⟨m,⟨o,es,ep,ho,r⟩,_⟩:=id I.loc;obtain⟨sl,hL⟩:=u.any ho I.free fun z=>(hch _ z).2.1 rfl
 exact I.step (ch:=ch) hch (fun b o hL hb hc e n=>u.keep b o e n (fun z=>(zT.mp (I.stkSub b z)).elim hL hb) hc) (fun b o _ _ hc e n=>u.any e n hc) (fun b o hc e n=>u.free b o e n hc) (fun b o hc e=>u.there b o e hc) u.tups u.frzs u.tbls (fun m' hm=>by
  obtain⟨o',es',ep',ho',r'⟩:=hm;rw[ho]at ho';cases ho';exact⟨_,es',ep',hL,r'⟩) M2 hg
theorem Inv.turned{t':Nat}{it:Addr}(I:Inv X MS σ H s)(k:∀b o,b≠it->s.heap.get? b=some o->h'.get? b=some o)(hn:H it=none)(hL:it≠X.env.locals)
  (h1:it∈X.ex\/X.s₀.heap.objs.size<=it) (h2:∀x c,X.env.cells.lookup x=some c->c≠it) (h3:∀p∈X.pn++MS,p.1≠it):Inv X MS σ H { s with heap:=h',toks:=t' }:=by
 have nit:∀b u,H b=some u->b≠it:=fun b u e z=>by rw[z,hn]at e;cases e
 refine I.step (g':=s.gens) (d':=s.drawn) (ch:=[it]) (fun b hb=>?_) (fun b o _ _ hc e _=>k b o (fun z=>hc (by simp[z])) e) (fun b o _ _ hc e _=>⟨o.slots,k b o (fun z=>hc (by simp[z])) e⟩) (fun _ _ _ _ n=>n)
  (fun b o hc e=>⟨o,k b o (fun z=>hc (by simp[z])) e⟩) (fun _ _ e=>e) (fun _ _ _ e=>e) (fun b ps e=>⟨#[],by rw[e];simp⟩) (fun m hm=>?_) (fun b u e=>?_) I.bare
 ·have e:b=it:=by simpa using hb
  subst e;exact⟨h1,hL,h2,h3⟩
 ·obtain⟨o,es,ep,ho,r⟩:=hm
  exact⟨o,es,ep,k _ o (Ne.symm hL) ho,r⟩
 ·refine(I.M2 b u e).stay (fun c v hc q=>k c v ?_ q) (fun _ q=>q) fun _ _ q=>q
  rcases hc with z|z
  ·rw[z];exact nit b u e
  ·exact nit c _ z
theorem Inv.tok(I:Inv X MS σ H s)(t:Nat):Inv X MS σ H { s with toks:=t }:=I.un (h':=s.heap) (t':=t) Un.refl I.M2
theorem Inv.kept{t':Nat}(I:Inv X MS σ H s)(k:∀b u,s.heap.get? b=some u->h'.get? b=some u):Inv X MS σ H { s with heap:=h',toks:=t' }:=I.un (Un.kept k) (I.M2.kept k)
theorem Inv.laid{a:Addr}{o:HO}{t':Nat}(I:Inv X MS σ H s)(k:∀b u,s.heap.get? b=some u->h'.get? b=some u)(hp:s.heap.objs.size<=a)(new:ObjOk X.prog X.w (af H a o) h' a o) :
  Inv X MS σ (af H a o) { s with heap:=h',toks:=t' }:=I.un (Un.laid k hp (I.M2.fresh hp)) (I.M2.laid k hp new)
theorem Inv.write{x e:Addr}{o:HO}{t':Nat}(I:Inv X MS σ H s)(mu:xU (H x))(he:e=x\/H e=some (.own x))(k:∀b u,b≠e->s.heap.get? b=some u->h'.get? b=some u)(heo:∃u,h'.get? e=some u)
  (new:ObjOk X.prog X.w (af H x o) h' x o):Inv X MS σ (af H x o) { s with heap:=h',toks:=t' }:=I.un (Un.write mu he k heo) (I.M2.write mu he k heo new)
theorem Inv.pins_of{pins':List (Addr×Obj)}(I:Inv X MS σ H s)(h:∀p∈pins',s.heap.get? p.1=some p.2/\H p.1=none/\p.1≠X.env.locals/\p.1∉X.fs/\∀v,p.2.data≠.cell v):Inv X pins' σ H s :=
 ⟨I.ok,I.os,I.bare,I.base,I.loc,I.cell,I.free,I.freeC,fun p hp=>(zZ.mp hp).elim (fun z=>I.pin p (zL _ z)) (h p),I.M2,I.len⟩
theorem qG{N:List Str}(hN:N.Nodup){i j:Nat}{x:Str}(a:N[i]?=some x)(b:N[j]?=some x):i=j:=by
 obtain⟨h1,e1⟩:=zB.mp a;obtain⟨h2,e2⟩:=zB.mp b;exact(List.getElem_inj hN).mp (e1.trans e2.symm)
theorem pi{M:Model}{A:Around}{E:Value->Shared->Prop}{i:Nat}{x:Str}{v:V}{u:Value}{Q:Unit->Shared->Prop}(I:Inv X MS σ H s)(hN:X.N.Nodup)(hi:X.N[i]?=some x)(hx:Loc X.env.scope x)(r:RelV v u)
  (h:∀s',Inv X MS (σ.set i (some v)) H s'->(∃a,Heap.SameBut a s.heap s'.heap/\(a=X.env.locals\/X.env.cells.lookup x=some a))->Q () s') (hf:X.fn x=true\/X.env.scope.names.lookup x=some .local:=by first|exact .inl rfl|exact .inr rfl|assumption):wpAny M A (storeName X.env x u) Q E s:=by
 obtain⟨m,hn,hl⟩:=id I.loc;have hcls:(X.env.scope.kind==.class||(X.env.scope.kind==.module&&X.env.locals !=X.env.globals))=false:=by rw[I.ok.kind];rfl
 have hiσ:i<σ.length:=by rw[I.len];exact(zB.mp hi).1
 have cne:=I.cne;have tracked:∀{a:Addr}{h':Heap},(∃o,s.heap.get? a=some o/\H a=none)->Heap.SameBut a s.heap h'->HOk X.prog X.w H h':=fun {a h'} ha hs b ob e=>by
  obtain⟨_,_,hfree⟩:=ha;refine(I.M2 b ob e).stay (fun c w' hc q=>(hs.2 c ?_).trans q) (fun _ q=>q) fun _ _ q=>q
  rintro rfl;rcases hc with rfl|hc
  ·rw[hfree]at e;cases e
  ·rw[hfree]at hc;cases hc
 rcases hx with hk|hk
 ·refine wpAny_storeName_local hk hn (fun h' hn' hs=>?_) hcls
  obtain⟨oL,_,_,hoL,_⟩:=id hn;refine h _ ⟨I.ok,I.os,I.bare,⟨fun b o e n hb hx=>?_,fun b o e n hb hx=>?_,I.base.free,fun b o e hx=>?_,I.base.tups,I.base.frzs,I.base.tbls⟩,⟨_,hn',fun j y v' e1 e2 e3=>?_⟩,fun y c e=>?_,I.free,I.freeC,fun p hp=>?_,tracked ⟨oL,hoL,I.free⟩ hs,by simpa using I.len⟩ ⟨_,hs,.inl rfl⟩
  ·exact(hs.2 b (zU (zJ (yJ e) I.ok.above))).trans (I.base.keep b o e n hb hx)
  ·obtain⟨sl,e1⟩:=I.base.slot b o e n hb hx
   exact⟨sl,(hs.2 b (zU (zJ (yJ e) I.ok.above))).trans e1⟩
  ·obtain⟨o',e1⟩:=I.base.there b o e hx
   exact⟨o',(hs.2 b (zU (zJ (yJ e) I.ok.above))).trans e1⟩
  ·by_cases hj:j=i
   ·subst hj
    rw[hi]at e1;cases e1;rw[List.getElem?_set_self hiσ]at e2;cases e2;exact⟨u,r,.inl ⟨hk,by simp⟩⟩
   ·rw[List.getElem?_set_ne (Ne.symm hj)]at e2
    obtain⟨u',r',q⟩:=hl j y v' e1 e2 e3;refine⟨u',r',?_⟩;rcases q with⟨k,e⟩|⟨k,c,e,z⟩
    ·refine .inl ⟨k,?_⟩
     have:y≠x:=fun e=>hj (qG hN e1 (e▸hi))
     simp[this,e]
    ·exact .inr ⟨k,c,e,z.sameBut hs (cne y c e)⟩
  ·obtain⟨w',z⟩:=I.cell y c e
   exact⟨w',z.sameBut hs (cne y c e)⟩
  ·obtain⟨e,n,ne,nf,d⟩:=I.pin p hp
   exact⟨(hs.2 p.1 ne).trans e,n,ne,nf,d⟩
 ·have hfn:X.fn x=true:=by
   rcases hf with z|z
   ·exact z
   ·rw[z]at hk;cases hk
  obtain⟨c,hc⟩:=I.ok.has x (.inl hk);obtain⟨w',z⟩:=I.cell x c hc;refine wpAny_storeName_cell I.ok.kind hk hc z (fun h' hc' hs=>?_);obtain⟨oc,hoc,hocd⟩:=id z;refine h { s with heap:=h' } ⟨I.ok,I.os,I.bare,⟨fun b o e n hb hx=>?_,fun b o e n hb hx=>?_,I.base.free,fun b o e hx=>?_,I.base.tups,I.base.frzs,I.base.tbls⟩,⟨m,hn.sameBut hs (Ne.symm (cne x c hc)),fun j y v' e1 e2 e3=>?_⟩,fun y c' e=>?_,I.free,I.freeC,fun p hp=>?_,tracked ⟨oc,hoc,I.freeC x c hc⟩ hs,by simpa using I.len⟩ ⟨c,hs,.inr hc⟩
  ·exact(hs.2 b (zU (zJ (yJ e) (I.ok.cab x c hfn hc)))).trans (I.base.keep b o e n hb hx)
  ·obtain⟨sl,e1⟩:=I.base.slot b o e n hb hx
   exact⟨sl,(hs.2 b (zU (zJ (yJ e) (I.ok.cab x c hfn hc)))).trans e1⟩
  ·obtain⟨o',e1⟩:=I.base.there b o e hx
   exact⟨o',(hs.2 b (zU (zJ (yJ e) (I.ok.cab x c hfn hc)))).trans e1⟩
  ·by_cases hj:j=i
   ·subst hj
    rw[hi]at e1;cases e1;rw[List.getElem?_set_self hiσ]at e2;cases e2;exact⟨u,r,.inr ⟨.inl hk,c,hc,hc'⟩⟩
   ·rw[List.getElem?_set_ne (Ne.symm hj)]at e2
    obtain⟨u',r',q⟩:=hl j y v' e1 e2 e3;refine⟨u',r',?_⟩;rcases q with q|⟨k,c',e,z'⟩
    ·exact .inl q
    ·refine .inr ⟨k,c',e,z'.sameBut hs ?_⟩
     rintro rfl;exact hj (qG hN e1 (I.ok.inj _ _ _ e hc▸hi))
  ·by_cases hcc:c'=c
   ·subst hcc;exact⟨_,hc'⟩
   ·obtain⟨w2,z2⟩:=I.cell y c' e
    exact⟨w2,z2.sameBut hs hcc⟩
  ·obtain⟨e,n,ne,nf,d⟩:=I.pin p hp
   refine⟨(hs.2 p.1 ?_).trans e,n,ne,nf,d⟩;intro q;rw[q,hoc]at e;have q':oc=p.2:=yE e;exact d w' (by rw[<- q'];exact hocd)
theorem qw{M:Model}{A:Around}{E:Value->Shared->Prop}{i:Nat}{x:Str}{v:V}{u:Value}{Q:Unit->Shared->Prop}(I:Inv X MS σ H s)(hN:X.N.Nodup)(hi:X.N[i]?=some x)(hx:Loc X.env.scope x)(r:RelV v u)
  (h:∀s',Inv X MS (σ.set i (some v)) H s'->Q () s') (hf:X.fn x=true\/X.env.scope.names.lookup x=some .local:=by first|exact .inl rfl|exact .inr rfl|assumption):wpAny M A (storeName X.env x u) Q E s :=
 pi I hN hi hx r (fun s' I' _=>h s' I') hf
theorem Inv.call'{s':Shared}{ch:List Addr}(I:Inv X MS σ H s)(ho:s'.os=s.os)(u:Un (jD X.stack) ch H H' s.heap s'.heap)(M2:HOk X.prog X.w H' s'.heap)(hg:AllBare s'.gens)
  (hch:∀b∈ch,(b∈X.ex\/X.s₀.heap.objs.size<=b)/\b≠X.env.locals/\(∀x c,X.env.cells.lookup x=some c->c≠b)/\∀p∈X.pn++MS,p.1≠b):Inv X MS σ H' s':=by
 obtain⟨h',g',d',t',o'⟩:=s';have e:o'=s.os:=ho;subst e;exact I.call (g':=g') (t':=t') (d':=d') u M2 hg hch
end
abbrev XK:=Value->Option Addr->Hp->Prop
abbrev St:=List (Option V)
abbrev VK:=V->Hp->Prop
abbrev TE:=St->Hp->VK->Prop
abbrev TT:=St->Hp->(Bool->Hp->Prop)->Prop
abbrev TA:=St->Hp->(List V->Hp->Prop)->Prop
structure jp where
 nx:St->Hp->Prop
 rt:VK
 bk:St->Hp->Prop:=fun _ _=>False
 ct:St->Hp->Prop:=fun _ _=>False
abbrev TS:=jp->St->Hp->Prop
def EP(X:Cx)(MS:List (Addr×Obj))(σ:St)(Q:VK)(u:Value)(s':Shared):Prop:=∃v H',Inv X MS σ H' s'/\RelV v u/\Q v H'
def TP(X:Cx)(MS:List (Addr×Obj))(σ:St)(Q:Bool->Hp->Prop)(b:Bool)(s':Shared):Prop:=∃H',Inv X MS σ H' s'/\Q b H'
def AP(X:Cx)(MS:List (Addr×Obj))(σ:St)(Q:List V->Hp->Prop)(us:List Value)(s':Shared):Prop:=∃vs H',Inv X MS σ H' s'/\Vals vs us/\Q vs H'
def SP(X:Cx)(MS:List (Addr×Obj))(D:jp)(f:Flow)(s':Shared):Prop :=
 match f with
 |.next=>∃σ' H',Inv X MS σ' H' s'/\D.nx σ' H'
 |.brk=>∃σ' H',Inv X MS σ' H' s'/\D.bk σ' H'
 |.cont=>∃σ' H',Inv X MS σ' H' s'/\D.ct σ' H'
 |.ret u=>∃v σ' H',Inv X MS σ' H' s'/\RelV v u/\D.rt v H'
def PE(X:Cx)(e:Expr)(t:TE):Prop :=
 ∀(MS:List (Addr×Obj))(s:Shared)(σ:St)(H:Hp)(Q:VK),Inv X MS σ H s->t σ H Q->wpAny (model X.prog X.w) X.A (eval e X.env) (EP X MS σ Q) X.xe s
def PT(X:Cx)(e:Expr)(t:TT):Prop :=
 ∀(MS:List (Addr×Obj))(s:Shared)(σ:St)(H:Hp)(Q:Bool->Hp->Prop),Inv X MS σ H s->t σ H Q->wpAny (model X.prog X.w) X.A (isTrue e X.env (eval e X.env)) (TP X MS σ Q) X.xe s
def PW(X:Cx)(e:Expr)(t:TT):Prop :=
 ∀(whole:Sem Value)(MS:List (Addr×Obj))(s:Shared)(σ:St)(H:Hp)(Q:Bool->Hp->Prop),Inv X MS σ H s->t σ H Q->wpAny (model X.prog X.w) X.A (isTrue e X.env whole) (TP X MS σ Q) X.xe s
theorem PW.pt{X:Cx}{e:Expr}{t:TT}(h:PW X e t):PT X e t:=h _
def PA(X:Cx)(es:List Expr)(t:TA):Prop :=
 ∀(pos:Pos)(MS:List (Addr×Obj))(s:Shared)(σ:St)(H:Hp)(Q:List V->Hp->Prop),Inv X MS σ H s->t σ H Q->wpAny (model X.prog X.w) X.A (spliced (backTo pos (starEach es X.env))) (AP X MS σ Q) X.xe s
def PS(X:Cx)(st:Stmt)(t:TS):Prop :=
 ∀(MS:List (Addr×Obj))(s:Shared)(σ:St)(H:Hp)(D:jp),Inv X MS σ H s->t D σ H->wpAny (model X.prog X.w) X.A (exec st X.env) (SP X MS D) X.xe s
def PSs(X:Cx)(st:List Stmt)(t:TS):Prop :=
 ∀(MS:List (Addr×Obj))(s:Shared)(σ:St)(H:Hp)(D:jp),Inv X MS σ H s->t D σ H->wpAny (model X.prog X.w) X.A (execs st X.env) (SP X MS D) X.xe s
theorem aD{α:Type}{t:Sem α}{Q Q':α->Shared->Prop}{M:Model}{A:Around}{E:Value->Shared->Prop}{s:Shared}(h:wpAny M A t Q E s)(hQ:∀a s,Q a s->Q' a s):wpAny M A t Q' E s:=yT h hQ fun _ _ x=>x
section
variable{X:Cx}
theorem bin{a b:Expr}{ta tb:TE}(ha:PE X a ta)(hb:PE X b tb){MS:List (Addr×Obj)}{s:Shared}{σ:St}{H:Hp}{R:V->V->Hp->Prop}(I:Inv X MS σ H s)(h:ta σ H fun x H1=>tb σ H1 fun y H2=>R x y H2)
  {α:Type}{Q:α->Shared->Prop}{f:Value->Value->Sem α}
  (hf:∀v u s2 x y H2,Inv X MS σ H2 s2->RelV x v->RelV y u->R x y H2->wpAny (model X.prog X.w) X.A (f v u) Q X.xe s2) :
  wpAny (model X.prog X.w) X.A (eval a X.env) (fun v s₁=>wpAny (model X.prog X.w) X.A (eval b X.env) (fun u s₂=>wpAny (model X.prog X.w) X.A (f v u) Q X.xe s₂) X.xe s₁) X.xe s:=by
 refine aD (ha MS s σ H _ I h) fun v s1 hq0=>?_
 obtain⟨x,H1,I1,r1,q1⟩:=hq0;refine aD (hb MS s1 σ H1 _ I1 q1) fun u s2 hq0=>?_
 obtain⟨y,H2,I2,r2,q2⟩:=hq0;exact hf v u s2 x y H2 I2 r1 r2 q2
noncomputable def JF(i:Nat):TE:=fun σ H Q=>∃v,σ[i]?=some (some v)/\Q v H
noncomputable def tC(v:V):TE:=fun _ H Q=>Q v H
theorem ET{i:Nat}{x:Str}{pos:Pos}(hN:X.N[i]?=some x)(hv:xQ X.env.scope x)(hd:(x==("__debug__":Str))=false:=by decide)(hcd:(x==("__classdict__":Str))=false:=by decide):PE X (.Name x pos) (JF i):=by
 intro MS s σ H Q I h;obtain⟨v,e,h⟩:=h;obtain⟨m,hn,hl⟩:=I.loc;obtain⟨u,r,l⟩:=hl i x v hN e hv;have aw:EP X MS σ Q u s:=⟨v,H,I,r,h⟩;rcases l with⟨hk,hm⟩|⟨hk,c,hc,hcell⟩
 ·exact wpAny_Name (wpAny_loadName_local I.ok.kind hk hn hm aw) hd
 ·rcases hk with hk|hk
  ·exact wpAny_Name (wpAny_loadName_cell I.ok.kind hk hc hcell aw) hd
  ·exact wpAny_Name (wpAny_loadName_free I.ok.kind hk hc hcell aw hcd) hd
theorem EZ{i j pos}:PE X (.Constant (.int i) j pos) (tC (.int i)):=fun _ _ _ H _ I h=>wpAny_Constant_int ⟨.int i,H,I.tok _,⟨_,rfl⟩,h⟩
theorem Hn{b j pos}:PE X (.Constant (.bool b) j pos) (tC (.bl b)):=fun _ _ _ H _ I h=>Constant_bool ⟨.bl b,H,I,rfl,h⟩
theorem EY{j pos}:PE X (.Constant .none j pos) (tC .non):=fun _ _ _ H _ I h=>Constant_none ⟨.non,H,I,rfl,h⟩
theorem EV{x j pos}:PE X (.Constant (.str x) j pos) (tC (.str x)):=fun _ _ _ H _ I h=>Calls.Constant_str ⟨.str x,H,I.tok _,⟨_,rfl⟩,h⟩
def Gl(X:Cx)(x:Str):Prop:=X.env.kindOf x=some .globalImplicit
theorem kZ{E:Value->Shared->Prop}{MS:List (Addr×Obj)}{s:Shared}{σ:St}{H:Hp}{x:Str}{u:Value}{pos:Pos}{Q:Value->Shared->Prop}(I:Inv X MS σ H s)(hg:Gl X x)(hm:X.mg x=some u)(h:Q u s)
  (hd:(x==("__debug__":Str))=false:=by decide):wpAny (model X.prog X.w) X.A (eval (.Name x pos) X.env) Q E s :=
 Calls.Name_function_global I.ok.kind hg (Calls.loadGlobal_global (by rw[I.ok.glob];exact I.mod.glob.keeps I.bk) hm h) hd
theorem dD{E:Value->Shared->Prop}{MS:List (Addr×Obj)}{s:Shared}{σ:St}{H:Hp}{x:Str}{u:Value}{pos:Pos}{Q:Value->Shared->Prop}(I:Inv X MS σ H s)(hg:Gl X x)(hm:X.mg x=none)(hv:bootBuiltins x=some u)(h:Q u s)
  (hn:x≠"__name__":=by decide) (hd:(x==("__debug__":Str))=false:=by decide):wpAny (model X.prog X.w) X.A (eval (.Name x pos) X.env) Q E s:=by
 obtain⟨mb,h1,h2⟩:=I.mod.blt;exact Calls.Name_function_global I.ok.kind hg (Calls.loadGlobal_builtin (by rw[I.ok.glob];exact I.mod.glob.keeps I.bk) hm (by rw[I.ok.blt];exact h1.keeps I.bk) ((h2 x hn).trans hv) h) hd
theorem CM{x:Str}{v:V}{u:Value}{pos:Pos}(hg:Gl X x)(hm:X.mg x=some u)(r:RelV v u)(hd:(x==("__debug__":Str))=false:=by decide):PE X (.Name x pos) (tC v) :=
 fun _ _ _ H _ I h=>kZ I hg hm ⟨v,H,I,r,h⟩ hd
variable{a b:Expr}{ta tb:TE}{pos:Pos}
theorem RelV.none_iff{x:V}{v:Value}(r:RelV x v):(v==Value.none)=decide (x=.non):=by
 cases x with
 |non=>cases r;rfl
 |bl _=>cases r;rfl
 |int _=>obtain⟨t,rfl⟩:=r;rfl
 |str _=>obtain⟨t,rfl⟩:=r;rfl
 |byt _=>obtain⟨t,rfl⟩:=r;rfl
 |flt _=>obtain⟨t,rfl⟩:=r;rfl
 |ref _=>cases r;rfl
 |ty _=>cases r;rfl
variable{tA tB':TT}{rest:List Expr}
noncomputable def JQ(t u:TT):TT:=fun σ H Q=>t σ H fun c H1=>if c=true then u σ H1 Q else Q false H1
noncomputable def K3(t u:TT):TT:=fun σ H Q=>t σ H fun c H1=>if c=true then Q true H1 else u σ H1 Q
noncomputable def JK(t:TT):TT:=fun σ H Q=>t σ H fun c H1=>Q (!c) H1
theorem Ct(ha:PT X a tA):PW X (.BoolOp .And [a] pos) tA:=by
 intro wh MS s σ H Q I h;refine isTrue_and (aD (ha MS s σ H Q I h) fun c s1 e=>?_);cases c with
 |true=>exact isTrue_and_nil e
 |false=>exact e
theorem EG(ha:PT X a tA):PW X (.BoolOp .Or [a] pos) tA:=by
 intro wh MS s σ H Q I h;refine isTrue_or (aD (ha MS s σ H Q I h) fun c s1 e=>?_);cases c with
 |false=>exact isTrue_or_nil e
 |true=>exact e
theorem EH(ha:PT X a tA)(hb:PW X (.BoolOp .And (b::rest) pos) tB'):PW X (.BoolOp .And (a::b::rest) pos) (JQ tA tB'):=by
 intro wh MS s σ H Q I h;refine isTrue_and (aD (ha MS s σ H _ I h) fun c s1 hq0=>?_);obtain⟨H1,I1,q1⟩:=hq0;cases c with
 |true=>exact hb wh MS s1 σ H1 Q I1 q1
 |false=>exact⟨H1,I1,q1⟩
theorem Ha(ha:PT X a tA)(hb:PW X (.BoolOp .Or (b::rest) pos) tB'):PW X (.BoolOp .Or (a::b::rest) pos) (K3 tA tB'):=by
 intro wh MS s σ H Q I h;refine isTrue_or (aD (ha MS s σ H _ I h) fun c s1 hq0=>?_);obtain⟨H1,I1,q1⟩:=hq0;cases c with
 |true=>exact⟨H1,I1,q1⟩
 |false=>exact hb wh MS s1 σ H1 Q I1 q1
theorem EI(ha:PT X a tA):PT X (.UnaryOp .Not a pos) (JK tA):=by
 intro MS s σ H Q I h;exact isTrue_not (ha MS s σ H (fun c H1=>Q (!c) H1) I h)
noncomputable def GP(ta tb:TE):TE:=fun σ H Q=>ta σ H fun x H1=>∃c,x=.bl c/\if c=true then tb σ H1 Q else Q (.bl false) H1
noncomputable def JJ(ta tb:TE):TE:=fun σ H Q=>ta σ H fun x H1=>∃c,x=.bl c/\if c=true then Q (.bl true) H1 else tb σ H1 Q
noncomputable def GL(ta:TE):TE:=fun σ H Q=>ta σ H fun x H1=>∃c,x=.bl c/\Q (.bl (!c)) H1
theorem EW{op}{t:TE}(h:PE X a t):PE X (.BoolOp op [a] pos) t:=fun MS s σ H Q I hw=>BoolOp_one (h MS s σ H Q I hw)
theorem E3(ha:PE X a ta)(hb:PE X (.BoolOp .And (b::rest) pos) tb):PE X (.BoolOp .And (a::b::rest) pos) (GP ta tb):=by
 intro MS s σ H Q I h;refine BoolOp_and (aD (ha MS s σ H _ I h) fun v s1 hq0=>?_);obtain⟨x,H1,I1,r1,q1⟩:=hq0;obtain⟨c,rfl,q1⟩:=q1;cases r1;refine wpAny_truthy_bool ?_;cases c with
 |true=>exact hb MS s1 σ H1 Q I1 q1
 |false=>exact⟨.bl false,H1,I1,rfl,q1⟩
theorem Hj(ha:PE X a ta)(hb:PE X (.BoolOp .Or (b::rest) pos) tb):PE X (.BoolOp .Or (a::b::rest) pos) (JJ ta tb):=by
 intro MS s σ H Q I h;refine BoolOp_or (aD (ha MS s σ H _ I h) fun v s1 hq0=>?_);obtain⟨x,H1,I1,r1,q1⟩:=hq0;obtain⟨c,rfl,q1⟩:=q1;cases r1;refine wpAny_truthy_bool ?_;cases c with
 |false=>exact hb MS s1 σ H1 Q I1 q1
 |true=>exact⟨.bl true,H1,I1,rfl,q1⟩
theorem EX(ha:PE X a ta):PE X (.UnaryOp .Not a pos) (GL ta):=by
 intro MS s σ H Q I h;refine UnaryOp_ (aD (ha MS s σ H _ I h) fun v s1 hq0=>?_);obtain⟨x,H1,I1,r1,q1⟩:=hq0;obtain⟨c,rfl,q1⟩:=q1;cases r1;exact not_of (wpAny_truthy_bool ⟨.bl (!c),H1,I1,rfl,q1⟩)
noncomputable def K4(t:TT)(ta tb:TE):TE:=fun σ H Q=>t σ H fun c H1=>if c=true then ta σ H1 Q else tb σ H1 Q
theorem zq{c:Expr}(hc:PT X c tA)(ha:PE X a ta)(hb:PE X b tb):PE X (.IfExp c a b pos) (K4 tA ta tb):=by
 intro MS s σ H Q I h;refine wpAny_IfExp (aD (hc MS s σ H _ I h) fun d s1 hq0=>?_);obtain⟨H1,I1,q1⟩:=hq0;cases d with
 |true=>exact ha MS s1 σ H1 Q I1 q1
 |false=>exact hb MS s1 σ H1 Q I1 q1
end
def bQ(K:Frag)(H:Hp)(a:Addr)(xs:List V):Prop :=
 Rd H a (.lst xs) \/
  ∃(o:Obj)(MW:Array Value)(n:Nat),K.lookup a=some o/\o.cls=.type "list"/\o.dict=none/\o.data=.seq MW n/\MW.size<=sizeLine/\Vals xs MW.toList
def gQ(K:Frag)(H:Hp)(a:Addr)(xs:List V):Prop :=
 Rd H a (.tup xs) \/
  ∃(o:Obj)(MW:Array Value)(n:Nat),K.lookup a=some o/\o.cls=.type "tuple"/\o.data=.seq MW n/\MW.size<=sizeLine/\Vals xs MW.toList
noncomputable def Kw:Value->Option V
 |.none=>some .non
 |.bool b=>some (.bl b)
 |.int i _=>some (.int i)
 |.str x _=>some (.str x)
 |.bytes b _=>some (.byt b)
 |.float b _=>some (.flt b)
 |.ref a=>some (.ref a)
 |.type n=>some (.ty n)
 |_=>none
theorem RelV.abs{x:V}{u:Value}(r:RelV x u):Kw u=some x:=by
 cases x with
 |non=>cases r;rfl
 |bl _=>cases r;rfl
 |int _=>obtain⟨t,rfl⟩:=r;rfl
 |str _=>obtain⟨t,rfl⟩:=r;rfl
 |byt _=>obtain⟨t,rfl⟩:=r;rfl
 |flt _=>obtain⟨t,rfl⟩:=r;rfl
 |ref _=>cases r;rfl
 |ty _=>cases r;rfl
theorem RelV.inj{x y:V}{u:Value}(r:RelV x u)(q:RelV y u):x=y:=yE (r.abs.symm.trans q.abs)
theorem Vals.inj{xs ys:List V}{us:List Value}(h:Vals xs us):Vals ys us->xs=ys:=by
 induction h generalizing ys with
 |nil=>intro h';cases h';rfl
 |cons r t ih =>
  intro h';cases h' with
  |cons r' t'=>rw[r.inj r',ih t']
section
variable{X:Cx}{MS:List (Addr×Obj)}{σ:St}{H:Hp}{s:Shared}{a:Addr}{xs ys:List V}
theorem Inv.list(I:Inv X MS σ H s)(h:bQ X.K H a xs):∃MW:List Value,Vals xs MW/\PlainL s.heap a MW.toArray/\xs.length<=sizeLine:=by
 rcases h with h|⟨o,MW,n,hk,hc,hd,hs,hz,r⟩
 ·obtain⟨z,MW,n,r,e⟩:=h.ok I.M2
  exact⟨MW,r,⟨_,n,e,rfl,rfl,rfl⟩,z⟩
 ·refine⟨MW.toList,r,⟨o,n,I.kIn a o hk,hc,hd,by simpa using hs⟩,?_⟩
  have e:=r.length;simp only[Array.length_toList]at e;lia
theorem Inv.tuple(I:Inv X MS σ H s)(h:gQ X.K H a xs):∃MW:List Value,Vals xs MW/\IsTup s.heap a MW.toArray/\xs.length<=sizeLine:=by
 rcases h with h|⟨o,MW,n,hk,hc,hs,hz,r⟩
 ·obtain⟨z,MW,r,p⟩:=h.ok I.M2
  exact⟨MW,r,p,z⟩
 ·refine⟨MW.toList,r,⟨o,I.kIn a o hk,hc,n,by simpa using hs⟩,?_⟩
  have e:=r.length;simp only[Array.length_toList]at e;lia
theorem Inv.list_inj(I:Inv X MS σ H s)(h:bQ X.K H a xs)(h':bQ X.K H a ys):xs=ys:=by
 obtain⟨MW,r,⟨o,n,e,_,_,d⟩,_⟩:=I.list h;obtain⟨its',r',⟨o',n',e',_,_,d'⟩,_⟩:=I.list h';rw[e]at e';cases e';rw[d]at d';injection d' with d1 _;have:MW=its':=by simpa using congrArg Array.toList d1
 subst this;exact r.inj r'
theorem Inv.tuple_inj(I:Inv X MS σ H s)(h:gQ X.K H a xs)(h':gQ X.K H a ys):xs=ys:=by
 obtain⟨MW,r,⟨o,e,_,n,d⟩,_⟩:=I.tuple h;obtain⟨its',r',⟨o',e',_,n',d'⟩,_⟩:=I.tuple h';rw[e]at e';cases e';rw[d]at d';injection d' with d1 _;have:MW=its':=by simpa using congrArg Array.toList d1
 subst this;exact r.inj r'
end
abbrev Cx.wish(X:Cx)(E:Value->Shared->Prop):Cx:={ X with xe:=E }
abbrev Cx.nox(X:Cx):Cx:=X.wish fun _ _=>False
theorem Cx.Ok.wish{X:Cx}(ok:X.Ok)(E:Value->Shared->Prop):(X.wish E).Ok :=
 ⟨ok.mod,ok.kind,ok.glob,ok.blt,ok.above,ok.inj,ok.has,ok.cab,ok.hd,ok.frames,ok.stk,ok.exf,ok.bs,ok.bsz,ok.noex,ok.exfs,ok.funs,ok.frf⟩
theorem Cx.Ok.unwish{X:Cx}{E:Value->Shared->Prop}(ok:(X.wish E).Ok):X.Ok :=
 ⟨ok.mod,ok.kind,ok.glob,ok.blt,ok.above,ok.inj,ok.has,ok.cab,ok.hd,ok.frames,ok.stk,ok.exf,ok.bs,ok.bsz,ok.noex,ok.exfs,ok.funs,ok.frf⟩
section
variable{X:Cx}{MS:List (Addr×Obj)}{σ:St}{H:Hp}{s:Shared}{E:Value->Shared->Prop}
theorem Inv.wish(I:Inv X MS σ H s)(E:Value->Shared->Prop):Inv (X.wish E) MS σ H s:=⟨I.ok.wish E,I.os,I.bare,I.base,I.loc,I.cell,I.free,I.freeC,I.pin,I.M2,I.len⟩
theorem Inv.unwish(I:Inv (X.wish E) MS σ H s):Inv X MS σ H s:=⟨I.ok.unwish,I.os,I.bare,I.base,I.loc,I.cell,I.free,I.freeC,I.pin,I.M2,I.len⟩
theorem SP.unwish{D:jp}{f:Flow}{s':Shared}(h:SP (X.wish E) MS D f s'):SP X MS D f s':=by
 cases f with
 |next=>obtain⟨σ',H',I,q⟩:=h;exact⟨σ',H',I.unwish,q⟩
 |brk=>obtain⟨σ',H',I,q⟩:=h;exact⟨σ',H',I.unwish,q⟩
 |cont=>obtain⟨σ',H',I,q⟩:=h;exact⟨σ',H',I.unwish,q⟩
 |ret u=>obtain⟨v,σ',H',I,r,q⟩:=h;exact⟨v,σ',H',I.unwish,r,q⟩
theorem PSs.nox{st:List Stmt}{t:TS}(h:PSs X.nox st t):PSs X st t:=fun MS s σ H D I hw =>
 yT (h MS s σ H D (I.wish _) hw) (fun _ _ q=>q.unwish) fun _ _ z=>False.elim z
end
section
variable{X:Cx}{st:Stmt}{rest:List Stmt}{t u:TS}{e:Expr}{te:TE}{pos:Pos}
noncomputable def GM:TS:=fun D σ H=>D.nx σ H
noncomputable def JH(t u:TS):TS:=fun D σ H=>t { D with nx:=u D } σ H
theorem Cv:PSs X [] GM:=fun _ _ σ H _ I h=>wpAny_execs_nil ⟨σ,H,I,h⟩
theorem ze(h1:PS X st t)(h2:PSs X rest u):PSs X (st::rest) (JH t u):=by
 intro MS s σ H D I h;refine wpAny_execs_cons (aD (h1 MS s σ H { D with nx:=u D } I h) fun f s1 q=>?_);cases f with
 |next =>
  obtain⟨σ',H',I',q⟩:=q;exact h2 MS s1 σ' H' D I' q
 |ret v=>exact q
 |brk=>exact q
 |cont=>exact q
theorem Inv.quiet{MS:List (Addr×Obj)}{σ:St}{H:Hp}{s:Shared}(I:Inv X MS σ H s):interactive X.env=false:=by simp[interactive,I.ok.kind]
noncomputable def GN(te:TE):TS:=fun D σ H=>te σ H fun _ H1=>D.nx σ H1
theorem Cy(he:PE X e te)(hs:swapsWith e none pos.line X.env=pure false:=by rfl):PS X (.Expr e pos) (GN te):=by
 intro MS s σ H D I h;exact wpAny_Expr_any (aD (he MS s σ H _ I h) fun v s1 ⟨x,H1,I1,r1,q1⟩=>⟨σ,H1,I1,q1⟩) I.quiet hs
noncomputable def JI(te:TE):TS:=fun D σ H=>te σ H D.rt
theorem EK(he:PE X e te):PS X (.Return (some e) pos) (JI te):=by
 intro MS s σ H D I h;exact wpAny_Return_some (aD (he MS s σ H _ I h) fun v s1 ⟨x,H1,I1,r1,q1⟩=>⟨x,σ,H1,I1,r1,q1⟩)
noncomputable def JM(c:TT)(t u:TS):TS:=fun D σ H=>c σ H fun b H1=>if b=true then t D σ H1 else u D σ H1
theorem Hc{c:Expr}{a b:List Stmt}{tc:TT}(hc:PT X c tc)(ha:PSs X a t)(hb:PSs X b u):PS X (.If c a b pos) (JM tc t u):=by
 intro MS s σ H D I h;refine wpAny_If (aD (hc MS s σ H _ I h) fun d s1 hq0=>?_);obtain⟨H1,I1,q1⟩:=hq0;cases d with
 |true=>exact ha MS s1 σ H1 D I1 q1
 |false=>exact hb MS s1 σ H1 D I1 q1
noncomputable def DJ:TS:=fun _ _ _=>False
theorem zg:PS X st DJ:=fun _ _ _ _ _ _ h=>h.elim
end
abbrev TG:=V->St->Hp->(St->Hp->Prop)->Prop
abbrev mf:=List V->St->Hp->(St->Hp->Prop)->Prop
def PG(X:Cx)(target:Expr)(t:TG):Prop :=
 ∀(MS:List (Addr×Obj))(s:Shared)(σ:St)(H:Hp)(v:V)(u:Value)(Q:St->Hp->Prop),Inv X MS σ H s->RelV v u->t v σ H Q ->
  wpAny (model X.prog X.w) X.A (assign target X.env u) (fun _ s'=>∃σ' H',Inv X MS σ' H' s'/\Q σ' H') X.xe s
def pV(X:Cx)(ts:List Expr)(t:mf):Prop :=
 ∀(MS:List (Addr×Obj))(s:Shared)(σ:St)(H:Hp)(vs:List V)(us:List Value)(Q:St->Hp->Prop),Inv X MS σ H s->Vals vs us->t vs σ H Q ->
  wpAny (model X.prog X.w) X.A (assignInOrder ((assignEach ts X.env).map (·.2)) us) (fun _ s'=>∃σ' H',Inv X MS σ' H' s'/\Q σ' H') X.xe s
abbrev sD:=V->V->V->Hp->(Hp->Prop)->Prop
def vN(X:Cx)(t:sD):Prop :=
 ∀(MS:List (Addr×Obj))(s:Shared)(σ:St)(H:Hp)(o i v:V)(ov iv u:Value)(Q:Hp->Prop),Inv X MS σ H s->RelV o ov->RelV i iv->RelV v u->t o i v H Q ->
  wpAny (model X.prog X.w) X.A (setItem ov iv u) (fun _ s'=>∃H',Inv X MS σ H' s'/\Q H') X.xe s
abbrev BD:=V->V->Hp->VK->Prop
def BG(X:Cx)(op:Operator)(t:BD):Prop :=
 ∀(MS:List (Addr×Obj))(s:Shared)(σ:St)(H:Hp)(x y:V)(v u:Value)(Q:VK),Inv X MS σ H s->RelV x v->RelV y u->t x y H Q ->
  wpAny (model X.prog X.w) X.A (inplaceOp op v u) (EP X MS σ Q) X.xe s
section
variable{X:Cx}{pos:Pos}
noncomputable def nO(i:Nat):TG:=fun v σ H Q=>Q (σ.set i (some v)) H
theorem CJ{i:Nat}{x:Str}(hN:X.N.Nodup)(hi:X.N[i]?=some x)(hx:Loc X.env.scope x)(hf:X.fn x=true\/X.env.scope.names.lookup x=some .local:=by first|exact .inl rfl|exact .inr rfl|assumption):PG X (.Name x pos) (nO i):=by
 intro MS s σ H v u Q I r h;exact wpAny_assign_Name (qw I hN hi hx r (fun s' I'=>⟨_,H,I',h⟩) hf)
noncomputable def Kl:mf:=fun vs σ H Q=>vs=[]/\Q σ H
noncomputable def HP(t:TG)(u:mf):mf:=fun vs σ H Q=>∃v r,vs=v::r/\t v σ H fun σ' H'=>u r σ' H' Q
theorem CH:pV X [] Kl:=by
 intro MS s σ H vs us Q I r h;obtain⟨e,h⟩:=h;subst e;cases r;exact assignInOrder_nil ⟨σ,H,I,h⟩
theorem zk{e:Expr}{es:List Expr}{t:TG}{u:mf}(h1:PG X e t)(h2:pV X es u)
  (hs:(assignEach (e::es) X.env).map (·.2)=assign e X.env::(assignEach es X.env).map (·.2):=by rfl):pV X (e::es) (HP t u):=by
 intro MS s σ H vs us Q I r h;obtain⟨v,vr,e1,h⟩:=h;subst e1;cases r with
 |cons r rr =>
  rw[hs];refine assignInOrder_cons (aD (h1 MS s σ H _ _ _ I r h) fun _ s1 hq0=>?_);obtain⟨σ1,H1,I1,q1⟩:=hq0;exact h2 MS s1 σ1 H1 _ _ Q I1 rr q1
noncomputable def Ki(K:Frag)(n:Nat)(t:mf):TG:=fun v σ H Q=>∃a xs,v=.ref a/\gQ K H a xs/\xs.length=n/\t xs σ H Q
theorem ER{es:List Expr}{k:Nat}{t:mf}{n:Nat}(hc:X.calm=true)(h:pV X es t)
  (hn:(assignEach es X.env).length=n:=by rfl) (hst:(assignEach es X.env).findIdx? (·.1)=none:=by rfl):PG X (.Tuple es k pos) (Ki X.K n t):=by
 intro MS s σ H v u Q I r hw;obtain⟨a,xs,e1,hq,hl,hw⟩:=hw;subst e1;cases r;obtain⟨MW,rv,ht,hz⟩:=I.tuple hq;refine assign_Tuple_tuple (I.ok.hd hc) ht (by simp[hn,<- hl,rv.length]) hst fun h' hx=>?_
 have I1:Inv X MS σ H { s with heap:=h' }:=I.kept (t':=s.toks) fun b o e=>hx b o (zU (yJ e)) e
 exact h MS _ σ H xs _ Q I1 (by simpa using rv) hw
noncomputable def Kk(to ti:TE)(t:sD):TG:=fun v σ H Q=>to σ H fun o H1=>ti σ H1 fun i H2=>t o i v H2 fun H3=>Q σ H3
theorem ES{o i:Expr}{to ti:TE}{t:sD}(ho:PE X o to)(hi:PE X i ti)(hs:vN X t)
  (ha:∀v,assign (.Subscript o i pos) X.env v=(do
   let ov <- holding [v] (eval o X.env)
   let iv <- holding [v,ov] (eval i X.env)
   standAt pos
   holding [v,ov,iv] (setItem ov iv v)
   release [v,ov,iv] []):=by intro _;rfl):PG X (.Subscript o i pos) (Kk to ti t):=by
 intro MS s σ H v u Q I r h;rw[ha];refine yF (yS (aD (ho MS s σ H _ I h) fun ov s1 hq0=>?_));obtain⟨x,H1,I1,r1,q1⟩:=hq0;refine yF (yS (aD (hi MS s1 σ H1 _ I1 q1) fun iv s2 hq0=>?_));obtain⟨y,H2,I2,r2,q2⟩:=hq0;refine yF (wpAny_standAt (yF (yS (aD (hs MS s2 σ H2 x y v ov iv u _ I2 r1 r2 r q2) fun _ s3 hq0=>?_))));obtain⟨H3,I3,q3⟩:=hq0;exact wpAny_release ⟨σ,H3,I3,q3⟩
noncomputable def uA(te:TE)(g:TG):TS:=fun D σ H=>te σ H fun x H1=>g x σ H1 D.nx
theorem EM{tg e:Expr}{te:TE}{g:TG}(he:PE X e te)(hg:PG X tg g)(hs:swapsWithSole [tg] e pos.line X.env=pure false:=by rfl)(hw:swappedStores [tg] e X.env=pure none:=by rfl)
  (h1:(assignEach [tg] X.env).map (·.2)=[assign tg X.env]:=by rfl):PS X (.Assign [tg] e pos) (uA te g):=by
 intro MS s σ H D I h;refine wpAny_Assign_stores (aD (he MS s σ H _ I h) fun v s1 hq0=>?_) hs hw;obtain⟨x,H1,I1,r1,q1⟩:=hq0;rw[h1];exact aD (hg MS s1 σ H1 x v _ I1 r1 q1) fun _ s2 q=>q
theorem EJ{i:Nat}{x:Str}{e:Expr}{te:TE}{pos':Pos}(hN:X.N.Nodup)(hi:X.N[i]?=some x)(hx:Loc X.env.scope x)(he:PE X e te)(hs:swapsWith e (some (.Name x pos')) pos.line X.env=pure false:=by rfl)(hf:X.fn x=true\/X.env.scope.names.lookup x=some .local:=by first|exact .inl rfl|exact .inr rfl|assumption) :
  PS X (.Assign [.Name x pos'] e pos) (uA te (nO i)):=by
 intro MS s σ H D I h;refine wpAny_Assign_Name (aD (he MS s σ H _ I h) fun v s1 hq0=>?_) hs;obtain⟨y,H1,I1,r1,q1⟩:=hq0;exact qw I1 hN hi hx r1 (fun s2 I2=>⟨_,H1,I2,q1⟩) hf
def GO(to ti te:TE)(tget:V->V->Hp->VK->Prop)(tip:BD)(tset:sD):TS:=fun D σ H=>to σ H fun o H1=>ti σ H1 fun i H2=>tget o i H2 fun x H3=>te σ H3 fun y H4=>tip x y H4 fun z H5=>tset o i z H5 fun H6=>D.nx σ H6
def AM(X:Cx)(t:V->V->Hp->VK->Prop):Prop :=
 ∀(MS:List (Addr×Obj))(s:Shared)(σ:St)(H:Hp)(o i:V)(ov iv:Value)(Q:VK),Inv X MS σ H s->RelV o ov->RelV i iv->t o i H Q ->
  wpAny (model X.prog X.w) X.A (getItem ov iv) (EP X MS σ Q) X.xe s
theorem Cz{o i e:Expr}{to ti te:TE}{tget:V->V->Hp->VK->Prop}{tip:BD}{tset:sD}{op:Operator}{tpos:Pos}(ho:PE X o to)(hi:PE X i ti)(hg:AM X tget)(he:PE X e te)(hp:BG X op tip)(hs:vN X tset)
  (ha:∀ov iv new,augStore i ov iv new=(do holding [new,ov,iv] (setItem ov iv new);release [new,ov,iv] [];pure .next):=by intros;rfl):PS X (.AugAssign (.Subscript o i tpos) op e pos) (GO to ti te tget tip tset):=by
 intro MS s σ H D I h;refine wpAny_AugAssign_SubscriptAny (aD (ho MS s σ H _ I h) fun ov s1 hq0=>?_) ha;obtain⟨x1,H1,I1,r1,q1⟩:=hq0;refine aD (hi MS s1 σ H1 _ I1 q1) fun iv s2 hq0=>?_
 obtain⟨x2,H2,I2,r2,q2⟩:=hq0;refine aD (hg MS s2 σ H2 x1 x2 ov iv _ I2 r1 r2 q2) fun old s3 hq0=>?_
 obtain⟨x3,H3,I3,r3,q3⟩:=hq0;refine aD (he MS s3 σ H3 _ I3 q3) fun v s4 hq0=>?_
 obtain⟨x4,H4,I4,r4,q4⟩:=hq0;refine aD (hp MS s4 σ H4 x3 x4 old v _ I4 r3 r4 q4) fun new s5 hq0=>?_
 obtain⟨x5,H5,I5,r5,q5⟩:=hq0;exact aD (hs MS s5 σ H5 x1 x2 x5 ov iv new _ I5 r1 r2 r5 q5) fun _ s6 ⟨H6,I6,q6⟩=>⟨σ,H6,I6,q6⟩
noncomputable def Ja(f:Int->Int->Int):BD:=fun x y H Q=>∃i j,x=.int i/\y=.int j/\Q (.int (f i j)) H
theorem FM:BG X .Add (Ja fun i j=>i+j):=by
 intro MS s σ H x y v u Q I r1 r2 h;obtain⟨i,j,e1,e2,q⟩:=h;subst e1;subst e2;obtain⟨t,rfl⟩:=r1;obtain⟨t',rfl⟩:=r2;exact iadd_int ⟨.int _,H,I.tok _,⟨_,rfl⟩,q⟩
theorem FK:BG X .Sub (Ja fun i j=>i-j):=by
 intro MS s σ H x y v u Q I r1 r2 h;obtain⟨i,j,e1,e2,q⟩:=h;subst e1;subst e2;obtain⟨t,rfl⟩:=r1;obtain⟨t',rfl⟩:=r2;exact isub_int ⟨.int _,H,I.tok _,⟨_,rfl⟩,q⟩
end
section
variable{X:Cx}{pos:Pos}
def DH(c:TT)(tb:TS):TS:=fun D σ H=>∃W:Nat->St->Hp->Prop,(∃m,W m σ H)/\∀m σ H,W m σ H ->
 c σ H fun b H1=>if b=true then ∃N:St->Hp->Prop,(∀σ' H',N σ' H'->∃m',m'<m/\W m' σ' H')/\tb { D with nx:=N,ct:=N,bk:=D.nx } σ H1 else D.nx σ H1
theorem zf{c:Expr}{body:List Stmt}{tc:TT}{tb:TS}(hp:PassesOwn (model X.prog X.w) X.A X.env X.xe)(hc:PT X c tc)(hb:PSs X body tb):PS X (.While c body [] pos) (DH tc tb):=by
 intro MS s σ H D I h;obtain⟨W,⟨m0,w0⟩,turn⟩:=h;refine wpAny_While (codeAny_whileLoop (fun n s'=>∃σ' H',Inv X MS σ' H' s'/\W n σ' H') ?_ m0 ⟨σ,H,I,w0⟩);rintro n s1 ⟨σ1,H1,I1,w1⟩;refine wpAny_passesOwn hp (aD (hc MS s1 σ1 H1 _ I1 (turn n σ1 H1 w1)) fun b s2 hq0=>?_);obtain⟨H2,I2,q2⟩:=hq0;cases b with
 |true =>
  obtain⟨N,hN,q2⟩:=q2;rw[yI rfl];refine wpAny_passesOwn hp (aD (hb MS s2 σ1 H2 _ I2 q2) fun f s3 q3=>?_);cases f with
  |next =>
   obtain⟨σ3,H3,I3,n3⟩:=q3;obtain⟨m',hm,w3⟩:=hN σ3 H3 n3;exact⟨m',hm,σ3,H3,I3,w3⟩
  |cont =>
   obtain⟨σ3,H3,I3,n3⟩:=q3;obtain⟨m',hm,w3⟩:=hN σ3 H3 n3;exact⟨m',hm,σ3,H3,I3,w3⟩
  |brk=>exact q3
  |ret v=>exact q3
 |false =>
  rw[yH Bool.false_ne_true];exact wpAny_execs_nil ⟨σ1,H2,I2,q2⟩
end
structure It where
 go:Nat->Hp->Prop
 yld:Nat->Hp->V->Hp->Prop
 stop:Nat->Hp->Prop
def dJ(X:Cx)(MS:List (Addr×Obj))(H:Hp)(b:Addr):Prop :=
 H b=none/\b≠X.env.locals/\b∉X.fs/\(b∈X.ex\/X.s₀.heap.objs.size<=b)/\(∀x c,X.env.cells.lookup x=some c->c≠b)/\∀p∈X.pn++MS,p.1≠b
theorem Inv.fpOk{X:Cx}{MS:List (Addr×Obj)}{σ:St}{H H':Hp}{s:Shared}{b:Addr}(I:Inv X MS σ H s)(hb:s.heap.objs.size<=b)(hn:H' b=none):dJ X MS H' b:=by
 refine⟨hn,Nat.ne_of_gt (zJ I.lt hb),I.nofs hb,.inr (z5 I.sz hb),fun x c e z=>?_,fun p hp z=>?_⟩
 ·obtain⟨v,q⟩:=I.cell x c e
  exact absurd (zJ q.lt (by rw[z];exact hb)) (xB _)
 ·exact absurd (zJ (yJ (I.pin p hp).1) (by rw[z];exact hb)) (xB _)
structure jZ(P:Program)(w:World)(K:Frag)(tg:Expr)(J:It)(fp:List Addr)(it:Addr)(tn:Nat->Heap->Prop):Prop where
 mem:it∈fp
 obj:∀i h,tn i h->∀b∈fp,∃o,h.get? b=some o/\∀v,o.data≠.cell v
 keep:∀i h h',tn i h->(∀b∈fp,∀o,h.get? b=some o->h'.get? b=some o)->tn i h'
 item:∀(X:Cx),X.prog=P->X.w=w->X.K=K->X.calm=true->∀(i:Nat)(MS:List (Addr×Obj))(s:Shared)(σ:St)(H:Hp)(E:Value->Shared->Prop),Inv X MS σ H s->(∀b∈fp,dJ X MS H b)->tn i s.heap->J.go i H ->
  wpAny (model P w) X.A (pyNext (.ref it)) (fun r s1=>∃u,r=some u /\
   wpAny (model P w) X.A (letOwnedTupleGo tg (.ref it) u) (fun _ s2=>∃x H',Inv X MS σ H' s2/\RelV x u/\J.yld i H x H'/\tn (i+1) s2.heap/\∀b∈fp,H' b=none) E s1) E s
 done:∀(X:Cx),X.prog=P->X.w=w->X.K=K->X.calm=true->∀(i:Nat)(MS:List (Addr×Obj))(s:Shared)(σ:St)(H:Hp)(E:Value->Shared->Prop),Inv X MS σ H s->(∀b∈fp,dJ X MS H b)->tn i s.heap->J.stop i H ->
  wpAny (model P w) X.A (pyNext (.ref it)) (fun r s1=>r=none/\Inv X MS σ H s1) E s
 self:∀(A:Around)(i:Nat)(s:Shared)(Q:Value->Shared->Prop)(E:Value->Shared->Prop),tn i s.heap->Q (.ref it) s->wpAny (model P w) A (pyIter (.ref it)) Q E s
abbrev TI:=St->Hp->(It->Hp->Prop)->Prop
def Gu(X:Cx)(MS:List (Addr×Obj))(σ:St)(tg:Expr)(R:It->Hp->Prop)(itv:Value)(s2:Shared):Prop :=
 ∃(it:Addr)(fp:List Addr)(tn:Nat->Heap->Prop)(J:It)(H':Hp),itv=.ref it/\Inv X MS σ H' s2/\jZ X.prog X.w X.K tg J fp it tn/\tn 0 s2.heap/\(∀b∈fp,dJ X MS H' b)/\R J H'
def PI(X:Cx)(tg iter:Expr)(wi:TI):Prop :=
 ∀(MS:List (Addr×Obj))(s:Shared)(σ:St)(H:Hp)(R:It->Hp->Prop),Inv X MS σ H s->wi σ H R ->
  wpAny (model X.prog X.w) X.A (eval iter X.env) (fun v s1=>wpAny (model X.prog X.w) X.A (pyIter v) (Gu X MS σ tg R) X.xe s1) X.xe s
theorem nM{M:Model}{A:Around}{E:Value->Shared->Prop}{s:Shared}{tg:Expr}{it:Addr}{u:Value}{o:Obj}{n:String}{vs:Array Value}{Q:Unit->Shared->Prop}(ho:s.heap.get? it=some o)(hc:o.cls=.type n)(hd:o.data=.fields vs)
  (hn:["enumerate","zip","dict_itemiterator","dict_reverseitemiterator","odict_iterator","itertools.zip_longest","itertools.pairwise"].contains n=false) (hQ:Q () s):wpAny M A (letOwnedTupleGo tg (.ref it) u) Q E s:=by
 unfold letOwnedTupleGo;cases tg<;>first
  |exact yG hQ
  | (cases u <;> first
    |exact yG hQ
    | (refine yF (wpAny_load ho ?_)
       rw[hc,hd];show wpAny M A (if(["enumerate","zip","dict_itemiterator","dict_reverseitemiterator","odict_iterator","itertools.zip_longest","itertools.pairwise"].contains n&&vs[0]?==some (rawInt _))=true then _ else _) Q E s;rw[yH (by intro h;rw[hn,Bool.false_and]at h;cases h)];exact yG hQ))
noncomputable def BK(K:Frag)(a:Addr):It :=
 ⟨fun i H=>∃xs x,bQ K H a xs/\xs[i]?=some x,fun i H x H'=>H'=H/\∀xs,bQ K H a xs->xs[i]?=some x,fun i H=>∃xs,bQ K H a xs/\xs.length<=i⟩
noncomputable def BI(K:Frag)(a:Addr):It :=
 ⟨fun i H=>∃xs x,gQ K H a xs/\xs[i]?=some x,fun i H x H'=>H'=H/\∀xs,gQ K H a xs->xs[i]?=some x,fun i H=>∃xs,gQ K H a xs/\xs.length<=i⟩
noncomputable def xW(lo:Int)(n:Nat):It:=⟨fun i _=>i<n,fun i H x H'=>H'=H/\x=.int (lo+i),fun i _=>n<=i⟩
theorem vU{P:Program}{w:World}{K:Frag}{tg:Expr}(a it:Addr):jZ P w K tg (BK K a) [it] it (fun i h=>h.IsListIter it a i) where
 mem:=by simp
 obj:=fun i h st b hb=>by
  have e:b=it:=by simpa using hb
  subst e;obtain⟨o,e,c,d⟩:=st;exact⟨o,e,fun v z=>by rw[d]at z;cases z⟩
 keep:=fun i h h' st k=>st.at fun o e=>k it (by simp) o e
 item:=by
  intro X hP hw hK hc i MS s σ H E I hf st hg;subst hP hw hK;obtain⟨xs,x,hq,hx⟩:=hg;obtain⟨MW,rv,p,hz⟩:=I.list hq;obtain⟨u,hu,ru⟩:=rv.get hx;obtain⟨f0,f1,f2,f3,f4,f5⟩:=hf it (by simp);refine wpAny_pyNext_list_item st p.isList (x:=u) (by simpa using hu) fun h' st' sb=>?_
  have I1:Inv X MS σ H { s with heap:=h' }:=I.turned (t':=s.toks) (fun b o hb e=>(sb.2 b hb).trans e) f0 f1 f3 f4 f5;obtain⟨o,e,c,d⟩:=id st';exact⟨u,rfl,nM (s:={ s with heap:=h' }) e c d dC ⟨x,H,I1,ru,⟨rfl,fun ys hy=>by rw[I.list_inj hy hq];exact hx⟩,st',fun b hb=>(hf b hb).1⟩⟩
 done:=by
  intro X hP hw hK hc i MS s σ H E I hf st hg;subst hP hw hK;obtain⟨xs,hq,hx⟩:=hg;obtain⟨MW,rv,p,hz⟩:=I.list hq;obtain⟨f0,f1,f2,f3,f4,f5⟩:=hf it (by simp);have hl:=rv.length;exact wpAny_pyNext_list_end (I.ok.hd hc) st p.isList (by simp;lia) fun h' eb=>⟨rfl,I.turned (t':=s.toks) (fun b o hb e=>eb b o hb e) f0 f1 f3 f4 f5⟩
 self:=fun _ _ _ _ _ st h=>wpAny_pyIter_listiter st h
theorem ul{P:Program}{w:World}{K:Frag}{tg:Expr}(a it:Addr):jZ P w K tg (BI K a) [it] it (fun i h=>h.IsTupleIter it a i) where
 mem:=by simp
 obj:=fun i h st b hb=>by
  have e:b=it:=by simpa using hb
  subst e;obtain⟨o,e,c,d⟩:=st;exact⟨o,e,fun v z=>by rw[d]at z;cases z⟩
 keep:=fun i h h' st k=>st.at fun o e=>k it (by simp) o e
 item:=by
  intro X hP hw hK hc i MS s σ H E I hf st hg;subst hP hw hK;obtain ⟨xs,x,hq,hx⟩:=hg;obtain ⟨MW,rv,p,hz⟩:=I.tuple hq;obtain ⟨u,hu,ru⟩:=rv.get hx;obtain ⟨f0,f1,f2,f3,f4,f5⟩:=hf it (by simp);refine wpAny_pyNext_tuple_item st (show s.heap.IsTuple a MW.toArray from p) (x:=u) (by simpa using hu) fun h' st' sb=>?_
  have I1:Inv X MS σ H { s with heap:=h' }:=I.turned (t':=s.toks) (fun b o hb e=>(sb.2 b hb).trans e) f0 f1 f3 f4 f5;obtain⟨o,e,c,d⟩:=id st';exact⟨u,rfl,nM (s:={ s with heap:=h' }) e c d dC ⟨x,H,I1,ru,⟨rfl,fun ys hy=>by rw[I.tuple_inj hy hq];exact hx⟩,st',fun b hb=>(hf b hb).1⟩⟩
 done:=by
  intro X hP hw hK hc i MS s σ H E I hf st hg;subst hP hw hK;obtain ⟨xs,hq,hx⟩:=hg;obtain ⟨MW,rv,p,hz⟩:=I.tuple hq;obtain ⟨f0,f1,f2,f3,f4,f5⟩:=hf it (by simp);have hl:=rv.length;exact wpAny_pyNext_tuple_end (I.ok.hd hc) st (show s.heap.IsTuple a MW.toArray from p) (by simp;lia) fun h' eb=>⟨rfl,I.turned (t':=s.toks) (fun b o hb e=>eb b o hb e) f0 f1 f3 f4 f5⟩
 self:=fun _ _ _ _ _ st h=>wpAny_pyIter_tupleiter st h
theorem um{P:Program}{w:World}{K:Frag}{tg:Expr}(it:Addr)(lo:Int)(n:Nat):jZ P w K tg (xW lo n) [it] it (fun i h=>IsRangeIter h it (lo+(i:Nat)*1) ((n:Int)-(i:Nat)) 1) where
 mem:=by simp
 obj:=fun i h st b hb=>by
  have e:b=it:=by simpa using hb
  subst e;exact⟨_,st,fun v z=>by
   have z':Data.fields _=Data.cell v:=z;cases z'⟩
 keep:=fun i h h' st k=>k it (by simp) _ st
 item:=by
  intro X hP hw hK hc i MS s σ H E I hf st hg;subst hP hw hK;obtain⟨f0,f1,f2,f3,f4,f5⟩:=hf it (by simp);have W:=Walks.range (prog:=X.prog) (w:=X.w) (I.ok.hd hc) it lo 1 n;refine W.item i s _ _ hg st fun v h' tk hv st' kk=>?_
  obtain⟨t,rfl⟩:=hv;have I1:Inv X MS σ H { s with heap:=h',toks:=tk }:=I.turned (fun b o hb e=>kk b o (by simpa using hb) e) f0 f1 f3 f4 f5;refine⟨_,rfl,nM (s:={ s with heap:=h',toks:=tk }) (n:="range_iterator") st' rfl rfl dC ⟨.int (lo+i),H,I1,⟨t,?_⟩,⟨rfl,rfl⟩,st',fun b hb=>(hf b hb).1⟩⟩;rw[Int.mul_one]
 done:=by
  intro X hP hw hK hc i MS s σ H E I hf st hg;subst hP hw hK;obtain⟨f0,f1,f2,f3,f4,f5⟩:=hf it (by simp);exact wpAny_pyNext_range_end (I.ok.hd hc) st (by have:n<=i:=hg;lia) fun h' eb=>⟨rfl,I.turned (t':=s.toks) (fun b o hb e=>eb b o hb e) f0 f1 f3 f4 f5⟩
 self:=fun _ _ _ _ _ st h=>wpAny_pyIter_rangeiter st h
section
variable{X:Cx}{tg:Expr}
theorem qC{MS:List (Addr×Obj)}{σ:St}{H:Hp}{s:Shared}{R:It->Hp->Prop}{E:Value->Shared->Prop}{lo hi:Int}{t u v:Tok}{tk:Nat}(I:Inv X MS σ H s)(h1:-(2^62)<=lo)(h2:lo<2^62)(h3:-(2^62)<=hi)(h4:hi<2^62)
  (q:R (xW lo (hi-lo).toNat) H):wpAny (model X.prog X.w) X.A (pyIter (.ref s.heap.objs.size)) (Gu X MS σ tg R) E { s with heap:=s.heap.push { cls:=.type "range",data:=.fields #[.int lo t,.int hi u,.int 1 v] },toks:=tk }:=by
 refine wpAny_pyIter_range (IsRange.new ..) (small_one h1 h2 h3 h4) ?_;have I1:Inv X MS σ H { s with heap:=s.heap.push { cls:=.type "range",data:=.fields #[.int lo t,.int hi u,.int 1 v] },toks:=tk }:=I.kept fun b o e=>zG _ e
 refine⟨(s.heap.push { cls:=.type "range",data:=.fields #[.int lo t,.int hi u,.int 1 v] }).objs.size,[(s.heap.push { cls:=.type "range",data:=.fields #[.int lo t,.int hi u,.int 1 v] }).objs.size],_,_,H,rfl,
  I1.kept (t':=tk) fun b o e=>zG _ e,um _ lo (hi-lo).toNat,?_,fun b hb=>?_,q⟩
 ·have e1:lo+((0:Nat):Int)*1=lo:=by simp
  have e2:(((hi-lo).toNat:Nat):Int)-((0:Nat):Int)=Builtin.Range.rangeSize lo hi 1:=by rw[rangeSize_one];split<;>lia
  show IsRangeIter _ _ (lo+((0:Nat):Int)*1) ((((hi-lo).toNat:Nat):Int)-((0:Nat):Int)) 1;rw[e1,e2];exact zY _ rfl
 ·have e:b=(s.heap.push { cls:=.type "range",data:=.fields #[.int lo t,.int hi u,.int 1 v] }).objs.size:=by simpa using hb
  subst e;exact I1.fpOk (zP _) (I1.M2.fresh (zP _))
def HH(ta:TA):TI:=fun σ H R=>ta σ H fun vs H1=>∃j:Int,vs=[.int j]/\-(2^62)<=j/\j<2^62/\R (xW 0 j.toNat) H1
def HG(ta:TA):TI:=fun σ H R=>ta σ H fun vs H1=>∃i j:Int,vs=[.int i,.int j]/\(-(2^62)<=i/\i<2^62/\-(2^62)<=j/\j<2^62)/\R (xW i (j-i).toNat) H1
theorem wD{a:Expr}{ta:TA}{p pos:Pos}(hg:Gl X "range")(hm:X.mg "range"=none)(ha:PA X [a] ta)(hs:starEach [a] X.env=[(false,eval a X.env)]:=by rfl):PI X tg (.Call (.Name "range" p) [a] [] pos) (HH ta):=by
 intro MS s σ H R I h;refine Call_ (dD I hg hm boot_range (PyProof.Rows.callWith_type1 (aD (ha pos MS s σ H _ I h) fun us s1 hq0=>?_) hs rfl));obtain⟨vs,H1,I1,r1,q1⟩:=hq0;obtain⟨j,e,q1,q2,q⟩:=q1;subst e;cases r1 with
 |cons r rr =>
  cases rr;obtain⟨t,rfl⟩:=r;exact call_range_1 (qC I1 oM oM q1 q2 (by simpa using q))
theorem wC{a b:Expr}{ta:TA}{p pos:Pos}(hg:Gl X "range")(hm:X.mg "range"=none)(ha:PA X [a,b] ta)(hs:starEach [a,b] X.env=[(false,eval a X.env),(false,eval b X.env)]:=by rfl)(hs2:starEach [b] X.env=[(false,eval b X.env)]:=by rfl) :
  PI X tg (.Call (.Name "range" p) [a,b] [] pos) (HG ta):=by
 intro MS s σ H R I h;refine Call_ (dD I hg hm boot_range (PyProof.Rows.callWith_type1 (aD (ha pos MS s σ H _ I h) fun us s1 ⟨vs,H1,I1,r1,q1⟩=>?_) (by rw[hs,hs2]) (by rw[hs2];rfl)));obtain⟨i,j,e,⟨q1,q2,q3,q4⟩,q⟩:=q1;subst e;cases r1 with
 |cons r rr =>
  cases rr with
  |cons r' rr =>
   cases rr;obtain⟨t,rfl⟩:=r;obtain⟨t',rfl⟩:=r';exact call_range_2 (qC I1 q1 q2 q3 q4 q)
def JN(wi:TI)(g:TG)(tb:TS):TS:=fun D σ H=>wi σ H fun J H1=>∃W:Nat->Nat->St->Hp->Prop,(∃m,W 0 m σ H1)/\∀i m σ H,W i m σ H ->
 (J.stop i H/\D.nx σ H)\/(J.go i H/\∃N:St->Hp->Prop,(∀σ' H',N σ' H'->∃m',m'<m/\W (i+1) m' σ' H')/\∀x H',J.yld i H x H'->g x σ H' fun σ2 H2=>tb { D with nx:=N,ct:=N,bk:=D.nx } σ2 H2)
noncomputable def fT(fp:List Addr)(h:Heap):List (Addr×Obj):=fp.filterMap fun b=>(h.get? b).map fun o=>(b,o)
theorem c9{fp:List Addr}{h:Heap}{b:Addr}{o:Obj}(hb:b∈fp)(e:h.get? b=some o):(b,o)∈fT fp h:=List.mem_filterMap.mpr ⟨b,hb,by rw[e];rfl⟩
theorem wI{fp:List Addr}{h:Heap}{p:Addr×Obj}(hp:p∈fT fp h):p.1∈fp/\h.get? p.1=some p.2:=by
 obtain⟨b,hb,e⟩:=List.mem_filterMap.mp hp;cases q:h.get? b with
 |none=>rw[q]at e;cases e
 |some o =>
  rw[q]at e;have e':(b,o)=p:=yE e;subst e';exact⟨hb,q⟩
theorem Inv.pinned{MS:List (Addr×Obj)}{σ:St}{H:Hp}{s:Shared}{fp:List Addr}(I:Inv X MS σ H s)(hf:∀b∈fp,dJ X MS H b)(ho:∀b∈fp,∃o,s.heap.get? b=some o/\∀v,o.data≠.cell v):Inv X (MS++fT fp s.heap) σ H s :=
 I.pins_of fun p hp=>(zZ.mp hp).elim (fun z=>I.pin p (zK _ z)) fun z=>by
  obtain⟨hb,e⟩:=wI z;obtain⟨f0,f1,f2,_⟩:=hf p.1 hb;obtain⟨o,e',d⟩:=ho p.1 hb;rw[e]at e';cases e';exact⟨e,f0,f1,f2,d⟩
theorem Inv.unpinned{MS pl:List (Addr×Obj)}{σ:St}{H:Hp}{s:Shared}(I:Inv X (MS++pl) σ H s):Inv X MS σ H s:=I.pins_of fun p hp=>I.pin p (zK _ (zL _ hp))
theorem wy{iter:Expr}{body:List Stmt}{wi:TI}{g:TG}{tb:TS}{pos:Pos}(hp:PassesOwn (model X.prog X.w) X.A X.env X.xe)(hc:X.calm=true)(hi:PI X tg iter wi)(hg:PG X tg g)(hb:PSs X body tb)
  (hs:∀x,foldedSetIterable iter X.env x=pure x:=by intro _;rfl):PS X (.For tg iter body [] pos) (JN wi g tb):=by
 intro MS s σ H D I h;refine wpAny_For (aD (hi MS s σ H _ I h) fun v s1 h1=>aD h1 fun itv s2 h2=>?_) hs;obtain⟨it,fp,tn,J,H2,e,I2,T,st2,f2,W,⟨m0,w0⟩,turn⟩:=h2;subst e
 -- what stays true of the iterator's objects through the loop
 have stat:∀{H':Hp},(∀b∈fp,H' b=none)->∀b∈fp,dJ X MS H' b:=fun hn b hb=>⟨hn b hb,(f2 b hb).2⟩
 refine codeAny_forLoop_any (fun n s'=>∃i σ' H',Inv X MS σ' H' s'/\tn i s'.heap/\(∀b∈fp,H' b=none)/\W i n σ' H') ?_ m0 ⟨0,σ,H2,I2,st2,fun b hb=>(f2 b hb).1,w0⟩;rintro n s3 ⟨i,σ3,H3,I3,st3,fr3,w3⟩;rcases turn i n σ3 H3 w3 with⟨stop,qn⟩|⟨go,N,hN,step⟩
 ·refine wpAny_passesOwn hp (aD (T.done X rfl rfl rfl hc i MS s3 σ3 H3 X.xe I3 (stat fr3) st3 stop) fun r s4 hq0=>?_)
  obtain⟨hr,I4⟩:=hq0;subst hr;exact wpAny_execs_nil ⟨σ3,H3,I4,qn⟩
 ·refine wpAny_passesOwn hp (aD (T.item X rfl rfl rfl hc i MS s3 σ3 H3 X.xe I3 (stat fr3) st3 go) fun r s4 hq0=>?_)
  obtain⟨u,hr,h4⟩:=hq0;subst hr;refine wpAny_passesOwn hp (aD h4 fun _ s5 hq0=>?_);obtain⟨x,H5,I5,r5,y5,st5,fr5⟩:=hq0;have I5':=I5.pinned (stat fr5) (T.obj _ _ st5);refine wpAny_passesOwn hp (aD (hg _ s5 σ3 H5 x u _ I5' r5 (step x H5 y5)) fun _ s6 hq0=>?_);obtain⟨σ6,H6,I6,q6⟩:=hq0;refine wpAny_passesOwn hp (aD (hb _ s6 σ6 H6 _ I6 q6) fun f s7 q7=>?_);have again:∀{σ7:St}{H7:Hp},Inv X (MS++fT fp s5.heap) σ7 H7 s7->N σ7 H7->∃m,m<n/\∃i σ' H',Inv X MS σ' H' s7/\tn i s7.heap/\(∀b∈fp,H' b=none)/\W i m σ' H':=fun {σ7 H7} I7 n7=>by
   obtain⟨m',hm,w7⟩:=hN σ7 H7 n7;refine⟨m',hm,i+1,σ7,H7,I7.unpinned,T.keep _ _ _ st5 fun b hb o e=>(I7.pin (b,o) (zK _ (zK _ (c9 hb e)))).1,fun b hb=>?_,w7⟩;obtain⟨o,e,d⟩:=T.obj _ _ st5 b hb;exact(I7.pin (b,o) (zK _ (zK _ (c9 hb e)))).2.1
  cases f with
  |next=>obtain⟨σ7,H7,I7,n7⟩:=q7;exact again I7 n7
  |cont=>obtain⟨σ7,H7,I7,n7⟩:=q7;exact again I7 n7
  |brk=>obtain⟨σ7,H7,I7,q7⟩:=q7;exact⟨σ7,H7,I7.unpinned,q7⟩
  |ret v=>obtain⟨x7,σ7,H7,I7,r7,q7⟩:=q7;exact⟨x7,σ7,H7,I7.unpinned,r7,q7⟩
end
abbrev R2:=V->V->Hp->VK->Prop
def kO(X:Cx)(f:Value->Value->Sem Value)(r:R2):Prop :=
 ∀(MS:List (Addr×Obj))(s:Shared)(σ:St)(H:Hp)(x y:V)(v u:Value)(Q:VK),Inv X MS σ H s->RelV x v->RelV y u->r x y H Q ->
  wpAny (model X.prog X.w) X.A (f v u) (EP X MS σ Q) X.xe s
def xR(X:Cx)(f:Value->Sem Value)(r:V->Hp->VK->Prop):Prop :=
 ∀(MS:List (Addr×Obj))(s:Shared)(σ:St)(H:Hp)(x:V)(v:Value)(Q:VK),Inv X MS σ H s->RelV x v->r x H Q ->
  wpAny (model X.prog X.w) X.A (f v) (EP X MS σ Q) X.xe s
def cQ(X:Cx)(f:Value)(r:List V->Hp->VK->Prop):Prop :=
 ∀(MS:List (Addr×Obj))(s:Shared)(σ:St)(H:Hp)(xs:List V)(us:List Value)(Q:VK),Inv X MS σ H s->Vals xs us->r xs H Q ->
  wpAny (model X.prog X.w) X.A (call f us) (EP X MS σ Q) X.xe s
def Ky(X:Cx)(r:V->Hp->(Bool->Hp->Prop)->Prop):Prop :=
 ∀(MS:List (Addr×Obj))(s:Shared)(σ:St)(H:Hp)(x:V)(v:Value)(Q:Bool->Hp->Prop),Inv X MS σ H s->RelV x v->r x H Q ->
  wpAny (model X.prog X.w) X.A (truthy v) (TP X MS σ Q) X.xe s
noncomputable def we(r:R2)(ta tb:TE):TE:=fun σ H Q=>ta σ H fun x H1=>tb σ H1 fun y H2=>r x y H2 Q
def ID(r:V->Hp->VK->Prop)(ta:TE):TE:=fun σ H Q=>ta σ H fun x H1=>r x H1 Q
def rU(g:Int->V):V->Hp->VK->Prop:=fun x H Q=>∃i,x=.int i/\Q (g i) H
section
variable{X:Cx}{a b c:Expr}{ta tb tc:TE}{pos:Pos}
theorem AG(ha:PE X a ta)(hb:PE X b tb){MS:List (Addr×Obj)}{s:Shared}{σ:St}{H:Hp}{R:V->V->Hp->Prop}(I:Inv X MS σ H s)
  (h:ta σ H fun x H1=>tb σ H1 fun y H2=>R x y H2) {Q:Value->Shared->Prop}{f:Value->Value->Sem Value}
  (hf:∀v u s2 x y H2,Inv X MS σ H2 s2->RelV x v->RelV y u->R x y H2->wpAny (model X.prog X.w) X.A (f v u) Q X.xe s2) :
  wpAny (model X.prog X.w) X.A (eval a X.env) (fun v s₁=>wpAny (model X.prog X.w) X.A (eval b X.env) (fun u s₂=>wpAny (model X.prog X.w) X.A (f v u) Q X.xe s₂) X.xe s₁) X.xe s:=by
 refine aD (ha MS s σ H _ I h) fun v s1 hq0=>?_
 obtain⟨x,H1,I1,r1,q1⟩:=hq0;refine aD (hb MS s1 σ H1 _ I1 q1) fun u s2 hq0=>?_
 obtain⟨y,H2,I2,r2,q2⟩:=hq0;exact hf v u s2 x y H2 I2 r1 r2 q2
theorem u5{op:Operator}{r:R2}(ho:kO X (binaryOp op) r)(ha:PE X a ta)(hb:PE X b tb):PE X (.BinOp a op b pos) (we r ta tb):=by
 intro MS s σ H Q I h;exact wpAny_BinOp (AG ha hb I h fun v u s2 x y H2 I2 rx ry q=>ho MS s2 σ H2 x y v u Q I2 rx ry q)
theorem Hi{op:UnaryOp}{r:V->Hp->VK->Prop}(ho:xR X (unaryOp op) r)(ha:PE X a ta):PE X (.UnaryOp op a pos) (ID r ta):=by
 intro MS s σ H Q I h;exact UnaryOp_ (aD (ha MS s σ H _ I h) fun v s1 ⟨x,H1,I1,r1,q1⟩=>ho MS s1 σ H1 x v Q I1 r1 q1)
def KA(i j:Int):Prop:=0<=j/\j<=1000000/\i.natAbs<2^64
theorem uk(k:Nat):(0:Int)<=2^k:=by
 rw[two_pow_cast];exact Int.natCast_nonneg _
theorem IC{f:Value->Sem Value}{g:Int->Int}
  (rule:∀(i:Int)(t:Tok)(s:Shared)(Q:Value->Shared->Prop)(E:Value->Shared->Prop),Q (.int (g i) s.toks) { s with toks:=s.toks+1 }->wpAny (model X.prog X.w) X.A (f (.int i t)) Q E s) :
  xR X f (rU fun i=>.int (g i)):=by
 intro MS s σ H x v Q I rx h;obtain⟨i,rfl,q⟩:=h;obtain⟨t,rfl⟩:=rx;exact rule i t s _ _ ⟨.int (g i),H,I.tok _,⟨_,rfl⟩,q⟩
theorem Dq:xR X (unaryOp .USub) (rU fun i=>.int (-i)):=IC fun _ _ _ _ _ q=>neg_int q
theorem Dr:xR X (unaryOp .Invert) (rU fun i=>.int (Builtin.bitNot i)):=IC fun _ _ _ _ _ q=>invert_int q
end
section
variable{X:Cx}{a b c:Expr}{ta tb tc:TE}{pos:Pos}
theorem CN{op:CmpOp}{r:R2}(ho:kO X (compareOp op) r)(ha:PE X a ta)(hb:PE X b tb)(hm:behindInMarks op b=false):PE X (.Compare a [op] [b] pos) (we r ta tb):=by
 intro MS s σ H Q I h;exact wpAny_Compare1 (AG ha hb I h fun v u s2 x y H2 I2 rx ry q=>ho MS s2 σ H2 x y v u Q I2 rx ry q) hm
noncomputable def GJ(t:TE):TT:=fun σ H Q=>t σ H fun x H'=>∃k,x=.bl k/\Q k H'
theorem Cu{op:CmpOp}{r:R2}(ho:kO X (compareOp op) r)(ha:PE X a ta)(hb:PE X b tb)(hm:behindInMarks op b=false):PT X (.Compare a [op] [b] pos) (GJ (we r ta tb)):=by
 intro MS s σ H Q I h;refine wpAny_isTrue_Compare1 (aD (ha MS s σ H _ I h) fun v s1 ⟨x,H1,I1,r1,q1⟩=>aD (hb MS s1 σ H1 _ I1 q1) fun u s2 ⟨y,H2,I2,r2,q2⟩ =>
  aD (ho MS s2 σ H2 x y v u _ I2 r1 r2 q2) fun c s3 ⟨z,H3,I3,r3,k,e,q3⟩=>?_) hm
 subst e;cases r3;exact wpAny_truthy_bool ⟨H3,I3,q3⟩
def AK(K:Frag)(x:V)(H:Hp)(k:Bool):Prop :=
 match x with
 |.non=>k=false
 |.bl b=>k=b
 |.int i=>k=(i !=0)
 |.str y=>y.length<=sizeLine/\k=((y.length:Int) !=0)
 |.byt y=>y.size<=sizeLine/\k=((y.size:Int) !=0)
 |.ref p=>(∃xs,bQ K H p xs/\k=!xs.isEmpty)\/(∃xs,gQ K H p xs/\k=!xs.isEmpty)\/∃MU,H p=some (.dK MU)/\k=!MU.isEmpty
 |_=>False
theorem vy{κ:Type}{MU:List (κ×V)}{vs:List (κ×Value)}(r:KV MU vs):(!vs.isEmpty)=!MU.isEmpty:=by
 cases r<;>rfl
theorem nA{xs:List V}{MW:List Value}(r:Vals xs MW):(!MW.toArray.isEmpty)=!xs.isEmpty:=by
 cases r<;>simp
theorem gG:(sizeLine:Nat)<2^63:=by rw[sizeLine_eq];decide
theorem Dt:Ky X (fun x H Q=>∃k,AK X.K x H k/\Q k H):=by
 intro MS s σ H x v Q I rx h;obtain⟨k,e,q⟩:=h;have hl:=gG;have hs:sizeLine=16777216:=sizeLine_eq;cases x with
 |non =>
  cases rx;have e':k=false:=e;subst e';exact truthy_none ⟨H,I,q⟩
 |bl b =>
  cases rx;have e':k=b:=e;subst e';exact wpAny_truthy_bool ⟨H,I,q⟩
 |int i =>
  obtain⟨t,rfl⟩:=rx;have e':k=(i !=0):=e;subst e';exact PySem.P.truthy_int ⟨H,I,q⟩
 |str y =>
  obtain⟨t,rfl⟩:=rx;obtain⟨hy,e'⟩:y.length<=sizeLine/\k=((y.length:Int) !=0):=e;subst e';exact PySem.P.truthy_str oM ⟨H,I.tok _,q⟩
 |byt y =>
  obtain⟨t,rfl⟩:=rx;obtain⟨hy,e'⟩:y.size<=sizeLine/\k=((y.size:Int) !=0):=e;subst e';exact truthy_bytes oM ⟨H,I.tok _,q⟩
 |ref p =>
  cases rx;have e':(∃xs,bQ X.K H p xs/\k=!xs.isEmpty)\/(∃xs,gQ X.K H p xs/\k=!xs.isEmpty)\/∃MU,H p=some (.dK MU)/\k=!MU.isEmpty:=e;rcases e' with⟨xs,hx,e'⟩|⟨xs,hx,e'⟩|⟨MU,hx,e'⟩
  ·subst e'
   obtain⟨MW,r,pl,hz⟩:=I.list hx;have hlen:=r.length;exact wpAny_truthy_list pl.isList (by simp only[zI];lia) ⟨H,I.tok _,by rw[nA r];exact q⟩
  ·subst e'
   obtain⟨MW,r,pl,hz⟩:=I.tuple hx;have hlen:=r.length;exact truthy_tuple pl (by simp only[zI];lia) ⟨H,I.tok _,by rw[nA r];exact q⟩
  ·subst e'
   obtain⟨hz,hS,vs,r,m⟩:MU.length<=sizeLine/\(p==sysModules)=false/\∃vs,KV MU vs/\s.heap.DictOf (cb X.prog X.w) p vs:=I.M2 p _ hx;have hlen:MU.length=vs.length:=Paired.length r;exact wpAny_truthy_dict hS m oM ⟨H,I.tok _,by rw[vy r];exact q⟩
 | _=>exact (show False from e).elim
theorem zd(ha:PE X a ta)(he:∀whole,isTrue a X.env whole=(do let v <- whole;standAt a.pos;holding [v] (truthy v))) :
  PT X a (fun σ H Q=>ta σ H fun x H'=>∃k,AK X.K x H' k/\Q k H'):=by
 intro MS s σ H Q I h;exact isTrue_plain (aD (ha MS s σ H _ I h) fun v s1 ⟨x,H1,I1,r1,q1⟩=>Dt MS s1 σ H1 x v Q I1 r1 q1) (he _)
theorem u7:kO X (binaryOp .Add) (fun x y H Q=>∃i j,x=.str i/\y=.str j/\i.length+j.length<=sizeLine/\Q (.str (i++j)) H):=by
 intro MS s σ H x y v u Q I rx ry h;obtain⟨i,j,rfl,rfl,hz,q⟩:=h;obtain⟨t,rfl⟩:=rx;obtain⟨t',rfl⟩:=ry;exact add_str (fun t' tk=>⟨.str (i++j),H,I.tok _,⟨_,rfl⟩,q⟩) hz
theorem eI{x:V}{us:List Value}(r:Vals [x] us):∃u,us=[u]/\RelV x u:=by
 cases r with
 |cons r1 r2=>cases r2;exact⟨_,rfl,r1⟩
theorem AR{x y:V}{us:List Value}(r:Vals [x,y] us):∃u w',us=[u,w']/\RelV x u/\RelV y w':=by
 cases r with
 |cons r1 r2 =>
  cases r2 with
  |cons r3 r4=>cases r4;exact⟨_,_,rfl,r1,r3⟩
theorem AE:cQ X (.builtin "abs") (fun xs H Q=>∃i,xs=[.int i]/\Q (.int (if i<0 then -i else i)) H):=by
 intro MS s σ H xs us Q I r h;obtain⟨i,rfl,q⟩:=h;obtain⟨u,rfl,t,rfl⟩:=eI r;exact call_abs_int fun u tk=>⟨.int (if i<0 then -i else i),H,I.tok _,⟨_,rfl⟩,q⟩
theorem xG(hc:X.calm=true):cQ X (.builtin "max") (fun xs H Q=>∃i j,xs=[.int i,.int j]/\Q (.int (if j > i then j else i)) H):=by
 intro MS s σ H xs us Q I r h;obtain⟨i,j,rfl,q⟩:=h;obtain⟨u,w',rfl,⟨t,rfl⟩,⟨t',rfl⟩⟩:=AR r;refine max_two_ints (I.ok.hd hc) fun h' tk k=>⟨_,H,I.kept k,?_,q⟩
 by_cases hj:j > i
 ·rw[yI hj,yI hj];exact⟨_,rfl⟩
 ·rw[yH hj,yH hj];exact⟨_,rfl⟩
theorem xF(hc:X.calm=true):cQ X (.builtin "min") (fun xs H Q=>∃i j,xs=[.int i,.int j]/\Q (.int (if j<i then j else i)) H):=by
 intro MS s σ H xs us Q I r h;obtain⟨i,j,rfl,q⟩:=h;obtain⟨u,w',rfl,⟨t,rfl⟩,⟨t',rfl⟩⟩:=AR r;refine min_two_ints (I.ok.hd hc) fun h' tk k=>⟨_,H,I.kept k,?_,q⟩
 by_cases hj:j<i
 ·rw[yI hj,yI hj];exact⟨_,rfl⟩
 ·rw[yH hj,yH hj];exact⟨_,rfl⟩
theorem xI:cQ X (.type "int") (fun xs H Q=>(∃i,xs=[.int i]/\Q (.int i) H)\/∃k,xs=[.bl k]/\Q (.int (if k then 1 else 0)) H):=by
 intro MS s σ H xs us Q I r h;rcases h with⟨i,rfl,q⟩|⟨k,rfl,q⟩
 ·obtain⟨u,rfl,t,rfl⟩:=eI r
  exact call_int_int ⟨.int i,H,I,⟨_,rfl⟩,q⟩
 ·obtain⟨u,rfl,r1⟩:=eI r
  cases r1;exact call_int_bool ⟨.int (if k then 1 else 0),H,I.tok _,⟨_,rfl⟩,q⟩
end
structure ObjM(h:Heap)(x dx C:Addr)(mA:Str->Option Value):Prop where
 obj:h.get? x=some (instObj C dx)
 ns:h.Ns1 dx mA
 ne:dx≠x
theorem wS{h:Heap}{dx:Addr}{mA:Str->Option Value}(n:h.Ns1 dx mA):∃od,h.get? dx=some od/\∀name,lookIn name od=some (mA name):=by
 obtain⟨o,es,ep,ho,hd,hk,_,hm⟩:=n;refine⟨o,ho,fun name=>?_⟩;have e:=hm name;unfold nsFind findBy at e;rw[<- Array.find?_toList]at e;unfold lookIn;rw[hd];dsimp only;split
 ·rename_i y q
  rw[q]at e;exact congrArg some e
 ·rename_i q
  rw[q]at e;have a:es.toList.any (·.refKey)=false:=by
   rw[List.any_eq_false];intro y hy;obtain⟨z,t,hkey⟩:=hk y (Array.mem_toList_iff.mp hy);simp[DictEntry.refKey,hkey]
  have a':¬es.toList.any (·.refKey)=true:=by rw[a];exact Bool.false_ne_true
  rw[yH a'];exact congrArg some e
theorem ObjM.look{h:Heap}{x dx C:Addr}{mA:Str->Option Value}(I:ObjM h x dx C mA):∃od,InstAt h x (instObj C dx) C (some od)/\∀name,lookIn name od=some (mA name) :=
 let⟨od,ho,hl⟩:=wS I.ns
 ⟨od,⟨I.obj,rfl,rfl,ho⟩,hl⟩
section
variable{prog:Program}{w:World}{A:Around}{E:Value->Shared->Prop}{s:Shared}{K:Frag}{x dx C f:Addr}{mA:Str->Option Value}{name:Str}{v:Value}
theorem C9{expr:Bool}{Q:Value->Shared->Prop}(X:K.In s.heap)(I:ObjM s.heap x dx C mA)(hg:plainGet K C name=true)(hh:hasDictIn K C=true)
  (ha:findIn K (.ref C) name=some none) (hv:mA name=some v) (hv':handedIn v=true) (h:Q v { s with toks:=s.toks+1 }) :
  wpAny (model prog w) A (getAttr (.ref x) name expr) Q E s:=by
 obtain⟨od,J,hl⟩:=I.look;exact get_value X J (plainGet_of hg).1 (findObj_own hh ha rfl (by rw[hl,hv])) hv' h
theorem Ar{pl:Sem Bool}{Q:Value×List Value->Shared->Prop}(X:K.In s.heap)(I:ObjM s.heap x dx C mA)(hg:plainGet K C name=true)
  (hf:findIn K (.ref C) name=some (some (.ref f))) (ht:isFn K (.ref f)=true) (hv:mA name=none) (h:Q (.ref f,[.ref x]) s) :
  wpAny (model prog w) A (getMethod (.ref x) name pl) Q E s:=by
 obtain⟨od,J,hl⟩:=I.look;exact method_fn X J (plainGet_of hg).1 (plainGet_of hg).2 hf (beq_iff_eq.mp ht) (by show(lookIn name od).map (·.isSome)=some false;rw[hl,hv];rfl) h
theorem B7{ns:List Str}{Q:Unit->Shared->Prop}(X:K.In s.heap)(I:ObjM s.heap x dx C mA)
  (hs:findIn K (.ref C) "__setattr__"=some (some (.builtin "object.__setattr__"))) (hp:plainOver K C=true) (ht:takerIn K C name=some none) (hh:hasDictIn K C=true)
  (hw:PySem.Within mA ns) (hsz:ns.length<=sizeLine)
  (h:∀h',ObjM h' x dx C (fun y=>if y=name then some v else mA y)->Heap.SameBut dx s.heap h'->Q () { s with heap:=h',toks:=s.toks+2 }) :
  wpAny (model prog w) A (setAttr (.ref x) name v) Q E s:=by
 obtain⟨od,J,hl⟩:=I.look;refine set_plain X J hs (osa_open (s:={ s with toks:=s.toks+1 }) (r:=none) X J hp ht fun b=>?_);obtain⟨cd,hc,hd'⟩:=any_some hh;have hx:s.heap.get? x=some ⟨.ref C,some dx,.plain,#[]⟩:=I.obj;refine yF (yG (yF (yF (wpAny_loadPart hx (yF (PySem.W.Looks.here (s:={ s with toks:=s.toks+1 }) (looks_clsIn X hc) ?_))))));rw[hd'];refine yG (a:=some dx) (yF (yG (yF ?_)));refine wpAny_nsSet1 (s:={ s with toks:=s.toks+1 }) I.ns fun h' hn2 hs2=>?_
 obtain⟨oD,esD,epD,hoD,hdD,hcD⟩:=hn2.count (PySem.Within.cons name v hw);refine yF (wpAny_lookBehind hoD (by rw[hdD];exact pastItsLine_dict (z5 hcD (by rw[yY];lia))) ?_);exact yG (h _ ⟨(hs2.2 _ (Ne.symm I.ne)).trans I.obj,hn2,I.ne⟩ hs2)
theorem Ad{R:Result->Shared->Prop}{vs:List Value}{kw:List (Str×Value)}(X:K.In s.heap)(hm:makesIn K C=true)
  (hi:findIn K (.ref C) "__init__"=some (some (.ref f))) (hf:typeIn K (.ref f)=some (.type "function"))
  (h:codeAny (model prog w) (A.under (.builtin "type.__call__" ⟨.ref C::vs,kw⟩)) (.call (.ref f) ⟨.ref (s.heap.objs.size+1)::vs,kw⟩) (InitBack (s.heap.objs.size+1) R)
   { s with heap:=(s.heap.push emptyDict).push (instObj C s.heap.objs.size) }) :
  codeAny (model prog w) A (.call (.ref C) ⟨vs,kw⟩) R s:=by
 obtain⟨hh,g,d,t,os⟩:=s;exact make_core (makes_of X hm) (looks_findIn X hi) (fun self=>bind_fn X self hf) (.inl rfl) h
end
noncomputable def dQ(f:Str)(v:V):List (Str×V)->List (Str×V)
 |[]=>[(f,v)]
 |(g,x)::r=>if g=f then(g,v)::r else(g,x)::dQ f v r
theorem lJ(f g:Str)(v:V):∀fs:List (Str×V),(dQ f v fs).lookup g=if g=f then some v else fs.lookup g
 |[]=>by
  show List.lookup g [(f,v)]=_;by_cases h:g=f
  ·have hb:(g==f)=true:=beq_iff_eq.mpr h
   simp only[List.lookup,hb,yI h]
  ·have hb:(g==f)=false:=beq_eq_false_iff_ne.mpr h
   simp only[List.lookup,hb,yH h]
 |(k,x)::r=>by
  have ih:=lJ f g v r;rw[show dQ f v ((k,x)::r)=(if k=f then(k,v)::r else(k,x)::dQ f v r) from rfl];by_cases hk:k=f
  ·rw[yI hk]
   by_cases h:g=k
   ·have hb:(g==k)=true:=beq_iff_eq.mpr h
    simp only[List.lookup,hb,yI (h.trans hk)]
   ·have hb:(g==k)=false:=beq_eq_false_iff_ne.mpr h
    simp only[List.lookup,hb,yH (fun e:g=f=>h (e.trans hk.symm))]
  ·rw[yH hk]
   by_cases h:g=k
   ·have hb:(g==k)=true:=beq_iff_eq.mpr h
    simp only[List.lookup,hb,yH (fun e:g=f=>hk (h.symm.trans e))]
   ·have hb:(g==k)=false:=beq_eq_false_iff_ne.mpr h
    simp only[List.lookup,hb];exact ih
theorem ku(f:Str)(v:V):∀fs:List (Str×V),f∈(dQ f v fs).map (·.1)/\∀g,g∈fs.map (·.1)->g∈(dQ f v fs).map (·.1)
 |[]=>⟨by simp[dQ],fun g h=>by simp at h⟩
 |(k,x)::r=>by
  obtain⟨i1,i2⟩:=ku f v r;rw[show dQ f v ((k,x)::r)=(if k=f then(k,v)::r else(k,x)::dQ f v r) from rfl];by_cases hk:k=f
  ·rw[yI hk]
   subst hk;exact⟨by simp,fun g h=>by simpa using h⟩
  ·rw[yH hk]
   refine⟨?_,fun g h=>?_⟩
   ·rw[zO]
    exact zQ _ i1
   ·rw[zO]at h ⊢
    rcases zT.mp h with e|e
    ·exact zT.mpr (.inl e)
    ·exact zQ _ (i2 g e)
theorem lL(f:Str)(v:V):∀fs:List (Str×V),(dQ f v fs).length<=fs.length+1
 |[]=>by simp[dQ]
 |(k,x)::r=>by
  have ih:=lL f v r;rw[show dQ f v ((k,x)::r)=(if k=f then(k,v)::r else(k,x)::dQ f v r) from rfl];by_cases hk:k=f
  ·rw[yI hk,yY,yY];lia
  ·rw[yH hk,yY,yY];lia
theorem RelO.some_of{v:V}{o:Option Value}(r:RelO (some v) o):∃u,o=some u/\RelV v u:=by
 cases o with
 | none=>exact (show False from r).elim
 |some u=>exact⟨u,rfl,r⟩
theorem RelO.none_of{o:Option Value}(r:RelO none o):o=none:=by
 cases o with
 |none=>rfl
 | some u=>exact (show False from r).elim
theorem xm{v:V}{u:Value}(r:RelV v u):handedIn u=true:=by
 cases v with
 | non=>cases (show u=Value.none from r);rfl
 | bl b=>cases (show u=Value.bool b from r);rfl
 | int i=>obtain ⟨t,e⟩:=(show ∃ t,u=Value.int i t from r);cases e;rfl
 | str x=>obtain ⟨t,e⟩:=(show ∃ t,u=Value.str x t from r);cases e;rfl
 | byt b=>obtain ⟨t,e⟩:=(show ∃ t,u=Value.bytes b t from r);cases e;rfl
 | flt b=>obtain ⟨t,e⟩:=(show ∃ t,u=Value.float b t from r);cases e;rfl
 | ref a=>cases (show u=Value.ref a from r);rfl
 | ty n=>cases (show u=Value.type n from r);rfl
section
variable{P:Program}{w:World}{H H':Hp}{h h':Heap}{a C dx:Addr}{fs fs':List (Str×V)}
theorem oU(M2:HOk P w H h)(e:H a=some (.ins C dx fs)):∃mA,ObjM h a dx C mA/\(∀f,RelO (fs.lookup f) (mA f))/\PySem.Within mA (fs.map (·.1))/\fs.length<=1000/\H dx=some (.own a):=by
 obtain ⟨d,z,ne,ob,mA,n,r,q⟩:=(show ObjOk P w H h a (.ins C dx fs) from M2 a _ e);exact ⟨mA,⟨ob,n,ne⟩,r,q,z,d⟩
end
structure Cls(K:Frag)(C:Addr):Prop where
 pg:plainGet K C Str.empty=true
 hd:hasDictIn K C=true
 po:plainOver K C=true
 sa:findIn K (.ref C) "__setattr__"=some (some (.builtin "object.__setattr__"))
theorem Cls.get{K:Frag}{C:Addr}(c:Cls K C)(f:Str):plainGet K C f=true:=c.pg
def NoAttr(K:Frag)(C:Addr)(f:Str):Prop:=findIn K (.ref C) f=some none
theorem NoAttr.taker{K:Frag}{C:Addr}{f:Str}(n:NoAttr K C f):takerIn K C f=some none:=by
 unfold takerIn;rw[show findIn K (.ref C) f=some none from n];rfl
structure j3(K:Frag)(C:Addr)(m:Str)(f:Addr):Prop where
 at_:findIn K (.ref C) m=some (some (.ref f))
 fn:isFn K (.ref f)=true
 kp:keepIn K (.ref f)=true
section
variable{X:Cx}{MS:List (Addr×Obj)}{σ:St}{H:Hp}{s:Shared}{a C dx:Addr}{fs:List (Str×V)}{f:Str}{v:V}{A:Around}{E:Value->Shared->Prop}
theorem vC{b:Bool}{Q:Value->Shared->Prop}(I:Inv X MS σ H s)(e:H a=some (.ins C dx fs))(c:Cls X.K C)(n:NoAttr X.K C f)(l:fs.lookup f=some v)
  (h:∀u s',Inv X MS σ H s'->RelV v u->Q u s'):wpAny (model X.prog X.w) A (getAttr (.ref a) f b) Q E s:=by
 obtain⟨mA,O,r,_,_,_⟩:=oU I.M2 e;obtain⟨u,hu,ru⟩:=RelO.some_of (v:=v) (o:=mA f) (by rw[<- l];exact r f);exact C9 I.kIn O (c.get f) c.hd n hu (xm ru) (h u _ (I.tok _) ru)
theorem jR{m:Str}{g:Addr}{pl:Sem Bool}{Q:Value×List Value->Shared->Prop}(I:Inv X MS σ H s)(e:H a=some (.ins C dx fs))(c:Cls X.K C)(k:j3 X.K C m g)(l:fs.lookup m=none)
  (h:Q (.ref g,[.ref a]) s):wpAny (model X.prog X.w) A (getMethod (.ref a) m pl) Q E s:=by
 obtain⟨mA,O,r,_,_,_⟩:=oU I.M2 e;have hn:mA m=none:=RelO.none_of (by rw[<- l];exact r m);exact Ar I.kIn O (c.get m) k.at_ k.fn hn h
theorem uD{y:V}{u:Value}{Q:Unit->Shared->Prop}(I:Inv X MS σ H s)(e:H a=some (.ins C dx fs))(c:Cls X.K C)(n:NoAttr X.K C f)(hl:fs.length<1000)(ry:RelV y u)
  (h:∀s',Inv X MS σ (af H a (.ins C dx (dQ f y fs))) s'->Q () s'):wpAny (model X.prog X.w) A (setAttr (.ref a) f u) Q E s:=by
 obtain⟨mA,O,r,wi,_,ho⟩:=oU I.M2 e;have hz:(fs.map (·.1)).length<=sizeLine:=by rw[zH,sizeLine_eq];lia
 refine B7 I.kIn O c.sa c.po n.taker c.hd wi hz fun h' O' sb=>h _ ?_
 have hd:∃o,h'.get? dx=some o:=let⟨o,_,_,e',_⟩:=O'.ns;⟨o,e'⟩;refine I.write (x:=a) (e:=dx) (by rw[e];exact True.intro) (.inr ho) (fun b q hb z=>(sb.2 b hb).trans z) hd ?_;refine⟨by rw[ad O.ne];exact ho,?_,O.ne,O'.obj,_,O'.ns,fun g=>?_,fun g hg=>?_⟩
 ·have:=lL f y fs;lia
 ·show RelO ((dQ f y fs).lookup g) (if g=f then some u else mA g)
  rw[lJ];by_cases q:g=f
  ·rw[yI q,yI q];exact ry
  ·rw[yH q,yH q];exact r g
 ·by_cases q:g=f
  ·rw[q];exact(ku f y fs).1
  ·refine(ku f y fs).2 g (wi g fun z=>hg ?_)
   show(if g=f then some u else mA g)=none;rw[yH q];exact z
theorem Inv.made(I:Inv X MS σ H s):Inv X MS σ (af (af H s.heap.objs.size (.own (s.heap.objs.size+1))) (s.heap.objs.size+1) (.ins C s.heap.objs.size []))
  { s with heap:=(s.heap.push emptyDict).push (instObj C s.heap.objs.size) }:=by
 have e1:(s.heap.push emptyDict).get? s.heap.objs.size=some emptyDict:=zY s.heap rfl;have e2:((s.heap.push emptyDict).push (instObj C s.heap.objs.size)).get? (s.heap.objs.size+1)=some (instObj C s.heap.objs.size):=by
  have:=zY (s.heap.push emptyDict) (o:=instObj C s.heap.objs.size) rfl
  rwa [Heap.size_push]at this
 have e3:(s.heap.push emptyDict).Ns s.heap.objs.size (fun _=>none):=⟨emptyDict,#[],_,e1,rfl,(fun e he=>absurd he (by simp)),fun _=>rfl⟩;have I1:=I.laid (a:=s.heap.objs.size) (o:=.own (s.heap.objs.size+1)) (h':=s.heap.push emptyDict) (t':=s.toks) (fun b u q=>zG _ q) (zP _) ⟨_,e1⟩;refine I1.laid (a:=s.heap.objs.size+1) (o:=.ins C s.heap.objs.size []) (t':=s.toks) (fun b u q=>zG _ q) (Nat.le_of_eq (Heap.size_push _ _)) ?_;have ne:s.heap.objs.size≠s.heap.objs.size+1:=zU (Nat.lt_succ_self _);refine⟨by rw[ad ne,ay],Nat.zero_le _,ne,e2,fun _=>none,(Heap.Ns1.of_empty e3).at fun o q=>zG _ q,fun _=>True.intro,fun y hy=>absurd rfl hy⟩
theorem Di{prog:Program}{w:World}{env:Env}{e:Expr}{f:Str}{pos:Pos}{s:Shared}{Q:Value->Shared->Prop}(hb:attributeBase e f env (eval e env)=eval e env)
  (h:wpAny (model prog w) A (eval e env) (fun o s₁=>wpAny (model prog w) A (getAttr o f true) Q E s₁) E s):wpAny (model prog w) A (eval (.Attribute e f pos) env) Q E s :=
 Attribute_any_ h (by rw[arm_eval_Attribute,hb])
end
def JO(K:Frag)(ta:TE)(f:Str):TE:=fun σ H Q=>ta σ H fun x H1=>∃a C dx fs v,x=.ref a/\H1 a=some (.ins C dx fs)/\Cls K C/\NoAttr K C f/\fs.lookup f=some v/\Q v H1
def JU(K:Frag)(ta tv:TE)(f:Str):TS:=fun D σ H=>tv σ H fun y H1=>ta σ H1 fun x H2=>∃a C dx fs,x=.ref a/\H2 a=some (.ins C dx fs)/\Cls K C/\NoAttr K C f/\fs.length<1000 /\
 D.nx σ (af H2 a (.ins C dx (dQ f y fs)))
section
variable{X:Cx}{o e value:Expr}{f:Str}{pos pos' tpos:Pos}{ta tv:TE}
theorem E1(he:PE X e ta)(hb:attributeBase e f X.env (eval e X.env)=eval e X.env):PE X (.Attribute e f pos) (JO X.K ta f):=by
 intro MS s σ H Q I h;refine Di hb (aD (he MS s σ H _ I h) fun u s1 hq0=>?_);obtain⟨x,H1,I1,rx,a,C,dx,fs,v,ex,ea,c,n,l,q⟩:=hq0;subst ex;obtain rfl:u=Value.ref a:=rx;exact vC I1 ea c n l fun u' s2 I2 ru=>⟨v,H1,I2,ru,q⟩
theorem EL(ha:PE X o ta)(hv:PE X value tv)(hs:swapsWith value (some (.Attribute o f pos')) pos.line X.env=pure false):PS X (.Assign [.Attribute o f pos'] value pos) (JU X.K ta tv f):=by
 intro MS s σ H D I h;refine plainObj_wpAny_Assign_Attribute (aD (hv MS s σ H _ I h) fun u s1 ⟨y,H1,I1,ry,q⟩=>aD (ha MS s1 σ H1 _ I1 q) fun ov s2 hq0=>?_) hs;obtain⟨x,H2,I2,rx,a,C,dx,fs,ex,ea,c,n,l,q2⟩:=hq0;subst ex;obtain rfl:ov=Value.ref a:=rx;exact uD I2 ea c n l ry fun s3 I3=>⟨σ,_,I3,q2⟩
theorem GC{pl:Sem Bool}{m:Str}{apos:Pos}{args:List Expr}{MS:List (Addr×Obj)}{s:Shared}{σ:St}{H:Hp}{Q:Value->Shared->Prop}{te:TE}(he:PE X e te)(I:Inv X MS σ H s)
  (h:te σ H fun x H1=>∃a C dx fs g,x=.ref a/\H1 a=some (.ins C dx fs)/\Cls X.K C/\j3 X.K C m g/\fs.lookup m=none /\
   ∀s1,Inv X MS σ H1 s1->wpAny (model X.prog X.w) X.A (callWith pos (.ref g) [.ref a] (backTo pos (starEach args X.env)) (backToKw pos (keywordEach [] X.env))) Q X.xe s1)
  (ht:eval (.Call (.Attribute e m apos) args [] pos) X.env=(do
   let ov <- eval e X.env
   standAt apos.atName
   let(f,first) <- holding [ov] (getMethod ov m pl)
   callWith pos f first (backTo pos (starEach args X.env)) (backToKw pos (keywordEach [] X.env)))) :
  wpAny (model X.prog X.w) X.A (eval (.Call (.Attribute e m apos) args [] pos) X.env) Q X.xe s:=by
 refine methodCall_KW (pl:=pl) (aD (he MS s σ H _ I h) fun u s1 hq0=>?_) ht;obtain⟨x,H1,I1,rx,a,C,dx,fs,g,ex,ea,c,k,l,q⟩:=hq0;subst ex;obtain rfl:u=Value.ref a:=rx;exact jR I1 ea c k l (q s1 I1)
end
structure Room(k:Nat)(A:Around):Prop where
 hd:A.handled=none
 dp:A.depth+3*k+5<recursionLimit
 un:A.units+16*k+200<cLine
 gd:A.guards=some []
theorem Room.mono{j k:Nat}{A:Around}(r:Room k A)(h:j<=k):Room j A:=⟨r.hd,by have:=r.dp;lia,by have:=r.un;lia,r.gd⟩
theorem Room.deeper{k:Nat}{A:Around}(r:Room (k+1) A)(env:Env):Room k (A.deeper env) :=
 ⟨r.hd,by have:=r.dp;show A.depth+1+3*k+5<_;lia,by have:=r.un;show A.units+3+16*k+200<_;lia,r.gd⟩
theorem Room.in1{k:Nat}{A:Around}(r:Room (k+1) A):Room k A.in1 :=
 ⟨r.hd,by have:=r.dp;show A.depth+3*k+5<_;lia,by have:=r.un;show A.units+1+16*k+200<_;lia,r.gd⟩
theorem vk{A:Around}{C:Addr}{us:List Value}{kw:List (Str×Value)}:(A.under (.builtin "type.__call__" ⟨.ref C::us,kw⟩)).depth=A.depth+1:=by
 first|rfl|simp[Around.under,Code.weight,Code.isCreation,Code.isGuard,Code.isCaller,Code.frames,Code.isFrame,guardIds]
theorem vj{A:Around}{C:Addr}{us:List Value}{kw:List (Str×Value)}:(A.under (.builtin "type.__call__" ⟨.ref C::us,kw⟩)).units=A.units+1:=by
 first|rfl|simp[Around.under,Code.cUnits,Code.frames,Code.isFrame]
theorem sL{A:Around}{C:Addr}{us:List Value}{kw:List (Str×Value)}:(A.under (.builtin "type.__call__" ⟨.ref C::us,kw⟩)).guards=A.guards:=by
 first|rfl|simp[Around.under,Code.guards,Code.isGuard,guardIds,pushGuards]
theorem Room.make{k:Nat}{A:Around}(r:Room (k+1) A)(C:Addr)(us:List Value)(kw:List (Str×Value)):Room k (A.under (.builtin "type.__call__" ⟨.ref C::us,kw⟩)) :=
 ⟨r.hd,by have:=r.dp;rw[vk];lia,by have:=r.un;rw[vj];lia,by rw[sL];exact r.gd⟩
theorem Room.depth{k:Nat}{A:Around}(r:Room k A):A.depth<recursionLimit:=by have:=r.dp;lia
theorem Room.units{k:Nat}{A:Around}(r:Room k A):A.units+64<cLine:=by have:=r.un;lia
noncomputable def ux:TA:=fun _ H Q=>Q [] H
noncomputable def A4(ta:TE)(tr:TA):TA:=fun σ H Q=>ta σ H fun x H1=>tr σ H1 fun xs H2=>Q (x::xs) H2
section
variable{X:Cx}{e:Expr}{es:List Expr}{te:TE}{t:TA}{pos:Pos}
theorem wG:PA X [] ux:=fun _ _ _ _ H Q I h=>Calls.spliced_nil ⟨[],H,I,.nil,h⟩
theorem tD(ha:PE X e te)(hr:PA X es t)(hs:starEach (e::es) X.env=(false,eval e X.env)::starEach es X.env:=by rfl):PA X (e::es) (A4 te t):=by
 intro pos MS s σ H Q I h;rw[hs];show wpAny _ _ (spliced ((false,eval e X.env)::backTo pos (starEach es X.env))) _ _ s;refine Calls.spliced_cons (aD (ha MS s σ H _ I h) fun u s1 hq0=>?_);obtain⟨x,H1,I1,r1,q1⟩:=hq0;exact aD (hr pos MS s1 σ H1 _ I1 q1) fun us s2 ⟨xs,H2,I2,r2,q2⟩=>⟨x::xs,H2,I2,.cons r1 r2,q2⟩
def JG(t:TA):TE:=fun σ H Q=>t σ H fun xs H1=>xs.length<=sizeLine/\∀p,H1 p=none->Q (.ref p) (af H1 p (.tup xs))
def JL(t:TA):TE:=fun σ H Q=>t σ H fun xs H1=>xs.length<=sizeLine/\∀p,H1 p=none->Q (.ref p) (af H1 p (.lst xs))
theorem EU{x1}(h:PA X es t):PE X (.Tuple es x1 pos) (JG t):=by
 intro MS s σ H Q I hq;refine wpAny_Tuple_spliced (aD (h pos MS s σ H _ I hq) fun us s1 ⟨xs,H1,I1,r,z,q⟩=>⟨by rw[<- r.length];exact z,?_⟩);have hf:H1 s1.heap.objs.size=none:=I1.M2.fresh (zP _);refine⟨.ref s1.heap.objs.size,af H1 s1.heap.objs.size (.tup xs),I1.laid (t':=s1.toks) (fun b u e=>zG _ e) (zP _) ?_,rfl,q _ hf⟩;exact⟨z,us,r,⟨_,zY _ rfl,rfl,_,rfl⟩⟩
theorem wE(h:PA X es t):PE X (.List es pos) (JL t):=by
 intro MS s σ H Q I hq;refine wpAny_List_spliced (aD (h pos MS s σ H _ I hq) fun us s1 ⟨xs,H1,I1,r,z,q⟩=>⟨by rw[<- r.length];exact z,?_⟩);have hf:H1 s1.heap.objs.size=none:=I1.M2.fresh (zP _);refine⟨.ref s1.heap.objs.size,af H1 s1.heap.objs.size (.lst xs),I1.laid (t':=s1.toks) (fun b u e=>zG _ e) (zP _) ?_,rfl,q _ hf⟩;exact⟨z,us,0,r,zY _ rfl⟩
end
abbrev Sp:=List V->Hp->VK->XK->Prop
abbrev kQ:=List Env->Hp->Shared->XK->Value->Shared->Prop
structure Env0(P:Program)(w:World)(K:Frag)(mg:Str->Option Value)(base:Heap)(A:Around)(outer:List Env)(s:Shared)(H:Hp):Prop where
 frames:A.frames=some outer
 mod:Mod K mg base
 bs:∀b o,base.get? b=some o->s.heap.get? b=some o/\H b=none
 bsz:base.objs.size<=s.heap.objs.size
 funs:s.heap.FunFrames base outer
 frf:∀b∈jD outer,H b=none
 M2:HOk P w H s.heap
 bare:AllBare s.gens
def CE(outer:List Env)(P:Program)(w:World)(H:Hp)(s:Shared)(Q:VK)(u:Value)(s':Shared):Prop :=
 ∃v H',s'.os=s.os/\AllBare s'.gens/\Un (jD outer) [] H H' s.heap s'.heap/\HOk P w H' s'.heap/\RelV v u/\Q v H'
def CR(CX:kQ)(outer:List Env)(P:Program)(w:World)(H:Hp)(s:Shared)(Q:VK)(E:XK)(r:Result)(s':Shared):Prop :=
 match r with
 |.ok (.ret u)=>CE outer P w H s Q u s'
 |.ok _=>False
 |.error e=>CX outer H s E e s'
structure FnOk(P:Program)(w:World)(K:Frag)(mg:Str->Option Value)(base:Heap)(CX:kQ)(k:Nat)(f:Addr)(fd:FuncData)(ps:List Str)(sp:Sp):Prop where
 len:∀vs H Q E,sp vs H Q E->vs.length=ps.length
 run:∀(A:Around)(outer:List Env)(s:Shared)(H:Hp)(args:Args)(us:List Value)(vs:List V)(Q:VK)(E:XK),Room k A->Env0 P w K mg base A outer s H->BindsTo s fd args (ps.zip us)->Vals vs us->sp vs H Q E ->
  codeAny (model P w) A (.call (.ref f) args) (CR CX outer P w H s Q E) s
theorem FnOk.mono{P:Program}{w:World}{K:Frag}{mg:Str->Option Value}{base:Heap}{CX:kQ}{j k:Nat}{f:Addr}{fd:FuncData}{ps:List Str}{sp:Sp}(F:FnOk P w K mg base CX j f fd ps sp)(h:j<=k) :
  FnOk P w K mg base CX k f fd ps sp:=⟨F.len,fun A outer s H args us vs Q E hr=>F.run A outer s H args us vs Q E (hr.mono h)⟩
theorem FnOk.imp{P:Program}{w:World}{K:Frag}{mg:Str->Option Value}{base:Heap}{CX:kQ}{k:Nat}{f:Addr}{fd:FuncData}{ps:List Str}{sp sp':Sp}(F:FnOk P w K mg base CX k f fd ps sp)
  (h:∀vs H Q E,sp' vs H Q E->sp vs H Q E):FnOk P w K mg base CX k f fd ps sp' :=
 ⟨fun vs H Q E q=>F.len vs H Q E (h _ _ _ _ q),fun A outer s H args us vs Q E hr he hb hv hs=>F.run A outer s H args us vs Q E hr he hb hv (h _ _ _ _ hs)⟩
theorem Env0.make{P:Program}{w:World}{K:Frag}{mg:Str->Option Value}{base:Heap}{A:Around}{outer:List Env}{s:Shared}{H:Hp}(e:Env0 P w K mg base A outer s H)(C:Addr)(us:List Value)(kw:List (Str×Value)) :
  Env0 P w K mg base (A.under (.builtin "type.__call__" ⟨.ref C::us,kw⟩)) outer s H:=⟨by first|exact e.frames|(simpa [Around.under,Code.envs,Code.isFrame,pushEnvs] using e.frames),e.mod,e.bs,e.bsz,e.funs,e.frf,e.M2,e.bare⟩
section
variable{X:Cx}{MS:List (Addr×Obj)}{σ:St}{H:Hp}{s s':Shared}
theorem Inv.env0(I:Inv X MS σ H s):Env0 X.prog X.w X.K X.mg X.base X.A X.stack s H :=
 ⟨I.ok.frames,I.ok.mod,I.bs,z5 I.ok.bsz I.sz,I.stack,I.stkFree,I.M2,I.bare⟩
theorem Inv.after{Q:VK}{u:Value}(I:Inv X MS σ H s)(h:CE X.stack X.prog X.w H s Q u s'):EP X MS σ Q u s':=by
 obtain⟨v,H',os,bare,un,M2,r,q⟩:=h;obtain⟨hh,g,d,t,os'⟩:=s';obtain rfl:os'=s.os:=os;exact⟨v,H',I.call (h':=hh) (g':=g) (d':=d) (t':=t) (ch:=[]) un M2 bare (fun b z=>absurd z (by simp)),r,q⟩
end
noncomputable def uz(sp:Sp)(dvs:List V)(E:XK)(t:TA):TE:=fun σ H Q=>t σ H fun vs H1=>sp (vs++dvs) H1 Q E
def uy(C:Addr)(m:Str)(sp:Sp)(dvs:List V)(E:XK)(ta:TE)(t:TA):TE:=fun σ H Q=>ta σ H fun x H1=>∃a dx fs,x=.ref a/\H1 a=some (.ins C dx fs)/\fs.lookup m=none /\
 t σ H1 fun vs H2=>sp (x::(vs++dvs)) H2 Q E
def A2(C:Addr)(sp:Sp)(dvs:List V)(E:XK)(t:TA):TE:=fun σ H Q=>t σ H fun vs H1=>∀x dx,H1 x=none->H1 dx=none->dx≠x ->
 sp (.ref x::(vs++dvs)) (af (af H1 dx (.own x)) x (.ins C dx [])) (fun v H2=>v=.non/\Q (.ref x) H2) E
def Binds(K:Frag)(fd:FuncData)(ps:List Str)(ds:List Value):Prop :=
 ∀(s:Shared)(us:List Value),K.In s.heap->(us++ds).length=ps.length->BindsTo s fd ⟨us,[]⟩ (ps.zip (us++ds))
theorem Binds.all{K:Frag}{fd:FuncData}{ps:List Str}(h:∀us:List Value,us.length=ps.length->bindArgs fd ⟨us,[]⟩=pure (ps.zip us)):Binds K fd ps []:=fun s us _ hl=>by
 rw[List.append_nil]at hl ⊢;exact .of_eq (h us hl)
def gR(CX:kQ)(X:Cx)(E:XK):Prop:=∀(MS:List (Addr×Obj))(σ:St)(H:Hp)(s:Shared)(e:Value)(s':Shared),Inv X MS σ H s->CX X.stack H s E e s'->X.xe e s'
section
variable{X:Cx}{CX:kQ}{k:Nat}{f C:Addr}{fd:FuncData}{ps:List Str}{sp:Sp}{dvs:List V}{ds:List Value}{E:XK}{x m:Str}{p pos apos:Pos}{e o:Expr}{es:List Expr}{ta:TE}{t:TA}
theorem mS{MS:List (Addr×Obj)}{σ:St}{H:Hp}{s:Shared}{Q:VK}{us:List Value}{vs:List V}(F:FnOk X.prog X.w X.K X.mg X.base CX k f fd ps sp)(hr:Room k X.A)(hb:Binds X.K fd ps ds)(hd:Vals dvs ds)(hx:gR CX X E)
  (I:Inv X MS σ H s) (r:Vals vs us) (h:sp (vs++dvs) H Q E):wpAny (model X.prog X.w) X.A (call (.ref f) us) (EP X MS σ Q) X.xe s:=by
 have r2:Vals (vs++dvs) (us++ds):=r.append hd;have hl:(us++ds).length=ps.length:=by rw[<- r2.length];exact F.len _ _ _ _ h
 refine wpAny_call (codeAny_mono (F.run X.A X.stack s H ⟨us,[]⟩ (us++ds) (vs++dvs) Q E hr I.env0 (hb s us I.kIn hl) r2 h) fun r s' hq=>?_);cases r with
 |error e=>exact hx MS σ H s e s' I hq
 |ok fl =>
  cases fl with
  |ret u=>exact I.after hq
  |next=>exact False.elim hq
  |brk=>exact False.elim hq
  |cont=>exact False.elim hq
theorem CO(F:FnOk X.prog X.w X.K X.mg X.base CX k f fd ps sp)(hr:Room k X.A)(hg:Gl X x)(hm:X.mg x=some (.ref f))(hk:keepIn X.K (.ref f)=true)(hb:Binds X.K fd ps ds)(hd:Vals dvs ds)(hx:gR CX X E)
  (ha:PA X (e::es) t) (hdb:(x==("__debug__":Str))=false:=by decide) (he:starEach (e::es) X.env=(false,eval e X.env)::starEach es X.env:=by rfl) (hpl:(backTo pos (starEach es X.env)).any (·.1)=false:=by rfl) :
  PE X (.Call (.Name x p) (e::es) [] pos) (uz sp dvs E t):=by
 intro MS s σ H Q I h;refine wpAny_Call_Name_kw (kZ I hg hm ?_ hdb);refine callWith_K (h₀:=X.base) I.ok.mod.kin hk (aD (ha pos MS s σ H _ I h) fun us s1 ⟨vs,H1,I1,r,q⟩=>⟨I1.kIn,?_⟩) he hpl;exact mS F hr hb hd hx I1 r q
theorem zu(F:FnOk X.prog X.w X.K X.mg X.base CX k f fd ps sp)(hr:Room k X.A)(hg:Gl X x)(hm:X.mg x=some (.ref f))(hk:keepIn X.K (.ref f)=true)(hb:Binds X.K fd ps ds)(hd:Vals dvs ds)(hx:gR CX X E)
  (hdb:(x==("__debug__":Str))=false:=by decide):PE X (.Call (.Name x p) [] [] pos) (uz sp dvs E ux):=by
 intro MS s σ H Q I h;refine wpAny_Call_Name_kw (kZ I hg hm ?_ hdb);exact PySem.W.callWith_K0 I.kIn hk (mS (us:=[]) F hr hb hd hx I .nil h)
theorem CK{pl:Sem Bool}(he:PE X o ta)(c:Cls X.K C)(hm:j3 X.K C m f)(F:FnOk X.prog X.w X.K X.mg X.base CX k f fd ps sp)(hr:Room k X.A)(hb:Binds X.K fd ps ds)(hd:Vals dvs ds)(hx:gR CX X E)(ha:PA X (e::es) t)
  (hst:starEach (e::es) X.env=(false,eval e X.env)::starEach es X.env:=by rfl) (hpl:(backTo pos (starEach es X.env)).any (·.1)=false:=by rfl)
  (ht:eval (.Call (.Attribute o m apos) (e::es) [] pos) X.env=(do
   let ov <- eval o X.env
   standAt apos.atName
   let(f,first) <- holding [ov] (getMethod ov m pl)
   callWith pos f first (backTo pos (starEach (e::es) X.env)) (backToKw pos (keywordEach [] X.env))):=by rfl) :
  PE X (.Call (.Attribute o m apos) (e::es) [] pos) (uy C m sp dvs E ta t):=by
 intro MS s σ H Q I h;refine methodCall_KW (pl:=pl) (aD (he MS s σ H _ I h) fun u s1 hq0=>?_) ht;obtain⟨x,H1,I1,rx,a,dx,fs,ex,ea,l,q⟩:=hq0;subst ex;obtain rfl:u=Value.ref a:=rx;refine jR I1 ea c hm l ?_;refine callWith_K (first:=[.ref a]) (h₀:=X.base) I.ok.mod.kin hm.kp (aD (ha pos MS s1 σ H1 _ I1 q) fun us s2 ⟨vs,H2,I2,r,q2⟩=>⟨I2.kIn,?_⟩) hst hpl;exact mS (us:=.ref a::us) (vs:=.ref a::vs) F hr hb hd hx I2 (.cons rfl r) q2
theorem zo{pl:Sem Bool}(he:PE X o ta)(c:Cls X.K C)(hm:j3 X.K C m f)(F:FnOk X.prog X.w X.K X.mg X.base CX k f fd ps sp)(hr:Room k X.A)(hb:Binds X.K fd ps ds)(hd:Vals dvs ds)(hx:gR CX X E)
  (ht:eval (.Call (.Attribute o m apos) [] [] pos) X.env=(do
   let ov <- eval o X.env
   standAt apos.atName
   let(f,first) <- holding [ov] (getMethod ov m pl)
   callWith pos f first (backTo pos (starEach [] X.env)) (backToKw pos (keywordEach [] X.env))):=by rfl) :
  PE X (.Call (.Attribute o m apos) [] [] pos) (uy C m sp dvs E ta ux):=by
 intro MS s σ H Q I h;refine methodCall_KW (pl:=pl) (aD (he MS s σ H _ I h) fun u s1 hq0=>?_) ht;obtain⟨x,H1,I1,rx,a,dx,fs,ex,ea,l,q⟩:=hq0;subst ex;obtain rfl:u=Value.ref a:=rx;refine jR I1 ea c hm l ?_;exact PySem.W.callWith_K0 (first:=[.ref a]) I1.kIn hm.kp (mS (us:=[.ref a]) (vs:=[.ref a]) F hr hb hd hx I1 (.cons rfl .nil) q)
structure Mk(K:Frag)(C f:Addr):Prop where
 makes:makesIn K C=true
 init:findIn K (.ref C) "__init__"=some (some (.ref f))
 fn:isFn K (.ref f)=true
 kp:keepIn K (.ref C)=true
theorem yu{MS:List (Addr×Obj)}{σ:St}{H:Hp}{s:Shared}{Q:VK}{us:List Value}{vs:List V}(M:Mk X.K C f)(F:FnOk X.prog X.w X.K X.mg X.base CX k f fd ps sp)(hr:Room (k+1) X.A)(hb:Binds X.K fd ps ds)(hd:Vals dvs ds)
  (hx:gR CX X E) (I:Inv X MS σ H s) (r:Vals vs us)
  (h:∀x dx,H x=none->H dx=none->dx≠x->sp (.ref x::(vs++dvs)) (af (af H dx (.own x)) x (.ins C dx [])) (fun v H2=>v=.non/\Q (.ref x) H2) E) :
  wpAny (model X.prog X.w) X.A (call (.ref C) us) (EP X MS σ Q) X.xe s:=by
 have hq:=h (s.heap.objs.size+1) s.heap.objs.size (I.M2.fresh (Nat.le_succ _)) (I.M2.fresh (zP _)) (zU (Nat.lt_succ_self _));have I2:=Inv.made (C:=C) I;have r2:Vals (V.ref (s.heap.objs.size+1)::(vs++dvs)) (Value.ref (s.heap.objs.size+1)::(us++ds)):=.cons rfl (r.append hd);have hl:(Value.ref (s.heap.objs.size+1)::us++ds).length=ps.length:=by
  have e:=r2.length;rw[F.len _ _ _ _ hq]at e;exact e.symm
 refine wpAny_call (Ad (f:=f) I.kIn M.makes M.init (beq_iff_eq.mp M.fn) (codeAny_mono (F.run _ X.stack _ _ ⟨Value.ref (s.heap.objs.size+1)::us,[]⟩ (Value.ref (s.heap.objs.size+1)::(us++ds)) _ _ E (hr.make C us [])
  (I2.env0.make C us []) (hb _ (Value.ref (s.heap.objs.size+1)::us) I2.kIn hl) r2 hq) fun r s' hq'=>?_))
 cases r with
 |error e=>exact hx MS σ _ _ e s' I2 hq'
 |ok fl =>
  cases fl with
  |ret u =>
   obtain⟨v,H',I3,rv,ev,q3⟩:=I2.after hq';subst ev;exact⟨rv,⟨V.ref (s.heap.objs.size+1),H',I3,rfl,q3⟩⟩
  |next=>exact False.elim hq'
  |brk=>exact False.elim hq'
  |cont=>exact False.elim hq'
theorem CL(M:Mk X.K C f)(F:FnOk X.prog X.w X.K X.mg X.base CX k f fd ps sp)(hr:Room (k+1) X.A)(hg:Gl X x)(hm:X.mg x=some (.ref C))(hb:Binds X.K fd ps ds)(hd:Vals dvs ds)(hx:gR CX X E)
  (ha:PA X (e::es) t) (hdb:(x==("__debug__":Str))=false:=by decide) (he:starEach (e::es) X.env=(false,eval e X.env)::starEach es X.env:=by rfl) (hpl:(backTo pos (starEach es X.env)).any (·.1)=false:=by rfl) :
  PE X (.Call (.Name x p) (e::es) [] pos) (A2 C sp dvs E t):=by
 intro MS s σ H Q I h;refine wpAny_Call_Name_kw (kZ I hg hm ?_ hdb);refine callWith_K (h₀:=X.base) I.ok.mod.kin M.kp (aD (ha pos MS s σ H _ I h) fun us s1 ⟨vs,H1,I1,r,q⟩=>⟨I1.kIn,?_⟩) he hpl;exact yu M F hr hb hd hx I1 r q
end
structure lB(N P:List Str)(sc:Scope):Prop where
 kind:sc.kind=.function
 co:sc.isCoroutine=false
 gen:sc.isGenerator=false
 nd:N.Nodup
 pre:N.take P.length=P
 par:∀x∈P,sc.names.lookup x=some .local\/sc.names.lookup x=some .cell
 nofree:∀y∈sc.names,y.2≠.free
theorem pO{kindOf:Str->Option NameKind}{x:Str}:∀{binds:List (Str×Value)}{m:Str->Option Value},(∀v,(x,v)∉binds)->bindL kindOf binds m x=m x
 |[],_,_=>rfl
 |(n,v)::r,m,h=>by
  unfold bindL;rw[pO fun w hw=>h w (zQ _ hw)];split
  ·have:x≠n:=by rintro rfl;exact h v z7
   simp[this]
  ·rfl
theorem pQ{kindOf:Str->Option NameKind}{x:Str}:∀{binds:List (Str×Value)}{m:Str->Option Value},(∀v,(x,v)∉binds)->bindC kindOf binds m x=m x
 |[],_,_=>rfl
 |(n,v)::r,m,h=>by
  unfold bindC;rw[pQ fun w hw=>h w (zQ _ hw)];split
  ·rfl
  ·have:x≠n:=by rintro rfl;exact h v z7
   simp[this]
theorem pP{kindOf:Str->Option NameKind}{x:Str}{v:Value}:∀{P:List Str}{vs:List Value}{i:Nat}{m:Str->Option Value},P.Nodup->P[i]?=some x->vs[i]?=some v->kindOf x=some .local ->
  bindL kindOf (P.zip vs) m x=some v
 |[],_,_,_,_,h,_,_=>by simp at h
 |_::_,[],_,_,_,_,h,_=>by simp at h
 |p::P,w::vs,0,m,nd,h1,h2,hk=>by
  simp at h1 h2;subst h1;subst h2;show bindL kindOf ((p,w)::P.zip vs) m p=_;unfold bindL;rw[pO fun v hv=>(List.nodup_cons.mp nd).1 (List.of_mem_zip hv).1,yI hk];simp
 |p::P,w::vs,i+1,m,nd,h1,h2,hk=>by
  show bindL kindOf ((p,w)::P.zip vs) m x=_;unfold bindL;exact pP (i:=i) (List.nodup_cons.mp nd).2 (by simpa using h1) (by simpa using h2) hk
theorem pR{kindOf:Str->Option NameKind}{x:Str}{v:Value}:∀{P:List Str}{vs:List Value}{i:Nat}{m:Str->Option Value},P.Nodup->P[i]?=some x->vs[i]?=some v->kindOf x≠some .local ->
  bindC kindOf (P.zip vs) m x=some v
 |[],_,_,_,_,h,_,_=>by simp at h
 |_::_,[],_,_,_,_,h,_=>by simp at h
 |p::P,w::vs,0,m,nd,h1,h2,hk=>by
  simp at h1 h2;subst h1;subst h2;show bindC kindOf ((p,w)::P.zip vs) m p=_;unfold bindC;rw[pQ fun v hv=>(List.nodup_cons.mp nd).1 (List.of_mem_zip hv).1,yH hk];simp
 |p::P,w::vs,i+1,m,nd,h1,h2,hk=>by
  show bindC kindOf ((p,w)::P.zip vs) m x=_;unfold bindC;exact pR (i:=i) (List.nodup_cons.mp nd).2 (by simpa using h1) (by simpa using h2) hk
def start(N:List Str)(vs:List V):St:=vs.map some++List.replicate (N.length-vs.length) none
def o0(CX:kQ)(P:Program)(w:World)(K:Frag)(mg:Str->Option Value)(base:Heap)(N:List Str)(qual:Str)(scope:Scope)(f:Addr)(cd:Value)(A:Around)(outer:List Env)(s:Shared)(H:Hp)(E:XK):Cx where
 prog:=P
 w:=w
 K:=K
 mg:=mg
 base:=base
 A:=A.deeper (envOfC qual scope s.heap.objs.size f cd)
 N:=N
 s₀:=s
 H₀:=H
 env:=envOfC qual scope s.heap.objs.size f cd
 outer:=outer
 stack:=envOfC qual scope s.heap.objs.size f cd::outer
 ex:=[]
 calm:=true
 fn:=fun _=>true
 pn:=[]
 xe:=fun e s'=>wpAny (model P w) (A.deeper (envOfC qual scope s.heap.objs.size f cd)) (leaving (envOfC qual scope s.heap.objs.size f cd) e) (fun _ s''=>CX outer H s E e s'') (fun e' s''=>CX outer H s E e' s'') s'
theorem se{sc:Scope}{n:Nat}{x:Str}(h:sc.names.lookup x=some .cell):∃c,(cellsFrom n sc.names []).lookup x=some c:=by
 have q:=cellsFrom_some sc.names n [] (.inl h);exact Option.isSome_iff_exists.mp q
theorem xf{CX:kQ}{P:Program}{w:World}{K:Frag}{mg:Str->Option Value}{base:Heap}{N ps:List Str}{qual:Str}{scope:Scope}{f:Addr}{cd:Value}{A:Around}{outer:List Env}{s s1:Shared}{H:Hp}{E:XK}{us:List Value}{vs:List V}
  (S:lB N ps scope) (hd:A.handled=none) (e0:Env0 P w K mg base A outer s H) (hl:vs.length=ps.length) (r:Vals vs us)
  (x:InCallC s s.heap.objs.size (bindL (envOfC qual scope s.heap.objs.size f cd).kindOf (ps.zip us) fun _=>none) (cellsFrom (s.heap.objs.size+1) scope.names []) (bindC (envOfC qual scope s.heap.objs.size f cd).kindOf (ps.zip us) fun _=>none) s1) :
  Inv (o0 CX P w K mg base N qual scope f cd A outer s H E) [] (start N vs) H s1:=by
 have hpl:ps.length<=N.length:=by have:=congrArg List.length S.pre;rw[List.length_take]at this;lia
 obtain ⟨h1,tk,rfl,hk⟩:=x.done;have noA:∀ b:Addr,b ∉ (o0 CX P w K mg base N qual scope f cd A outer s H E).ex:=fun b z=>absurd (show b ∈ ([]:List Addr) from z) (by simp)
 refine⟨⟨e0.mod,S.kind,rfl,rfl,zP _,fun y z c h1 h2=>?_,fun y hy=>?_,fun y c _ h=>?_,fun _=>hd,Around.frames_deeper e0.frames,.inr ⟨rfl,rfl⟩,fun b z=>absurd z (noA b),e0.bs,e0.bsz,fun b _ _=>noA b,fun b z=>absurd z (noA b),e0.funs,e0.frf⟩,
  rfl,e0.bare,Un.kept hk,⟨_,x.toInCall.ns,fun i y v h1 h2 h3=>?_⟩,fun y c h=>⟨_,x.cell y c h⟩,e0.M2.fresh (zP _),fun y c h=>?_,fun p hp=>absurd (show p∈([]:List (Addr×Obj)) from hp) (by simp),e0.M2.kept hk,?_⟩
 ·exact name_of_addr x.apart (PySem.mem_of_lookup h1) (PySem.mem_of_lookup h2)
 ·have hy:scope.names.lookup y=some .cell\/scope.names.lookup y=some .free:=hy
  rcases hy with hy|hy
  ·exact se hy
  ·exact absurd rfl (S.nofree _ (PySem.mem_of_lookup hy))
 ·exact yZ (x.above y c (PySem.mem_of_lookup h))
 ·have hi:i<vs.length:=by
   unfold start at h2;by_cases hi:i<vs.length
   ·exact hi
   ·rw[z6 (by simpa using hi)]at h2
    rw[List.getElem?_replicate]at h2;split at h2<;>cases h2
  have ha:vs[i]?=some v:=by
   unfold start at h2;rw[zN (by simpa using hi),zR]at h2;cases e:vs[i]? with
   |none=>rw[e]at h2;cases h2
   |some a=>rw[e]at h2;cases h2;rfl
  obtain⟨u,hu,rv⟩:=r.get ha;have hp:ps[i]?=some y:=by
   rw[<- S.pre,List.getElem?_take_of_lt oM];exact h1
  have ndP:ps.Nodup:=by rw[<- S.pre];exact S.nd.sublist (List.take_sublist _ _)
  refine⟨u,rv,?_⟩;rcases S.par y (zW hp) with k|k
  ·exact .inl ⟨k,pP ndP hp hu k⟩
  ·obtain⟨c,e⟩:=se (n:=s.heap.objs.size+1) k
   refine .inr ⟨.inl k,c,e,?_⟩;have q:=x.cell y c e;rw[pR ndP hp hu (by show scope.names.lookup y≠_;rw[k];decide)]at q;exact q
 ·exact e0.M2.fresh (yZ (x.above y c (PySem.mem_of_lookup h)))
 ·unfold start
  show _=N.length;rw[zV,zH,List.length_replicate];lia
theorem HU{CX:kQ}{P:Program}{w:World}{K:Frag}{mg:Str->Option Value}{base:Heap}{k:Nat}{f:Addr}{name qual:Str}{params:Arguments}{body:List Stmt}{scope:Scope}{dV kV doc pm cdv ct oc:Value}{an od:Option Addr}
  {osl:Array (Option Value)}{N ps:List Str}{sp:Sp} (lk:K.lookup f=some ⟨oc,od,.func (fnOf name qual params body scope dV kV doc pm an cdv ct),osl⟩) (hcd:codeIn K cdv qual=true) (S:lB N ps scope)
  (len:∀vs H Q E,sp vs H Q E->vs.length=ps.length)
  (hbody:∀(A:Around)(outer:List Env)(s:Shared)(H:Hp)(vs:List V)(Q:VK)(E:XK),Room k (A.deeper (envOfC qual scope s.heap.objs.size f cdv))->sp vs H Q E ->
   ∃t,PSs (o0 CX P w K mg base N qual scope f cdv A outer s H E) body t/\t { nx:=fun _ H'=>Q .non H',rt:=Q } (start N vs) H) :
  FnOk P w K mg base CX (k+1) f (fnOf name qual params body scope dV kV doc pm an cdv ct) ps sp:=by
 refine⟨len,fun A outer s H args us vs Q E hr e0 hb r hsp=>?_⟩;have hl:=len _ _ _ _ hsp;have KX:K.In s.heap:=e0.mod.kin.keeps fun b o e=>(e0.bs b o e).1
 have lim:s.heap.NoLimit:=e0.mod.nolimit.keeps fun b o e=>(e0.bs b o e).1
 have hkind:∀y∈ps.zip us,scope.names.lookup y.1=some .local\/(scope.names.lookup y.1=some .cell/\((cellsFrom (s.heap.objs.size+1) scope.names []).lookup y.1).isSome=true):=fun hq0 hy=>by
  obtain⟨n,v⟩:=hq0;rcases S.par n (List.of_mem_zip hy).1 with q|q
  ·exact .inl q
  ·exact .inr ⟨q,cellsFrom_some _ _ _ (.inl q)⟩
 refine codeAny_call_function hr.depth (KX _ _ lk) rfl S.co S.gen rfl (codeRec_of KX hcd) (hb _ _ _ _ ?_);refine wpAny_newFunctionEnv_cells S.kind hkind fun env he s1 x=>?_
 subst he;refine⟨lim.keeps x.toInCall.keep,codeAny_func ?_⟩;obtain⟨t,ht,hq⟩:=hbody A outer s H vs Q E (hr.deeper _) hsp;have I:Inv (o0 CX P w K mg base N qual scope f cdv A outer s H E) [] (start N vs) H s1:=xf S hr.hd e0 hl r x;refine yT (ht [] s1 (start N vs) H _ I hq) (fun fl s' hs=>?_) fun e s' hs=>hs
 have aw:∀{σ':St}{H':Hp}{v:V}{u:Value},Inv (o0 CX P w K mg base N qual scope f cdv A outer s H E) [] σ' H' s'->RelV v u->Q v H'->CE outer P w H s Q u s' :=
  fun {σ' H' v u} J rv q=>⟨v,H',J.os,J.bare,J.base,J.M2,rv,q⟩
 cases fl with
 |ret u =>
  obtain⟨v,σ',H',J,rv,q⟩:=hs;exact aw J rv q
 |next =>
  obtain⟨σ',H',J,q⟩:=hs;exact aw (v:=V.non) (u:=Value.none) J rfl q
 |brk =>
  obtain⟨_,_,_,q⟩:=hs;exact False.elim q
 |cont =>
  obtain⟨_,_,_,q⟩:=hs;exact False.elim q
section
variable{X:Cx}{x:Str}{p pos:Pos}{e:Expr}{es:List Expr}{t:TA}{id T:String}{r:List V->Hp->VK->Prop}
def DM(r:List V->Hp->VK->Prop)(t:TA):TE:=fun σ H Q=>t σ H fun vs H1=>r vs H1 Q
theorem zt(hc:cQ X (.builtin id) r)(hg:Gl X x)(hm:X.mg x=none)(hv:bootBuiltins x=some (.builtin id))(ha:PA X (e::es) t)(hn:x≠"__name__":=by decide)(hdb:(x==("__debug__":Str))=false:=by decide)
  (he:starEach (e::es) X.env=(false,eval e X.env)::starEach es X.env:=by rfl) (hpl:(backTo pos (starEach es X.env)).any (·.1)=false:=by rfl):PE X (.Call (.Name x p) (e::es) [] pos) (DM r t):=by
 intro MS s σ H Q I h;refine wpAny_Call_Name_kw (dD I hg hm hv ?_ hn hdb);exact PyProof.Rows.callWith_builtin1 (aD (ha pos MS s σ H _ I h) fun us s1 ⟨vs,H1,I1,r1,q1⟩=>hc MS s1 σ H1 vs us Q I1 r1 q1) he hpl
theorem pw(hc:cQ X (.type T) r)(hg:Gl X x)(hm:X.mg x=none)(hv:bootBuiltins x=some (.type T))(ha:PA X (e::es) t)(hn:x≠"__name__":=by decide)(hdb:(x==("__debug__":Str))=false:=by decide)
  (he:starEach (e::es) X.env=(false,eval e X.env)::starEach es X.env:=by rfl) (hpl:(backTo pos (starEach es X.env)).any (·.1)=false:=by rfl):PE X (.Call (.Name x p) (e::es) [] pos) (DM r t):=by
 intro MS s σ H Q I h;refine wpAny_Call_Name_kw (dD I hg hm hv ?_ hn hdb);exact PyProof.Rows.callWith_type1 (aD (ha pos MS s σ H _ I h) fun us s1 ⟨vs,H1,I1,r1,q1⟩=>hc MS s1 σ H1 vs us Q I1 r1 q1) he hpl
end
end L2
namespace HT
open PySem PyProof.Rows
section
variable{prog:Program}{w:World}{A:Around}{E:Value->Shared->Prop}{s:Shared}
noncomputable def M7(n d:Nat):Option Int->Nat
 |none=>d
 |some v=>if v<0 then(v+(n:Int)).toNat else min v.toNat n
theorem sIx_none(n d:Nat):M7 n d none=d:=rfl
theorem sIx_nat(n d k:Nat):M7 n d (some (k:Int))=min k n:=by
 show(if(k:Int)<0 then((k:Int)+(n:Int)).toNat else min (k:Int).toNat n)=min k n;rw[yH oM,Int.toNat_natCast]
end
end HT
namespace L2
open PySem PySem.Spec PyProof.Rows
abbrev TO:=St->Hp->(Option Int->Hp->Prop)->Prop
def PO(X:Cx)(e:Option Expr)(t:TO):Prop :=
 ∀(MS:List (Addr×Obj))(s:Shared)(σ:St)(H:Hp)(Q:Option Int->Hp->Prop),Inv X MS σ H s->t σ H Q ->
  wpAny (model X.prog X.w) X.A (evalPart e X.env) (fun u s'=>∃o H',Inv X MS σ H' s'/\IsPart u o/\Q o H') X.xe s
noncomputable def BZ:TO:=fun _ H Q=>Q none H
noncomputable def GK(t:TE):TO:=fun σ H Q=>t σ H fun x H1=>∃i,x=.int i/\Q (some i) H1
theorem jQ{ns:List Int}:∀{us:List Value},Vals (ns.map V.int) us->IntsAre us ns:=by
 induction ns with
 |nil=>intro us r;rw[List.map_nil]at r;cases r;exact .nil
 |cons n ns ih =>
  intro us r;rw[zO]at r;cases r with
  |cons r1 r2 =>
   obtain⟨t,e⟩:=r1;subst e;exact .cons n t (ih r2)
section
variable{X:Cx}{e:Expr}{te:TE}{lo hi:Option Expr}{tl th:TO}{pos p2:Pos}
theorem CB:PO X none BZ:=by
 intro MS s σ H Q I h;rw[evalPart_none];exact yG ⟨none,H,I,.none,h⟩
theorem CA(h:PE X e te):PO X (some e) (GK te):=by
 intro MS s σ H Q I hw;rw[evalPart_some];refine aD (h MS s σ H _ I hw) fun u s1 hq0=>?_
 obtain⟨x,H1,I1,r1,q1⟩:=hq0;obtain⟨i,rfl,q⟩:=q1;obtain⟨t,rfl⟩:=r1;exact⟨some i,H1,I1,.int i t,q⟩
def M4(X:Cx)(r:V->Option Int->Option Int->Hp->VK->Prop):Prop :=
 ∀(MS:List (Addr×Obj))(s:Shared)(σ:St)(H:Hp)(x:V)(v vl vu:Value)(lo hi:Option Int)(sl:Addr)(Q:VK),Inv X MS σ H s->RelV x v->s.heap.IsSliceOf sl vl vu .none->IsPart vl lo->IsPart vu hi->r x lo hi H Q ->
  ∃T id,typeLookup (.type T) "__getitem__"=pure (some (.builtin id))/\s.TypeIs v T/\wpAny (model X.prog X.w) X.A (getItem v (.ref sl)) (EP X MS σ Q) X.xe s
def IG(r:V->Option Int->Option Int->Hp->VK->Prop)(te:TE)(tl th:TO):TE:=fun σ H Q=>te σ H fun x H1=>tl σ H1 fun l H2=>th σ H2 fun u H3=>r x l u H3 Q
theorem zn{r:V->Option Int->Option Int->Hp->VK->Prop}(hr:M4 X r)(he:PE X e te)(hl:PO X lo tl)(hu:PO X hi th):PE X (.Subscript e (.Slice lo hi none p2) pos) (IG r te tl th):=by
 intro MS s σ H Q I h;refine Subscript_ (aD (he MS s σ H _ I h) fun v s1 hq0=>?_);obtain⟨x,H1,I1,r1,q1⟩:=hq0;refine wpAny_Slice (aD (hl MS s1 σ H1 _ I1 q1) fun vl s2 ⟨l,H2,I2,pl,q2⟩=>aD (hu MS s2 σ H2 _ I2 q2) fun vu s3 hq0=>?_);obtain⟨u,H3,I3,pu,q3⟩:=hq0;rw[evalPart_none];refine yG ?_;have I4:Inv X MS σ H3 { s3 with heap:=s3.heap.push { cls:=.type "slice",data:=.fields #[vl,vu,.none] } }:=I3.kept (t':=s3.toks) fun b ob q=>zG _ q
 obtain⟨T,id,hT,ht,hg⟩:=hr MS { s3 with heap:=s3.heap.push { cls:=.type "slice",data:=.fields #[vl,vu,.none] } } σ H3 x v vl vu l u s3.heap.objs.size Q I4 r1 (Heap.IsSliceOf.new ..) pl pu q3;show wpAny (model X.prog X.w) X.A (subscriptTail e (.Slice lo hi none p2) v (.ref s3.heap.objs.size)) (EP X MS σ Q) X.xe { s3 with heap:=s3.heap.push { cls:=.type "slice",data:=.fields #[vl,vu,.none] } };exact tail_any (ops:=[.ref s3.heap.objs.size,v]) ht hT hg (by with_unfolding_all rfl)
def o6(xs:List V)(lo hi:Option Int):List V:=(xs.drop (HT.M7 xs.length 0 lo)).take (HT.M7 xs.length xs.length hi-HT.M7 xs.length 0 lo)
theorem sN(xs:List V)(lo hi:Option Int):(o6 xs lo hi).length<=xs.length:=by
 unfold o6;rw[List.length_take,List.length_drop];lia
end
noncomputable def lM(n:Nat)(i:Int):Option Nat:=if 0<=i then(if i<n then some i.toNat else none) else if -(n:Int)<=i then some (i+n).toNat else none
def gf{α:Type}(xs:List α)(i:Int):Option α:=(lM xs.length i).bind fun j=>xs[j]?
theorem tJ{n:Nat}{i:Int}{j:Nat}(h:lM n i=some j):seqIndex? i n=some j/\j<n/\-(n:Int)<=i/\i<n:=by
 unfold lM at h;by_cases h0:0<=i
 ·rw[yI h0]at h
  by_cases h1:i<n
  ·rw[yI h1]at h
   have e:i.toNat=j:=yE h;exact⟨by rw[seqIndex_of h0 h1,e],by lia,by lia,h1⟩
  ·rw[yH h1]at h;cases h
 ·rw[yH h0]at h
  by_cases h1:-(n:Int)<=i
  ·rw[yI h1]at h
   have e:(i+n).toNat=j:=yE h;exact⟨by rw[seqIndex_neg oM h1,e],by lia,h1,by lia⟩
  ·rw[yH h1]at h;cases h
theorem ly{α:Type}{xs:List α}{i:Int}{v:α}(h:gf xs i=some v):∃j,seqIndex? i xs.length=some j/\xs[j]?=some v/\j<xs.length/\-(xs.length:Int)<=i/\i<xs.length:=by
 unfold gf at h;cases e:lM xs.length i with
 |none=>rw[e]at h;cases h
 |some j =>
  rw[e]at h;obtain⟨h1,h2,h3,h4⟩:=tJ e;exact⟨j,h1,h,h2,h3,h4⟩
def pe(b:Expr):Prop:=∀o i,subscripted b false o i=operate [o,i] (getItem o i)
def IxR(X:Cx)(r:R2):Prop :=
 ∀(value slice:Expr)(MS:List (Addr×Obj))(s:Shared)(σ:St)(H:Hp)(x y:V)(v u:Value)(Q:VK),Inv X MS σ H s->RelV x v->RelV y u->r x y H Q ->
  subscripted slice false v u=operate [v,u] (getItem v u)->wpAny (model X.prog X.w) X.A (subscriptTail value slice v u) (EP X MS σ Q) X.xe s
def mj(X:Cx)(id:String)(r:V->List V->Hp->VK->Prop):Prop :=
 ∀(MS:List (Addr×Obj))(s:Shared)(σ:St)(H:Hp)(x:V)(xs:List V)(v:Value)(us:List Value)(Q:VK),Inv X MS σ H s->RelV x v->Vals xs us->r x xs H Q ->
  wpAny (model X.prog X.w) X.A (call (.builtin id) (v::us)) (EP X MS σ Q) X.xe s
section
variable{X:Cx}{a b:Expr}{ta tb:TE}{pos:Pos}
theorem IxR.or{r r':R2}(h:IxR X r)(h':IxR X r'):IxR X (fun x y H Q=>r x y H Q\/r' x y H Q):=by
 intro value slice MS s σ H x y v u Q I rx ry q hs;rcases q with q|q
 ·exact h value slice MS s σ H x y v u Q I rx ry q hs
 ·exact h' value slice MS s σ H x y v u Q I rx ry q hs
theorem Hl{r:R2}(hr:IxR X r)(ha:PE X a ta)(hb:PE X b tb)(hs:pe b):PE X (.Subscript a b pos) (we r ta tb):=by
 intro MS s σ H Q I h;exact Subscript_ (AG ha hb I h fun v u s2 x y H2 I2 rx ry q=>hr a b MS s2 σ H2 x y v u Q I2 rx ry q (hs _ _))
def Ea(K:Frag):R2:=fun x y H Q=>∃p xs i v,x=.ref p/\y=.int i/\bQ K H p xs/\gf xs i=some v/\Q v H
def DZ(K:Frag):R2:=fun x y H Q=>∃p xs i v,x=.ref p/\y=.int i/\gQ K H p xs/\gf xs i=some v/\Q v H
def D0:R2:=fun x y H Q=>∃z i c,x=.str z/\y=.int i/\z.length<=sizeLine/\gf z.cps.toList i=some c/\Q (.str ⟨#[c]⟩) H
theorem ix_list:IxR X (Ea X.K):=by
 intro value slice MS s σ H x y v u Q I rx ry h hs;obtain⟨p,xs,i,z,rfl,rfl,hq,he,q⟩:=h;cases rx;obtain⟨t,rfl⟩:=ry;obtain⟨MW,r,pl,hz⟩:=I.list hq;obtain⟨j,h1,h2,h3,h4,h5⟩:=ly he;obtain⟨w,ew,rw'⟩:=r.get h2;have hl:=r.length;have hn:=gG;have aw:EP X MS σ Q w s:=⟨z,H,I,rw',q⟩;by_cases h0:0<=i
 ·have hj:i.toNat=j:=by
   rw[seqIndex_of h0 h5]at h1;exact yE h1
  exact item_listR pl.isList h0 oM (by rw[hj];simpa using ew) aw hs
 ·have hj:(i+(MW.toArray.size:Int)).toNat=j:=by
   rw[seqIndex_neg oM h4]at h1;rw[zI,<- hl];exact yE h1
  exact subscriptTail_builtinR (x:=w) pl.isList.typeIs slot_list_getitem.lookup
   (wpAny_getItem_list_neg (Q:=fun r s'=>r=w/\EP X MS σ Q r s') pl.isList oM (by rw[zI]<;>lia) oM (by rw[hj];simpa using ew) ⟨rfl,aw⟩) hs
theorem ix_tup:IxR X (DZ X.K):=by
 intro value slice MS s σ H x y v u Q I rx ry h hs;obtain⟨p,xs,i,z,rfl,rfl,hq,he,q⟩:=h;cases rx;obtain⟨t,rfl⟩:=ry;obtain⟨MW,r,pl,hz⟩:=I.tuple hq;obtain⟨j,h1,h2,h3,h4,h5⟩:=ly he;obtain⟨w,ew,rw'⟩:=r.get h2;have hl:=r.length;have hn:=gG;have aw:EP X MS σ Q w s:=⟨z,H,I,rw',q⟩;exact subscriptTail_builtinR (x:=w) pl.typeIs slot_tuple_getitem.lookup
  (getItem_tuple (j:=j) (Q:=fun r s'=>r=w/\EP X MS σ Q r s') pl oM oM (by rw[zI,<- hl];exact h1) (by simpa using ew) ⟨rfl,aw⟩) hs
theorem FG:IxR X D0:=by
 intro value slice MS s σ H x y v u Q I rx ry h hs;obtain⟨z,i,c,rfl,rfl,hz,he,q⟩:=h;obtain⟨t,rfl⟩:=rx;obtain⟨t',rfl⟩:=ry;obtain⟨j,h1,h2,h3,h4,h5⟩:=ly he;have hl:z.cps.toList.length=z.length:=by simp[Str.length]
 rw[hl]at h1 h4 h5;have hn:=gG;exact tail_any (typeIs_str s z t) slot_str_getitem.lookup (getItem_str (c:=c) (by
  have e1:decide (i < -(2^63:Int))=false:=yA oM;have e2:decide (i ≥ 2^63)=false:=yA oM;rw[e1,e2,Bool.or_false]) (by rw[h1];simpa using h2) ⟨.str ⟨#[c]⟩,H,I.tok _,⟨_,rfl⟩,q⟩) hs
def K7(K:Frag):R2:=fun x y H Q=>Ea K x y H Q\/DZ K x y H Q\/D0 x y H Q
theorem qZ:IxR X (K7 X.K):=ix_list.or (ix_tup.or FG)
theorem vi(MW:List Value)(n j:Nat)(u:Value):Obj.mapSeq (·.setIfInBounds j u) { cls:=.type "list",data:=.seq MW.toArray n }={ cls:=.type "list",data:=.seq (MW.set j u).toArray n }:=by
 simp[Obj.mapSeq]
theorem Inv.lst{MS:List (Addr×Obj)}{σ:St}{H:Hp}{s:Shared}{p:Addr}{xs:List V}(I:Inv X MS σ H s)(h:H p=some (.lst xs)) :
  ∃(MW:List Value)(n:Nat),Vals xs MW/\s.heap.get? p=some { cls:=.type "list",data:=.seq MW.toArray n }/\xs.length<=sizeLine:=by
 obtain⟨z,MW,n,r,e⟩:=I.M2 p _ h;exact⟨MW,n,r,e,z⟩
theorem Inv.lstUpd{MS:List (Addr×Obj)}{σ:St}{H:Hp}{s:Shared}{p:Addr}{xs ys:List V}{MW its':List Value}{n n':Nat}{f:Obj->Obj}(I:Inv X MS σ H s)(h:H p=some (.lst xs))
  (ho:s.heap.get? p=some { cls:=.type "list",data:=.seq MW.toArray n }) (hf:f { cls:=.type "list",data:=.seq MW.toArray n }={ cls:=.type "list",data:=.seq its'.toArray n' }) (r:Vals ys its') (hz:ys.length<=sizeLine) (t:Nat) :
  Inv X MS σ (af H p (.lst ys)) { s with heap:=s.heap.update p f,toks:=t }:=by
 have e:(s.heap.update p f).get? p=some { cls:=.type "list",data:=.seq its'.toArray n' }:=by
  rw[Heap.get?_update_self f ho (by rw[hf]<;>rfl),hf]
 refine I.write (x:=p) (e:=p) (by rw[h];trivial) (.inl rfl) (fun b u hb q=>(Heap.get?_update_other _ _ (Ne.symm hb)).trans q) ⟨_,e⟩ ?_;exact⟨hz,its',n',r,e⟩
def GT:V->V->V->Hp->(Hp->Prop)->Prop:=fun o i v H Q=>∃p xs k j,o=.ref p/\i=.int k/\H p=some (.lst xs)/\lM xs.length k=some j/\Q (af H p (.lst (xs.set j v)))
theorem yq:vN X GT:=by
 intro MS s σ H o i v ov iv u Q I ro ri rv h;obtain⟨p,xs,k,j,rfl,rfl,hp,hj,q⟩:=h;cases ro;obtain⟨t,rfl⟩:=ri;obtain⟨MW,n,r,ho,hz⟩:=I.lst hp;obtain⟨h1,h2,h3,h4⟩:=tJ hj;have hl:=r.length;have hn:=gG;have I':Inv X MS σ (af H p (.lst (xs.set j v))) { s with heap:=s.heap.update p (Obj.mapSeq (·.setIfInBounds j u)) } :=
  I.lstUpd hp ho (vi MW n j u) (r.set rv j) (by rw[List.length_set];exact hz) s.toks
 by_cases h0:0<=k
 ·have hk:k.toNat=j:=by
   rw[seqIndex_of h0 h4]at h1;exact yE h1
  exact ki_setAt ho h0 oM (by rw[zI,<- hl];exact h4) (by rw[hk];exact⟨_,I',q⟩)
 ·have hk:(k+(MW.toArray.size:Int)).toNat=j:=by
   rw[seqIndex_neg oM h3]at h1;rw[zI,<- hl];exact yE h1
  exact ki_setBack ho oM (by rw[zI,<- hl];exact h3) oM (by rw[hk];exact⟨_,I',q⟩)
theorem qx(lo hi:Option Int)(n:Nat):(sliceBounds lo hi none n).1=((HT.M7 n 0 lo:Nat):Int)/\(sliceBounds lo hi none n).2.1=((HT.M7 n n hi:Nat):Int)/\(sliceBounds lo hi none n).2.2=1:=by
 refine⟨?_,?_,rfl⟩
 ·cases lo with
  |none=>simp[sliceBounds,HT.M7]
  |some i =>
   simp only[sliceBounds,HT.M7,Option.getD_none,show(1:Int) > 0 by decide,if_true];by_cases h:i<0
   ·simp only[h,if_true]<;>lia
   ·simp only[h,if_false]<;>lia
 ·cases hi with
  |none=>simp[sliceBounds,HT.M7]
  |some i =>
   simp only[sliceBounds,HT.M7,Option.getD_none,show(1:Int) > 0 by decide,if_true];by_cases h:i<0
   ·simp only[h,if_true]<;>lia
   ·simp only[h,if_false]<;>lia
theorem pW(MW:List Value)(lo hi:Option Int):slicePick MW.toArray lo hi none=((MW.drop (HT.M7 MW.length 0 lo)).take (HT.M7 MW.length MW.length hi-HT.M7 MW.length 0 lo)).toArray:=by
 obtain⟨h1,h2,h3⟩:=qx lo hi MW.toArray.size;unfold slicePick;rw[h1,h2,h3];simp only[sliceRange_one,pick_run,zI]<;>rfl
def JW(K:Frag):V->Option Int->Option Int->Hp->VK->Prop:=fun x lo hi H Q=>∃a xs,x=.ref a/\bQ K H a xs/\∀p,H p=none->Q (.ref p) (af H p (.lst (o6 xs lo hi)))
theorem B4:M4 X (JW X.K):=by
 intro MS s σ H x v vl vu lo hi sl Q I rx hs pl pu h;obtain⟨a,xs,rfl,hx,q⟩:=h;cases rx;obtain⟨MW,r,ht,hz⟩:=I.list hx;have hlen:=r.length;refine⟨"list",_,slot_list_getitem.lookup,ht.isList.typeIs,?_⟩;refine wpAny_getItem_list_slice ht.isList hs pl pu .none (by simp) ?_ (by rw[zI]<;>lia);rw[pW,<- hlen];refine⟨.ref s.heap.objs.size,_,I.laid (t':=s.toks) (o:=.lst (o6 xs lo hi)) (fun b ob q=>zG _ q) (zP _) ?_,rfl,q _ (I.M2.fresh (zP _))⟩;exact⟨z5 (sN xs lo hi) hz,_,0,(r.drop (HT.M7 xs.length 0 lo)).take (HT.M7 xs.length xs.length hi-HT.M7 xs.length 0 lo),zY _ rfl⟩
theorem kK:cQ X (.builtin "len") (fun xs H Q=>∃p ys,xs=[.ref p]/\(bQ X.K H p ys\/gQ X.K H p ys)/\Q (.int ys.length) H):=by
 intro MS s σ H xs us Q I r h;obtain⟨p,ys,rfl,hq,q⟩:=h;obtain⟨u,rfl,rx⟩:=eI r;cases rx;have hn:=gG;rcases hq with hq|hq
 ·obtain⟨MW,r',pl,hz⟩:=I.list hq
  have hlen:=r'.length;exact Calls.call_len_list pl.isList (by simp only[zI]<;>lia) ⟨.int ys.length,H,I.tok _,⟨s.toks+1,by rw[zI,hlen]⟩,q⟩
 ·obtain⟨MW,r',pl,hz⟩:=I.tuple hq
  have hlen:=r'.length;exact len_tuple pl (by simp only[zI]<;>lia) ⟨.int ys.length,H,I.tok _,⟨s.toks+1,by rw[zI,hlen]⟩,q⟩
theorem sj:cQ X (.builtin "len") (fun xs H Q=>∃z,xs=[.str z]/\z.length<=sizeLine/\Q (.int z.length) H):=by
 intro MS s σ H xs us Q I r h;obtain⟨z,rfl,hz,q⟩:=h;obtain⟨u,rfl,t,rfl⟩:=eI r;have hn:=gG;exact len_str oM ⟨.int z.length,H,I.tok _,⟨_,rfl⟩,q⟩
theorem sf:cQ X (.type "list") (fun xs H Q=>∃p ys,xs=[.ref p]/\(bQ X.K H p ys\/gQ X.K H p ys)/\∀l,H l=none->Q (.ref l) (af H l (.lst ys))):=by
 intro MS s σ H xs us Q I r h;obtain⟨p,ys,rfl,hq,q⟩:=h;obtain⟨u,rfl,rx⟩:=eI r;cases rx;have aw:∀(MW:List Value),Vals ys MW->ys.length<=sizeLine->∀(h':Heap)(c':Nat),(∀b o',s.heap.get? b=some o'->h'.get? b=some o') ->
   h'.get? s.heap.objs.size=some { cls:=.type "list",dict:=none,data:=.seq MW.toArray c',slots:=#[] }->EP X MS σ Q (.ref s.heap.objs.size) { s with heap:=h' }:=fun MW r' hz h' c' kp e =>
  ⟨.ref s.heap.objs.size,_,I.laid (t':=s.toks) kp (zP _) (show ObjOk X.prog X.w _ h' _ (.lst ys) from ⟨hz,MW,c',r',e⟩),rfl,q _ (I.M2.fresh (zP _))⟩
 rcases hq with hq|hq
 ·obtain⟨MW,r',pl,hz⟩:=I.list hq
  have hlen:=r'.length;obtain⟨o,ho,hc,n,hd⟩:=pl.isList;exact call_list_seq p (.inl rfl) ho hc hd (fun h' c' kp e=>aw MW r' hz h' c' kp e) (by simp only[zI]<;>lia)
 ·obtain⟨MW,r',pl,hz⟩:=I.tuple hq
  have hlen:=r'.length;obtain⟨o,ho,hc,n,hd⟩:=pl;exact call_list_seq p (.inr rfl) ho hc hd (fun h' c' kp e=>aw MW r' hz h' c' kp e) (by simp only[zI]<;>lia)
def vT(K:Frag)(T:String)(x:V)(H:Hp):Prop:=match x with
 |.str _=>T="str"
 |.int _=>T="int"
 |.ref p=>(T="list"/\∃xs,bQ K H p xs)\/(T="tuple"/\∃o,K.lookup p=some o/\o.cls=.type "tuple"/\o.dict=none) \/
   (T="dict"/\((∃MU,H p=some (.dK MU))\/∃MU,H p=some (.dT MU)))\/(T="set"/\∃S n,H p=some (.set S n))
 |_=>False
theorem vS{MS:List (Addr×Obj)}{σ:St}{H:Hp}{s:Shared}{T:String}{x:V}{v:Value}(I:Inv X MS σ H s)(r:RelV x v)(ty:vT X.K T x H) :
  s.TypeIs v T/\∀a,v=.ref a->∃ob,s.heap.get? a=some ob/\ob.dict=none:=by
 cases x with
 |str z =>
  obtain ⟨t,rfl⟩:=r;cases (show T="str" from ty);exact ⟨typeIs_str s z t,fun _ e=>nomatch e⟩
 |int i =>
  obtain ⟨t,rfl⟩:=r;cases (show T="int" from ty);exact ⟨typeIs_int s i t,fun _ e=>nomatch e⟩
 |ref p =>
  cases r;rcases ty with⟨rfl,xs,hq⟩|⟨rfl,o,hk,hc,hd⟩|⟨rfl,hk⟩|⟨rfl,S,n,hk⟩
  ·obtain⟨MW,_,pl,_⟩:=I.list hq
   refine⟨pl.isList.typeIs,fun a e=>?_⟩;cases e;obtain⟨o,n,e,c,hd,_⟩:=pl;exact⟨o,e,hd⟩
  ·refine⟨⟨o,I.kIn p o hk,hc⟩,fun a e=>?_⟩
   cases e;exact⟨o,I.kIn _ o hk,hd⟩
  ·have z:∃o,s.heap.get? p=some o/\o.ExactDict:=by
    rcases hk with⟨MU,hk⟩|⟨MU,hk⟩
    ·obtain⟨_,_,_,_,o,_,_,e,ex,_⟩:=I.M2 p _ hk
     exact⟨o,e,ex⟩
    ·obtain⟨_,_,_,_,o,_,_,e,ex,_⟩:=I.M2 p _ hk
     exact⟨o,e,ex⟩
   obtain⟨o,e,ex⟩:=z;refine⟨⟨o,e,ex.1⟩,fun a e2=>?_⟩;cases e2;exact⟨o,e,ex.2.1⟩
  ·obtain⟨o,_,_,_,e,ex,_⟩:=I.M2 p _ hk
   refine⟨⟨o,e,ex.1⟩,fun a e2=>?_⟩;cases e2;exact⟨o,e,ex.2.1⟩
 |_=>exact False.elim ty
def JP(K:Frag)(T:String)(r:V->List V->Hp->VK->Prop)(to:TE):TE:=fun σ H Q=>to σ H fun x H1=>vT K T x H1/\r x [] H1 Q
def II(K:Frag)(T:String)(r:V->List V->Hp->VK->Prop)(to:TE)(t:TA):TE:=fun σ H Q=>to σ H fun x H1=>vT K T x H1/\t σ H1 fun xs H2=>r x xs H2 Q
variable{o e:Expr}{es:List Expr}{to:TE}{t:TA}{name:Str}{apos cpos:Pos}{T id:String}{r:V->List V->Hp->VK->Prop}
theorem E2(pa:PlainAttrs T)(slot:Slot T name id)(hty:typeOf (.builtin id)=pure (.type "method_descriptor"))(hm:mj X id r)(ho:PE X o to)
  (hbase:attributeBase o name X.env (eval o X.env)=eval o X.env:=by rfl) (hline:(apos.endLine==cpos.line)=true:=by rfl):PE X (.Call (.Attribute o name apos) [] [] cpos) (JP X.K T r to):=by
 intro MS s σ H Q I h;refine wpAny_Call_method0_late hbase hline (aD (ho MS s σ H _ I h) fun v s1 hq0=>?_);obtain⟨x,H1,I1,r1,ty,q1⟩:=hq0;obtain⟨h1,h2⟩:=vS I1 r1 ty;exact⟨T,id,pa,slot,hty,h1,h2,Calls.callWith_builtin rfl (PySem.evalArgs_none (hm MS s1 σ H1 x [] v [] Q I1 r1 .nil q1))⟩
theorem Hm(pa:PlainAttrs T)(slot:Slot T name id)(hty:typeOf (.builtin id)=pure (.type "method_descriptor"))(hm:mj X id r)(ho:PE X o to)(ha:PA X (e::es) t)
  (hbase:attributeBase o name X.env (eval o X.env)=eval o X.env:=by rfl)
  (hfew:((backTo cpos (starEach (e::es) X.env)).all (fun x=>!x.1)&&(backToKw cpos (keywordEach [] X.env)).all (fun x=>x.1.isSome)
   && decide ((e::es).length+([]:List Keyword).length+(if([]:List Keyword).isEmpty then 0 else 1)<30))=true:=by rfl)
  (hline:(apos.endLine==cpos.line)=true:=by rfl) (hs:starEach (e::es) X.env=(false,eval e X.env)::starEach es X.env:=by rfl) (hplain:(backTo cpos (starEach es X.env)).any (·.1)=false:=by rfl) :
  PE X (.Call (.Attribute o name apos) (e::es) [] cpos) (II X.K T r to t):=by
 intro MS s σ H Q I h;refine wpAny_Call_method_late hbase hfew hline rfl (aD (ho MS s σ H _ I h) fun v s1 hq0=>?_);obtain⟨x,H1,I1,r1,ty,q1⟩:=hq0;obtain⟨h1,h2⟩:=vS I1 r1 ty;refine⟨T,id,pa,slot,hty,h1,h2,?_⟩;have hA:=ha cpos MS s1 σ H1 _ I1 q1;rw[hs]at hA ⊢;refine Calls.callWith_builtin (by show(false||(backTo cpos (starEach es X.env)).any (·.1))=false;rw[hplain]<;>rfl) (Calls.evalArgs_plain ?_);exact aD hA fun us s2 ⟨vs,H2,I2,r2,q2⟩=>hm MS s2 σ H2 x vs v us Q I2 r1 r2 q2
end
def Gy(X:Cx)(id:String)(r:V->List V->Hp->VK->Prop):Prop :=
 ∀(MS:List (Addr×Obj))(s:Shared)(σ:St)(H:Hp)(x:V)(xs:List V)(v:Value)(us:List Value)(Q:VK),Inv X MS σ H s->RelV x v->Vals xs us->r x xs H Q ->
  wpAny (model X.prog X.w) X.A (call (.builtin id) (v::us)) (EP X MS σ Q) X.xe s
theorem Vals.one{x:V}{us:List Value}(h:Vals [x] us):∃u,us=[u]/\RelV x u:=by
 cases h with
 |cons r h=>cases h;exact⟨_,rfl,r⟩
theorem Vals.zero:∀{us:List Value},Vals [] us->us=[]
 |_,.nil=>rfl
theorem Vals.dropLast{xs:List V}{us:List Value}(h:Vals xs us):Vals xs.dropLast us.dropLast:=by
 induction h with
 |nil=>exact .nil
 |cons r t ih =>
  cases t with
  |nil=>exact .nil
  |cons q t'=>exact .cons r ih
theorem Vals.rep{xs:List V}{us:List Value}(h:Vals xs us):∀k:Nat,Vals (List.replicate k xs).flatten (List.replicate k us).flatten
 |0=>.nil
 |k+1=>by
  rw[List.replicate_succ,List.replicate_succ,List.flatten_cons,List.flatten_cons];exact Vals.append h (Vals.rep h k)
theorem vE{α:Type}(l:List α):l.eraseIdx (l.length-1)=l.dropLast:=by
 induction l with
 |nil=>rfl
 |cons a r ih =>
  cases r with
  |nil=>rfl
  |cons b r =>
   have e:(a::b::r).length-1=((b::r).length-1)+1:=by
    have h1:(a::b::r).length=r.length+2:=rfl;have h2:(b::r).length=r.length+1:=rfl;lia
   rw[e,List.eraseIdx_cons_succ,ih]
   all_goals rfl
theorem pG(MW:List Value):∀(k:Nat)(acc:List Value),
  List.foldl (fun x1 x2=>x1++x2) acc.toArray (List.replicate k MW.toArray)=(acc++(List.replicate k MW).flatten).toArray
 |0,acc=>by simp
 |k+1,acc=>by
  have e:acc.toArray++MW.toArray=(acc++MW).toArray:=by simp
  have e2:(acc++MW)++(List.replicate k MW).flatten=acc++(List.replicate (k+1) MW).flatten:=by
   rw[List.replicate_succ,List.flatten_cons,yN]
  rw[<- e2,<- pG MW k (acc++MW),<- e,List.replicate_succ,List.foldl_cons]
section
variable{X:Cx}{MS:List (Addr×Obj)}{σ:St}{H:Hp}{s:Shared}{l b:Addr}{xs ys zs:List V}
theorem Inv.lset{MW its':List Value}{n:Nat}{f:Array Value->Array Value}{t':Nat}(I:Inv X MS σ H s)(hH:H l=some (.lst xs))
  (e:s.heap.get? l=some { cls:=.type "list",data:=.seq MW.toArray n }) (hf:f MW.toArray=its'.toArray) (hv:Vals ys its') (hz:ys.length<=sizeLine) :
  Inv X MS σ (af H l (.lst ys)) { s with heap:=s.heap.update l (Obj.mapSeq f),toks:=t' }:=by
 have q:=PySem.IsL.update e f;rw[hf]at q;refine I.write (x:=l) (e:=l) (by rw[hH];exact trivial) (.inl rfl) (fun b' u hb hu=>(Heap.get?_update_other s.heap (Obj.mapSeq f) (Ne.symm hb)).trans hu) ⟨_,q⟩ ?_;exact⟨hz,its',_,hv,q⟩
theorem Inv.lnew{MW:List Value}{t':Nat}(I:Inv X MS σ H s)(hv:Vals ys MW)(hz:ys.length<=sizeLine) :
  Inv X MS σ (af H s.heap.objs.size (.lst ys)) { s with heap:=s.heap.push { cls:=.type "list",data:=.seq MW.toArray },toks:=t' } :=
 I.laid (fun _ _ q=>zG _ q) (zP _) ⟨hz,MW,0,hv,zY _ rfl⟩
theorem Inv.fresh(I:Inv X MS σ H s):H s.heap.objs.size=none:=I.M2.fresh (zP _)
theorem Inv.lstM(I:Inv X MS σ H s)(hH:H l=some (.lst xs)):xs.length<=sizeLine/\∃(MW:List Value)(n:Nat),Vals xs MW/\xs.length=MW.length/\s.heap.get? l=some { cls:=.type "list",data:=.seq MW.toArray n }:=by
 obtain⟨z,MW,n,r,e⟩:=I.M2 l _ hH;exact⟨z,MW,n,r,r.length,e⟩
theorem notLongL{n:Nat}(h:n<=sizeLine):Builtin.List.listTooLong n=false:=by
 unfold Builtin.List.listTooLong;exact yA oM
end
section
variable{X:Cx}
def Cb:V->List V->Hp->VK->Prop:=fun x vs H Q=>∃l xs y,x=.ref l/\vs=[y]/\H l=some (.lst xs)/\xs.length<sizeLine/\Q .non (af H l (.lst (xs++[y])))
theorem pA:Gy X "list.append" Cb:=by
 intro MS s σ H x vs v us Q I rx rv h;obtain⟨l,xs,y,rfl,rfl,hH,hz,q⟩:=h;cases rx;obtain⟨u,rfl,ru⟩:=rv.one;obtain⟨z,MW,n,r,hl,e⟩:=I.lstM hH;refine call_meets F.slot_list_append ⟨_,e,rfl⟩ F.entry_list_append (F.args_list_append_2 _ _) (PySem.list_append l MW.toArray n u (by rw[zI];lia)) ⟨e,?_⟩;refine⟨.non,_,I.lset (its':=MW++[u]) hH e (by simp) (r.append (.cons ru .nil)) ?_,rfl,q⟩;rw[zV,List.length_singleton];lia
def JY:V->List V->Hp->VK->Prop:=fun x vs H Q=>∃l xs y,x=.ref l/\vs=[]/\H l=some (.lst xs)/\xs[xs.length-1]?=some y/\Q y (af H l (.lst xs.dropLast))
theorem Fh:Gy X "list.pop" JY:=by
 intro MS s σ H x vs v us Q I rx rv h;obtain⟨l,xs,y,rfl,rfl,hH,hy,q⟩:=h;cases rx;have hus:=rv.zero;subst hus;obtain⟨z,MW,n,r,hl,e⟩:=I.lstM hH;obtain⟨u,hu,ru⟩:=r.get hy;have hy':MW.toArray[MW.toArray.size-1]?=some u:=by
  show MW.toArray[MW.length-1]?=some u;rw[<- Array.getElem?_toList,<- hl];exact hu
 refine call_meets F.slot_list_pop ⟨_,e,rfl⟩ F.entry_list_pop (F.args_list_pop_1 _) (MeetsSeq.list_pop_last l MW.toArray n u hy' (by rw[zI];lia)) ⟨e,?_⟩;refine⟨y,_,I.lset (its':=MW.dropLast) hH e ?_ r.dropLast ?_,ru,q⟩
 ·show MW.toArray.eraseIdxIfInBounds (MW.toArray.size-1)=MW.dropLast.toArray
  rw[zI,List.eraseIdxIfInBounds_toArray,vE]
 ·rw[List.length_dropLast]
  lia
def JX:R2:=fun x y H Q=>∃l k xs,x=.ref l/\y=.int k/\H l=some (.lst xs)/\-(2^63)<=k/\k<2^63/\xs.length*k.toNat<=sizeLine /\
 ∀p,H p=none->Q (.ref p) (af H p (.lst (List.replicate k.toNat xs).flatten))
theorem C3{α:Type}(xs:List α)(k:Nat):(List.replicate k xs).flatten.length=k*xs.length:=by
 induction k with
 |zero=>simp
 |succ k ih=>rw[List.replicate_succ,List.flatten_cons,zV,ih,Nat.succ_mul,Nat.add_comm]
theorem E6:kO X (binaryOp .Mult) JX:=by
 intro MS s σ H x y v u Q I rx ry h;obtain⟨l,k,xs,rfl,rfl,hH,h1,h2,hz,q⟩:=h;cases rx;obtain⟨t,rfl⟩:=ry;obtain⟨z,MW,n,r,hl,e⟩:=I.lstM hH;have hlen:MW.toArray.size*k.toNat<=sizeLine:=by rw[zI,<- hl];exact hz
 have hcap:¬MW.toArray.size*k.toNat > (2^63-1)/8:=by
  have:(sizeLine:Nat)<=(2^63-1)/8:=by decide
  lia
 have hfit:¬(!Builtin.List.listFitsIndex k)=true:=by
  rw[fitsIndex_both h1 h2];exact Bool.false_ne_true
 have hlong:¬Builtin.List.listTooLong (MW.toArray.size*k.toNat)=true:=by
  rw[notLongL hlen];exact Bool.false_ne_true
 have hnew:List.foldl (fun x1 x2=>x1++x2) #[] (List.replicate (if MW.toArray.isEmpty=true then 0 else k.toNat) MW.toArray)=(List.replicate k.toNat MW).flatten.toArray:=by
  have f0:∀m:Nat,List.foldl (fun x1 x2=>x1++x2) #[] (List.replicate m MW.toArray)=(List.replicate m MW).flatten.toArray:=fun m=>by
   have:=pG MW m []
   rw[List.nil_append]at this;exact this
  rw[f0];cases MW with
  |nil=>simp
  |cons a r'=>rw[yH (by simp)]
 refine wpAny_binaryOp_repeat_ref (T:="list") (U:="int") dC ⟨_,e,rfl⟩ (fun s'=>typeIs_int s' k t) noFill_list_mul F.fills_int_mul F.slot_int_rmul repeat_list F.slot_int_index.lookup
  (call_meets F.slot_int_rmul (typeIs_int s k t) F.entry_int_rmul (F.args_int_rmul_2 _ _) (int___rmul___int_list k t l MW.toArray n)
   ⟨e,rfl,⟨_,e,rfl⟩,call_meets F.slot_list_mul ⟨_,e,rfl⟩ F.entry_list_mul (F.args_list_mul_2 _ _) (AutoListH.list___mul___list_int_3 l MW.toArray n k t hfit hcap hlong) ⟨e,?_⟩⟩)
 rw[hnew];exact⟨.ref _,_,I.lnew (t':=s.toks) (r.rep k.toNat) (by rw[C3,Nat.mul_comm];exact hz),rfl,q _ I.fresh⟩
end
end L2
namespace Att
open PySem PySem.W PySem.Calls PyProof.Rows
theorem nB{P:Params}{h:Heap}:∀(ns:List Int)(vs:List Value),WellAll P h vs (ns.map WData.int)->IntsAre vs ns:=by
 intro ns
 induction ns with
 |nil =>
  intro vs w;rw[List.map_nil]at w;cases w;exact .nil
 |cons n ns ih =>
  intro vs w;rw[zO]at w;cases w with
  |cons a b =>
   cases a;exact .cons _ _ (ih _ b)
theorem wl{l:OpenLaw}{n:Nat}(hn:l.most=some n){P:Params}{h:Heap}{args:List WData}{vals:List Value}
  (hpre:l.row.toRowW.claim.pre args=true) (hwl:WellAll P h vals args) :
  ∃a vs ns,vals=[Value.ref a]/\args=[WData.list (ns.map WData.int)]/\h.get? a=some { cls:=.type "list",data:=.seq vs.toArray }/\IntsAre vs ns/\ns.length<=n:=by
 have hsh:WShape.hasAll [] args [.list .int]=true:=(pre_splitW hpre).1;have hc:l.pre.holds [] { args:=args }=true:=(pre_splitW hpre).2;obtain⟨d,r,rfl,h1,h2⟩:=hasAllW_cons hsh;obtain rfl:=hasAllW_nil h2;obtain⟨xs,rfl,h3⟩:=hasW_list h1;obtain⟨ns,rfl⟩:=items_int h3;have hlen:ns.length<=n:=by
  unfold OpenLaw.pre at hc;have h4:(WTm.not (.lt (.lit (.int (n:Int))) (.len (.arg 0)))).holds [] { args:=[.list (ns.map .int)] }=true:=by
   have h4:=(holds_andW hc).1;rw[hn]at h4;exact h4
  have h5:=condW_of h4 (w_not (w_lt w_lit (w_len_list (w_arg rfl))));rw[zH]at h5;refine Nat.le_of_not_lt fun q=>?_
  have q':(n:Int)<((ns.length:Nat):Int):=by lia
  first
   | (rw [yW q'] at h5;exact absurd h5 dC)
   | (simp at h5;lia)
 cases hwl with
 |cons w1 w2 =>
  cases w2;cases w1 with
  |list ho hall=>exact⟨_,_,ns,rfl,rfl,ho,nB ns _ hall,hlen⟩
theorem wz(l:OpenLaw)(args:List WData):l.row.toRowW.claim.post args (.bool true) args=true :=
 postW_of (r:=l.row.toRowW) (X:=(true==true))
  (show WShape.has [] (.bool true) .bool=true by first | rfl | decide | simp [WShape.has,WShape.arms,WShape.armsAll])
  (show (WTm.eq .res (.lit (.bool true))).value [] { args:=args,res:=some (.bool true),after:=args }=some (.bool (true == true)) from w_eq_bool (w_res rfl) w_lit) rfl
theorem attach_call{l:OpenLaw}{n:Nat}{q:Program}{bW:List Str}{XP:(Str->Option Value)->Heap->Prop}{YP:World->Heap->Prop}{d:DefRec}
  (hn:l.most=some n) (hdf:d.params.defaults=[])
  (call:∀(w:World)(s₀ s₁:Shared)(mg mb:Str->Option Value)(fa:Addr)(o:Obj)(pm cd doc:Value)(a:Addr)(vs:List Value)(ns:List Int),
   Ground q bW [] XP w s₀ mg mb s₁.heap->YP w s₁.heap ->
   s₁.heap.get? fa=some o->o.data=.func (docDef d.name d.params d.body d.scope pm cd doc)->s₁.heap.CodeRec cd d.name->mg d.name=some (.ref fa) ->
   s₁.heap.get? a=some { cls:=.type "list",data:=.seq vs.toArray }->IntsAre vs ns->ns.length<=n->s₁.gens=#[] ->
   codeAny (model l.prog w) callerA (.call (.ref fa) ⟨[.ref a],[]⟩) (fun r s'=>r=.ok (.ret (.bool true))/\OldK s₁.heap s'.heap/\s'.os=s₁.os/\AllBare s'.gens) s₁) :
  WalkO q bW XP YP l.row.toRowW d [] (fun f vs=>PySem.call f vs):=by
 intro w s₀ s₁ mg mb G Y fa o pm cd doc dV kV ho hd hcd hD hmg hg args vals as hpre hlay hrd hwl hlo;obtain rfl:dV=.none:=Dflts.none hD hdf;obtain rfl:kV=.none:=Dflts.noKw hD;obtain⟨a,vs,ns,rfl,rfl,hobj,hints,hlen⟩:=wl hn hpre hwl;refine enter_call (codeAny_mono (call w s₀ s₁ mg mb fa o pm cd doc a vs ns G Y ho (fd_plain hd) hcd hmg hobj hints hlen hg) fun r s' hq=>?_);obtain⟨rfl,h2,h3,h4⟩:=hq;exact⟨.inl ⟨.bool true,.bool true,[],rfl,fun _=>rfl,.bool true,wz l _,fun _=>⟨List.Pairwise.nil,fun _ hm=>(nomatch hm)⟩⟩,h2,h3,h4⟩
end Att
namespace L2
open PySem PySem.Spec PyProof.Rows
theorem vR:∀{vs:List Value}{ns:List Int},IntsAre vs ns->Vals (ns.map V.int) vs:=by
 intro vs ns h
 induction h with
 |nil=>exact .nil
 |cons n t h ih=>exact .cons ⟨t,rfl⟩ ih
noncomputable def dF(s:Stmt):Arguments:=match s with
 |.FunctionDef _ a _ _ _ _ _ _ _ _=>a
 |_=>{ posonlyargs:=[],args:=[],vararg:=none,kwonlyargs:=[],kw_defaults:=[],kwarg:=none,defaults:=[] }
noncomputable def dE(s:Stmt):List Stmt:=match s with
 |.FunctionDef _ _ b _ _ _ _ _ _ _=>b
 |_=>[]
noncomputable def cL(s:Stmt):Scope:=match s with
 |.FunctionDef _ _ _ _ _ _ sc _ _ _=>sc
 |_=>{ kind:=.function,names:=[],isGenerator:=false,isCoroutine:=false }
abbrev eO:kQ:=fun _ _ _ _ _ _=>False
abbrev E0:XK:=fun _ _ _=>False
theorem mW{X:Cx}:gR eO X E0:=fun _ _ _ _ _ _ _ h=>h.elim
structure Fun(K:Frag)(x qual:Str)(st:Stmt)(f:Addr)(fd:FuncData):Prop where
 ex:∃(oc:Value)(od:Option Addr)(kV doc pm:Value)(an:Option Addr)(cdv ct:Value)(osl:Array (Option Value)),
  fd=fnOf x qual (dF st) (dE st) (cL st) .none kV doc pm an cdv ct/\K.lookup f=some ⟨oc,od,.func fd,osl⟩/\codeIn K cdv qual=true
 kp:keepIn K (.ref f)=true
section
variable{P:Program}{w:World}{K:Frag}{mg:Str->Option Value}{base:Heap}
theorem Fun.binds{x qual:Str}{st:Stmt}{f:Addr}{fd:FuncData}{ps:List Str}(F:Fun K x qual st f fd)
  (h:∀(kV doc pm:Value)(an:Option Addr)(cdv ct:Value)(us:List Value),us.length=ps.length->bindArgs (fnOf x qual (dF st) (dE st) (cL st) .none kV doc pm an cdv ct) ⟨us,[]⟩=pure (ps.zip us)):Binds K fd ps []:=by
 obtain⟨oc,od,kV,doc,pm,an,cdv,ct,osl,rfl,lk,hcd⟩:=F.ex;exact .all (h kV doc pm an cdv ct)
theorem nV{x qual:Str}{st:Stmt}{f:Addr}{oc:Value}{od an:Option Addr}{osl:Array (Option Value)}{kV doc pm cdv ct:Value}(l:K.lookup f=some ⟨oc,od,.func (fnOf x qual (dF st) (dE st) (cL st) .none kV doc pm an cdv ct),osl⟩)
  (c:codeIn K cdv qual=true) (k:keepIn K (.ref f)=true):Fun K x qual st f (fnOf x qual (dF st) (dE st) (cL st) .none kV doc pm an cdv ct):=⟨⟨oc,od,kV,doc,pm,an,cdv,ct,osl,rfl,l,c⟩,k⟩
end
theorem pj{n:Nat}(h:n<=1000):n<sizeLine:=yM h dC
end L2
set_option maxHeartbeats 4000000
namespace DD
open PySem PySem.Spec PyProof.Rows L2
abbrev St:=L2.St
section
variable{X:Cx}{e:Expr}{es:List Expr}{st:Stmt}{sts:List Stmt}
theorem PE_imp{t t':TE}(h:PE X e t)(i:∀σ H Q,t' σ H Q->t σ H Q):PE X e t':=fun MS s σ H Q I h'=>h MS s σ H Q I (i σ H Q h')
theorem PT_imp{t t':TT}(h:PT X e t)(i:∀σ H Q,t' σ H Q->t σ H Q):PT X e t':=fun MS s σ H Q I h'=>h MS s σ H Q I (i σ H Q h')
theorem PW_imp{t t':TT}(h:PW X e t)(i:∀σ H Q,t' σ H Q->t σ H Q):PW X e t':=fun wh MS s σ H Q I h'=>h wh MS s σ H Q I (i σ H Q h')
theorem PA_imp{t t':TA}(h:PA X es t)(i:∀σ H Q,t' σ H Q->t σ H Q):PA X es t':=fun p MS s σ H Q I h'=>h p MS s σ H Q I (i σ H Q h')
theorem PS_imp{t t':TS}(h:PS X st t)(i:∀D σ H,t' D σ H->t D σ H):PS X st t':=fun MS s σ H D I h'=>h MS s σ H D I (i D σ H h')
theorem PSs_imp{t t':TS}(h:PSs X sts t)(i:∀D σ H,t' D σ H->t D σ H):PSs X sts t':=fun MS s σ H D I h'=>h MS s σ H D I (i D σ H h')
theorem OpR_imp{f:Value->Value->Sem Value}{r r':R2}(h:kO X f r)(i:∀x y H Q,r' x y H Q->r x y H Q):kO X f r':=fun MS s σ H x y v u Q I a b h'=>h MS s σ H x y v u Q I a b (i x y H Q h')
end
theorem PG_imp{X:Cx}{tg:Expr}{t t':TG}(h:PG X tg t)(i:∀v σ H Q,t' v σ H Q->t v σ H Q):PG X tg t':=fun MS s σ H v u Q I rv h'=>h MS s σ H v u Q I rv (i v σ H Q h')
end DD
namespace L2
open PySem PySem.Spec PyProof.Rows
theorem oe:∀(names:List (Str×NameKind))(n:Nat)(acc:List (Str×Addr)),∃own,cellsFrom n names acc=own++acc/\(∀p∈own,n<=p.2/\(p.1,NameKind.cell)∈names) /\
  (∀x,(x,NameKind.cell)∈names->∃c,(x,c)∈own)/\own.Pairwise fun x y=>x.2≠y.2
 |[],n,acc=>⟨[],rfl,(fun _ h=>by cases h),(fun _ h=>by cases h),List.Pairwise.nil⟩
 |(name,kind)::r,n,acc=>by
  unfold cellsFrom;by_cases hk:kind=.cell
  ·subst hk
   obtain⟨own,e,h1,h2,h3⟩:=oe r (n+1) ((name,n)::acc);refine⟨own++[(name,n)],?_,?_,?_,?_⟩
   ·rw[yI dC,e,yN];rfl
   ·intro p hp
    rcases zZ.mp hp with hp|hp
    ·exact⟨Nat.le_of_succ_le (h1 p hp).1,zQ _ (h1 p hp).2⟩
    ·rw[zM.mp hp];exact⟨zP _,z7⟩
   ·intro x hx
    rcases zT.mp hx with hx|hx
    ·cases hx;exact⟨n,zK _ z7⟩
    ·obtain⟨c,hc⟩:=h2 x hx;exact⟨c,zL _ hc⟩
   ·refine List.pairwise_append.mpr ⟨h3,List.pairwise_singleton _ _,fun a ha b hb e=>?_⟩
    rw[zM.mp hb]at e;have h5:=(h1 a ha).1;rw[show a.2=n from e]at h5;exact absurd h5 (Nat.not_succ_le_self n)
  ·obtain⟨own,e,h1,h2,h3⟩:=oe r n acc
   have hk':(kind==NameKind.cell)=false:=by cases kind<;>first|rfl|exact absurd rfl hk
   refine⟨own,by rw[hk'];exact e,fun p hp=>⟨(h1 p hp).1,zQ _ (h1 p hp).2⟩,fun x hx=>?_,h3⟩;rcases zT.mp hx with hx|hx
   ·cases hx;exact absurd rfl hk
   ·exact h2 x hx
theorem jT{scope:Scope}{env:Env}(h:∀x,(x,NameKind.free)∈scope.names->∃c,env.cells.lookup x=some c) :
  ∃cl,closureFor scope env=pure cl/\(∀p∈cl,env.cells.lookup p.1=some p.2)/\∀x,(x,NameKind.free)∈scope.names->∃c,(x,c)∈cl:=by
 have all:∀(names:List (Str×NameKind))(acc:List (Str×Addr)),(∀x,(x,NameKind.free)∈names->∃c,env.cells.lookup x=some c)->(∀p∈acc,env.cells.lookup p.1=some p.2) ->
   ∃cl,(forIn (m:=Sem) names acc fun(p:Str×NameKind)(cs:List (Str×Addr))=>if(p.2==NameKind.free)=true then do let __do_lift <- cellOf env p.1;pure (ForInStep.yield ((p.1,__do_lift)::cs)) else pure (ForInStep.yield cs))=pure cl /\
    (∀p∈cl,env.cells.lookup p.1=some p.2)/\(∀p∈acc,p∈cl)/\∀x,(x,NameKind.free)∈names->∃c,(x,c)∈cl:=by
  intro names
  induction names with
  |nil=>intro acc _ ha;exact⟨acc,by rw[List.forIn_nil],ha,fun _ h=>h,(fun _ h=>by cases h)⟩
  |cons p r ih =>
   obtain⟨name,kind⟩:=p;intro acc hn ha;by_cases hk:kind=.free
   ·subst hk
    obtain⟨c,hc⟩:=hn name z7;obtain⟨cl,e,h1,h2,h3⟩:=ih ((name,c)::acc) (fun x hx=>hn x (zQ _ hx)) (fun p hp=>by
     rcases zT.mp hp with rfl|hp
     ·exact hc
     ·exact ha p hp)
    refine⟨cl,?_,h1,fun p hp=>h2 p (zQ _ hp),fun x hx=>?_⟩
    ·rw[List.forIn_cons]
     have ec:cellOf env name=pure c:=by unfold cellOf;rw[hc]
     simp only[ec];exact e
    ·rcases zT.mp hx with hx|hx
     ·cases hx;exact⟨c,h2 _ z7⟩
     ·exact h3 x hx
   ·obtain⟨cl,e,h1,h2,h3⟩:=ih acc (fun x hx=>hn x (zQ _ hx)) ha
    have hk':(kind==NameKind.free)=false:=by cases kind<;>first|rfl|exact absurd rfl hk
    refine⟨cl,?_,h1,h2,fun x hx=>?_⟩
    ·rw[List.forIn_cons];simp only[hk',yB,if_false];exact e
    ·rcases zT.mp hx with hx|hx
     ·cases hx;exact absurd rfl hk
     ·exact h3 x hx
 obtain⟨cl,e,h1,_,h3⟩:=all scope.names [] h (fun _ h=>by cases h);refine⟨cl,?_,h1,h3⟩;simp only[closureFor];rw[e];rfl
theorem zx{M:Model}{A:Around}{E:Value->Shared->Prop}{s:Shared}{scope:Scope}{env:Env}{cl:List (Str×Addr)}{Q:Env->Shared->Prop}
  (hQ:Q (newEnv scope s.heap.objs.size env.globals (cellsFrom (s.heap.objs.size+1) scope.names cl) env.qual none .none (some env) builtinsNs) { s with heap:=pushCells (s.heap.push { cls:=.type "dict",data:=.dict #[] }) scope.names }) :
  wpAny M A (newFunctionEnv scope env.globals cl [] env.qual none .none (some env)) Q E s:=by
 simp only[newFunctionEnv,Option.isSome_some,if_true];refine yF (wpAny_alloc ?_);refine yF (wpAny_layCells _ (fun name kind cells=>by cases hkc:kind==NameKind.cell<;>simp[hkc]) _ _ _ _ ?_);rw[show({ s with heap:=s.heap.push { cls:=.type "dict",data:=.dict #[] } }:Shared).heap.objs.size=s.heap.objs.size+1 from Heap.size_push ..];refine yF ?_;rw[List.forIn_nil];exact yG (yG hQ)
def cz(X:Cx)(N':List Str)(scope:Scope)(cl:List (Str×Addr))(s:Shared)(H:Hp)(fp:List Addr)(MS:List (Addr×Obj)):Cx :=
 { X with N:=N',s₀:=s,H₀:=H,env:=compEnvC scope (cellsFrom (s.heap.objs.size+1) scope.names cl) s.heap.objs.size X.env,outer:=X.stack,stack:=X.stack,ex:=fp,
          fn:=fun x=>scope.names.lookup x==some .cell,pn:=X.pn++MS,xe:=fun _ _=>False }
structure jq(X:Cx)(N':List Str)(scope:Scope):Prop where
 kind:scope.kind=.function
 nd:(scope.names.map (·.1)).Nodup
 len:X.N.length<=N'.length
 free:∀x,(x,NameKind.free)∈scope.names->X.env.kindOf x=some .cell\/X.env.kindOf x=some .free
 same:∀i x,i<X.N.length->N'[i]?=some x->(x,NameKind.free)∈scope.names->X.N[i]?=some x
 hid:∀i x,i<X.N.length->N'[i]?=some x->(∃k,(x,k)∈scope.names)->(x,NameKind.free)∈scope.names
theorem cY{α:Type}:∀{l:List (Str×α)}{x:Str}{k:α},(l.map (·.1)).Nodup->(x,k)∈l->l.lookup x=some k
 |(y,j)::r,x,k,nd,h=>by
  rw[zO,List.nodup_cons]at nd;rcases zT.mp h with h|h
  ·cases h;rw[yO];simp
  ·have ne:x≠y:=fun e=>nd.1 (e▸List.mem_map_of_mem (f:=(·.1)) h)
   rw[yO];have:(x==y)=false:=by simpa using ne
   rw[this];exact cY nd.2 h
theorem fK{α:Type}:∀{l:List (Str×α)}{x:Str}{k:α},(x,k)∈l->∃k',l.lookup x=some k'
 |(y,j)::r,x,k,h=>by
  rw[yO];cases hb:x==y with
  |true=>exact⟨j,rfl⟩
  |false =>
   rcases zT.mp h with h|h
   ·cases h;simp at hb
   ·exact fK h
theorem gB{scope:Scope}{env:Env}{x:Str}{k:NameKind}(h:(relabel scope env).names.lookup x=some k):(x,k)∈scope.names\/((x,NameKind.free)∈scope.names/\k=.cell):=by
 have h1:=mem_of_lookup h;unfold relabel at h1;obtain⟨⟨n,j⟩,hm,e⟩:=yD.mp h1;dsimp only at e;split at e
 ·rename_i hc
  cases e;refine .inr ⟨?_,rfl⟩;have:j=.free:=by
   cases j<;>simp at hc<;>rfl
  subst this;exact hm
 ·cases e;exact .inl hm
theorem pY{α:Type}{a b:List (Str×α)}{x:Str}(h:∀p∈a,p.1≠x):(a++b).lookup x=b.lookup x:=by
 induction a with
 |nil=>rfl
 |cons p r ih =>
  obtain⟨y,j⟩:=p;rw[List.cons_append,yO];have:(x==y)=false:=by
   have:=h (y,j) z7
   simpa using fun e:x=y=>this e.symm
  rw[this];exact ih fun p hp=>h p (zQ _ hp)
section
variable{X:Cx}{N':List Str}{scope:Scope}{cl:List (Str×Addr)}{s:Shared}{H:Hp}{fp:List Addr}{MS:List (Addr×Obj)}{σ:St}
theorem AC(T:jq X N' scope)(I:Inv X MS σ H s)(hcl:∀p∈cl,X.env.cells.lookup p.1=some p.2)(hfr:∀x,(x,NameKind.free)∈scope.names->∃c,(x,c)∈cl)
  (hf:∀b∈fp,dJ X MS H b) (ho:∀b∈fp,∃o,s.heap.get? b=some o) :
  Inv (cz X N' scope cl s H fp MS) [] (σ++List.replicate (N'.length-X.N.length) none) H { s with heap:=pushCells (s.heap.push { cls:=.type "dict",data:=.dict #[] }) scope.names }:=by
 obtain⟨own,eo,o1,o2,o3⟩:=oe scope.names (s.heap.objs.size+1) cl;have keep:∀b o,s.heap.get? b=some o->(pushCells (s.heap.push { cls:=.type "dict",data:=.dict #[] }) scope.names).get? b=some o:=fun b o e=>pushCells_keeps _ _ b o (zG _ e)
 have clt:∀x c,(x,c)∈cl->c<s.heap.objs.size:=fun x c h=>by
  obtain⟨v,z⟩:=I.cell x c (hcl _ h);exact z.lt
 -- what a cell of the block is
 have cases_:∀x c,(own++cl).lookup x=some c->(s.heap.objs.size+1<=c/\(x,c)∈own)\/X.env.cells.lookup x=some c:=fun x c h=>by
  rcases zZ.mp (mem_of_lookup h) with h|h
  ·exact .inl ⟨(o1 _ h).1,h⟩
  ·exact .inr (hcl _ h)
 have hst:∀b∈fp,b∉jD X.stack:=fun b hb z=>by
  rcases zT.mp (I.stkSub b z) with e|e
  ·exact(hf b hb).2.1 e
  ·exact(hf b hb).2.2.1 e
 have okc:CellsOk (pushCells (s.heap.push { cls:=.type "dict",data:=.dict #[] }) scope.names) (s.heap.objs.size+1) (cellsFrom (s.heap.objs.size+1) scope.names []):=by
  have q:=cellsFrom_ok scope.names (s.heap.push { cls:=.type "dict",data:=.dict #[] }) (s.heap.objs.size+1) [] ⟨(fun _ _ hm=>by cases hm),List.Pairwise.nil⟩ (by rw[Heap.size_push];exact zP _);rw[Heap.size_push]at q;exact q
 have eown:cellsFrom (s.heap.objs.size+1) scope.names []=own:=by
  obtain⟨own',e',_⟩:=oe scope.names (s.heap.objs.size+1) [];have gen:∀(names:List (Str×NameKind))(n:Nat)(acc:List (Str×Addr)),cellsFrom n names acc=cellsFrom n names []++acc:=by
   intro names
   induction names with
   |nil=>intro n acc;rfl
   |cons p r ih =>
    obtain⟨name,kind⟩:=p;intro n acc;unfold cellsFrom;split
    ·rw[ih (n+1) ((name,n)::acc),ih (n+1) [(name,n)],yN];rfl
    ·exact ih n acc
  have:=gen scope.names (s.heap.objs.size+1) cl
  rw[eo]at this;exact(List.append_cancel_right this).symm
 have ok:(cz X N' scope cl s H fp MS).Ok:=by
  refine⟨I.ok.mod,T.kind,I.ok.glob,I.ok.blt,zP _,fun x y c h1 h2=>?_,fun x h=>?_,fun x c h1 h2=>?_,I.ok.hd,I.ok.frames,.inl rfl,fun b hb=>⟨?_,fun x c h=>?_⟩,I.bs,z5 I.ok.bsz I.sz,fun b o e hb=>?_,hst,I.stack,I.stkFree⟩
  ·have h1:(own++cl).lookup x=some c:=eo▸h1
   have h2:(own++cl).lookup y=some c:=eo▸h2;rcases cases_ x c h1 with⟨l1,m1⟩|e1
   ·rcases cases_ y c h2 with⟨l2,m2⟩|e2
    ·exact name_of_addr o3 m1 m2
    ·obtain⟨v,z⟩:=I.cell y c e2
     exact absurd (zJ z.lt (Nat.le_of_succ_le (by first|exact l2|exact l1))) (xB _)
   ·rcases cases_ y c h2 with⟨l2,m2⟩|e2
    ·obtain⟨v,z⟩:=I.cell x c e1
     exact absurd (zJ z.lt (Nat.le_of_succ_le (by first|exact l2|exact l1))) (xB _)
    ·exact I.ok.inj x y c e1 e2
  ·show ∃c,(cellsFrom (s.heap.objs.size+1) scope.names cl).lookup x=some c
   rw[eo];have fromFree:(x,NameKind.free)∈scope.names->∃c,(own++cl).lookup x=some c:=fun hm=>by
    obtain⟨c,hc⟩:=hfr x hm;exact fK (zK own hc)
   have fromCell:(x,NameKind.cell)∈scope.names->∃c,(own++cl).lookup x=some c:=fun hm=>by
    obtain⟨c,hc⟩:=o2 x hm;exact fK (zL cl hc)
   rcases h with h|h
   ·rcases gB h with h|⟨h,_⟩
    ·exact fromCell h
    ·exact fromFree h
   ·rcases gB h with h|⟨h,e⟩
    ·exact fromFree h
    ·cases e
  ·have h2:(own++cl).lookup x=some c:=eo▸h2
   have hc:scope.names.lookup x=some .cell:=by
    have:(scope.names.lookup x==some NameKind.cell)=true:=h1;simpa using this
   rcases cases_ x c h2 with⟨l1,m1⟩|e1
   ·exact Nat.le_of_succ_le l1
   ·-- x is one of the block's own: MW cell stands ahead
    obtain⟨c',hc'⟩:=o2 x (mem_of_lookup hc);obtain⟨c2,hc2⟩:=fK hc';have:(own++cl).lookup x=some c2:=by
     have gen:∀l:List (Str×Addr),l.lookup x=some c2->(l++cl).lookup x=some c2:=by
      intro l
      induction l with
      |nil=>intro h;cases h
      |cons p r ih =>
       obtain⟨y,j⟩:=p;intro h;rw[List.cons_append,yO];rw[yO]at h;cases hb:x==y with
       |true=>rw[hb]at h;exact h
       |false=>rw[hb]at h;exact ih h
     exact gen own hc2
    rw[this]at h2;cases h2;exact Nat.le_of_succ_le (o1 _ (mem_of_lookup hc2)).1
  ·obtain⟨o,e⟩:=ho b hb
   exact zU (yJ e)
  ·have h:(own++cl).lookup x=some c:=eo▸h
   obtain⟨o,e⟩:=ho b hb;have hlt:=yJ e;rcases cases_ x c h with⟨l1,m1⟩|e1
   ·intro z
    rw[z]at l1;exact absurd (zJ hlt (Nat.le_of_succ_le l1)) (xB _)
   ·exact(hf b hb).2.2.2.2.1 x c e1
  ·rcases(hf b hb).2.2.2.1 with z|z
   ·exact I.ok.noex b o e z
   ·exact absurd (zJ (yJ e) (z5 I.ok.bsz z)) (xB _)
 refine⟨ok,rfl,I.bare,Un.kept keep,⟨fun _=>none,(Heap.Ns.new s.heap (.type "dict")).keeps (pushCells_keeps _ _),fun i x v e1 e2 e3=>?_⟩,fun x c h=>?_,I.M2.fresh (zP _),fun x c h=>?_,fun p hp=>?_,I.M2.kept keep,?_⟩
 ·-- a name of the code around
  have hlen:=I.len;have hi:i<σ.length:=by
   rcases yU i σ.length with h|h
   ·exact h
   ·rw[z6 h]at e2
    rw[List.getElem?_replicate]at e2;split at e2<;>cases e2
  rw[zN hi]at e2;have hmem:∃k,(x,k)∈scope.names:=by
   have:∃k,(relabel scope X.env).names.lookup x=some k:=by
    rcases e3 with h|h|h<;>exact⟨_,h⟩
   obtain⟨k,h⟩:=this;rcases gB h with h|⟨h,_⟩<;>exact⟨_,h⟩
  have hfree:=T.hid i x oM e1 hmem;have eX:=T.same i x oM e1 hfree;have kX:=T.free x hfree;obtain⟨m,hn,hl⟩:=I.loc;obtain⟨u,ru,lk⟩:=hl i x v eX e2 (by rcases kX with h|h;exact .inr (.inl h);exact .inr (.inr h));refine⟨u,ru,.inr ⟨?_,?_⟩⟩
  ·-- MW kind in the block
   have:∃k,(relabel scope X.env).names.lookup x=some k:=by
    rcases e3 with h|h|h<;>exact⟨_,h⟩
   obtain⟨k,h⟩:=this;rcases gB h with h'|⟨h',e⟩
   ·have e5:=cY T.nd h'
    have e6:=cY T.nd hfree;rw[e5]at e6;cases e6;exact .inr h
   ·subst e;exact .inl h
  ·rcases lk with⟨k1,_⟩|⟨_,c,hc,z⟩
   ·rcases kX with h|h<;>rw[h]at k1<;>cases k1
   ·refine⟨c,?_,z.keeps keep⟩
    show(cellsFrom (s.heap.objs.size+1) scope.names cl).lookup x=some c;rw[eo,pY fun p hp e=>?_]
    ·obtain⟨c',hc'⟩:=hfr x hfree
     obtain⟨c2,hc2⟩:=fK hc'
     have:=hcl _ (mem_of_lookup hc2)
     rw[hc]at this;cases this;exact hc2
    ·have e5:=cY T.nd (o1 p hp).2
     rw[e]at e5;have e6:=cY T.nd hfree;rw[e5]at e6;cases e6
 ·have h:(own++cl).lookup x=some c:=eo▸h
  rcases cases_ x c h with⟨l1,m1⟩|e1
  ·exact⟨none,(okc.empty x c (eown▸m1)).1⟩
  ·obtain⟨v,z⟩:=I.cell x c e1
   exact⟨v,z.keeps keep⟩
 ·have h:(own++cl).lookup x=some c:=eo▸h
  rcases cases_ x c h with⟨l1,m1⟩|e1
  ·exact I.M2.fresh (Nat.le_of_succ_le l1)
  ·exact I.freeC x c e1
 ·rw[List.append_nil]at hp
  obtain⟨e,n,ne,nf,d⟩:=I.pin p hp;refine⟨keep _ _ e,n,zU (yJ e),fun z=>?_,d⟩;rcases zT.mp (I.stkSub p.1 z) with z|z
  ·exact ne z
  ·exact nf z
 ·show(σ++List.replicate (N'.length-X.N.length) none).length=N'.length
  rw[zV,List.length_replicate,I.len]
  have:=T.len
  lia
theorem Gg{σ1:St}{H1:Hp}{s1:Shared}{h':Heap}{pins1:List (Addr×Obj)}(I:Inv X MS σ H s)(hf:∀b∈fp,dJ X MS H b)(I1:Inv (cz X N' scope cl s H fp MS) pins1 σ1 H1 s1)(hs:Heap.SameBut s.heap.objs.size s1.heap h') :
  Inv X MS σ H1 { s1 with heap:=h' }:=by
 have hC:∀b o,s.heap.get? b=some o->b≠s.heap.objs.size:=fun b o e=>zU (yJ e)
 have u:=I1.base;have u2:Un (jD X.stack) fp H H1 s.heap h':=by
  refine⟨fun b o e n hb hx=>?_,fun b o e n hb hx=>?_,u.free,fun b o e hx=>?_,u.tups,u.frzs,u.tbls⟩
  ·rw[hs.2 b (hC b o e)];exact u.keep b o e n hb hx
  ·obtain⟨sl,q⟩:=u.slot b o e n hb hx
   exact⟨sl,by rw[hs.2 b (hC b o e)];exact q⟩
  ·obtain⟨o',q⟩:=u.there b o e hx
   exact⟨o',by rw[hs.2 b (hC b o e)];exact q⟩
 have hCf:H1 s.heap.objs.size=none:=I1.free;refine I.call' (s':={ s1 with heap:=h' }) I1.os u2 (fun b o e=>?_) I1.bare fun b hb=>⟨(hf b hb).2.2.2.1,(hf b hb).2.1,(hf b hb).2.2.2.2.1,(hf b hb).2.2.2.2.2⟩
 refine(I1.M2 b o e).stay (fun c v hc q=>(hs.2 c ?_).trans q) (fun _ q=>q) fun _ _ q=>q
 rintro rfl;rcases hc with z|z
 ·rw[<- z,hCf]at e;cases e
 ·rw[hCf]at z;cases z
def ug(X:Cx)(ifs:List Expr)(t:TT):Prop :=
 ∀(MS:List (Addr×Obj))(s:Shared)(σ:St)(H:Hp)(Q:Bool->Hp->Prop),Inv X MS σ H s->t σ H Q ->
  wpAny (model X.prog X.w) X.A (forIn ifs true fun c r=>if r=true then do let ok <- isTrue c X.env (eval c X.env);pure (ForInStep.yield ok) else pure (ForInStep.yield r)) (TP X MS σ Q) X.xe s
theorem CD:ug X [] (fun _ H Q=>Q true H):=fun MS s σ H Q I h=>wpAny_tests_nil ⟨H,I,h⟩
theorem CC{c:Expr}{t:TT}(h:PT X c t):ug X [c] t:=fun MS s σ H Q I h'=>wpAny_tests_one (h MS s σ H Q I h')
def DL(k:Nat)(wi:TI)(g:TG)(tt:TT)(te:TE):TE:=fun σ H Q=>wi σ H fun J H1=>∀p,H1 p=none ->
 ∃W:Nat->Nat->St->Hp->Prop,(∃m,W 0 m (σ++List.replicate k none) (af H1 p (.lst [])))/\∀i m σ' H',W i m σ' H' ->
  (J.stop i H'/\Q (.ref p) H')\/(J.go i H'/\∀x H2,J.yld i H' x H2->g x σ' H2 fun σ2 H3=>tt σ2 H3 fun ok H4=>if ok=true then
   te σ2 H4 fun y H5=>∃ys,H5 p=some (.lst ys)/\ys.length<sizeLine/\∃m',m'<m/\W (i+1) m' σ2 (af H5 p (.lst (ys++[y])))
   else ∃m',m'<m/\W (i+1) m' σ2 H4)
theorem rY{prog:Program}{w:World}{A:Around}{R:Result->Shared->Prop}{s:Shared}{elt target iter:Expr}{ifs:List Expr}{scope:Scope}{pos:Pos}{it acc:Value}{env:Env}(I:Nat->Shared->Prop)
  (turn:∀n s,I n s->wpAny (model prog w) A (pyNext it) (fun r s₁=>match r with
   |none=>R (.ok .next) s₁
   |some v=>wpAny (model prog w) A (letOwnedTupleGo target it v) (fun _ s₁'=>wpAny (model prog w) A (assign target env v) (fun _ s₂ =>
     wpAny (model prog w) A (forIn ifs true fun c r=>if r=true then do let ok <- isTrue c env (eval c env);pure (ForInStep.yield ok) else pure (ForInStep.yield r)) (fun ok s₃ =>
      if ok=true then wpAny (model prog w) A (eval elt env) (fun x s₄ =>
       wpAny (model prog w) A (call (.builtin "list.append") [acc,x]) (fun _ s₅=>∃m,m<n/\I m s₅) (fun _ _=>False) s₄) (fun _ _=>False) s₃
      else ∃m,m<n/\I m s₃) (fun _ _=>False) s₂) (fun _ _=>False) s₁') (fun _ _=>False) s₁) (fun _ _=>False) s)
  (n:Nat) (h:I n s):codeAny (model prog w) A (.compLoop (.ListComp elt [⟨target,iter,ifs,0⟩] scope pos) 0 it acc env) R s:=by
 refine codeAny_loop rfl I (fun n s hI=>?_) n h;show wpAny _ A ((compTurn (.ListComp elt [⟨target,iter,ifs,0⟩] scope pos) 0 it acc env).onRaise (fun x=>do noteFrame x env;theTreesLotGoes x)) _ _ s;refine wpAny_noted ?_;rw[compTurn_list];refine yF (wpAny_standAt (yF (yT (turn n s hI) (fun r s₁ h₁=>?_) fun _ _ h'=>h'.elim)));cases r with
 |none=>exact yG h₁
 |some v =>
  refine yF (yT h₁ (fun _ s₁' h₁'=>?_) fun _ _ h'=>h'.elim);refine yF (yT h₁' (fun _ s₂ h₂=>yF (yT h₂ (fun ok s₃ h₃=>?_) fun _ _ h'=>h'.elim)) fun _ _ h'=>h'.elim);cases ok with
  |false=>exact yG ⟨rfl,h₃⟩
  |true =>
   exact yF (yF (yT h₃ (fun x s₄ h₄=>yF (yT h₄ (fun _ s₅ h₅=>yG (yG ⟨rfl,h₅⟩)) fun _ _ h'=>h'.elim)) fun _ _ h'=>h'.elim))
theorem qX{elt iter tg:Expr}{ifs:List Expr}{pos:Pos}{g:TG}{tt:TT}{te:TE}{J:It}{it:Addr}{tn:Nat->Heap->Prop}{Q:VK}{E:Value->Shared->Prop}{RR:Value->Addr->Result->Shared->Prop}
  (hc:X.calm=true) (T:jq X N' scope) (hcl:∀p∈cl,X.env.cells.lookup p.1=some p.2) (hfr:∀x,(x,NameKind.free)∈scope.names->∃c,(x,c)∈cl)
  (hg:∀cl s H fp MS,PG (cz X N' scope cl s H fp MS) tg g) (ht:∀cl s H fp MS,ug (cz X N' scope cl s H fp MS) ifs tt) (he:∀cl s H fp MS,PE (cz X N' scope cl s H fp MS) elt te)
  (I:Inv X MS σ H s) (Tn:jZ X.prog X.w X.K tg J fp it tn) (st0:tn 0 s.heap) (hf:∀b∈fp,dJ X MS H b)
  (h:∀p,H p=none->∃W:Nat->Nat->St->Hp->Prop,(∃m,W 0 m (σ++List.replicate (N'.length-X.N.length) none) (af H p (.lst [])))/\∀i m σ' H',W i m σ' H' ->
   (J.stop i H'/\Q (.ref p) H')\/(J.go i H'/\∀x H2,J.yld i H' x H2->g x σ' H2 fun σ2 H3=>tt σ2 H3 fun ok H4=>if ok=true then
    te σ2 H4 fun y H5=>∃ys,H5 p=some (.lst ys)/\ys.length<sizeLine/\∃m',m'<m/\W (i+1) m' σ2 (af H5 p (.lst (ys++[y])))
    else ∃m',m'<m/\W (i+1) m' σ2 H4))
  (hRR:∀p C s1 H1,Inv X MS σ H1 s1->Q (.ref p) H1->(∃m,s1.heap.Ns C m)->H1 C=none->s.heap.objs.size<=C->RR (.ref p) C (.ok .next) s1) :
  wpAny (model X.prog X.w) X.A (newList []) (fun acc s₃=>wpAny (model X.prog X.w) X.A (newFunctionEnv scope X.env.globals cl [] X.env.qual none .none (some X.env)) (fun cenv s₄ =>
   codeAny (model X.prog X.w) X.A (.compStart (.ListComp elt [⟨tg,iter,ifs,0⟩] scope pos) 0 (.ref it) acc { cenv with scope:=relabel scope X.env }) (RR acc cenv.locals) s₄) E s₃) E s:=by
 refine wpAny_newObj_type (zx ?_);have hp:H s.heap.objs.size=none:=I.fresh;obtain⟨W,⟨m0,w0⟩,turn⟩:=h _ hp;have I2:Inv X MS σ (af H s.heap.objs.size (.lst [])) { s with heap:=s.heap.push { cls:=.type "list",data:=.seq ([]:List Value).toArray } }:=Inv.lnew (t':=s.toks) (MW:=[]) (ys:=[]) I .nil (Nat.zero_le _);have hf2:∀b∈fp,dJ X MS (af H s.heap.objs.size (.lst [])) b:=fun b hb=>by
  obtain⟨o,e,_⟩:=Tn.obj _ _ st0 b hb;exact⟨by rw[ad (zU (yJ e))];exact(hf b hb).1,(hf b hb).2⟩
 have ho2:∀b∈fp,∃o,(s.heap.push { cls:=.type "list",data:=.seq ([]:List Value).toArray }:Heap).get? b=some o:=fun b hb=>by
  obtain⟨o,e,_⟩:=Tn.obj _ _ st0 b hb;exact⟨o,zG _ e⟩
 have I3:=AC T I2 hcl hfr hf2 ho2;have st3:tn 0 (pushCells ((s.heap.push { cls:=.type "list",data:=.seq ([]:List Value).toArray }).push { cls:=.type "dict",data:=.dict #[] }) scope.names) :=
  Tn.keep _ _ _ st0 fun b hb o e=>pushCells_keeps _ _ b o (zG _ (zG _ e))
 generalize hs2:({ s with heap:=s.heap.push { cls:=.type "list",data:=.seq ([]:List Value).toArray } }:Shared)=s2 at I2 I3;have hC:s.heap.objs.size<=s2.heap.objs.size:=by rw[<- hs2];exact yZ (by show _<(s.heap.push _).objs.size;rw[Heap.size_push];exact Nat.lt_succ_self _)
 have stat:∀{H':Hp},(∀b∈fp,H' b=none)->∀b∈fp,dJ (cz X N' scope cl s2 (af H s.heap.objs.size (.lst [])) fp MS) [] H' b:=fun {H'} hn b hb=>by
  refine⟨hn b hb,(I3.ok.exf b hb).1,I3.ok.exfs b hb,.inl hb,(I3.ok.exf b hb).2,fun p hp=>?_⟩;rw[List.append_nil]at hp;exact(hf b hb).2.2.2.2.2 p hp
 have loop:∀s4,s4=({ s2 with heap:=pushCells (s2.heap.push { cls:=.type "dict",data:=.dict #[] }) scope.names }:Shared) ->
   codeAny (model X.prog X.w) X.A (.compLoop (.ListComp elt [⟨tg,iter,ifs,0⟩] scope pos) 0 (.ref it) (.ref s.heap.objs.size) (cz X N' scope cl s2 (af H s.heap.objs.size (.lst [])) fp MS).env) (RR (.ref s.heap.objs.size) s2.heap.objs.size) s4:=by
  rintro s4 rfl;refine rY (fun n s'=>∃i σ' H',Inv (cz X N' scope cl s2 (af H s.heap.objs.size (.lst [])) fp MS) [] σ' H' s'/\tn i s'.heap/\(∀b∈fp,H' b=none)/\W i n σ' H') ?_ m0
   ⟨0,_,_,I3,by subst hs2;exact st3,fun b hb=>(hf2 b hb).1,w0⟩
  rintro n s3 ⟨i,σ3,H3,I4,st4,fr4,w4⟩;rcases turn i n σ3 H3 w4 with⟨stop,qn⟩|⟨go,step⟩
  ·refine aD (Tn.done (cz X N' scope cl s2 (af H s.heap.objs.size (.lst [])) fp MS) rfl rfl rfl hc i [] s3 σ3 H3 (fun _ _=>False) I4 (stat fr4) st4 stop) fun r s5 hq0=>?_
   obtain⟨hr,I5⟩:=hq0;subst hr;obtain⟨m,hn,_⟩:=I5.loc;exact hRR _ _ s5 H3 (Gg I2 hf2 I5 (Heap.SameBut.refl _ _)) qn ⟨m,hn⟩ I5.free hC
  ·refine aD (Tn.item (cz X N' scope cl s2 (af H s.heap.objs.size (.lst [])) fp MS) rfl rfl rfl hc i [] s3 σ3 H3 (fun _ _=>False) I4 (stat fr4) st4 go) fun r s5 hq0=>?_
   obtain⟨u,hr,h5⟩:=hq0;subst hr;refine aD h5 fun _ s6 hq0=>?_
   obtain⟨x,H6,I6,r6,y6,st6,fr6⟩:=hq0;have I6':=I6.pinned (stat fr6) (Tn.obj _ _ st6);have again:∀{σ7:St}{H7:Hp}{s7:Shared}{m':Nat},Inv (cz X N' scope cl s2 (af H s.heap.objs.size (.lst [])) fp MS) ([]++fT fp s6.heap) σ7 H7 s7->m'<n->W (i+1) m' σ7 H7 ->
     ∃m,m<n/\∃i σ' H',Inv (cz X N' scope cl s2 (af H s.heap.objs.size (.lst [])) fp MS) [] σ' H' s7/\tn i s7.heap/\(∀b∈fp,H' b=none)/\W i m σ' H':=fun {σ7 H7 s7 m'} I7 hm w7=>by
    refine⟨m',hm,i+1,σ7,H7,I7.unpinned,Tn.keep _ _ _ st6 fun b hb o e=>(I7.pin (b,o) (zK _ (zK _ (c9 hb e)))).1,fun b hb=>?_,w7⟩;obtain⟨o,e,d⟩:=Tn.obj _ _ st6 b hb;exact(I7.pin (b,o) (zK _ (zK _ (c9 hb e)))).2.1
   refine aD (hg _ _ _ _ _ _ s6 σ3 H6 x u _ I6' r6 (step x H6 y6)) fun _ s7 hq0=>?_
   obtain⟨σ7,H7,I7,q7⟩:=hq0;refine aD (ht _ _ _ _ _ _ s7 σ7 H7 _ I7 q7) fun ok s8 hq0=>?_
   obtain⟨H8,I8,q8⟩:=hq0;cases ok with
   |false =>
    simp only[yB,if_false]at q8 ⊢;obtain⟨m',hm,w8⟩:=q8;exact again I8 hm w8
   |true =>
    simp only[if_true]at q8 ⊢;refine aD (he _ _ _ _ _ _ s8 σ7 H8 _ I8 q8) fun y s9 hq0=>?_
    obtain⟨yv,H9,I9,r9,ys,e9,l9,m',hm,w9⟩:=hq0;refine aD (pA _ s9 σ7 H9 (.ref s.heap.objs.size) [yv] (.ref s.heap.objs.size) [y] (fun _ H'=>H'=af H9 s.heap.objs.size (.lst (ys++[yv]))) I9 rfl (.cons r9 .nil) ⟨_,ys,yv,rfl,rfl,e9,l9,rfl⟩) fun _ s10 hq0=>?_
    obtain⟨_,H10,I10,_,e10⟩:=hq0;subst e10;exact again I10 hm w9
 have st5:tn 0 (pushCells (s2.heap.push { cls:=.type "dict",data:=.dict #[] }) scope.names):=by subst hs2;exact st3
 have aw:=codeAny_compStart_list (loop _ rfl) (Tn.self X.A 0 _ _ (notedBy (model X.prog X.w) X.A (cz X N' scope cl s2 (af H s.heap.objs.size (.lst [])) fp MS).env fun x s'=>RR (.ref s.heap.objs.size) s2.heap.objs.size (.error x) s') st5 (loop _ rfl));subst hs2;exact aw
end
section
variable{X:Cx}{N':List Str}{scope:Scope}{MS:List (Addr×Obj)}{σ:St}{elt iter tg:Expr}{ifs:List Expr}{pos:Pos}{wi:TI}{g:TG}{tt:TT}{te:TE}
theorem qW(T:jq X N' scope):∀x∈scope.names,x.2=.local->scope.names.lookup x.1=some .local:=fun x hx e=>by
 obtain⟨n,k⟩:=x;cases e;exact cY T.nd hx
theorem Hk(hc:X.calm=true)(T:jq X N' scope)(hi:PI X tg iter wi)(hg:∀cl s H fp MS,PG (cz X N' scope cl s H fp MS) tg g)(ht:∀cl s H fp MS,ug (cz X N' scope cl s H fp MS) ifs tt)
  (he:∀cl s H fp MS,PE (cz X N' scope cl s H fp MS) elt te) (hs:∀x,foldedSetIterable iter X.env x=pure x:=by intro _;rfl) :
  PE X (.ListComp elt [⟨tg,iter,ifs,0⟩] scope pos) (DL (N'.length-X.N.length) wi g tt te):=by
 intro MS s σ H Q I h;obtain⟨cl,hclos,hcl,hfr⟩:=jT (scope:=scope) (env:=X.env) fun x hx=>I.ok.has x (T.free x hx)
 rw[eval_ListComp];refine wpAny_comprehension_free (use:=none) rfl hs hclos T.kind (qW T) (yT (hi MS s σ H _ I h) (fun xv s1 h1=>yT h1 (fun itv s2 h2=>?_) fun _ _ e=>e) fun _ _ e=>e);obtain⟨it,fp,tn,J,H2,rfl,I2,Tn,st2,f2,R⟩:=h2;refine qX (Q:=Q) (RR:=fun acc C=>compPost (model X.prog X.w) X.A X.xe none (EP X MS σ Q) acc C) hc T hcl hfr hg ht he I2 Tn st2 f2 R ?_;rintro p C s3 H3 I3 q ⟨m,hn⟩ hC hle;refine⟨m,hn,fun h' hs'=>⟨.ref p,H3,?_,rfl,q⟩⟩;refine I3.turned (t':=s3.toks) (it:=C) (fun b o hb e=>(hs'.2 b hb).trans e) hC ?_ (.inr (z5 I2.sz hle)) (fun x c e=>?_) fun p hp=>?_
 ·exact Ne.symm (zU (zJ I2.lt hle))
 ·obtain⟨v,z⟩:=I2.cell x c e
  exact zU (zJ z.lt hle)
 ·exact zU (zJ (yJ (I2.pin p hp).1) hle)
theorem wx{i:Nat}{y:Str}{py spos:Pos}(hN:X.N.Nodup)(hiN:X.N[i]?=some y)(hx:Loc X.env.scope y)(hsw:swapsWith (.ListComp elt [⟨tg,iter,ifs,0⟩] scope pos) (some (.Name y py)) spos.line X.env=pure true)
  (hc:X.calm=true) (T:jq X N' scope) (hi:PI X tg iter wi) (hg:∀cl s H fp MS,PG (cz X N' scope cl s H fp MS) tg g) (ht:∀cl s H fp MS,ug (cz X N' scope cl s H fp MS) ifs tt)
  (he:∀cl s H fp MS,PE (cz X N' scope cl s H fp MS) elt te) (hs:∀x,foldedSetIterable iter X.env x=pure x:=by intro _;rfl) (hf:X.fn y=true\/X.env.scope.names.lookup y=some .local:=by first|exact .inl rfl|exact .inr rfl|assumption) :
  PS X (.Assign [.Name y py] (.ListComp elt [⟨tg,iter,ifs,0⟩] scope pos) spos) (uA (DL (N'.length-X.N.length) wi g tt te) (nO i)):=by
 intro MS s σ H D I h;obtain⟨cl,hclos,hcl,hfr⟩:=jT (scope:=scope) (env:=X.env) fun x hx=>I.ok.has x (T.free x hx)
 rw[exec_Assign_Name_used _ _ _ _ hsw];refine yF (wpAny_standAt (yF ?_));show wpAny _ X.A (do let _ <- comprehension (.ListComp elt [⟨tg,iter,ifs,0⟩] scope pos) scope X.env _ (newList []) false (eval iter X.env) (some (assign (.Name y py) X.env))) _ _ s;refine yF (yT (wpAny_comprehension_free (use:=some (assign (.Name y py) X.env)) (Q:=fun _ s'=>SP X MS D .next s') rfl hs hclos T.kind (qW T)
  (yT (hi MS s σ H _ I h) (fun xv s1 h1=>yT h1 (fun itv s2 h2=>?_) fun _ _ e=>e) fun _ _ e=>e)) (fun _ s' hq=>yG (yG hq)) fun _ _ e=>e)
 obtain⟨it,fp,tn,J,H2,rfl,I2,Tn,st2,f2,R⟩:=h2;refine qX (Q:=fun x H1=>nO i x σ H1 D.nx) (RR:=fun acc C=>compPost (model X.prog X.w) X.A X.xe (some (assign (.Name y py) X.env)) (fun _ s'=>SP X MS D .next s') acc C) hc T hcl hfr hg ht he I2 Tn st2 f2 R ?_;rintro p C s3 H3 I3 q ⟨m,hn⟩ hC hle;have hCL:C≠X.env.locals:=Ne.symm (zU (zJ I2.lt hle));have hCc:∀x c,X.env.cells.lookup x=some c->c≠C:=fun x c e=>by
  obtain⟨v,z⟩:=I2.cell x c e;exact zU (zJ z.lt hle)
 show wpAny _ X.A (assign (.Name y py) X.env (.ref p)) _ _ _;refine wpAny_assign_Name (pi (v:=.ref p) I3 hN hiN hx rfl (fun s4 I4 hq0=>?_) hf);obtain⟨a,sb,ha⟩:=hq0;have hne:C≠a:=by
  rcases ha with e|e
  ·rw[e];exact hCL
  ·exact(hCc _ _ e).symm
 refine⟨m,hn.sameBut sb hne,fun h' hs'=>⟨_,H3,?_,q⟩⟩;refine I4.turned (t':=s4.toks) (it:=C) (fun b o hb e=>(hs'.2 b hb).trans e) hC hCL (.inr (z5 I2.sz hle)) hCc fun p hp=>?_
 exact zU (zJ (yJ (I2.pin p hp).1) hle)
end
end L2
namespace DD
open PySem PySem.Spec PyProof.Rows L2
section
variable{X:Cx}{MS:List (Addr×Obj)}{σ:St}{H:Hp}{s:Shared}{F:Addr->Prop}
theorem obj_list(I:L2.Inv X MS σ H s){a:Addr}{vs:List V}(h:bQ X.K H a vs):∃MW o n,Vals vs MW/\s.heap.get? a=some o/\o.cls=.type "list"/\o.data=.seq MW.toArray n:=by
 obtain⟨MW,r,⟨o,n,e,c,_,d⟩,_⟩:=I.list h;exact⟨MW,o,n,r,e,c,d⟩
theorem obj_tup(I:L2.Inv X MS σ H s){a:Addr}{vs:List V}(h:gQ X.K H a vs):∃MW o n,Vals vs MW/\s.heap.get? a=some o/\o.cls=.type "tuple"/\o.data=.seq MW.toArray n:=by
 obtain⟨MW,r,⟨o,e,c,n,d⟩,_⟩:=I.tuple h;exact⟨MW,o,n,r,e,c,d⟩
end
noncomputable def pyOk(p q:PyData):Bool:=p.canLay0&&q.canLay0&&decide (min p.depth q.depth<=50)
end DD
namespace L2
open PySem PySem.Spec PyProof.Rows
def Jp(K:Frag)(a b:Addr):It :=
 ⟨fun i H=>∃xs ys x y,bQ K H a xs/\bQ K H b ys/\xs[i]?=some x/\ys[i]?=some y,
  fun i H x H'=>∃p u w,(∀xs,bQ K H a xs->xs[i]?=some u)/\(∀ys,bQ K H b ys->ys[i]?=some w)/\H p=none/\H'=af H p (.tup [u,w])/\x=.ref p,
  fun i H=>∃xs ys,bQ K H a xs/\bQ K H b ys/\(xs.length<=i\/ys.length<=i)⟩
theorem Inv.turnT{X:Cx}{MS:List (Addr×Obj)}{σ:St}{H:Hp}{s:Shared}{h':Heap}{ch:List Addr}{u w:V}{x y:Value}(I:Inv X MS σ H s)(hf:∀b∈ch,dJ X MS H b)(ru:RelV u x)(rw':RelV w y)
  (hk:∀c o,c∉ch->s.heap.get? c=some o->h'.get? c=some o) (hT:IsPair h' s.heap.objs.size x y) (hth:∀b∈ch,∃o,h'.get? b=some o):Inv X MS σ (af H s.heap.objs.size (.tup [u,w])) { s with heap:=h' }:=by
 have hfr:H s.heap.objs.size=none:=I.fresh;have nch:∀b o,H b=some o->b∉ch:=fun b o e hb=>by rw[(hf b hb).1]at e;cases e
 have ne:∀b o,s.heap.get? b=some o->b≠s.heap.objs.size:=fun b o e=>zU (yJ e)
 refine I.step (g':=s.gens) (d':=s.drawn) (t':=s.toks) (ch:=ch) (fun b hb=>⟨(hf b hb).2.2.2.1,(hf b hb).2.1,(hf b hb).2.2.2.2.1,(hf b hb).2.2.2.2.2⟩) (fun b o _ _ hc e _=>hk b o hc e)
  (fun b o _ _ hc e _=>⟨o.slots,hk b o hc e⟩) (fun b o _ e n=>by rw[ad (ne b o e)];exact n) (fun b o hc e=>⟨o,hk b o hc e⟩) (fun b xs e=>by rw[ad (aX e hfr)];exact e)
  (fun b o v e=>by rw[ad (aX e hfr)];exact e) (fun b ps e=>⟨#[],by rw[ad (aX e hfr),e];simp⟩) (fun m hm=>?_) (fun b o e=>?_) I.bare
 ·obtain⟨o,es,ep,ho,r⟩:=hm
  exact⟨o,es,ep,hk _ o (fun z=>(hf _ z).2.1 rfl) ho,r⟩
 ·by_cases hb:b=s.heap.objs.size
  ·subst hb
   rw[ay]at e;cases e;refine⟨by show 2<=sizeLine;decide,[x,y],.cons ru (.cons rw' .nil),⟨_,hT,rfl,_,rfl⟩⟩
  ·rw[ad hb]at e
   refine(I.M2 b o e).stay (fun c v hc q=>hk c v ?_ q) (fun c q=>by rw[ad (aX q hfr)];exact q) fun c xs q=>by rw[ad (aX q hfr)];exact q
   rcases hc with rfl|hc
   ·exact nch _ _ e
   ·exact nch _ _ hc
theorem Inv.turnN{X:Cx}{MS:List (Addr×Obj)}{σ:St}{H:Hp}{s:Shared}{h':Heap}{ch:List Addr}(I:Inv X MS σ H s)(hf:∀b∈ch,dJ X MS H b)
  (hk:∀c o,c∉ch->s.heap.get? c=some o->h'.get? c=some o):Inv X MS σ H { s with heap:=h' }:=by
 have nch:∀b o,H b=some o->b∉ch:=fun b o e hb=>by rw[(hf b hb).1]at e;cases e
 refine I.step (g':=s.gens) (d':=s.drawn) (t':=s.toks) (ch:=ch) (fun b hb=>⟨(hf b hb).2.2.2.1,(hf b hb).2.1,(hf b hb).2.2.2.2.1,(hf b hb).2.2.2.2.2⟩) (fun b o _ _ hc e _=>hk b o hc e)
  (fun b o _ _ hc e _=>⟨o.slots,hk b o hc e⟩) (fun b o _ e n=>n) (fun b o hc e=>⟨o,hk b o hc e⟩) (fun b xs e=>e)
  (fun b o v e=>e) (fun b ps e=>⟨#[],by rw[e];simp⟩) (fun m hm=>?_) (fun b o e=>?_) I.bare
 ·obtain⟨o,es,ep,ho,r⟩:=hm
  exact⟨o,es,ep,hk _ o (fun z=>(hf _ z).2.1 rfl) ho,r⟩
 ·refine(I.M2 b o e).stay (fun c v hc q=>hk c v ?_ q) (fun c q=>q) fun c xs q=>q
  rcases hc with rfl|hc
  ·exact nch _ _ e
  ·exact nch _ _ hc
theorem c6{X:Cx}{MS:List (Addr×Obj)}{σ:St}{H:Hp}{s:Shared}{a b:Addr}{xs:List V}(I:Inv X MS σ H s)(h:bQ X.K H a xs)(hb:dJ X MS H b)(hob:∃o,s.heap.get? b=some o/\o.cls≠.type "list"):a≠b:=by
 rintro rfl;obtain⟨MW,r,⟨o,n,e,c,_⟩,_⟩:=I.list h;obtain⟨o',e',c'⟩:=hob;rw[e]at e';cases e';exact c' c
theorem yd{P:Program}{w:World}{K:Frag}{elts:List Expr}{x1:Nat}{tpos:Pos}(a b z TI TO i1 i2:Addr)(D1:TI≠z)(D2:TO≠z)(D3:i1≠z)(D4:i2≠z)(D5:TI≠TO)(D6:TI≠i1)(D7:TI≠i2)(D8:TO≠i1)(D9:TO≠i2)(D10:i1≠i2) :
  jZ P w K (.Tuple elts x1 tpos) (Jp K a b) [z,TI,TO,i1,i2] z (fun i h=>IsZip h z TI TO .none/\IsPair h TI (.ref i1) (.ref i2)/\(∃u v,IsPair h TO u v)/\h.IsListIter i1 a i/\h.IsListIter i2 b i) where
 mem:=by simp
 obj:=fun i h hq0 c hc=>by
  obtain⟨hz,hTI,⟨u,v,hTO⟩,⟨o1,e1,c1,d1⟩,⟨o2,e2,c2,d2⟩⟩:=hq0;simp only[zT,zX,or_false]at hc;rcases hc with rfl|rfl|rfl|rfl|rfl
  ·exact⟨_,hz,fun v z=>nomatch z⟩
  ·exact⟨_,hTI,fun v z=>nomatch z⟩
  ·exact⟨_,hTO,fun v z=>nomatch z⟩
  ·exact⟨_,e1,fun v z=>by rw[d1]at z;cases z⟩
  ·exact⟨_,e2,fun v z=>by rw[d2]at z;cases z⟩
 keep:=fun i h h' ⟨hz,hTI,⟨u,v,hTO⟩,h1,h2⟩ k=>⟨k z (by simp) _ hz,k TI (by simp) _ hTI,⟨u,v,k TO (by simp) _ hTO⟩,h1.at fun o e=>k i1 (by simp) o e,h2.at fun o e=>k i2 (by simp) o e⟩
 item:=by
  rintro X hP hw hK hc i MS s σ H E I hf ⟨hz,hTI,⟨ua,ub,hTO⟩,h1,h2⟩ ⟨xs,ys,x,y,hq1,hq2,hx,hy⟩;subst hP hw hK;obtain⟨its1,rv1,p1,_⟩:=I.list hq1;obtain⟨its2,rv2,p2,_⟩:=I.list hq2;obtain⟨u1,hu1,ru1⟩:=rv1.get hx;obtain⟨u2,hu2,ru2⟩:=rv2.get hy;have ob:∀c∈[z,TO,i1,i2],∃o,s.heap.get? c=some o/\o.cls≠.type "list":=fun c hc=>by
   obtain⟨o1,e1,c1,d1⟩:=id h1;obtain⟨o2,e2,c2,d2⟩:=id h2;simp only[zT,zX,or_false]at hc;rcases hc with rfl|rfl|rfl|rfl
   ·exact⟨_,hz,by simp⟩
   ·exact⟨_,hTO,by simp⟩
   ·exact⟨_,e1,by rw[c1];simp⟩
   ·exact⟨_,e2,by rw[c2];simp⟩
  have na:∀c∈[z,TO,i1,i2],a≠c:=fun c hc=>c6 I hq1 (hf c (by simp at hc ⊢;rcases hc with h|h|h|h<;>simp[h])) (ob c hc)
  have nb:∀c∈[z,TO,i1,i2],b≠c:=fun c hc=>c6 I hq2 (hf c (by simp at hc ⊢;rcases hc with h|h|h|h<;>simp[h])) (ob c hc)
  have D:ZipApart z TI TO i1 i2 a b:=⟨D1,D2,D3,D4,D5,D6,D7,D8,D9,D10,na z (by simp),na TO (by simp),na i1 (by simp),na i2 (by simp),nb z (by simp),nb TO (by simp),nb i1 (by simp),nb i2 (by simp)⟩;refine wpAny_pyNext_zip_item D hz hTI hTO h1 h2 p1.isList p2.isList (x:=u1) (y:=u2) (by simpa using hu1) (by simpa using hu2) fun h' a1 a2 a3 a4 a5 a6 hk=>?_
  have hf4:∀c∈[z,TO,i1,i2],dJ X MS H c:=fun c hc=>hf c (by simp at hc ⊢;rcases hc with h|h|h|h<;>simp[h])
  have hk':∀c o,c∉[z,TO,i1,i2]->s.heap.get? c=some o->h'.get? c=some o:=fun c o hc e=>hk c o (fun q=>hc (by simp[q])) (fun q=>hc (by simp[q])) (fun q=>hc (by simp[q])) (fun q=>hc (by simp[q])) e
  have I1:Inv X MS σ (af H s.heap.objs.size (.tup [x,y])) { s with heap:=h' }:=I.turnT hf4 ru1 ru2 hk' a5 (fun c hc=>by
   obtain⟨o1,e1,_⟩:=id a3;obtain⟨o2,e2,_⟩:=id a4;simp only[zT,zX,or_false]at hc;rcases hc with rfl|rfl|rfl|rfl
   ·exact⟨_,a1⟩
   ·exact⟨_,a2⟩
   ·exact⟨_,e1⟩
   ·exact⟨_,e2⟩)
  have hfr:H s.heap.objs.size=none:=I.fresh;refine⟨_,rfl,wpAny_letOwnedTupleGo_zip (s:={ s with heap:=h' }) a1 fun h'' z1 sb=>?_⟩;have hf5:∀c∈[z,TI,TO,i1,i2],(af H s.heap.objs.size (.tup [x,y])) c=none:=fun c hc=>by
   have lt:c<s.heap.objs.size:=by
    obtain⟨o1,e1,_⟩:=id h1;obtain⟨o2,e2,_⟩:=id h2;simp only[zT,zX,or_false]at hc;rcases hc with rfl|rfl|rfl|rfl|rfl
    ·exact yJ hz
    ·exact yJ hTI
    ·exact yJ hTO
    ·exact yJ e1
    ·exact yJ e2
   rw[ad (zU lt)];exact(hf c hc).1
  have I2:Inv X MS σ (af H s.heap.objs.size (.tup [x,y])) { s with heap:=h'' }:=Inv.turnN (s:={ s with heap:=h' }) (ch:=[z]) I1 (fun c hc=>by
   have:c=z:=by simpa using hc
   subst this;exact⟨hf5 c (by simp),(hf c (by simp)).2⟩) (fun c o hc e=>(sb.2 c (fun q=>hc (by simp[q]))).trans e)
  refine⟨.ref s.heap.objs.size,_,I2,rfl,⟨_,x,y,fun zs hzs=>by rw[I.list_inj hzs hq1];exact hx,fun zs hzs=>by rw[I.list_inj hzs hq2];exact hy,hfr,rfl,rfl⟩,⟨z1,?_,⟨u1,u2,?_⟩,?_,?_⟩,hf5⟩
  ·exact(sb.2 TI D1).trans (hk' TI _ (by simp[D1,D5,D6,D7]) hTI)
  ·exact(sb.2 TO D2).trans a2
  ·exact a3.at fun o e=>(sb.2 i1 D3).trans e
  ·exact a4.at fun o e=>(sb.2 i2 D4).trans e
 done:=by
  rintro X hP hw hK hc i MS s σ H E I hf ⟨hz,hTI,⟨ua,ub,hTO⟩,h1,h2⟩ ⟨xs,ys,hq1,hq2,hend⟩;subst hP hw hK;obtain⟨its1,rv1,p1,_⟩:=I.list hq1;obtain⟨its2,rv2,p2,_⟩:=I.list hq2;have ob:∀c∈[z,TO,i1,i2],∃o,s.heap.get? c=some o/\o.cls≠.type "list":=fun c hc=>by
   obtain⟨o1,e1,c1,d1⟩:=id h1;obtain⟨o2,e2,c2,d2⟩:=id h2;simp only[zT,zX,or_false]at hc;rcases hc with rfl|rfl|rfl|rfl
   ·exact⟨_,hz,by simp⟩
   ·exact⟨_,hTO,by simp⟩
   ·exact⟨_,e1,by rw[c1];simp⟩
   ·exact⟨_,e2,by rw[c2];simp⟩
  have hf4:∀c∈[z,TO,i1,i2],dJ X MS H c:=fun c hc=>hf c (by simp at hc ⊢;rcases hc with h|h|h|h<;>simp[h])
  have na:∀c∈[z,TO,i1,i2],a≠c:=fun c hc=>c6 I hq1 (hf4 c hc) (ob c hc)
  have nb:∀c∈[z,TO,i1,i2],b≠c:=fun c hc=>c6 I hq2 (hf4 c hc) (ob c hc)
  have D:ZipApart z TI TO i1 i2 a b:=⟨D1,D2,D3,D4,D5,D6,D7,D8,D9,D10,na z (by simp),na TO (by simp),na i1 (by simp),na i2 (by simp),nb z (by simp),nb TO (by simp),nb i1 (by simp),nb i2 (by simp)⟩;have hl1:=rv1.length;have hl2:=rv2.length;refine wpAny_pyNext_zip_end (I.ok.hd hc) D hz hTI hTO h1 h2 p1.isList p2.isList (by rcases hend with h|h;(left;simp;lia);(right;simp;lia)) fun h' hk=>⟨rfl,?_⟩
  exact I.turnN hf4 fun c o hc e=>hk c o (fun q=>hc (by simp[q])) (fun q=>hc (by simp[q])) (fun q=>hc (by simp[q])) (fun q=>hc (by simp[q])) e
 self:=fun _ _ _ _ _ ⟨hz,_⟩ h=>wpAny_pyIter_zip hz h
def Kh(K:Frag)(ta:TA):TI:=fun σ H R=>ta σ H fun vs H1=>∃a b,vs=[.ref a,.ref b]/\(∃xs,bQ K H1 a xs)/\(∃ys,bQ K H1 b ys)/\R (Jp K a b) H1
theorem EO{X:Cx}{elts:List Expr}{x1:Nat}{tpos:Pos}{a b:Expr}{ta:TA}{p pos:Pos}(hg:Gl X "zip")(hm:X.mg "zip"=none)(ha:PA X [a,b] ta)(hs:starEach [a,b] X.env=[(false,eval a X.env),(false,eval b X.env)]:=by rfl)(hs2:starEach [b] X.env=[(false,eval b X.env)]:=by rfl) :
  PI X (.Tuple elts x1 tpos) (.Call (.Name "zip" p) [a,b] [] pos) (Kh X.K ta):=by
 intro MS s σ H R I h;refine Call_ (dD I hg hm boot_zip (PyProof.Rows.callWith_type1 (aD (ha pos MS s σ H _ I h) fun us s1 ⟨vs,H1,I1,r1,q1⟩=>?_) (by rw[hs,hs2]) (by rw[hs2];rfl)));obtain⟨l1,l2,e,⟨xs,hq1⟩,⟨ys,hq2⟩,q⟩:=q1;subst e;cases r1 with
 |cons r rr =>
  cases rr with
  |cons r' rr =>
   cases rr;cases r;cases r';obtain⟨its1,rv1,p1,_⟩:=I1.list hq1;obtain⟨its2,rv2,p2,_⟩:=I1.list hq2;refine call_zip_2 p1.isList p2.isList fun h' hz hTI hTO h1 h2 hsz hk=>?_
   have I2:Inv X MS σ H1 { s1 with heap:=h' }:=I1.kept (t':=s1.toks) hk;refine wpAny_pyIter_zip (s:={ s1 with heap:=h' }) hz ?_;have lt:∀k:Nat,s1.heap.objs.size<=s1.heap.objs.size+k:=fun k=>Nat.le_add_right _ _
   refine⟨_,[s1.heap.objs.size+4,s1.heap.objs.size+2,s1.heap.objs.size+3,s1.heap.objs.size,s1.heap.objs.size+1],_,_,H1,rfl,I2,
    yd l1 l2 (s1.heap.objs.size+4) (s1.heap.objs.size+2) (s1.heap.objs.size+3) s1.heap.objs.size (s1.heap.objs.size+1) ?_ ?_ ?_ ?_ ?_ ?_ ?_ ?_ ?_ ?_,⟨hz,hTI,⟨_,_,hTO⟩,h1,h2⟩,fun c hc=>?_,q⟩
   all_goals first
    | (show _ + _ ≠ _ + _;intro z;exact absurd (Nat.add_left_cancel z) dC)
    | (show _ ≠ _ + _;intro z;exact absurd z (by have:=Nat.lt_add_of_pos_right (n:=s1.heap.objs.size) (k:=4) dC;have:=Nat.lt_add_of_pos_right (n:=s1.heap.objs.size) (k:=1) dC;exact zU (by assumption)))
    | (show _ + _ ≠ _;exact Nat.ne_of_gt (Nat.lt_add_of_pos_right dC))
    |skip
   have hle:s1.heap.objs.size<=c:=by
    simp only[zT,zX,or_false]at hc;rcases hc with rfl|rfl|rfl|rfl|rfl
    ·exact lt 4
    ·exact lt 2
    ·exact lt 3
    ·exact zP _
    ·exact lt 1
   obtain⟨f0,f1,f2,f3,f4,f5⟩:=I1.fpOk hle (I1.M2.fresh hle);exact⟨f0,f1,f2,f3,f4,f5⟩
theorem As{X:Cx}:AM X (fun o i H Q=>∃p xs k v,o=.ref p/\i=.int k/\bQ X.K H p xs/\gf xs k=some v/\Q v H):=by
 rintro MS s σ H o i ov iv Q I ro ri ⟨p,xs,k,v,e1,e2,hq,he,q⟩;subst e1 e2;cases ro;obtain⟨t,rfl⟩:=ri;obtain⟨MW,r,pl,hz⟩:=I.list hq;obtain⟨j,h1,h2,h3,h4,h5⟩:=ly he;obtain⟨w,ew,rw'⟩:=r.get h2;have hl:=r.length;have hn:=gG;have aw:EP X MS σ Q w s:=⟨v,H,I,rw',q⟩;by_cases h0:0<=k
 ·have hj:k.toNat=j:=by
   rw[seqIndex_of h0 h5]at h1;exact yE h1
  exact wpAny_getItem_list pl.isList h0 oM (by rw[hj];simpa using ew) aw
 ·have hj:(k+(MW.toArray.size:Int)).toNat=j:=by
   rw[seqIndex_neg oM h4]at h1;rw[zI,<- hl];exact yE h1
  exact wpAny_getItem_list_neg pl.isList oM (by rw[zI]<;>lia) oM (by rw[hj];simpa using ew) aw
end L2
namespace DD
open PySem PySem.Spec PyProof.Rows L2
section
variable{X:Cx}{e o a b:Expr}{es:List Expr}{p q:DP}{c c':DE}{pos apos cpos:Pos}{i:Nat}{js:List DP}
theorem cnt_vals{h:Heap}{q:PyData}{e:Value->Bool}(he:∀v p as,Reads h v p as->e v=PyData.eqv p q):∀{vs:List Value}{ps:List PyData}{as:List Addr},ReadsAll h vs ps as->vs.countP e=ps.countP fun r=>PyData.eqv r q:=by
 intro vs
 induction vs with
 |nil=>intro ps as h;cases h;rfl
 |cons v vs ih =>
  intro ps as h;cases h with
  |cons r rs=>rw[List.countP_cons,List.countP_cons,ih rs,he _ _ _ r]
theorem reads_each{h:Heap}:∀{vs:List Value}{ps:List PyData}{as:List Addr},ReadsAll h vs ps as->∀v∈vs,∃p as',p∈ps/\Reads h v p as':=by
 intro vs
 induction vs with
 |nil=>intro ps as h v hv;cases hv
 |cons v vs ih =>
  intro ps as h v hv;cases h with
  |cons r rs =>
   rcases zT.mp hv with rfl|hv
   ·exact⟨_,_,z7,r⟩
   ·obtain⟨p,as',hp,h⟩:=ih rs v hv
    exact⟨p,as',zQ _ hp,h⟩
noncomputable def minL:List Int->Option Int
 |[]=>none
 |x::xs=>some (xs.foldl (fun a b=>if b<a then b else a) x)
theorem minF:∀(xs:List Int)(x:Int),(xs.foldl (fun a b=>if b<a then b else a) x∈x::xs)/\∀a∈x::xs,xs.foldl (fun a b=>if b<a then b else a) x<=a
 |[],x=>⟨by simp,by simp⟩
 |y::xs,x=>by
  obtain⟨h1,h2⟩:=minF xs (if y<x then y else x);rw[List.foldl_cons];constructor
  ·rcases zT.mp h1 with h|h
   ·rw[h];split<;>simp
   ·simp[h]
  ·intro a ha
   have hm:=h2 (if y<x then y else x) (by simp);have hx:(if y<x then y else x)<=x:=by split<;>lia
   have hy:(if y<x then y else x)<=y:=by split<;>lia
   rcases zT.mp ha with rfl|ha
   ·exact Int.le_trans hm hx
   ·rcases zT.mp ha with rfl|ha
    ·exact Int.le_trans hm hy
    ·exact h2 a (by simp[ha])
theorem minL_eq{ns:List Int}{m M:Int}(h:minL ns=some m)(h1:M∈ns)(h2:∀a∈ns,M<=a):M=m:=by
 cases ns with
 |nil=>cases h1
 |cons x xs =>
  cases h;obtain⟨g1,g2⟩:=minF xs x;have a1:=g2 M h1;have a2:=h2 _ g1;lia
end
section
variable{X:Cx}{e o a b:Expr}{es:List Expr}{p q:DP}{c c':DE}{pos apos cpos:Pos}{i:Nat}{js:List DP}
theorem any_vals{h:Heap}{q:PyData}{e:Value->Bool}(he:∀v p as,Reads h v p as->e v=PyData.eqv p q):∀{vs:List Value}{ps:List PyData}{as:List Addr},ReadsAll h vs ps as->vs.any e=ps.any fun r=>PyData.eqv r q
 |_,_,_,.nil=>rfl
 |_,_,_,.cons r rs=>by rw[List.any_cons,List.any_cons,any_vals he rs,he _ _ _ r]
end
end DD
namespace L2
open PySem PySem.Spec PyProof.Rows
def xX(K:Frag)(a:Addr)(n0:Nat):It :=
 ⟨fun i H=>∃xs x,bQ K H a xs/\xs[i]?=some x,
  fun i H x H'=>∃p u,(∀xs,bQ K H a xs->xs[i]?=some u)/\H p=none/\H'=af H p (.tup [.int ((n0+i:Nat):Int),u])/\x=.ref p,
  fun i H=>∃xs,bQ K H a xs/\xs.length=i⟩
theorem pL{prog:Program}{w:World}{A:Around}(hh:A.handled=none)(it l:Addr)(hne:l≠it)(items:Array Value)(n0:Nat) :
  Draws prog w A it [it,l] (n0+items.size) (fun i v=>n0<=i/\items[i-n0]?=some v) (fun i h=>n0<=i/\h.IsListIter it l (i-n0)/\h.IsList l items) where
 live:=fun _ _ q=>by obtain⟨o,ho,_⟩:=q.2.1;exact⟨o,ho⟩
 frame:=fun _ _ _ q hk=>⟨q.1,q.2.1.at fun o e=>hk it (by simp) o e,q.2.2.at fun o e=>hk l (by simp) o e⟩
 item:=fun i s Q E hi q hQ=>by
  have hl:i-n0<items.size:=by have:=q.1;lia
  refine wpAny_nextOf_list_item q.2.1 q.2.2 (x:=items[i-n0]) (by simp[hl]) fun h' hit' hs'=>?_
  refine hQ _ h' s.toks ⟨q.1,by simp[hl]⟩ ⟨Nat.le_succ_of_le q.1,?_,q.2.2.extBut hs'.extBut hne⟩ hs';rw[show i+1-n0=i-n0+1 by have:=q.1;lia];exact hit'
 done:=fun s Q E q hE=>wpAny_nextOf_list_end hh q.2.1 q.2.2 (by simp) hE
theorem vW{P:Program}{w:World}{K:Frag}{elts:List Expr}{x1:Nat}{tpos:Pos}(a z it:Addr)(n0:Nat)(D:z≠it) :
  jZ P w K (.Tuple elts x1 tpos) (xX K a n0) [z,it] z (fun i h=>(∃old,IsEnum h z it ((n0+i:Nat):Int) old)/\h.IsListIter it a i) where
 mem:=by simp
 obj:=fun i h hq0 c hc=>by
  obtain⟨⟨old,hz⟩,⟨o1,e1,c1,d1⟩⟩:=hq0;simp only[zT,zX,or_false]at hc;rcases hc with rfl|rfl
  ·exact⟨_,hz,fun v z=>nomatch z⟩
  ·exact⟨_,e1,fun v z=>by rw[d1]at z;cases z⟩
 keep:=fun i h h' ⟨⟨old,hz⟩,h1⟩ k=>⟨⟨old,k z (by simp) _ hz⟩,h1.at fun o e=>k it (by simp) o e⟩
 item:=by
  rintro X hP hw hK hc i MS s σ H E I hf ⟨⟨old,hz⟩,h1⟩ ⟨xs,x,hq,hx⟩;subst hP hw hK;obtain⟨MW,rv,p1,_⟩:=I.list hq;obtain⟨u,hu,ru⟩:=rv.get hx;have na:a≠z:=c6 I hq (hf z (by simp)) ⟨_,hz,by simp⟩;have nb:a≠it:=c6 I hq (hf it (by simp)) (by obtain⟨o1,e1,c1,d1⟩:=id h1;exact⟨_,e1,by rw[c1];simp⟩);have hil:i<MW.length:=(zB.mp hu).1;refine wpAny_pyNext_enum_itemD (pL (A:=X.A.in1) (I.ok.hd hc) it a nb MW.toArray n0) hz ⟨Nat.le_add_right _ _,by rw[Nat.add_sub_cancel_left];exact h1,p1.isList⟩ (by simp[hil]) D (by simp[D,na.symm]) fun v h' tk hv ho hst hT hsz hk=>?_
  have ev:v=u:=by
   have h2:=hv.2;rw[Nat.add_sub_cancel_left]at h2;simp only[List.getElem?_toArray]at h2;rw[hu]at h2;exact(yE h2).symm
  subst ev;have hf2:∀c∈[z,it],dJ X MS H c:=fun c hc=>hf c hc
  have hk':∀c o,c∉[z,it]->s.heap.get? c=some o->h'.get? c=some o:=fun c o hc e=>hk c o (fun q=>hc (by simp[q])) (fun q=>hc (by simp[q])) e
  have I0:Inv X MS σ (af H s.heap.objs.size (.tup [.int ((n0+i:Nat):Int),x])) { s with heap:=h' }:=I.turnT hf2 (u:=.int ((n0+i:Nat):Int)) ⟨tk,rfl⟩ ru hk' hT (fun c hc=>by
   obtain⟨o1,e1,_⟩:=id hst.2.1;simp only[zT,zX,or_false]at hc;rcases hc with rfl|rfl
   ·exact⟨_,ho⟩
   ·exact⟨_,e1⟩)
  have I1:Inv X MS σ (af H s.heap.objs.size (.tup [.int ((n0+i:Nat):Int),x])) { s with heap:=h',toks:=tk+1 }:=I0.kept (t':=tk+1) (fun _ _ e=>e);have hfr:H s.heap.objs.size=none:=I.fresh;refine⟨_,rfl,wpAny_letOwnedTupleGo_enum (s:={ s with heap:=h',toks:=tk+1 }) ho fun h'' z1 sb=>?_⟩;have hf5:∀c∈[z,it],(af H s.heap.objs.size (.tup [.int ((n0+i:Nat):Int),x])) c=none:=fun c hc=>by
   have lt:c<s.heap.objs.size:=by
    obtain⟨o1,e1,_⟩:=id h1;simp only[zT,zX,or_false]at hc;rcases hc with rfl|rfl
    ·exact yJ hz
    ·exact yJ e1
   rw[ad (zU lt)];exact(hf c hc).1
  have I2:Inv X MS σ (af H s.heap.objs.size (.tup [.int ((n0+i:Nat):Int),x])) { s with heap:=h'',toks:=tk+1 }:=Inv.turnN (s:={ s with heap:=h',toks:=tk+1 }) (ch:=[z]) I1 (fun c hc=>by
   have:c=z:=by simpa using hc
   subst this;exact⟨hf5 c (by simp),(hf c (by simp)).2⟩) (fun c o hc e=>(sb.2 c (fun q=>hc (by simp[q]))).trans e)
  refine⟨.ref s.heap.objs.size,_,I2,rfl,⟨_,x,fun zs hzs=>by rw[I.list_inj hzs hq];exact hx,hfr,rfl,rfl⟩,⟨⟨_,by rw[show((n0+(i+1):Nat):Int)=((n0+i:Nat):Int)+1 by lia];exact z1⟩,?_⟩,hf5⟩;have h3:=hst.2.1;rw[show n0+i+1-n0=i+1 by lia]at h3;exact h3.at fun o e=>(sb.2 it D.symm).trans e
 done:=by
  rintro X hP hw hK hc i MS s σ H E I hf ⟨⟨old,hz⟩,h1⟩ ⟨xs,hq,hend⟩;subst hP hw hK;obtain⟨MW,rv,p1,_⟩:=I.list hq;have nb:a≠it:=c6 I hq (hf it (by simp)) (by obtain⟨o1,e1,c1,d1⟩:=id h1;exact⟨_,e1,by rw[c1];simp⟩);have hl:=rv.length;refine wpAny_pyNext_enum_endD (pL (A:=X.A.in1) (I.ok.hd hc) it a nb MW.toArray n0) hz ⟨Nat.le_add_right _ _,?_,p1.isList⟩ fun h' hk=>⟨rfl,?_⟩
  ·rw[Nat.add_sub_cancel_left,zI,<- hl,hend];exact h1
  ·exact I.turnN (ch:=[z,it]) (fun c hc=>hf c hc) fun c o hc e=>hk c o (fun q=>hc (by simp[q])) e
 self:=fun _ _ _ _ _ ⟨⟨_,hz⟩,_⟩ h=>wpAny_pyIter_enum hz h
theorem pN:bootBuiltins "enumerate"=some (.type "enumerate"):=by decide +kernel
def HI(K:Frag)(n0:Nat)(ta:TA):TI:=fun σ H R=>ta σ H fun vs H1=>∃a,vs=[.ref a]/\(∃xs,bQ K H1 a xs)/\R (xX K a n0) H1
theorem rP{X:Cx}{MS:List (Addr×Obj)}{σ:St}{H1:Hp}{s1:Shared}{h':Heap}{t':Nat}{l:Addr}{n0:Nat}{elts:List Expr}{x1:Nat}{tpos:Pos}{R:It->Hp->Prop}(I1:Inv X MS σ H1 s1)(he:IsEnum h' (s1.heap.objs.size+1) s1.heap.objs.size (n0:Int) .none)(hi:h'.IsListIter s1.heap.objs.size l 0)
  (hk:∀b o,s1.heap.get? b=some o->h'.get? b=some o) (q:R (xX X.K l n0) H1):Gu X MS σ (.Tuple elts x1 tpos) R (.ref (s1.heap.objs.size+1)) { s1 with heap:=h',toks:=t' }:=by
 have I2:Inv X MS σ H1 { s1 with heap:=h',toks:=t' }:=I1.kept (t':=t') hk;refine⟨_,[s1.heap.objs.size+1,s1.heap.objs.size],_,_,H1,rfl,I2,vW l (s1.heap.objs.size+1) s1.heap.objs.size n0 (Nat.ne_of_gt (Nat.lt_succ_self _)),⟨⟨_,by simpa using he⟩,hi⟩,fun c hc=>?_,q⟩;have hle:s1.heap.objs.size<=c:=by
  simp only[zT,zX,or_false]at hc;rcases hc with rfl|rfl
  ·exact Nat.le_succ _
  ·exact zP _
 obtain⟨f0,f1,f2,f3,f4,f5⟩:=I1.fpOk hle (I1.M2.fresh hle);exact⟨f0,f1,f2,f3,f4,f5⟩
theorem CF{X:Cx}{elts:List Expr}{x1:Nat}{tpos:Pos}{a:Expr}{ta:TA}{p pos:Pos}(hg:Gl X "enumerate")(hm:X.mg "enumerate"=none)(ha:PA X [a] ta)(hs:starEach [a] X.env=[(false,eval a X.env)]:=by rfl) :
  PI X (.Tuple elts x1 tpos) (.Call (.Name "enumerate" p) [a] [] pos) (HI X.K 0 ta):=by
 intro MS s σ H R I h;refine Call_ (dD I hg hm pN (PyProof.Rows.callWith_type1 (aD (ha pos MS s σ H _ I h) fun us s1 ⟨vs,H1,I1,r1,q1⟩=>?_) (by rw[hs];rfl) (by rfl)));obtain⟨l,e,⟨xs,hq⟩,q⟩:=q1;subst e;cases r1 with
 |cons r rr =>
  cases rr;cases r;obtain⟨MW,rv,p1,_⟩:=I1.list hq;refine call_enumerate_list p1.isList fun h' he hi hsz hk=>?_
  refine wpAny_pyIter_enum (s:={ s1 with heap:=h' }) he ?_;exact rP (t':=s1.toks) (n0:=0) I1 he hi hk q
section
variable{prog:Program}{w:World}{A:Around}{E:Value->Shared->Prop}{s:Shared}
theorem yi{α:Type}{x:Sem α}{Q Q1:α->Shared->Prop}{M:Model}(h:wpAny M A x Q E s)(hQ:∀a s,Q a s->Q1 a s):wpAny M A x Q1 E s:=yT h hQ fun _ _ x=>x
theorem qu(a v:Value):checkTypeCall "enumerate" ⟨[a],[("start",v)]⟩=pure ():=by kernel_rfl
theorem pX(a v:Value):checkBuiltinCall "enumerate.__new__" ⟨[.type "enumerate",a],[("start",v)]⟩=pure ():=by kernel_rfl
theorem oV(o a v:Value):argsOk "object.__init__" ⟨[o,a],[("start",v)]⟩:=by
 unfold argsOk;rw[signature?_of (id:="object.__init__") (n:=['_','_','t','i','n','i','_','_']) (o:=['t','c','e','j','b','o']) (by kernel_rfl) F.owner_object]
 kernel_rfl
theorem vA{T newId:String}{self a v:Value}(hl:typeLookup (.type T) "__init__"=pure (some (.builtin "object.__init__")))(hm:Bind.madeBy (.type T)=pure (some newId))(hne:(some newId !=some "object.__new__")=true) :
  Meets (Builtin.«object.__init__» ⟨[self,a],[("start",v)]⟩) (fun _ R s=>s.TypeIs self T/\R (.ok (.ret .none)) s):=Meets.of_wp fun prog w A R s hs=>by
 obtain⟨hT,hq⟩:=hs
 repeat (any_goals (first | assumption | wp_step))
 exact⟨_,rfl,hq⟩
theorem sk{M:Model}{pos:Pos}{T:String}{args:List (Bool×Sem Value)}{kws:List (Option Str×Sem Value)}{Q:Value->Shared->Prop}(hp:args.any (·.1)=false)(hk:kws.any (·.1.isNone)=false)
  (h:wpAny M A (evalArgs (.type T) true args kws) (fun a s₁=>wpAny M A (call (.type T) a.pos a.kw) Q E s₁) E s):wpAny M A (callWith pos (.type T) [] args kws) Q E s:=by
 unfold callWith;refine yF (yS (yi h fun a s₁ h₁=>yF (wpAny_standAt ?_)));simp only[hp,hk,Bool.or_false];refine yF (yG (yF (yi h₁ fun r s₂ hr=>yF (yS (wpAny_point (yG hr))))))
end
section
variable{prog:Program}{w:World}{A:Around}{E:Value->Shared->Prop}{s:Shared}
theorem Bq{it t:Addr}{items:Array Value}(hne:t≠it):∀(n i:Nat)(s:Shared)(Q:List Value->Shared->Prop),s.heap.IsListIter it t i->s.heap.IsList t items->i+n<=items.size ->
  (∀h',h'.IsListIter it t (i+n)->Heap.SameBut it s.heap h'->Q ((items.toList.drop i).take n) { s with heap:=h' })->wpAny (model prog w) A (draw (.ref it) n) Q E s
 |0,i,s,Q,hit,_,_,hQ=>yG (by simpa using hQ s.heap hit (Heap.SameBut.refl ..))
 |n+1,i,s,Q,hit,ht,hle,hQ=>by
  have hlt:i<items.size:=by lia
  refine yF (m:=pyNext (.ref it)) (wpAny_pyNext_list_item hit ht (x:=items[i]) (by simp[hlt]) fun h₁ hit₁ hs₁=>?_);refine yF (yS (Bq hne n (i+1) _ _ hit₁ (ht.extBut hs₁.extBut hne) oM fun h₂ hit₂ hs₂=>yG ?_));have q:=hQ h₂ (by rw[show i+(n+1)=i+1+n by lia];exact hit₂) (hs₁.trans hs₂);rw[show items.toList.drop i=items[i]::items.toList.drop (i+1) by simp[List.drop_eq_getElem_cons,hlt],List.take_succ_cons]at q;exact q
theorem BQ{t:Addr}{items:Array Value}{targets:List (Bool×(Value->Sem Unit))}{Q:Unit->Shared->Prop}(hh:A.handled=none)(ht:s.heap.IsList t items)(hn:targets.length=items.size)(hstar:targets.findIdx? (·.1)=none)
  (h:∀h',Heap.ExtBut s.heap.objs.size s.heap h'->wpAny (model prog w) A (assignInOrder (targets.map (·.2)) items.toList) Q E { s with heap:=h' }):wpAny (model prog w) A (unpack (.ref t) targets) Q E s:=by
 have hlt:t≠s.heap.objs.size:=by obtain⟨o,ho,_⟩:=ht;exact zU (yJ ho)
 unfold unpack;rw[hn,hstar];refine yF (yS ?_);unfold unpackItems;refine yF ?_;unfold notIterableAtAll;refine yF (wpAny_specialOf ht.typeIs slot_list_iter.lookup (yG ?_));simp only[yB,if_false];refine yF (yS (wpAny_pyIter_list ht (yF (yS (Bq hlt items.size 0 _ _ ⟨_,zY _ rfl,rfl,rfl⟩ (ht.push _) oM fun h₁ hit₁ hs₁=>?_)))));rw[show List.take items.size (List.drop 0 items.toList)=items.toList by rw[List.drop_zero];exact List.take_of_length_le (by simp),yH (by simp)];refine yF (yS (wpAny_pyNext_list_end hh hit₁ ((ht.push _).extBut hs₁.extBut hlt) (by simp) fun h₂ he₂=>?_));simp only[Option.isSome_none,yB,if_false];exact yG (h h₂ fun b o hb e=>he₂ b o hb (hs₁.extBut b o hb (zG _ e)))
end
section
variable{X:Cx}{pos:Pos}
noncomputable def HM(K:Frag)(n:Nat)(t:mf):TG:=fun v σ H Q=>∃a xs,v=.ref a/\bQ K H a xs/\xs.length=n/\t xs σ H Q
theorem CI{es:List Expr}{k:Nat}{t:mf}{n:Nat}(hc:X.calm=true)(h:pV X es t)(hn:(assignEach es X.env).length=n:=by rfl)(hst:(assignEach es X.env).findIdx? (·.1)=none:=by rfl):PG X (.Tuple es k pos) (HM X.K n t):=by
 intro MS s σ H v u Q I r hw;obtain⟨a,xs,e1,hq,hl,hw⟩:=hw;subst e1;cases r;obtain⟨MW,rv,pl,hz⟩:=I.list hq;rw[arm_assign_Tuple];refine yF (wpAny_standAt (BQ (I.ok.hd hc) pl.isList (by simp[hn,<- hl,rv.length]) hst fun h' hx=>?_));have I1:Inv X MS σ H { s with heap:=h' }:=I.kept (t':=s.toks) fun b o e=>hx b o (zU (yJ e)) e
 exact h MS _ σ H xs _ Q I1 (by simpa using rv) hw
theorem jJ:∀(l:List Value)(k:Nat),(∀(j:Nat)(v:Value),l[j]?=some v->∃t,v=.int ((k+j:Nat):Int) t)->Vals ((List.range' k l.length).map fun(q:Nat)=>V.int (q:Int)) l
 |[],_,_=>.nil
 |u::l,k,h=>by
  rw[yY,List.range'_succ,zO];refine .cons ?_ (jJ l (k+1) fun j v e=>?_)
  ·obtain⟨t,e⟩:=h 0 u rfl
   exact⟨t,e⟩
  ·obtain⟨t,e2⟩:=h (j+1) v (by simpa using e)
   exact⟨t,by rw[e2,show k+(j+1)=k+1+j by lia]⟩
theorem jU:bootBuiltins "list"=some (.type "list"):=by decide +kernel
def DK(ta:TE):TE:=fun σ H Q=>A4 ta ux σ H fun vs H1=>∃j:Nat,vs=[.int (j:Int)]/\j<=1000/\∀p,H1 p=none->Q (.ref p) (af H1 p (.lst ((List.range' 0 j).map fun(q:Nat)=>V.int (q:Int))))
theorem zp{a:Expr}{ta:TE}{p1 p2 pos2:Pos}(hc:X.calm=true)(hgl:Gl X "list")(hml:X.mg "list"=none)(hgr:Gl X "range")(hmr:X.mg "range"=none)(ha:PE X a ta)
  (hs:starEach [a] X.env=[(false,eval a X.env)]:=by rfl) (hs1:starEach [.Call (.Name "range" p2) [a] [] pos2] X.env=[(false,eval (.Call (.Name "range" p2) [a] [] pos2) X.env)]:=by rfl) :
  PE X (.Call (.Name "list" p1) [.Call (.Name "range" p2) [a] [] pos2] [] pos) (DK ta):=by
 intro MS s σ H Q I h;refine Call_ (dD I hgl hml jU (PyProof.Rows.callWith_type1 ?_ (by rw[hs1];rfl) (by rfl)));rw[hs1];refine Calls.spliced_cons (Call_ (dD I hgr hmr boot_range (PyProof.Rows.callWith_type1 (aD ((tD ha wG hs) pos2 MS s σ H _ I h) fun us s1 ⟨vs,H1,I1,r1,q1⟩=>?_) (by rw[hs];rfl) (by rfl))));cases r1 with
 |nil=>obtain⟨j,e,_⟩:=q1;cases e
 |cons r rr =>
  obtain⟨j,e,hj,q⟩:=q1;cases e;cases rr;obtain⟨t,rfl⟩:=r;refine call_range_1 (Calls.spliced_nil ?_);have I2:Inv X MS σ H1 { s1 with heap:=s1.heap.push { cls:=.type "range",data:=.fields #[.int 0 s1.toks,.int (j:Int) t,.int 1 (s1.toks+1)] },toks:=s1.toks+1+1 }:=I1.kept fun b o e=>zG _ e
  refine call_list_range (n:=j) (I.ok.hd hc) (IsRange.new ..) (small_one oM oM oM oM) (by rw[rangeSize_one];split<;>lia) oM fun h' tk acc' c' hk hS hacc=>?_
  have hv:=jJ acc'.toList 0 (fun i v e=>by
   obtain⟨t,e2⟩:=hacc.2 i v (by simpa using e);exact⟨t,by rw[e2];congr 1;lia⟩)
  rw[show acc'.toList.length=j by simpa using hacc.1]at hv;exact⟨.ref _,_,I2.laid (o:=.lst ((List.range' 0 j).map fun(q:Nat)=>V.int (q:Int))) hk (zP _) ⟨yZ (pj (by simp;lia)),acc'.toList,c',hv,hS⟩,rfl,q _ I2.fresh⟩
end
end L2
namespace PySem.AutoSeq1
theorem vD(l:Addr)(items:Array Value)(n:Nat)(b:Addr)(items2:Array Value)(n2:Nat)(sl:Array (Option Value))(hc0:¬(!items.isEmpty&&Builtin.List.listTooLong (items.size+items2.size))=true)(hc1:items.size<=sizeLine)(hs2:items.size+items2.size<=sizeLine+1) :
  Meets (Builtin.«list.extend» ⟨[.ref l,.ref b],[]⟩) (fun _ R s=>s.heap.get? l=some { cls:=.type "list",dict:=none,data:=.seq items n,slots:=#[] }/\s.heap.get? b=some { cls:=.type "list",dict:=none,data:=.seq items2 n2,slots:=sl }/\R (.ok (.ret Value.none)) { s with heap:=s.heap.update l (Obj.mapSeq fun x=>x++items2),toks:=s.toks }) :=
 .of_wp fun prog w A R s h=>by
  obtain⟨hp,g,d,tk,os⟩:=s;obtain⟨hl,hb,h⟩:=h;have f1:=idx_int;have f2:=sub_tuple_tuple;have f3:=sub_list_list;have f4:=sub_tuple_list;have f5:=sub_list_tuple;have hz':(items++items2).size<=sizeLine+1:=by rw[Array.size_append];exact hs2
  wp_walk using (wpAny_updateSeq hl rfl (hz:=hc1) (_hz':=hz')),wpAny_loadPart' hl,wpAny_loadPart' hb;exact⟨_,rfl,h⟩
end PySem.AutoSeq1
namespace L2
open PySem PySem.Spec PyProof.Rows
section
variable{X:Cx}
def GU(K:Frag):V->List V->Hp->VK->Prop:=fun x vs H Q=>∃l b xs zs,x=.ref l/\vs=[.ref b]/\H l=some (.lst xs)/\bQ K H b zs/\xs.length+zs.length<=sizeLine/\Q .non (af H l (.lst (xs++zs)))
theorem CW:Gy X "list.extend" (GU X.K):=by
 intro MS s σ H x vs v us Q I rx rv h;obtain⟨l,b,xs,zs,rfl,rfl,hH,hB,hz,q⟩:=h;cases rx;obtain⟨u,rfl,ru⟩:=rv.one;cases ru;obtain⟨z,MW,n,r,hl,e⟩:=I.lstM hH;obtain⟨its2,r2,pl,hz2⟩:=I.list hB;obtain⟨o,n2,e2,c2,d2,s2⟩:=pl;obtain⟨oc,od,odt,osl⟩:=o;dsimp only at c2 d2 s2;subst c2;subst d2;subst s2;have hl2:=r2.length;have hsz:MW.toArray.size+its2.toArray.size<=sizeLine:=by rw[zI,zI];lia
 have hlong:¬(!MW.toArray.isEmpty&&Builtin.List.listTooLong (MW.toArray.size+its2.toArray.size))=true:=by
  rw[notLongL hsz,Bool.and_false];exact Bool.false_ne_true
 refine call_meets F.slot_list_extend ⟨_,e,rfl⟩ F.entry_list_extend (F.args_list_extend_2 _ _)
  (PySem.AutoSeq1.vD l MW.toArray n b its2.toArray n2 osl hlong (by rw[zI];lia) oM) ⟨e,e2,?_⟩
 refine⟨.non,_,I.lset (its':=MW++its2) hH e (by simp) (r.append r2) ?_,rfl,q⟩;rw[zV];lia
end
end L2
namespace PySem.AutoSeq1
theorem Dl(l:Addr)(items:Array Value)(n:Nat)(sl1:Array (Option Value))(b:Addr)(items2:Array Value)(n2:Nat)(sl:Array (Option Value))(hs2:items.size+items2.size<=sizeLine) :
  Meets (Builtin.«list.__add__» ⟨[.ref l,.ref b],[]⟩) (fun _ R s=>s.heap.get? l=some { cls:=.type "list",dict:=none,data:=.seq items n,slots:=sl1 }/\s.heap.get? b=some { cls:=.type "list",dict:=none,data:=.seq items2 n2,slots:=sl }/\R (.ok (.ret (Value.ref s.heap.objs.size))) { s with heap:=s.heap.push { cls:=.type "list",data:=.seq (items++items2) },toks:=s.toks }) :=
 .of_wp fun prog w A R s h=>by
  obtain⟨hp,g,d,tk,os⟩:=s;obtain⟨hl,hb,h⟩:=h;have f1:=idx_int;have f2:=sub_tuple_tuple;have f3:=sub_list_list;have f4:=sub_tuple_list;have f5:=sub_list_tuple;have hz':(items++items2).size<=sizeLine+1:=by rw[Array.size_append];lia
  have hlong:Builtin.List.listTooLong (items.size+items2.size)=false:=L2.notLongL hs2
  wp_walk using wpAny_loadPart' hl,wpAny_loadPart' hb
  all_goals first|exact⟨_,rfl,h⟩|skip
end PySem.AutoSeq1
namespace L2
open PySem PySem.Spec PyProof.Rows
section
variable{X:Cx}
def GV(K:Frag):R2:=fun x y H Q=>∃l b xs zs,x=.ref l/\y=.ref b/\bQ K H l xs/\bQ K H b zs/\xs.length+zs.length<=sizeLine/\∀p,H p=none->Q (.ref p) (af H p (.lst (xs++zs)))
theorem CP:kO X (binaryOp .Add) (GV X.K):=by
 intro MS s σ H x y v u Q I rx ry h;obtain⟨l,b,xs,zs,rfl,rfl,hH,hB,hz,q⟩:=h;cases rx;cases ry;obtain⟨MW,r,⟨o1,n1,e1,c1,d1,s1⟩,_⟩:=I.list hH;obtain⟨its2,r2,⟨o2,n2,e2,c2,d2,s2⟩,_⟩:=I.list hB;obtain⟨oc,od,odt,osl⟩:=o1;obtain⟨pc,pd,pdt,psl⟩:=o2;dsimp only at c1 d1 s1 c2 d2 s2;subst c1;subst d1;subst s1;subst c2;subst d2;subst s2;have hl1:=r.length;have hl2:=r2.length;have hsz:MW.toArray.size+its2.toArray.size<=sizeLine:=by rw[zI,zI];lia
 refine wpAny_binaryOp_concat (T:="list") (id:="list.__add__") ⟨_,e1,rfl⟩ ⟨_,e2,rfl⟩ noFill_list_add (by rfl) ?_;refine call_meets F.slot_list_add ⟨_,e1,rfl⟩ F.entry_list_add (F.args_list_add_2 _ _) (PySem.AutoSeq1.Dl l MW.toArray n1 osl b its2.toArray n2 psl hsz) ⟨e1,e2,?_⟩;have ea:MW.toArray++its2.toArray=(MW++its2).toArray:=by simp
 rw[ea];exact⟨.ref _,_,I.lnew (t':=s.toks) (r.append r2) (by rw[zV];lia),rfl,q _ I.fresh⟩
end
section
variable{κ:Type}[DecidableEq κ]
noncomputable def eP(MU:List (κ×V))(k:κ):Option V:=(MU.find? fun kv=>decide (kv.1=k)).map (·.2)
noncomputable def eS(MU:List (κ×V))(k:κ)(v:V):List (κ×V) :=
 if(MU.any fun kv=>decide (kv.1=k))=true then MU.map (fun kv=>if kv.1=k then(kv.1,v) else kv) else MU++[(k,v)]
theorem mo{p:κ×V}{r:List (κ×V)}{k:κ}(e:p.1=k):eP (p::r) k=some p.2:=by simp[eP,List.find?_cons,e]
theorem mq{p:κ×V}{r:List (κ×V)}{k:κ}(e:¬p.1=k):eP (p::r) k=eP r k:=by simp[eP,List.find?_cons,e]
theorem qt(k:κ):∀MU:List (κ×V),(MU.any fun kv=>decide (kv.1=k))=(eP MU k).isSome
 |[]=>rfl
 |p::r=>by
  rw[List.any_cons];by_cases e:p.1=k
  ·simp only[mo e,yW e,Bool.true_or,Option.isSome_some]
  ·rw[mq e,yA e,Bool.false_or];exact qt k r
theorem lK(MU:List (κ×V))(k:κ)(v:V):(eS MU k v).length<=MU.length+1:=by
 unfold eS;split
 ·rw[zH];lia
 ·rw[zV,yY,List.length_nil];lia
theorem RelO.isSome_eq{o:Option V}{u:Option Value}(r:RelO o u):o.isSome=u.isSome:=by
 cases o with
 |none=>cases u with
  |none=>rfl
  | some _=>exact (show False from r).elim
 |some _=>cases u with
  | none=>exact (show False from r).elim
  |some _=>rfl
theorem KV.val{MU:List (κ×V)}{vs:List (κ×Value)}(r:KV MU vs)(k:κ):RelO (eP MU k) (valueAt vs k):=by
 unfold KV at r
 induction r with
 |nil=>exact True.intro
 |@cons p q ps qs h t ih =>
  obtain⟨h1,h2⟩:=h;by_cases e:p.1=k
  ·have e':q.1=k:=h1.symm.trans e
   have b:valueAt (q::qs) k=some q.2:=by simp[valueAt,List.find?_cons,e']
   rw[mo e,b];exact h2
  ·have e':¬q.1=k:=fun z=>e (h1.trans z)
   have b:valueAt (q::qs) k=valueAt qs k:=by simp[valueAt,List.find?_cons,e']
   rw[mq e,b];exact ih
theorem KV.any{MU:List (κ×V)}{vs:List (κ×Value)}(r:KV MU vs)(k:κ):(MU.any fun kv=>decide (kv.1=k))=vs.any fun kv=>decide (kv.1=k):=by
 unfold KV at r
 induction r with
 |nil=>rfl
 |cons h t ih=>rw[List.any_cons,List.any_cons,ih,h.1]
theorem KV.repl{MU:List (κ×V)}{vs:List (κ×Value)}(r:KV MU vs)(k:κ){y:V}{u:Value}(ry:RelV y u) :
  KV (MU.map fun kv=>if kv.1=k then(kv.1,y) else kv) (vs.map fun kv=>if kv.1=k then(kv.1,u) else kv):=by
 unfold KV at r ⊢
 induction r with
 |nil=>exact .nil
 |@cons p q ps qs h t ih =>
  rw[zO,zO];refine .cons ?_ ih;obtain⟨h1,h2⟩:=h;by_cases e:p.1=k
  ·rw[yI e,yI (h1.symm.trans e)];exact⟨h1,ry⟩
  ·rw[yH e,yH (fun z=>e (h1.trans z))];exact⟨h1,h2⟩
theorem KV.put{MU:List (κ×V)}{vs:List (κ×Value)}(r:KV MU vs)(k:κ){y:V}{u:Value}(ry:RelV y u):KV (eS MU k y) (stored vs k u):=by
 unfold eS stored;rw[r.any k];by_cases e:(vs.any fun kv=>decide (kv.1=k))=true
 ·rw[yI e,yI e];exact r.repl k ry
 ·rw[yH e,yH e];exact Paired.snoc r ⟨rfl,ry⟩
theorem KV.length{MU:List (κ×V)}{vs:List (κ×Value)}(r:KV MU vs):MU.length=vs.length:=Paired.length r
end
theorem nq{P:Program}{w:World}{k:aT}{u:Value}(r:RelV (kV k) u):(cb P w).is k u=true:=by
 cases k with
 | inl i=>obtain ⟨t,e⟩:=(show ∃ t,u=Value.int i t from r);subst e;exact sK P w i t
 | inr x=>obtain ⟨t,e⟩:=(show ∃ t,u=Value.str x t from r);subst e;exact sJ P w x t
theorem pC{P:Program}{w:World}:∀{ks:List aT}{us:List Value},Vals (ks.map kV) us->ItemsAre (cb P w) ks us
 |[],_,r=>by rw[List.map_nil]at r;cases r;exact .nil
 |k::ks,_,r=>by
  rw[zO]at r;cases r with
  |cons h t=>exact .cons (nq h) (pC t)
abbrev KT(H:Hp):List (List aT×V)->List (List aT×Addr×Value)->Prop:=Paired fun p q=>p.1=q.1/\H q.2.1=some (.tup (p.1.map kV))/\RelV p.2 q.2.2
theorem KT.val{H:Hp}{MU:List (List aT×V)}{xs:List (List aT×Addr×Value)}(r:KT H MU xs)(k:List aT):RelO (eP MU k) ((atKey xs k).map (·.2)):=by
 induction r with
 |nil=>exact True.intro
 |@cons p q ps qs h t ih =>
  obtain⟨h1,_,h2⟩:=h;by_cases e:p.1=k
  ·have e':q.1=k:=h1.symm.trans e
   have b:atKey (q::qs) k=some q.2:=by simp[atKey,List.find?_cons,e']
   rw[mo e,b];exact h2
  ·have e':¬q.1=k:=fun z=>e (h1.trans z)
   have b:atKey (q::qs) k=atKey qs k:=by simp[atKey,List.find?_cons,e']
   rw[mq e,b];exact ih
theorem KT.repl{H:Hp}{MU:List (List aT×V)}{xs:List (List aT×Addr×Value)}(r:KT H MU xs)(k:List aT){y:V}{u:Value}(ry:RelV y u) :
  KT H (MU.map fun kv=>if kv.1=k then(kv.1,y) else kv) (xs.map (putAt k u)):=by
 induction r with
 |nil=>exact .nil
 |@cons p q ps qs h t ih =>
  rw[zO,zO];refine .cons ?_ ih;obtain⟨h1,h2,h3⟩:=h;unfold putAt;by_cases e:p.1=k
  ·rw[yI e,yI (h1.symm.trans e)];exact⟨h1,h2,ry⟩
  ·rw[yH e,yH (fun z=>e (h1.trans z))];exact⟨h1,h2,h3⟩
theorem KT.put{H:Hp}{MU:List (List aT×V)}{xs:List (List aT×Addr×Value)}(r:KT H MU xs)(k:List aT){b:Addr}{y:V}{u:Value}(hb:H b=some (.tup (k.map kV)))(ry:RelV y u) :
  KT H (eS MU k y) (storedH xs k b u):=by
 have e:(MU.any fun kv=>decide (kv.1=k))=(atKey xs k).isSome:=by
  rw[qt,(r.val k).isSome_eq,Option.isSome_map]
 unfold eS storedH;rw[e];by_cases q:(atKey xs k).isSome=true
 ·rw[yI q,yI q];exact r.repl k ry
 ·rw[yH q,yH q];exact Paired.snoc r ⟨rfl,hb,ry⟩
theorem KT.keeps{H H':Hp}{MU:List (List aT×V)}{xs:List (List aT×Addr×Value)}(r:KT H MU xs)(ht:∀b ys,H b=some (.tup ys)->H' b=some (.tup ys)):KT H' MU xs :=
 Paired.mapP r fun _ _ z=>⟨z.1,ht _ _ z.2.1,z.2.2⟩
section
variable{P:Program}{w:World}{H:Hp}{h:Heap}{a:Addr}
theorem A7{u:HO}(ok:HOk P w H h)(e:Rd H a u):ObjOk P w H h a u:=e.ok ok
theorem n9{MU:List (aT×V)}(ok:HOk P w H h)(e:Rd H a (.dK MU)):MU.length<=sizeLine/\(a==sysModules)=false/\∃vs,KV MU vs/\h.DictOf (cb P w) a vs :=
 show ObjOk P w H h a (.dK MU) from A7 ok e
theorem Br{MU:List (aT×V)}(ok:HOk P w H h)(e:H a=some (.dK MU)):MU.length<=sizeLine/\(a==sysModules)=false/\∃vs,KV MU vs/\h.DictOf (cb P w) a vs:=n9 ok (.inl e)
theorem kx{ks:List aT}(ok:HOk P w H h)(e:H a=some (.tup (ks.map kV))):(tupleKind (cb P w)).is h ks a:=by
 obtain ⟨_,MW,r,o,h1,h2,n,h3⟩:=(show ObjOk P w H h a (.tup (ks.map kV)) from ok a _ e);exact ⟨o,MW.toArray,n,h1,h2,h3,by simpa using pC r⟩
theorem nZ{MU:List (List aT×V)}(ok:HOk P w H h)(e:Rd H a (.dT MU)):MU.length<=sizeLine/\(a==sysModules)=false /\
  ∃xs,KT H MU xs/\h.DictOfH (tupleKind (cb P w)) a xs:=by
 obtain ⟨z,y,xs,r,o,es,ep,h1,h2,h3,h4,h5⟩:=(show ObjOk P w H h a (.dT MU) from A7 ok e);refine ⟨z,y,xs,r,o,es,ep,h1,h2,h3,h4,fun x hx=>?_,h5⟩;have all:∀ {l:List (List aT × V)}{m:List (List aT × Addr × Value)},KT H l m->∀ x ∈ m,(tupleKind (cb P w)).is h x.1 x.2.1:=by
  intro l m q
  induction q with
  |nil=>intro x hx;exact nomatch hx
  |@cons p q ps qs hq t ih =>
   intro x hx;rcases zT.mp hx with e|hx
   ·subst e
    exact kx ok (by rw[<- hq.1];exact hq.2.1)
   ·exact ih x hx
 exact all r x hx
theorem Bp{MU:List (List aT×V)}(ok:HOk P w H h)(e:H a=some (.dT MU)):MU.length<=sizeLine/\(a==sysModules)=false /\
  ∃xs,KT H MU xs/\h.DictOfH (tupleKind (cb P w)) a xs:=nZ ok (.inl e)
end
def DGet(H:Hp)(a:Addr)(y:V)(r:Option V):Prop :=
 (∃MU k,Rd H a (.dK MU)/\y=kV k/\r=eP MU k)\/∃MU k b,Rd H a (.dT MU)/\y=.ref b/\H b=some (.tup (k.map kV))/\r=eP MU k
def DPut(H:Hp)(a:Addr)(y v:V)(H':Hp):Prop :=
 (∃MU k,H a=some (.dK MU)/\y=kV k/\MU.length<sizeLine/\H'=af H a (.dK (eS MU k v))) \/
 ∃MU k b,H a=some (.dT MU)/\y=.ref b/\H b=some (.tup (k.map kV))/\MU.length<sizeLine/\H'=af H a (.dT (eS MU k v))
theorem DGet.k{H:Hp}{a:Addr}{MU:List (aT×V)}{k:aT}(e:H a=some (.dK MU)):DGet H a (kV k) (eP MU k):=.inl ⟨MU,k,.inl e,rfl,rfl⟩
theorem DGet.t{H:Hp}{a b:Addr}{MU:List (List aT×V)}{k:List aT}(e:H a=some (.dT MU))(eb:H b=some (.tup (k.map kV))):DGet H a (.ref b) (eP MU k):=.inr ⟨MU,k,b,.inl e,rfl,eb,rfl⟩
theorem DPut.k{H:Hp}{a:Addr}{MU:List (aT×V)}{k:aT}{v:V}(e:H a=some (.dK MU))(hl:MU.length<sizeLine):DPut H a (kV k) v (af H a (.dK (eS MU k v))):=.inl ⟨MU,k,e,rfl,hl,rfl⟩
theorem DPut.t{H:Hp}{a b:Addr}{MU:List (List aT×V)}{k:List aT}{v:V}(e:H a=some (.dT MU))(eb:H b=some (.tup (k.map kV)))(hl:MU.length<sizeLine) :
  DPut H a (.ref b) v (af H a (.dT (eS MU k v))):=.inr ⟨MU,k,b,e,rfl,eb,hl,rfl⟩
section
variable{X:Cx}{MS:List (Addr×Obj)}{σ:St}{H:Hp}{s:Shared}{a:Addr}{y v:V}{u r:Value}{o:Option V}{A:Around}{E:Value->Shared->Prop}
theorem Inv.big(I:Inv X MS σ H s):sysModules<s.heap.objs.size:=by
 have h:mainGlobals<s.heap.objs.size:=(I.mod.glob.keeps I.bk).lt;exact Nat.lt_trans dC h
theorem xz{Q:Value->Shared->Prop}(hu:A.units+1<cLine)(I:Inv X MS σ H s)(g:DGet H a y (some v))(ry:RelV y u)(h:∀w' s',Inv X MS σ H s'->RelV v w'->Q w' s') :
  wpAny (model X.prog X.w) A (getItem (.ref a) u) Q E s:=by
 rcases g with⟨MU,k,e,ey,l⟩|⟨MU,k,b,e,ey,eb,l⟩
 ·subst ey
  obtain⟨z,hd,vs,rel,dd⟩:=n9 I.M2 e;obtain⟨w',hw,rw'⟩:=RelO.some_of (v:=v) (o:=valueAt vs k) (by rw[l];exact rel.val k);exact wpAny_getItem_of (nq ry) dd.mapOf hw (h w' _ (I.tok _) rw')
 ·subst ey
  cases (show u=Value.ref b from ry);obtain ⟨z,hd,xs,rel,dd⟩:=nZ I.M2 e;obtain ⟨w',hw,rw'⟩:=RelO.some_of (v:=v) (o:=(atKey xs k).map (·.2)) (by rw [l];exact rel.val k);obtain ⟨p,hp,hp2⟩:=zE.mp hw;refine wpAny_getItem_heap (tupleKind_room_in1 hu) (kx I.M2 eb) dd hp ?_;rw [hp2];exact h w' _ (I.tok _) rw'
theorem Kq{Q:Value->Shared->Prop}(hu:A.units+1<cLine)(I:Inv X MS σ H s)(g:DGet H a y o)(ry:RelV y u)(h:∀s',Inv X MS σ H s'->Q (.bool o.isSome) s') :
  wpAny (model X.prog X.w) A (compareOp .In u (.ref a)) Q E s:=by
 rcases g with⟨MU,k,e,ey,l⟩|⟨MU,k,b,e,ey,eb,l⟩
 ·subst ey
  obtain⟨z,hd,vs,rel,dd⟩:=n9 I.M2 e;refine wpAny_in_of (nq ry) hd dd.mapOf ?_;rw[<- (rel.val k).isSome_eq,<- l];exact h _ (I.tok _)
 ·subst ey
  cases (show u=Value.ref b from ry);obtain ⟨z,hd,xs,rel,dd⟩:=nZ I.M2 e;refine wpAny_in_heap (tupleKind_room_in1 hu) (kx I.M2 eb) hd dd ?_;have q:=(rel.val k).isSome_eq;rw [Option.isSome_map] at q;rw [<- q,<- l];exact h _ (I.tok _)
theorem De{Q:Value->Shared->Prop}(hu:A.units+1<cLine)(I:Inv X MS σ H s)(g:DGet H a y o)(ry:RelV y u)(h:∀s',Inv X MS σ H s'->Q (.bool (!o.isSome)) s') :
  wpAny (model X.prog X.w) A (compareOp .NotIn u (.ref a)) Q E s:=by
 rcases g with⟨MU,k,e,ey,l⟩|⟨MU,k,b,e,ey,eb,l⟩
 ·subst ey
  obtain⟨z,hd,vs,rel,dd⟩:=n9 I.M2 e;refine wpAny_notIn_of (nq ry) hd dd.mapOf ?_;rw[<- (rel.val k).isSome_eq,<- l];exact h _ (I.tok _)
 ·subst ey
  cases (show u=Value.ref b from ry);obtain ⟨z,hd,xs,rel,dd⟩:=nZ I.M2 e;refine wpAny_notIn_heap (tupleKind_room_in1 hu) (kx I.M2 eb) hd dd ?_;have q:=(rel.val k).isSome_eq;rw [Option.isSome_map] at q;rw [<- q,<- l];exact h _ (I.tok _)
theorem t8{h':Heap}{t':Nat}{ob:HO}(I:Inv X MS σ H s)(mu:xU (H a))(hs:Heap.SameBut a s.heap h')(he:∃q,h'.get? a=some q)(new:ObjOk X.prog X.w (af H a ob) h' a ob) :
  Inv X MS σ (af H a ob) { s with heap:=h',toks:=t' } :=
 I.write (x:=a) (e:=a) mu (.inl rfl) (fun b q hb z=>(hs.2 b hb).trans z) he new
theorem Gf{P:Program}{w:World}{H':Hp}{h':Heap}{MU:List (aT×V)}{vs:List (aT×Value)}(z:MU.length<=sizeLine)(hd:(a==sysModules)=false)(rel:KV MU vs)(dd:h'.DictOf (cb P w) a vs) :
  ObjOk P w H' h' a (.dK MU):=⟨z,hd,vs,rel,dd⟩
theorem pM{H':Hp}{Q:Unit->Shared->Prop}(hu:A.units+1<cLine)(I:Inv X MS σ H s)(g:DPut H a y v H')(ry:RelV y u)(rv:RelV v r)(h:∀s',Inv X MS σ H' s'->Q () s') :
  wpAny (model X.prog X.w) A (setItem (.ref a) u r) Q E s:=by
 rcases g with⟨MU,k,e,ey,l,eH⟩|⟨MU,k,b,e,ey,eb,l,eH⟩
 ·subst ey eH
  obtain⟨z,hd,vs,rel,dd⟩:=Br I.M2 e;have hz:vs.length<=sizeLine:=by rw[<- rel.length];exact z
  have hl:(eS MU k v).length<=sizeLine:=by have:=lK MU k v;lia
  refine wpAny_setItem_pairs (hsz:=hz) (nq ry) dd fun h' dd' hs=>h _ ?_
  have he:∃q,h'.get? a=some q:=let⟨q,_,_,hq,_⟩:=dd';⟨q,hq⟩;exact t8 I (by rw[e];exact True.intro) hs he (Gf hl hd (rel.put k rv) dd')
 ·subst ey eH
  cases (show u=Value.ref b from ry);obtain ⟨z,hd,xs,rel,dd⟩:=Bp I.M2 e;have hz:xs.length <= sizeLine:=by rw [<- Paired.length rel];exact z
  have hl:(eS MU k v).length<=sizeLine:=by have:=lK MU k v;lia
  refine wpAny_setItem_heap (hsz:=hz) (tupleKind_room_in1 hu) (kx I.M2 eb) dd fun h' dd' hs=>h _ ?_
  obtain⟨q,es,ep,hq,h2,h3,h4,_,h5⟩:=dd';refine t8 I (by rw[e];exact True.intro) hs ⟨q,hq⟩ ⟨hl,hd,_,(rel.put k eb rv).keeps fun c ys ec=>?_,q,es,ep,hq,h2,h3,h4,h5⟩;rw[ad (vc ec e (fun z=>nomatch z))];exact ec
end
theorem sM{X:Cx}{MS:List (Addr×Obj)}{σ:St}{H:Hp}{s:Shared}{a:Addr}{y:V}{o:Option V}(I:Inv X MS σ H s)(g:DGet H a y o):s.TypeIs (.ref a) "dict":=by
 rcases g with⟨MU,k,e,_,_⟩|⟨MU,k,b,e,_,_,_⟩
 ·obtain⟨_,_,vs,_,dd⟩:=n9 I.M2 e
  exact dd.typeIs
 ·obtain⟨_,_,xs,_,dd⟩:=nZ I.M2 e
  exact dd.typeIs
theorem Az{P:Program}{w:World}{H:Hp}(h:Heap)(hb:sysModules<h.objs.size):ObjOk P w H (h.push { cls:=.type "dict",data:=.dict #[] }) h.objs.size (.dK []) :=
 ⟨Nat.zero_le _,beq_eq_false_iff_ne.mpr (Ne.symm (zU hb)),[],.nil,Heap.DictOf.new h⟩
def wf:TE:=fun _ H Q=>∀p,H p=none->Q (.ref p) (af H p (.dK []))
section
variable{X:Cx}{pos:Pos}
theorem zr:PE X (.Dict [] [] pos) wf:=fun MS s σ H Q I h =>
 wpAny_Dict_empty ⟨.ref s.heap.objs.size,_,I.laid (a:=s.heap.objs.size) (o:=.dK []) (t':=s.toks) (fun _ _ q=>zG _ q) (zP _) (Az s.heap I.big),rfl,h _ (I.M2.fresh (zP _))⟩
end
open PySem.Calls
section
variable{prog:Program}{w:World}{A:Around}{E:Value->Shared->Prop}{s:Shared}
theorem vh(d:Addr)(hd:(d==sysModules)=false) :
  MeetsIn prog w (Builtin.«dict.__len__» ⟨[.ref d],[]⟩) (fun _ R s=>∃xs:List (List aT×Addr×Value),s.heap.DictOfH (tupleKind (cb prog w)) d xs/\R (.ok (.ret (.int xs.length s.toks))) { s with toks:=s.toks+1 }) :=
 .of_wp fun A R s hq0=>by
  obtain⟨MU,hm,h⟩:=hq0;obtain⟨o,es,ep,ho,hc,hdat,hk,hp,hn⟩:=hm;show wpAny _ _ (dictSize d>>=_) _ _ s;unfold dictSize;refine yF (yF (wpAny_dictEntries ho hdat (yG ?_)));show wpAny _ _ (Builtin.Dict.pendingCount d>>=_) _ _ s;refine yF (wpAny_pendingCount_other hd ?_);refine wpAny_ret_mkInt ?_;have:es.size=MU.length:=size_of_entries hk;simpa [this] using h
theorem vG{d:Addr}{xs:List (List aT×Addr×Value)}{Q:Value->Shared->Prop}(hd:(d==sysModules)=false)(hm:s.heap.DictOfH (tupleKind (cb prog w)) d xs)(hfit:(xs.length:Int)<2^63)
  (h:Q (.int xs.length (s.toks+1)) { s with toks:=s.toks+1+1 }):wpAny (model prog w) A (call (.builtin "len") [.ref d]) Q E s:=by
 refine Calls.call_function_entry kind_len plain_len entry_len (args_len1 _) ?_;unfold Builtin.«len»;refine yF (m:=oneArg "len" _) (yG ?_);refine yF (m:=callSpecial? (.ref d) (Str.ofString "__len__")) (wpAny_callSpecial?_slot (name:=Str.ofString "__len__") hm.typeIs PySem.F.slot_dict_len
  (call_meetsIn PySem.F.slot_dict_len hm.typeIs PySem.F.entry_dict_len (PySem.F.args_dict_len_1 _) (vh d hd) ⟨xs,hm,?_⟩))
 show wpAny _ _ _ _ _ { s with toks:=s.toks+1 };refine yF (yS (yG ?_));refine yF (wpAny_letGo ?_);show wpAny _ _ (if((xs.length:Nat):Int)<0 then _ else _) _ _ _;rw[yH oM];show wpAny _ _ (if((xs.length:Nat):Int) ≥ 2^63 then _ else _) _ _ _;rw[yH oM];exact yF (wpAny_mkInt (yG ⟨_,rfl,h⟩))
end
section
variable{X:Cx}
theorem xH:cQ X (.builtin "len") (fun xs H Q=>∃a MU,xs=[V.ref a]/\H a=some (.dT MU)/\Q (.int MU.length) H):=by
 intro MS s σ H xs us Q I r h;obtain⟨a,MU,rfl,ha,q⟩:=h;obtain⟨u,rfl,ru⟩:=eI r;cases ru;obtain⟨z,hd,xs,rel,dd⟩:=Bp I.M2 ha;have hl:=Paired.length rel;refine vG hd dd (by rw[<- hl];rw[sizeLine_eq]at z;lia) ?_;rw[<- hl];exact⟨.int MU.length,H,I.tok _,⟨_,rfl⟩,q⟩
end
end L2
namespace DD
open PySem PySem.Spec PyProof.Rows L2
section
variable{K:Frag}{F F':Addr->Prop}{H H':Hp}{A:List Addr}
open Classical in
variable{σD:DSt}{σ:L2.St}{R:Ro}{d:D}{v:V}
end
end DD
namespace L2
open PySem PySem.Spec PyProof.Rows
noncomputable def BJ(x:Str):It:=⟨fun i _=>∃c,x.cps[i]?=some c,fun i H v H'=>H'=H/\∃c,x.cps[i]?=some c/\v=.str ⟨#[c]⟩,fun i _=>x.cps[i]?=none⟩
theorem ye{P:Program}{w:World}{K:Frag}{tg:Expr}(x:Str)(t:Tok)(it:Addr):jZ P w K tg (BJ x) [it] it (fun i h=>h.IsStrIter it "str_ascii_iterator" x t i) where
 mem:=by simp
 obj:=fun i h st b hb=>by
  have e:b=it:=by simpa using hb
  subst e;obtain⟨o,e,c,d⟩:=st;exact⟨o,e,fun v z=>by rw[d]at z;cases z⟩
 keep:=fun i h h' st k=>by
  obtain⟨o,e,r⟩:=st;exact⟨o,k it (by simp) o e,r⟩
 item:=by
  intro X hP hw hK hc i MS s σ H E I hf st hg;subst hP hw hK;obtain⟨c,hx⟩:=hg;obtain⟨f0,f1,f2,f3,f4,f5⟩:=hf it (by simp);refine wpAny_pyNext_ascii_item st hx fun h' st' sb=>?_
  have I1:Inv X MS σ H { s with heap:=h',toks:=s.toks+1 }:=I.turned (fun b o hb e=>(sb.2 b hb).trans e) f0 f1 f3 f4 f5;obtain⟨o,e,cl,d⟩:=id st';exact⟨_,rfl,nM (s:={ s with heap:=h',toks:=s.toks+1 }) e cl d dC ⟨.str ⟨#[c]⟩,H,I1,⟨_,rfl⟩,⟨rfl,c,hx,rfl⟩,st',fun b hb=>(hf b hb).1⟩⟩
 done:=by
  intro X hP hw hK hc i MS s σ H E I hf st hg;subst hP hw hK;obtain⟨f0,f1,f2,f3,f4,f5⟩:=hf it (by simp);exact wpAny_pyNext_ascii_end (I.ok.hd hc) st hg fun h' eb=>⟨rfl,I.turned (t':=s.toks) (fun b o hb e=>eb b o hb e) f0 f1 f3 f4 f5⟩
 self:=fun _ _ _ _ _ st h=>wpAny_pyIter_striter_ascii st h
section
variable{X:Cx}{pos:Pos}
def B0(ta:TA):TE:=fun σ H Q=>ta σ H fun vs H1=>∃i j:Nat,vs=[.int (i:Int),.int (j:Int)]/\i<=j/\j<=1000/\∀p,H1 p=none->Q (.ref p) (af H1 p (.lst ((List.range' i (j-i)).map fun(q:Nat)=>V.int (q:Int))))
theorem wF{a b:Expr}{ta:TA}{p1 p2 pos2:Pos}(hc:X.calm=true)(hgl:Gl X "list")(hml:X.mg "list"=none)(hgr:Gl X "range")(hmr:X.mg "range"=none)(ha:PA X [a,b] ta)
  (hs:starEach [a,b] X.env=[(false,eval a X.env),(false,eval b X.env)]:=by rfl) (hs2:starEach [b] X.env=[(false,eval b X.env)]:=by rfl) (hs1:starEach [.Call (.Name "range" p2) [a,b] [] pos2] X.env=[(false,eval (.Call (.Name "range" p2) [a,b] [] pos2) X.env)]:=by rfl) :
  PE X (.Call (.Name "list" p1) [.Call (.Name "range" p2) [a,b] [] pos2] [] pos) (B0 ta):=by
 intro MS s σ H Q I h;refine Call_ (dD I hgl hml jU (PyProof.Rows.callWith_type1 ?_ (by rw[hs1];rfl) (by rfl)));rw[hs1];refine Calls.spliced_cons (Call_ (dD I hgr hmr boot_range (PyProof.Rows.callWith_type1 (aD (ha pos2 MS s σ H _ I h) fun us s1 hq0=>?_) (by rw[hs,hs2]) (by rw[hs2];rfl))));obtain⟨vs,H1,I1,r1,i,j,e,hij,hj,q⟩:=hq0;subst e;obtain⟨u1,us1,rfl,ru1,r2⟩:∃u us',us=u::us'/\RelV (.int (i:Int)) u/\Vals [.int (j:Int)] us':=by cases r1 with|cons r rr=>exact⟨_,_,rfl,r,rr⟩
 obtain⟨u2,us2,rfl,ru2,r3⟩:∃u us',us1=u::us'/\RelV (.int (j:Int)) u/\Vals [] us':=by cases r2 with|cons r rr=>exact⟨_,_,rfl,r,rr⟩
 cases r3;obtain⟨t1,rfl⟩:=ru1;obtain⟨t2,rfl⟩:=ru2;refine call_range_2 (Calls.spliced_nil ?_);have I2:Inv X MS σ H1 { s1 with heap:=s1.heap.push { cls:=.type "range",data:=.fields #[.int (i:Int) t1,.int (j:Int) t2,.int 1 s1.toks] },toks:=s1.toks+1 }:=I1.kept fun b o e=>zG _ e
 refine call_list_range (n:=j-i) (I.ok.hd hc) (IsRange.new ..) (small_one oM oM oM oM) (by rw[rangeSize_one];split<;>lia) oM fun h' tk acc' c' hk hS hacc=>?_
 have hv:=jJ acc'.toList i (fun k v e=>by
  obtain⟨t,e2⟩:=hacc.2 k v (by simpa using e);exact⟨t,by rw[e2];congr 1;lia⟩)
 rw[show acc'.toList.length=j-i by simpa using hacc.1]at hv;exact⟨.ref _,_,I2.laid (o:=.lst ((List.range' i (j-i)).map fun(q:Nat)=>V.int (q:Int))) hk (zP _) ⟨yZ (pj (by simp;lia)),acc'.toList,c',hv,hS⟩,rfl,q _ I2.fresh⟩
end
def BL(X:Cx)(MS:List (Addr×Obj))(b:Addr):Prop:=b≠X.env.locals/\b∉X.fs/\(b∈X.ex\/X.s₀.heap.objs.size<=b)/\(∀x c,X.env.cells.lookup x=some c->c≠b)/\∀p∈X.pn++MS,p.1≠b
section
variable{X:Cx}{MS:List (Addr×Obj)}{σ:St}{key:Value}{kw:List (Str×Value)}{l I S:Addr}{ns:List Int}{R:Result->Shared->Prop}
theorem Aa(hh:X.A.handled=none)(kf:Nat->Int)(J:Nat->Hp->Prop)(hl:∀i H,J i H->bQ X.K H l (ns.map V.int))
  (turn:∀(i:Nat)(n:Int)(u:Value)(pl:List (Addr×Obj))(s:Shared)(H:Hp),ns[i]?=some n->RelV (V.int n) u->J i H->Inv X (MS++pl) σ H s->(key=.none/\kf i=n/\J (i+1) H) \/
   ∃q,key=.ref q/\wpAny (model X.prog X.w) X.A.in1 (call (.ref q) [u]) (EP X (MS++pl) σ (fun y H'=>y=.int (kf i)/\J (i+1) H')) (fun _ _=>False) s)
  (hR:∀(i:Nat)(n:Int)(u:Value)(H:Hp)(s:Shared),ns[i]?=some n->(∀j,j<ns.length->kf i<=kf j/\(j<i->kf i<kf j))->J ns.length H->Inv X MS σ H s->RelV (V.int n) u->R (.ok (.ret u)) s)
  (fI:BL X MS I) (fS:BL X MS S) (hIS:I≠S) :
  ∀(r j i:Nat)(H:Hp)(s:Shared)(vb:Value)(tb:Tok)(c:Nat),ns.length-(j+1)=r->j+1<=ns.length->Inv X MS σ H s->H I=none->H S=none ->
   s.heap.get? S=some (seqObj "list" #[vb,.int (kf i) tb] c)->s.heap.IsListIter I l (j+1)->(∃n,ns[i]?=some n/\RelV (V.int n) vb)->i<=j->J (j+1) H->(∀j',j'<=j->kf i<=kf j'/\(j'<i->kf i<kf j')) ->
   codeAny (model X.prog X.w) X.A (.builtin "min.loop" ⟨[.ref I,key,.ref S],kw⟩) R s:=by
 have hname:(toString "min"++toString ".loop":String)="min.loop":=by decide
 intro r
 induction r with
 |zero =>
  intro j i H s vb tb c hr hj Iv nI nS gS it hvb hij hJ hb;have hin:j+1=ns.length:=by lia
  obtain⟨MW,rv,pl,_⟩:=Iv.list (hl _ _ hJ);have hlen:MW.length=ns.length:=by rw[<- rv.length,zH]
  have hL:s.heap.IsList l MW.toArray:=pl.isList;have hlI:l≠I:=fun e=>by
   obtain⟨o,e1,e2,_⟩:=hL;obtain⟨o',e3,e4,_⟩:=it;rw[e,e3]at e1;cases e1;rw[e4]at e2;simp at e2
  have W:=Walks.list (prog:=X.prog) (w:=X.w) (A:=X.A.in1) hh I l hlI MW.toArray;have hsz:MW.toArray.size=MW.length:=zI ..;refine codeAny_builtin PySem.F.entry_min_loop ?_;rw[Around.under_plainId PySem.F.plain_min_loop _];show wpAny _ X.A.in1 (seqItems? (.ref S)>>=_) _ _ _;refine yF (wpAny_seqItems gS rfl ?_);show wpAny _ X.A.in1 (tryCatch (pyNext (.ref I)) _>>=_) _ _ _;refine yF (wpAny_tryCatch (W.done _ _ _ ⟨by rw[hsz,hlen,<- hin];exact it,hL⟩ fun h' tk' hk'=>?_));have V1:Inv X MS σ H { s with heap:=h',toks:=tk' }:=Iv.turned (fun b o hb' e=>hk' b o (by simpa using hb') e) nI fI.1 fI.2.2.1 fI.2.2.2.1 fI.2.2.2.2;have gS':=hk' S _ (by simpa using hIS.symm) gS;show wpAny _ X.A.in1 (updateSeq S (fun _=>#[])>>=_) _ _ _;refine yF ?_;refine wpAny_updateSeq gS' rfl (yF (wpAny_letGo (yG ?_)));obtain⟨n,e1,e2⟩:=hvb;have s1:=Heap.SameBut.update h' S (Obj.mapSeq fun _=>(#[]:Array Value));exact hR i n vb H _ e1 (fun j' hj'=>hb j' oM) (hin▸hJ) (V1.turned (t':=tk') (fun b o hb' e=>(s1.2 b hb').trans e) nS fS.1 fS.2.2.1 fS.2.2.2.1 fS.2.2.2.2) e2
 |succ r ih =>
  intro j i H s vb tb c hr hj Iv nI nS gS it hvb hij hJ hb;have hlt:j+1<ns.length:=by lia
  obtain⟨MW,rv,pl,_⟩:=Iv.list (hl _ _ hJ);have hlen:MW.length=ns.length:=by rw[<- rv.length,zH]
  have hL:s.heap.IsList l MW.toArray:=pl.isList;have hlI:l≠I:=fun e=>by
   obtain⟨o,e1,e2,_⟩:=hL;obtain⟨o',e3,e4,_⟩:=it;rw[e,e3]at e1;cases e1;rw[e4]at e2;simp at e2
  have W:=Walks.list (prog:=X.prog) (w:=X.w) (A:=X.A.in1) hh I l hlI MW.toArray;have hsz:MW.toArray.size=MW.length:=zI ..;refine codeAny_builtin PySem.F.entry_min_loop ?_;rw[Around.under_plainId PySem.F.plain_min_loop _];show wpAny _ X.A.in1 (seqItems? (.ref S)>>=_) _ _ _;refine yF (wpAny_seqItems gS rfl ?_);show wpAny _ X.A.in1 (tryCatch (pyNext (.ref I)) _>>=_) _ _ _;refine yF (wpAny_tryCatch (W.item (j+1) _ _ _ (by rw[hsz];lia) ⟨it,hL⟩ fun u h' tk' hP hst' hk'=>?_));have hu:MW[j+1]?=some u:=by simpa using hP
  obtain⟨n,hn⟩:∃n,ns[j+1]?=some n:=⟨_,zF hlt⟩;have ru:RelV (V.int n) u:=by
   obtain⟨u',e1,e2⟩:=rv.get (i:=j+1) (x:=V.int n) (by rw[zR,hn];rfl);rw[hu]at e1;cases e1;exact e2
  have V1:Inv X MS σ H { s with heap:=h',toks:=tk' }:=Iv.turned (fun b o hb' e=>hk' b o (by simpa using hb') e) nI fI.1 fI.2.2.1 fI.2.2.2.1 fI.2.2.2.2;have gS':=hk' S _ (by simpa using hIS.symm) gS;have hf:∀b∈[I,S],dJ X MS H b:=fun b hb'=>by
   rcases zT.mp hb' with rfl|hb'
   ·exact⟨nI,fI⟩
   ·rw[zM.mp hb'];exact⟨nS,fS⟩
  obtain⟨oI,goI,coI,doI⟩:=hst'.1;have ho:∀b∈[I,S],∃o,h'.get? b=some o/\∀v:Option Value,o.data≠.cell v:=fun b hb'=>by
   rcases zT.mp hb' with rfl|hb'
   ·exact⟨_,goI,fun v z=>by rw[doI]at z;cases z⟩
   ·rw[zM.mp hb'];exact⟨_,gS',fun v z=>nomatch z⟩
  have V2:Inv X (MS++fT [I,S] h') σ H { s with heap:=h',toks:=tk' }:=V1.pinned hf ho
  -- what follows the key's value
  have rest:∀(t2:Tok)(H2:Hp)(s2:Shared),Inv X (MS++fT [I,S] h') σ H2 s2->J (j+1+1) H2->∀(Rf:PySem.Fin->Shared->Prop)(Ef:Value->Shared->Prop),
    (∀s3 H3 vb3 i3 t3 c3,Inv X MS σ H3 s3->H3 I=none->H3 S=none->s3.heap.get? S=some (seqObj "list" #[vb3,.int (kf i3) t3] c3)->s3.heap.IsListIter I l (j+1+1)->(∃n,ns[i3]?=some n/\RelV (V.int n) vb3)->i3<=j+1->J (j+1+1) H3->(∀j',j'<=j+1->kf i3<=kf j'/\(j'<i3->kf i3<kf j')) ->
     Rf (.again (.builtin "min.loop" ⟨[.ref I,key,.ref S],kw⟩)) s3) ->
    wpAny (model X.prog X.w) X.A.in1 ((do
     let better <- tryCatch (holding [u,.int (kf (j+1)) t2] do
      let answer <- richCompare .Lt (.int (kf (j+1)) t2) (.int (kf i) tb)
      let yes <- holding [answer] (truthy answer)
      letGo [answer]
      pure yes) fun e=>do
       updateSeq S fun _=>#[]
       letGo ([.int (kf (j+1)) t2,u]++[vb,.int (kf i) tb].reverse) [e]
       throw e
     if better=true then do
      updateSeq S fun _=>#[u,.int (kf (j+1)) t2]
      letGo [.int (kf i) tb,vb]
      again (.builtin "min.loop" ⟨[.ref I,key,.ref S],kw⟩)
     else do
      letGo [u,.int (kf (j+1)) t2]
      again (.builtin "min.loop" ⟨[.ref I,key,.ref S],kw⟩)):Sem PySem.Fin) Rf Ef s2:=by
   intro t2 H2 s2 V3 J3 Rf Ef aw;have pI:=V3.pin (I,oI) (zK _ (zK _ (c9 (by simp) goI)));have pS:=V3.pin (S,seqObj "list" #[vb,.int (kf i) tb] c) (zK _ (zK _ (c9 (by simp) gS')));have V4:Inv X MS σ H2 s2:=V3.unpinned;refine yF (wpAny_tryCatch (yS (yF (CmpOf.ints_lt (prog:=X.prog) (w:=X.w) (A:=X.A.in1) (P:=fun i v=>∃t,v=.int (kf i) t) kf (fun i v h=>h) (j+1) i _ _ _ _ _ ⟨t2,rfl⟩ ⟨tb,rfl⟩ ?_))));refine yF (yS (wpAny_truthy_bool ?_));refine yF (wpAny_letGo (yG ?_));have it2:s2.heap.IsListIter I l (j+1+1):=⟨oI,pI.1,coI,doI⟩;by_cases hb':kf (j+1)<kf i
   ·simp only[hb',decide_true,if_true]
    have s1:=Heap.SameBut.update s2.heap S (Obj.mapSeq fun _=>#[u,.int (kf (j+1)) t2]);obtain⟨c2,hc2⟩:∃c2,(s2.heap.update S (Obj.mapSeq fun _=>#[u,.int (kf (j+1)) t2])).get? S=some (seqObj "list" #[u,.int (kf (j+1)) t2] c2):=⟨_,get?_update_seq pS.1 fun _=>#[u,.int (kf (j+1)) t2]⟩;refine yF ?_;refine wpAny_updateSeq pS.1 rfl (yF (wpAny_letGo (yG ?_)));obtain⟨sh,sg,sd,stk,sos⟩:=s2;refine aw _ H2 u (j+1) t2 c2 (V4.turned (t':=stk) (fun b o hb'' e=>(s1.2 b hb'').trans e) pS.2.1 fS.1 fS.2.2.1 fS.2.2.2.1 fS.2.2.2.2) pI.2.1 pS.2.1 hc2 ⟨oI,(s1.2 I hIS).trans pI.1,coI,doI⟩ ⟨n,hn,ru⟩ (zP _) J3 fun j' hj'=>?_
    by_cases e:j'=j+1
    ·subst e
     exact⟨by lia,fun _=>by lia⟩
    ·have hb1:=hb j' oM
     have hb2:=hb1.1;exact⟨by lia,fun _=>by lia⟩
   ·simp only[hb',decide_false,yB,if_false]
    refine yF (wpAny_letGo (yG ?_));refine aw _ H2 vb i tb c V4 pI.2.1 pS.2.1 pS.1 it2 hvb oM J3 fun j' hj'=>?_
    by_cases e:j'=j+1
    ·subst e
     exact⟨by lia,fun _=>by lia⟩
    ·exact hb j' oM
  have aw:∀s3 H3 vb3 i3 t3 c3,Inv X MS σ H3 s3->H3 I=none->H3 S=none->s3.heap.get? S=some (seqObj "list" #[vb3,.int (kf i3) t3] c3)->s3.heap.IsListIter I l (j+1+1)->(∃n,ns[i3]?=some n/\RelV (V.int n) vb3)->i3<=j+1->J (j+1+1) H3->(∀j',j'<=j+1->kf i3<=kf j'/\(j'<i3->kf i3<kf j')) ->
    ((Code.builtin "min.loop" ⟨[.ref I,key,.ref S],kw⟩).quiet=true/\codeAny (model X.prog X.w) X.A (.builtin "min.loop" ⟨[.ref I,key,.ref S],kw⟩) R s3):=fun s3 H3 vb3 i3 t3 c3 a1 a2 a3 a4 a5 a6 a7 a8 a9 =>
   ⟨plainId_quiet PySem.F.plain_min_loop _,ih (j+1) i3 H3 s3 vb3 t3 c3 oM hlt a1 a2 a3 a4 a5 a6 a7 a8 a9⟩
  rcases turn (j+1) n u _ _ H hn ru hJ V2 with⟨hk0,hkf,J2⟩|⟨q,hkq,call0⟩
  ·subst hk0
   obtain⟨t2,rfl⟩:=ru;refine yF (yG ?_)
   have:=rest t2 H _ V2 J2
   rw[hkf]at this;exact this _ _ aw
  ·subst hkq
   refine yF (wpAny_tryCatch (yS (yT call0 (fun x s'' he=>?_) fun _ _ hF=>hF.elim)));obtain⟨y,H3,V3,ry,rfl,J3⟩:=he;obtain⟨t2,rfl⟩:=ry;exact rest t2 H3 s'' V3 J3 _ _ aw
end
section
variable{X:Cx}{MS:List (Addr×Obj)}{σ:St}{ko:Option Value}{kws:List (Str×Value)}{l:Addr}{ns:List Int}{H:Hp}{s:Shared}{Q:VK}{E:Value->Shared->Prop}
theorem qM(hh:X.A.handled=none)(kf:Nat->Int)(J:Nat->Hp->Prop)(hl:∀i H,J i H->bQ X.K H l (ns.map V.int))
  (hb:Builtin.Builtins.bindParams "min" ["key","default"] 0 ⟨[],kws⟩=pure [ko,some .none]) (ha:argsOk "min" ⟨[.ref l],kws⟩)
  (turn:∀(i:Nat)(n:Int)(u:Value)(pl:List (Addr×Obj))(s:Shared)(H:Hp),ns[i]?=some n->RelV (V.int n) u->J i H->Inv X (MS++pl) σ H s->(ko.getD .none=.none/\kf i=n/\J (i+1) H) \/
   ∃q,ko.getD .none=.ref q/\wpAny (model X.prog X.w) X.A.in1 (call (.ref q) [u]) (EP X (MS++pl) σ (fun y H'=>y=.int (kf i)/\J (i+1) H')) (fun _ _=>False) s)
  (hQ:∀(i:Nat)(n:Int)(H:Hp),ns[i]?=some n->(∀j,j<ns.length->kf i<=kf j/\(j<i->kf i<kf j))->J ns.length H->Q (.int n) H) (hE:ns=[]->Q .non H)
  (Iv:Inv X MS σ H s) (J0:J 0 H):wpAny (model X.prog X.w) X.A (call (.builtin "min") [.ref l] kws) (EP X MS σ Q) E s:=by
 have hname:(toString "min"++toString ".loop":String)="min.loop":=by decide
 obtain⟨MW,rv,pl,_⟩:=Iv.list (hl _ _ J0);have hlen:MW.length=ns.length:=by rw[<- rv.length,zH]
 have hL:s.heap.IsList l MW.toArray:=pl.isList;obtain⟨ol,hol,_⟩:=id hL;have hll:l<s.heap.objs.size:=yJ hol;refine kmk_tree PySem.F.kind_min PySem.F.plain_min PySem.F.entry_min ha ?_;show wpAny _ X.A.in1 (Builtin.Builtins.bindParams "min" ["key","default"] 0 ⟨[],kws⟩>>=_) _ _ s;refine yF (wpAny_of_eq hb ?_);refine yF (yG ?_);refine yF (wpAny_pyIter_list hL ?_);refine yF (wpAny_newList ?_ (Nat.zero_le _));rw[hname];have hS:(s.heap.push { cls:=.type "list_iterator",data:=.fields #[.ref l,.int 0 0] }).objs.size=s.heap.objs.size+1:=size_push' ..;have hlI:l≠s.heap.objs.size:=zU hll;refine yG ⟨plainId_quiet PySem.F.plain_min_loop _,?_⟩;generalize hI:s.heap.objs.size=I at *;generalize hSS:(s.heap.push { cls:=.type "list_iterator",data:=.fields #[.ref l,.int 0 0] }).objs.size=S at *;have nI:H I=none:=by rw[<- hI];exact Iv.fresh
 have nS:H S=none:=Iv.M2.fresh (by rw[hS,hI];lia);have hIS:I≠S:=by rw[hS];lia
 have gI:((s.heap.push { cls:=.type "list_iterator",data:=.fields #[.ref l,.int 0 0] }).push (seqObj "list" #[] 0)).get? I=some { cls:=.type "list_iterator",data:=.fields #[.ref l,.int 0 0] }:=by
  rw[<- hI];exact zG _ (zY _ rfl)
 have gS:((s.heap.push { cls:=.type "list_iterator",data:=.fields #[.ref l,.int 0 0] }).push (seqObj "list" #[] 0)).get? S=some (seqObj "list" #[] 0):=by
  rw[<- hSS];exact zY _ rfl
 have kp:∀b o,s.heap.get? b=some o->((s.heap.push { cls:=.type "list_iterator",data:=.fields #[.ref l,.int 0 0] }).push (seqObj "list" #[] 0)).get? b=some o:=fun b o e=>zG _ (zG _ e)
 have fI:BL X MS I:=(Iv.fpOk (b:=I) (Nat.le_of_eq hI) nI).2;have fS:BL X MS S:=(Iv.fpOk (b:=S) (by rw[hS,hI];lia) nS).2;generalize hH1:((s.heap.push { cls:=.type "list_iterator",data:=.fields #[.ref l,.int 0 0] }).push (seqObj "list" #[] 0))=h1 at gI gS kp;have V1:Inv X MS σ H { s with heap:=h1,toks:=s.toks }:=Iv.kept kp;have hL1:h1.IsList l MW.toArray:=⟨ol,kp _ _ hol,by obtain⟨o2,e2,r2⟩:=hL;rw[hol]at e2;cases e2;exact r2⟩;have it0:h1.IsListIter I l 0:=⟨_,gI,rfl,rfl⟩;have W:=Walks.list (prog:=X.prog) (w:=X.w) (A:=X.A.in1) hh I l hlI MW.toArray;have hsz:MW.toArray.size=MW.length:=zI ..;have aw:∀(i:Nat)(n:Int)(u:Value)(H:Hp)(s:Shared),ns[i]?=some n->(∀j,j<ns.length->kf i<=kf j/\(j<i->kf i<kf j))->J ns.length H->Inv X MS σ H s->RelV (V.int n) u->EP X MS σ Q u s :=
  fun i n u H s e1 e2 e3 e4 e5=>⟨_,H,e4,e5,hQ i n H e1 e2 e3⟩
 show codeAny _ X.A (.builtin "min.loop" ⟨[.ref I,ko.getD .none,.ref S],[("default",.none)]⟩) _ { s with heap:=h1,toks:=s.toks };refine codeAny_builtin PySem.F.entry_min_loop ?_;rw[Around.under_plainId PySem.F.plain_min_loop _];show wpAny _ X.A.in1 (seqItems? (.ref S)>>=_) _ _ _;refine yF (wpAny_seqItems gS rfl ?_);show wpAny _ X.A.in1 (tryCatch (pyNext (.ref I)) _>>=_) _ _ _;by_cases hn:ns=[]
 ·subst hn
  refine yF (wpAny_tryCatch (W.done _ _ _ ⟨by rw[hsz,hlen];exact it0,hL1⟩ fun h' tk' hk'=>?_));refine yF (wpAny_rule (yG ?_));exact⟨.non,H,V1.turned (fun b o hb' e=>hk' b o (by simpa using hb') e) nI fI.1 fI.2.2.1 fI.2.2.2.1 fI.2.2.2.2,rfl,hE rfl⟩
 ·have hlt:0<ns.length:=List.length_pos_iff.mpr hn
  refine yF (wpAny_tryCatch (W.item 0 _ _ _ (by rw[hsz];lia) ⟨it0,hL1⟩ fun u h' tk' hP hst' hk'=>?_));have hu:MW[0]?=some u:=by simpa using hP
  obtain⟨n,hn⟩:∃n,ns[0]?=some n:=⟨_,zF hlt⟩;have ru:RelV (V.int n) u:=by
   obtain⟨u',e1,e2⟩:=rv.get (i:=0) (x:=V.int n) (by rw[zR,hn];rfl);rw[hu]at e1;cases e1;exact e2
  have V2:Inv X MS σ H { s with heap:=h',toks:=tk' }:=V1.turned (fun b o hb' e=>hk' b o (by simpa using hb') e) nI fI.1 fI.2.2.1 fI.2.2.2.1 fI.2.2.2.2;have gS':=hk' S _ (by simpa using hIS.symm) gS;have hf:∀b∈[I,S],dJ X MS H b:=fun b hb'=>by
   rcases zT.mp hb' with rfl|hb'
   ·exact⟨nI,fI⟩
   ·rw[zM.mp hb'];exact⟨nS,fS⟩
  obtain⟨oI,goI,coI,doI⟩:=hst'.1;have ho:∀b∈[I,S],∃o,h'.get? b=some o/\∀v:Option Value,o.data≠.cell v:=fun b hb'=>by
   rcases zT.mp hb' with rfl|hb'
   ·exact⟨_,goI,fun v z=>by rw[doI]at z;cases z⟩
   ·rw[zM.mp hb'];exact⟨_,gS',fun v z=>nomatch z⟩
  have V3:Inv X (MS++fT [I,S] h') σ H { s with heap:=h',toks:=tk' }:=V2.pinned hf ho;have rest:∀(t2:Tok)(H2:Hp)(s2:Shared),Inv X (MS++fT [I,S] h') σ H2 s2->J 1 H2 ->
    wpAny (model X.prog X.w) X.A.in1 ((do
     updateSeq S fun _=>#[u,.int (kf 0) t2]
     again (.builtin "min.loop" ⟨[.ref I,ko.getD .none,.ref S],[("default",.none)]⟩)):Sem PySem.Fin) (fun aw s'=>match aw with
      |.done f=>(match (Except.ok f:Result) with|.ok (.ret v)=>EP X MS σ Q v s'|.ok _=>False|.error e=>E e s')
      |.again c'=>c'.quiet=true/\codeAny (model X.prog X.w) X.A c' (fun r s'=>match r with|.ok (.ret v)=>EP X MS σ Q v s'|.ok _=>False|.error e=>E e s') s') (fun e s'=>E e s') s2:=by
   intro t2 H2 s2 V4 J2;have pI:=V4.pin (I,oI) (zK _ (zK _ (c9 (by simp) goI)));have pS:=V4.pin (S,seqObj "list" #[] 0) (zK _ (zK _ (c9 (by simp) gS')));have V5:Inv X MS σ H2 s2:=V4.unpinned;have s1:=Heap.SameBut.update s2.heap S (Obj.mapSeq fun _=>#[u,.int (kf 0) t2]);obtain⟨c2,hc2⟩:∃c2,(s2.heap.update S (Obj.mapSeq fun _=>#[u,.int (kf 0) t2])).get? S=some (seqObj "list" #[u,.int (kf 0) t2] c2):=⟨_,get?_update_seq pS.1 fun _=>#[u,.int (kf 0) t2]⟩;refine yF ?_;refine wpAny_updateSeq pS.1 rfl (yG ⟨plainId_quiet PySem.F.plain_min_loop _,?_⟩);obtain⟨sh,sg,sd,stk,sos⟩:=s2;refine Aa hh kf J hl turn aw fI fS hIS _ 0 0 H2 _ u t2 c2 rfl hlt (V5.turned (t':=stk) (fun b o hb'' e=>(s1.2 b hb'').trans e) pS.2.1 fS.1 fS.2.2.1 fS.2.2.2.1 fS.2.2.2.2) pI.2.1 pS.2.1 hc2 ⟨oI,(s1.2 I hIS).trans pI.1,coI,doI⟩ ⟨n,hn,ru⟩ (zP _) J2 fun j' hj'=>?_
   have e:j'=0:=by lia
   subst e;exact⟨by lia,fun h=>absurd h (xB _)⟩
  rcases turn 0 n u _ _ H hn ru J0 V3 with⟨hk0,hkf,J2⟩|⟨q,hkq,call0⟩
  ·rw[hk0]at rest ⊢
   obtain⟨t2,rfl⟩:=ru;refine yF (yG ?_)
   have:=rest t2 H _ V3 J2
   rw[hkf]at this;exact this
  ·rw[hkq]at rest ⊢
   refine yF (wpAny_tryCatch (yS (yT call0 (fun x s'' he=>?_) fun _ _ hF=>hF.elim)));obtain⟨y,H3,V4,ry,rfl,J3⟩:=he;obtain⟨t2,rfl⟩:=ry;exact rest t2 H3 s'' V4 J3
end
end L2
namespace R
open PySem PySem.Spec PyProof.Rows L2
theorem ya:∀{ps:List Str}{us:List Value},ps.Nodup->us.length=ps.length->ps.filterMap (fun n=>((ps.zip us).lookup n).map fun v=>(n,v))=ps.zip us/\ps.filter (fun n=>((ps.zip us).lookup n).isNone)=[]:=by
 have key:∀{ps:List Str}{us:List Value},us.length=ps.length->∀n∈ps,((ps.zip us).lookup n).isSome=true:=by
  intro ps
  induction ps with
  |nil=>intro us _ n hn;cases hn
  |cons p ps ih =>
   intro us hl n hn;cases us with
   |nil=>cases hl
   |cons u us =>
    rw[List.zip_cons_cons,yO];cases hb:n==p with
    |true=>rfl
    |false =>
     rcases zT.mp hn with rfl|hn
     ·simp at hb
     ·exact ih (by simpa using hl) n hn
 intro ps us nd hl;refine⟨?_,List.filter_eq_nil_iff.mpr fun n hn=>by
  have:=key hl n hn
  cases h:(ps.zip us).lookup n with
  |none=>rw[h]at this;cases this
  |some v=>simp⟩
 -- the names ahead don't matter
 have gen:∀(qs:List Str)(vs:List Value),qs.Nodup->vs.length=qs.length->∀l:List (Str×Value),(∀q∈qs,l.lookup q=(qs.zip vs).lookup q)->qs.filterMap (fun n=>(l.lookup n).map fun v=>(n,v))=qs.zip vs:=by
  intro qs
  induction qs with
  |nil=>intro vs _ _ l _;rfl
  |cons q qs ih =>
   intro vs nd hl l h;cases vs with
   |nil=>cases hl
   |cons v vs =>
    have h0:=h q z7;rw[List.zip_cons_cons,yO]at h0;simp only[beq_self_eq_true]at h0;rw[List.filterMap_cons,h0];rw[List.nodup_cons]at nd
    have:=ih vs nd.2 (by simpa using hl) l fun p hp=>by
     have:=h p (zQ _ hp)
     rw[List.zip_cons_cons,yO]at this;have ne:(p==q)=false:=by
      have:p≠q:=fun e=>nd.1 (e▸hp)
      simpa using this
     rw[ne]at this;exact this
    simp only[map_some];rw[this];rfl
 exact gen ps us nd hl _ fun _ _=>rfl
noncomputable def plainA(a:Arguments):Bool:=a.posonlyargs.isEmpty&&a.vararg.isNone&&a.kwonlyargs.isEmpty&&a.kwarg.isNone
theorem bind_plain(hp:plainA fd.params=true)(hd:fd.defaults=.none)(nd:(fd.params.args.map (·.arg)).Nodup)(hl:us.length=(fd.params.args.map (·.arg)).length):bindArgs fd ⟨us,[]⟩=pure ((fd.params.args.map (·.arg)).zip us):=by
 unfold plainA at hp;simp only[zC,List.isEmpty_iff,Option.isNone_iff_eq_none]at hp;obtain⟨⟨⟨h1,h2⟩,h3⟩,h4⟩:=hp;obtain⟨z1,z2⟩:=ya nd hl;have hs:seqItems? fd.defaults=(do notAStandIn Value.none;pure none):=by rw[hd];rfl
 have hn:notAStandIn Value.none=pure ():=rfl;unfold bindArgs;simp only[h1,h2,h3,h4,hs,hn];simp only[List.map_nil,List.nil_append,List.forIn_nil,pure_bind,List.append_nil];rw[yH (by simp[hl])];simp only[Option.getD_none,List.length_nil,Nat.sub_zero,List.drop_nil,List.take_length,z2,List.isEmpty_nil,Bool.not_true,yB,if_false,List.drop_length,List.zip_nil_left,List.forIn_nil,pure_bind,z1]
end R
namespace L2
open PySem PySem.Spec PyProof.Rows
def ji(mg:Str->Option Value)(base:Heap):Prop:=∃bm o,mg "__builtins__"=some (.ref bm)/\bm≠builtinsNs/\bm≠mainGlobals/\base.get? bm=some o/\o.cls=.type "module"/\o.dict=some builtinsNs/\o.data=.plain
noncomputable def fX(c:Addr)(q:Str):HO:=.ext fun h=>h.CodeRec (.ref c) q
section
variable{X:Cx}{MS:List (Addr×Obj)}{σ:St}{H:Hp}{s:Shared}
theorem Inv.grown{t':Nat}(I:Inv X MS σ H s)(hP:H P=some (.tbl ps))(hx:Heap.ExtBut P s.heap h')(hc:s.heap.objs.size<=c')(hr:h'.CodeRec (.ref c') q)
  (gP:h'.get? P=some (tabObj (ps++more))):Inv X MS σ (af (af H P (.tbl (ps++more))) c' (fX c' q)) { s with heap:=h',toks:=t' }:=by
 have gP0:s.heap.get? P=some (tabObj ps):=I.M2 P _ hP;have hcn:H c'=none:=I.M2.fresh hc;have hPc:P≠c':=zU (zJ (yJ gP0) hc);have nb:∀b u,H b=some u->b≠c':=fun b u e z=>by rw[z,hcn]at e;cases e
 have hH:∀b,b≠P->b≠c'->af (af H P (.tbl (ps++more))) c' (fX c' q) b=H b:=fun b h1 h2=>by rw[ad h2,ad h1]
 refine I.un ⟨fun b o e n _ _=>hx b o (fun z=>by rw[z,hP]at n;cases n) e,fun b o e n _ _=>⟨o.slots,hx b o (fun z=>by rw[z,hP]at n;cases n) e⟩,fun b o e n _=>?_,fun b o e _=>?_,fun b xs e=>?_,fun b o u e=>?_,fun b qs e=>?_⟩ fun b u e=>?_
 ·rw[hH b (fun z=>by rw[z,hP]at n;cases n) (zU (zJ (yJ e) hc))];exact n
 ·by_cases hb:b=P
  ·exact⟨_,hb▸gP⟩
  ·exact⟨o,hx b o hb e⟩
 ·rw[hH b (fun z=>by rw[z,hP]at e;cases e) (nb _ _ e)];exact e
 ·rw[hH b (fun z=>by rw[z,hP]at e;cases e) (nb _ _ e)];exact e
 ·by_cases hb:b=P
  ·subst hb
   rw[hP]at e;cases e;exact⟨more,by rw[ad hPc,ay]⟩
  ·exact⟨#[],by rw[hH b hb (nb _ _ e),e];simp⟩
 ·by_cases h1:b=c'
  ·subst h1
   rw[ay]at e;cases e;obtain⟨c,oc,vs,t,e1,e2,e3⟩:=id hr;cases e1;refine⟨hr,⟨oc,e2⟩,fun h1 h2 hq0 k=>?_⟩;obtain⟨c,oc,vs,t,e1,e2,e3⟩:=hq0;cases e1;exact⟨_,oc,vs,t,rfl,k _ e2,e3⟩
  ·rw[ad h1]at e
   by_cases h2:b=P
   ·subst h2
    rw[ay]at e;cases e;exact gP
   ·rw[ad h2]at e
    refine(I.M2 b u e).stay (fun d v hd q=>hx d v (fun z=>?_) q) (fun d q=>?_) fun d xs q=>?_
    ·rcases hd with z2|z2
     ·exact h2 (z2.symm.trans z)
     ·rw[z,hP]at z2;cases z2
    ·rw[hH d (fun z=>by rw[z,hP]at q;cases q) (nb _ _ q)];exact q
    ·rw[hH d (fun z=>by rw[z,hP]at q;cases q) (nb _ _ q)];exact q
abbrev vv(mg:Str->Option Value)(qual:Str)(params:Arguments)(body:Expr)(scope:Scope)(cl:List (Str×Addr))(cv ctv:Value):Obj :=
 { cls:=.type "function",data:=.func (kla_fn "<lambda>" qual params body scope cl ((mg "__name__").getD .none) cv ctv) }
def fP(H:Hp)(P:Addr)(pos:Pos)(q:Str):Prop:=∃ps,H P=some (.tbl ps)/\TriplesOk ps.toList/\(codeAmong pos ps.toList=none\/∃c,codeAmong pos ps.toList=some (.ref c)/\H c=some (fX c q))
theorem Ak(I:Inv X MS σ H s)(hdef:defaultsOf params X.env=([],[]))(hcode:X.env.code=.ref c)
  (C:CodeHd X.base c P) (B:ji X.mg X.base) (hcl:closureFor scope X.env=pure cl) (T:fP H P pos (X.env.qual++"<lambda>"))
  (h:∀f c' ctv H' s',(H'=H\/∃ps more,H P=some (.tbl ps)/\H c'=none/\P≠c'/\H'=af (af H P (.tbl (ps++more))) c' (fX c' (X.env.qual++"<lambda>")))->fP H' P pos (X.env.qual++"<lambda>")->H' c'=some (fX c' (X.env.qual++"<lambda>")) ->
   Inv X (MS++[(f,vv X.mg (X.env.qual++"<lambda>") params body scope cl (.ref c') ctv)]) σ H' s'->Q (.ref f) s') :
  wpAny (model X.prog X.w) X.A (eval (.Lambda params body scope pos) X.env) Q E s:=by
 refine kla_eval hdef ?_;obtain⟨ps,hP,ht,hc⟩:=T;have gP:s.heap.get? P=some (tabObj ps):=I.M2 P _ hP;have hg:s.heap.Ns mainGlobals X.mg:=I.mod.glob.keeps I.bk;have hgP:mainGlobals≠P:=fun q=>by
  obtain⟨o,es,ep,e,hd,_⟩:=hg;rw[q,gP]at e;cases e;cases hd
 obtain⟨bm,ob,b1,b2,b3,b4,b5,b6,b7⟩:=B;have hbP:bm≠P:=fun q=>by
  have:=(I.bs bm ob b4).2
  rw[q,hP]at this;cases this
 have hb:s.heap.BuiltinsAt X.mg P:=⟨bm,ob,b1,b2,b3,hbP,I.bk _ _ b4,b5,b6,b7⟩;have C':CodeHd s.heap c P:=C.keeps I.bk
 -- the function's object,laid over h1
 have last:∀(H1:Hp)(h1:Heap)(tk1:Nat)(o:Obj),Inv X MS σ H1 { s with heap:=h1,toks:=tk1 }->(∀v,o.data≠.cell v)->o.isFreed=false->Inv X (MS++[(h1.objs.size,o)]) σ H1 { s with heap:=h1.push o,toks:=tk1 }:=by
  intro H1 h1 tk1 o J hd hfr;have J2:Inv X MS σ H1 { s with heap:=h1.push o,toks:=tk1 }:=J.kept fun b u e=>zG _ e
  have fp:=J.fpOk (b:=h1.objs.size) (zP _) J.fresh;refine J2.pins_of fun p hp=>?_
  rcases zZ.mp hp with hp|hp
  ·exact J2.pin p (zK _ hp)
  ·rw[zM.mp hp]
   exact⟨zY _ hfr,fp.1,fp.2.1,fp.2.2.1,hd⟩
 rcases hc with hn|⟨c',hc,hx⟩
 ·refine kla_makeFunction (mg:=X.mg) hcl I.ok.glob hg hcode C' gP ht hn hgP hb fun c' ctv h' tk hx hge hlt hrec htb=>?_
  have hPc:P≠c':=zU (zJ (yJ gP) hge);have J:=I.grown (t':=tk) hP hx hge hrec htb;have e1:af (af H P (.tbl (ps++#[rawInt pos.line,rawInt pos.col,.ref c']))) c' (fX c' (X.env.qual++"<lambda>")) P=some (.tbl (ps++#[rawInt pos.line,rawInt pos.col,.ref c'])):=by rw[ad hPc,ay]
  refine h _ c' ctv _ _ (.inr ⟨ps,_,hP,I.M2.fresh hge,hPc,rfl⟩) ⟨_,e1,?_,.inr ⟨c',?_,ay⟩⟩ ay (last _ h' tk _ J (fun v z=>nomatch z) rfl)
  ·rw[Array.toList_append];exact TriplesOk_snoc _ _ _ _ ht
  ·rw[Array.toList_append];exact codeAmong_snoc _ ht hn
 ·refine kla_makeFunctionHit (mg:=X.mg) hcl I.ok.glob hg hcode C' gP ht hc hb fun ctv h' tk hk hge=>?_
  exact h _ c' ctv H _ (.inl rfl) ⟨ps,hP,ht,.inr ⟨c',hc,hx⟩⟩ hx (last H h' tk _ (I.kept hk) (fun v z=>nomatch z) rfl)
def rW(X:Cx)(N':List Str)(scope:Scope)(cl:List (Str×Addr))(f:Addr)(qual:Str)(cd:Value)(A:Around)(s:Shared)(H:Hp):Cx :=
 { X with N:=N',s₀:=s,H₀:=H,env:=newEnv scope s.heap.objs.size mainGlobals cl (qual++".<locals>.") (some f) cd none builtinsNs,outer:=X.stack,stack:=newEnv scope s.heap.objs.size mainGlobals cl (qual++".<locals>.") (some f) cd none builtinsNs::X.stack,
          A:=A.deeper (newEnv scope s.heap.objs.size mainGlobals cl (qual++".<locals>.") (some f) cd none builtinsNs),ex:=[],fn:=fun _=>false,calm:=true,pn:=[],xe:=fun _ _=>False }
structure vQ(X:Cx)(N':List Str)(scope:Scope)(x:Str):Prop where
 cy:jq X N' scope
 co:scope.isCoroutine=false
 gen:scope.isGenerator=false
 len:N'.length=X.N.length+1
 own:N'[X.N.length]?=some x
 loc:scope.names.lookup x=some .local
 nc:∀y∈scope.names,y.2≠.cell
theorem AB{t':Nat}(T:vQ X N' scope x)(I:Inv X MS σ H s)(hfm:A.frames=some X.stack)(hh:A.handled=none)
  (hcl:∀p∈cl,X.env.cells.lookup p.1=some p.2) (hfr:∀x,(x,NameKind.free)∈scope.names->∃c,(x,c)∈cl) (r:RelV v u)
  (hn:h'.Ns s.heap.objs.size (fun y=>[(x,u)].reverse.lookup y)) (hs:Heap.SameBut s.heap.objs.size (s.heap.push { cls:=.type "frame",data:=.dict #[] }) h') :
  Inv (rW X N' scope cl f qual cd A s H) [] (σ++[some v]) H { s with heap:=h',toks:=t' }:=by
 have keep:∀b o,s.heap.get? b=some o->h'.get? b=some o:=fun b o e=>(hs.2 b (zU (yJ e))).trans (zG _ e)
 have look:∀x,(x,NameKind.free)∈scope.names->∃c,cl.lookup x=some c/\X.env.cells.lookup x=some c:=fun x hx=>by
  obtain⟨c,hc⟩:=hfr x hx;obtain⟨c2,hc2⟩:=fK hc;exact⟨c2,hc2,hcl _ (mem_of_lookup hc2)⟩
 have noA:∀ b:Addr,b ∉ (rW X N' scope cl f qual cd A s H).ex:=fun b z=>absurd (show b ∈ ([]:List Addr) from z) (by simp)
 refine⟨⟨I.ok.mod,T.cy.kind,rfl,rfl,zP _,fun y z c h1 h2=>?_,fun y hy=>?_,fun y c h=>(by cases h),fun _=>hh,Around.frames_deeper hfm,.inr ⟨rfl,rfl⟩,fun b z=>absurd z (noA b),I.bs,z5 I.ok.bsz I.sz,fun b _ _=>noA b,fun b z=>absurd z (noA b),I.stack,I.stkFree⟩,
  rfl,I.bare,Un.kept keep,⟨_,hn,fun i y w e1 e2 e3=>?_⟩,fun y c h=>?_,I.M2.fresh (zP _),fun y c h=>?_,fun p hp=>absurd (show p∈([]:List (Addr×Obj)) from hp) (by simp),I.M2.kept keep,?_⟩
 ·exact I.ok.inj y z c (hcl _ (mem_of_lookup h1)) (hcl _ (mem_of_lookup h2))
 ·have hy:scope.names.lookup y=some .cell\/scope.names.lookup y=some .free:=hy
  rcases hy with hy|hy
  ·exact absurd rfl (T.nc _ (mem_of_lookup hy))
  ·obtain⟨c,hc,_⟩:=look y (mem_of_lookup hy)
   exact⟨c,hc⟩
 ·have hlen:=I.len
  rcases yU i σ.length with hi|hi
  ·rw[zN hi]at e2
   have hmem:∃k,(y,k)∈scope.names:=by
    rcases e3 with h|h|h<;>exact⟨_,mem_of_lookup h⟩
   have hfree:=T.cy.hid i y oM e1 hmem;have eX:=T.cy.same i y oM e1 hfree;have kX:=T.cy.free y hfree;obtain⟨m,hn2,hl⟩:=I.loc;obtain⟨u2,ru,lk⟩:=hl i y w eX e2 (by rcases kX with h|h;exact .inr (.inl h);exact .inr (.inr h));refine⟨u2,ru,.inr ⟨.inr (cY T.cy.nd hfree),?_⟩⟩;rcases lk with⟨k1,_⟩|⟨_,c,hc,z⟩
   ·rcases kX with h|h<;>rw[h]at k1<;>cases k1
   ·obtain⟨c2,q1,q2⟩:=look y hfree
    rw[hc]at q2;cases q2;exact⟨c,q1,z.keeps keep⟩
  ·rw[z6 hi]at e2
   have hi0:i-σ.length=0:=by
    rcases Nat.eq_zero_or_pos (i-σ.length) with z|z
    ·exact z
    ·rw [List.getElem?_eq_none (show [some v].length <= _ from z)] at e2;cases e2
   rw[hi0]at e2;cases e2;have hi1:i=X.N.length:=by lia
   subst hi1;have e1:N'[X.N.length]?=some y:=e1;rw[T.own]at e1;cases e1;exact⟨u,r,.inl ⟨T.loc,by simp⟩⟩
 ·obtain⟨w,z⟩:=I.cell y c (hcl _ (mem_of_lookup h))
  exact⟨w,z.keeps keep⟩
 ·exact I.freeC y c (hcl _ (mem_of_lookup h))
 ·show(σ++[some v]).length=N'.length
  rw[zV,I.len,T.len];rfl
theorem Al(T:vQ X N' scope x)(I:Inv X MS σ H s)(hfm:A.frames=some X.stack)(hh:A.handled=none)
  (hd:A.depth<recursionLimit) (hcl:∀p∈cl,X.env.cells.lookup p.1=some p.2) (hfr:∀x,(x,NameKind.free)∈scope.names->∃c,(x,c)∈cl) (hp:R.plainA params=true) (hps:params.args.map (·.arg)=[x])
  (hf:s.heap.get? f=some (vv X.mg qual params body scope cl (.ref c') ctv)) (hr:s.heap.CodeRec (.ref c') qual)
  (he:∀s H,PE (rW X N' scope cl f qual (.ref c') A s H) body te) (r:RelV v u) (h:te (σ++[some v]) H Q) :
  wpAny (model X.prog X.w) A (call (.ref f) [u]) (EP X MS σ Q) E s:=by
 refine wpAny_call (kla_callFunE hd hf rfl T.co T.gen rfl hr ?_);have hb:bindArgs (kla_fn "<lambda>" qual params body scope cl ((X.mg "__name__").getD .none) (.ref c') ctv) ⟨[u],[]⟩=pure [(x,u)]:=by
  have:=R.bind_plain (fd:=kla_fn "<lambda>" qual params body scope cl ((X.mg "__name__").getD .none) (.ref c') ctv) (us:=[u]) hp rfl (by show(params.args.map (·.arg)).Nodup;rw[hps];simp) (by show _=(params.args.map (·.arg)).length;rw[hps];rfl)
  rw[this];show pure ((params.args.map (·.arg)).zip [u])=_;rw[hps];rfl
 rw[hb];refine yG ?_;refine wpAny_newFunctionEnv (around:=none) (fun y hy=>T.nc y hy) (fun y hy=>by rw[zM.mp hy];exact T.loc) (fun h' hn hs=>?_) T.cy.kind;have hs:Heap.SameBut s.heap.objs.size (s.heap.push { cls:=.type "frame",data:=.dict #[] }) h':=hs;have keep:∀b o,s.heap.get? b=some o->h'.get? b=some o:=fun b o e=>(hs.2 b (zU (yJ e))).trans (zG _ e)
 refine⟨I.nolimit.keeps keep,kla_codeExpr ?_⟩;have J:=AB (cd:=.ref c') (f:=f) (qual:=qual) (t':=s.toks+[(x,u)].length) T I hfm hh hcl hfr r hn hs;refine yT (he s H [] _ (σ++[some v]) H Q J h) (fun w s' hq0=>?_) fun e s' z=>z.elim
 obtain⟨y,H',J',ry,q⟩:=hq0;exact I.after ⟨y,H',J'.os,J'.bare,J'.base,J'.M2,ry,q⟩
end
theorem xb(h:hU k v=true):RelV (kV k) v:=by
 cases k with
 |inl i =>
  cases v <;> first | (cases h;done) | skip
  rename_i j t;have e:j=i:=by simpa [hU,Value.isInt] using h
  subst e;exact⟨t,rfl⟩
 |inr x =>
  cases v <;> first | (cases h;done) | skip
  rename_i y t;have e:y=x:=by simpa [hU,Value.isStrOf] using h
  subst e;exact⟨t,rfl⟩
theorem C4{κ:Type}{MU:List (κ×V)}{vs:List (κ×Value)}(r:KV MU vs):MU.map (·.1)=vs.map (·.1):=by
 induction r with
 |nil=>rfl
 |cons h t ih=>simp only[zO];rw[h.1,ih]
def Jq(d:Addr)(o:Obj)(MU:List (aT×V)):It :=
 ⟨fun i H=>H d=some (.frz o (.dK MU))/\i<MU.length,fun i H x H'=>H'=H/\(MU.map fun p=>kV p.1)[i]?=some x,fun i H=>H d=some (.frz o (.dK MU))/\MU.length<=i⟩
theorem rF{ep:Nat}(I:Inv X MS σ H s)(h:H d=some (.frz o (.dK MU)))(ho:o.data=.dict es ep) :
  ∃vs,KV MU vs/\s.heap.DictAt (cb X.prog X.w) d vs ep:=by
 obtain⟨e1,_,_,vs,r,ob,es',ep',e2,c1,c2,c3⟩:=I.M2 d _ h;rw[e1]at e2;cases e2;rw[ho]at c2;cases c2;exact⟨vs,r,o,es,e1,c1,ho,c3⟩
theorem vY{P:Program}{w:World}{K:Frag}{tg:Expr}{d:Addr}{o:Obj}{MU:List (aT×V)}{es:Array DictEntry}{ep:Nat}(it:Addr)(hd:o.data=.dict es ep):jZ P w K tg (Jq d o MU) [it] it (fun i h=>h.IsKeyIter it d i MU.length ep) where
 mem:=by simp
 obj:=fun i h st b hb=>by
  obtain rfl:b=it:=by simpa using hb
  obtain⟨o,e,c,d⟩:=st;exact⟨o,e,fun v z=>by rw[d]at z;cases z⟩
 keep:=fun i h h' st k=>let⟨o,e,r⟩:=st;⟨o,k it (by simp) _ e,r⟩
 item:=by
  intro X hP hw hK hc i MS s σ H E I hf st hg;subst hP hw hK;obtain⟨hg,hi⟩:=hg;obtain⟨vs,r,da⟩:=rF I hg hd;have hl:MU.length=vs.length:=Paired.length r;obtain⟨f0,f1,f2,f3,f4,f5⟩:=hf it (by simp);obtain⟨q,hq⟩:∃q,vs[i]?=some q:=⟨_,zF oM⟩;have hk:MU[i]?.map (·.1)=vs[i]?.map (·.1):=by
   rw[<- zR,<- zR,C4 r]
  rw[hl]at st;refine wpAny_pyNext_dict_item st da (k:=q.1) (v:=q.2) hq fun key h' hkey st' sb=>?_
  have I1:Inv X MS σ H { s with heap:=h' }:=I.turned (t':=s.toks) (fun b o hb e=>(sb.2 b hb).trans e) f0 f1 f3 f4 f5;obtain⟨o',e,c,dd⟩:=id st';refine⟨key,rfl,nM (s:={ s with heap:=h' }) e c dd dC ⟨kV q.1,H,I1,xb hkey,⟨rfl,?_⟩,by rw[hl];exact st',fun b hb=>(hf b hb).1⟩⟩;rw[zR];rw[hq]at hk;cases hkv:MU[i]? with
  |none=>rw[hkv]at hk;cases hk
  |some p=>rw[hkv]at hk;simp at hk;simp[hk]
 done:=by
  intro X hP hw hK hc i MS s σ H E I hf st hg;subst hP hw hK;obtain⟨hg,hi⟩:=hg;obtain⟨vs,r,da⟩:=rF I hg hd;have hl:MU.length=vs.length:=Paired.length r;obtain⟨f0,f1,f2,f3,f4,f5⟩:=hf it (by simp);rw[hl]at st;exact wpAny_pyNext_dict_end (I.ok.hd hc) st da (List.getElem?_eq_none oM) fun h' eb=>⟨rfl,I.turned (t':=s.toks) (fun b o hb e=>eb b o hb e) f0 f1 f3 f4 f5⟩
 self:=fun A i s Q E st h=>wpAny_pyIter_keyiter st h
section
variable{X:Cx}{MS:List (Addr×Obj)}{σ:St}{H:Hp}{s:Shared}{d:Addr}{MU:List (aT×V)}{o:Obj}
theorem Inv.frzD(I:Inv X MS σ H s)(h:H d=some (.dK MU))(e:s.heap.get? d=some o):Inv X MS σ (af H d (.frz o (.dK MU))) { s with toks:=s.toks }:=by
 have ne:∀b u,H b=some u->(∀MU,u≠.dK MU)->b≠d:=fun b u q n z=>by rw[z,h]at q;cases q;exact n _ rfl
 refine I.un (h':=s.heap) ⟨fun b o e _ _ _=>e,fun b o e _ _ _=>⟨o.slots,e⟩,fun b o e n _=>by rw[ad (fun z=>by rw[z,h]at n;cases n)];exact n,fun b o e _=>⟨o,e⟩,fun b xs q=>by rw[ad (ne b _ q fun _ z=>nomatch z)];exact q,fun b o u q=>by rw[ad (ne b _ q fun _ z=>nomatch z)];exact q,
  fun b ps q=>⟨#[],by rw[ad (ne b _ q fun _ z=>nomatch z),q];simp⟩⟩ fun b u q=>?_
 have st:∀b u,H b=some u->ObjOk X.prog X.w (af H d (.frz o (.dK MU))) s.heap b u:=fun b u q=>(I.M2 b u q).stay (fun _ _ _ z=>z) (fun c z=>by rw[ad (ne c _ z fun _ y=>nomatch y)];exact z) fun c xs z=>by rw[ad (ne c _ z fun _ y=>nomatch y)];exact z
 by_cases hb:b=d
 ·subst hb;rw[ay]at q;cases q;exact⟨e,st _ _ h⟩
 ·rw[ad hb]at q;exact st b u q
theorem Inv.thawD(I:Inv X MS σ H s)(h:H d=some (.frz o (.dK MU)))(hn:∀o u,X.H₀ d≠some (.frz o u)):Inv X MS σ (af H d (.dK MU)) s:=by
 have ne:∀b u,H b=some u->(∀o u',u≠.frz o u')->b≠d:=fun b u q n z=>by rw[z,h]at q;cases q;exact n _ _ rfl
 have nn:∀b,H b=none->b≠d:=fun b q z=>by rw[z,h]at q;cases q
 have M2:HOk X.prog X.w (af H d (.dK MU)) s.heap:=fun b u q=>by
  have st:∀b u,H b=some u->ObjOk X.prog X.w (af H d (.dK MU)) s.heap b u:=fun b u q=>(I.M2 b u q).stay (fun _ _ _ z=>z) (fun c z=>by rw[ad (ne c _ z fun _ _ y=>nomatch y)];exact z) fun c xs z=>by rw[ad (ne c _ z fun _ _ y=>nomatch y)];exact z
  by_cases hb:b=d
  ·subst hb;rw[ay]at q;cases q;exact(st _ _ h).2
  ·rw[ad hb]at q;exact st b u q
 refine⟨I.ok,I.os,I.bare,⟨I.base.keep,I.base.slot,fun b o e n hx=>by rw[ad (nn b (I.base.free b o e n hx))];exact I.base.free b o e n hx,I.base.there,fun b xs e=>by rw[ad (ne b _ (I.base.tups b xs e) fun _ _ y=>nomatch y)];exact I.base.tups b xs e,
  fun b o u e=>by rw[ad (fun z=>hn o u (by rw[<- z];exact e))];exact I.base.frzs b o u e,fun b ps e=>?_⟩,I.loc,I.cell,by rw[ad (nn _ I.free)];exact I.free,fun x c e=>by rw[ad (nn _ (I.freeC x c e))];exact I.freeC x c e,
  fun p hp=>by obtain⟨a1,a2,a3⟩:=I.pin p hp;exact⟨a1,by rw[ad (nn _ a2)];exact a2,a3⟩,M2,I.len⟩
 obtain⟨more,q⟩:=I.base.tbls b ps e;exact⟨more,by rw[ad (ne b _ q fun _ _ y=>nomatch y)];exact q⟩
end
section
variable{X:Cx}{tg iter:Expr}{te:TE}
def HJ(n0:Hp)(te:TE):TI:=fun σ H R=>te σ H fun x H1=>∃d MU,x=.ref d/\H1 d=some (.dK MU)/\∀o,(∀o u,n0 d≠some (.frz o u))->R (Jq d o MU) (af H1 d (.frz o (.dK MU)))
theorem CG(hl:PE X iter te):PI X tg iter (HJ X.H₀ te):=by
 intro MS s σ H R I h;refine aD (hl MS s σ H _ I h) fun v s1 hq0=>?_
 obtain⟨x,H1,I1,r1,d,MU,e,hd,q⟩:=hq0;subst e;cases r1;obtain⟨hz,hsys,vs,rv,ob,es,ep,e1,c1,c2,c3⟩:=I1.M2 d _ hd;have hl:MU.length=vs.length:=Paired.length rv;have hn:∀o u,X.H₀ d≠some (.frz o u):=fun o u z=>by
  have:=I1.base.frzs d o u z
  rw[hd]at this;cases this
 have I2:=I1.frzD hd e1;refine wpAny_pyIter_dict hsys (knd:=cb X.prog X.w) ⟨ob,es,e1,c1,c2,c3⟩ ?_;have I3:Inv X MS σ (af H1 d (.frz ob (.dK MU))) { s1 with heap:=s1.heap.push { cls:=.type "dict_keyiterator",data:=.fields #[.ref d,.int 0 0,.int vs.length 0,.int ep 0] },toks:=s1.toks }:=I2.kept fun b o e=>zG _ e
 refine⟨s1.heap.objs.size,[s1.heap.objs.size],_,_,_,rfl,I3,vY (MU:=MU) _ c2,⟨_,zY _ rfl,rfl,by rw[hl];rfl⟩,fun b hb=>?_,q ob hn⟩;obtain rfl:b=s1.heap.objs.size:=by simpa using hb
 exact I2.fpOk (zP _) I2.fresh
def pZ(n0:Hp)(D:jp):jp:={ nx:=fun σ H=>∃d o MU,H d=some (.frz o (.dK MU))/\(∀o u,n0 d≠some (.frz o u))/\D.nx σ (af H d (.dK MU)),rt:=fun v H=>∃d o MU,H d=some (.frz o (.dK MU))/\(∀o u,n0 d≠some (.frz o u))/\D.rt v (af H d (.dK MU)) }
theorem Cw{st:Stmt}{t:TS}(h:PS X st t):PS X st (fun D σ H=>t (pZ X.H₀ D) σ H):=by
 intro MS s σ H D I q;refine aD (h MS s σ H (pZ X.H₀ D) I q) fun f s' hs=>?_
 cases f with
 |next=>obtain⟨σ',H',J,d,o,MU,e,n,q⟩:=hs;exact⟨σ',_,J.thawD e n,q⟩
 |ret u=>obtain⟨v,σ',H',J,r,d,o,MU,e,n,q⟩:=hs;exact⟨v,σ',_,J.thawD e n,r,q⟩
 |brk=>obtain⟨_,_,_,q⟩:=hs;exact q.elim
 |cont=>obtain⟨_,_,_,q⟩:=hs;exact q.elim
end
end L2
namespace R
open PySem L2
inductive AV where
 |non|bl (b:Bool)|int (i:Int)|str (x:Str)|ref (k:Nat)|tup (xs:List AV)|fz (xs:List AV)
inductive MT where
 |lst (xs:List AV)|al (t:AV)|dK (MU:List (aT×AV))|dT (MU:List (List aT×AV))|ins (c:Str) (fs:List (Str×AV))|wk (MU:List (aT×AV))
abbrev aa:=List MT
abbrev Sl:=List (Option AV)
abbrev Pr:=Addr->Prop
class MV where
 tb:List (Addr×Pos×Str)
structure Gm where
 K:Frag
 mg:Str->Option Value
def FLk(mg:Gm)(P:Pr)(H:Hp)(a:Addr)(vs:List V):Prop:=(P a/\Rd H a (.lst vs))\/∀H',bQ mg.K H' a vs
mutual
def RA(mg:Gm)(P:Pr)(H:Hp)(φ:List Addr):AV->V->Prop
 |.non,v=>v=.non
 |.bl b,v=>v=.bl b
 |.int i,v=>v=.int i
 |.str x,v=>v=.str x
 |.ref k,v=>∃a,φ[k]?=some a/\v=.ref a
 |.tup xs,v=>∃a vs,v=.ref a/\P a/\H a=some (.tup vs)/\MY mg P H φ xs vs
 |.fz xs,v=>∃a vs,v=.ref a/\FLk mg P H a vs/\MY mg P H [] xs vs
def MY(mg:Gm)(P:Pr)(H:Hp)(φ:List Addr):List AV->List V->Prop
 |[],vs=>vs=[]
 |x::xs,vs=>∃v ws,vs=v::ws/\RA mg P H φ x v/\MY mg P H φ xs ws
end
theorem bG:MY mg P H φ [] []:=by simp only[MY]
theorem aU(h:RA mg P H φ x v)(t:MY mg P H φ xs vs):MY mg P H φ (x::xs) (v::vs):=by simp only[MY];exact⟨v,vs,rfl,h,t⟩
structure Frm(P:Pr)(φ:List Addr)(H:Hp)(P':Pr)(φ':List Addr)(H':Hp):Prop where
 ext:∀a,P a->P' a/\H' a=H a
 new:∃more,φ'=φ++more/\∀a∈more,H a=none
 keep:∀a,H a≠none->a∉φ->(∀ps,H a≠some (.tbl ps))->H' a=H a
 pn:∀a,P' a->P a\/H a=none\/a∈φ
 sm:∀a,H a≠none->H' a≠none
 fz:∀a o u,H a=some (.frz o u)->H' a=some (.frz o u)
theorem Frm.refl:Frm P φ H P φ H:=⟨fun _ h=>⟨h,rfl⟩,⟨[],by simp,by simp⟩,fun _ _ _ _=>rfl,fun _ h=>.inl h,fun _ h=>h,fun _ _ _ h=>h⟩
theorem Frm.trans{P P1 P2:Pr}{φ φ1 φ2:List Addr}{H H1 H2:Hp}(a:Frm P φ H P1 φ1 H1)(b:Frm P1 φ1 H1 P2 φ2 H2):Frm P φ H P2 φ2 H2:=by
 obtain⟨m1,e1,n1⟩:=a.new;obtain⟨m2,e2,n2⟩:=b.new;have nn:∀x,H1 x=none->H x=none:=fun x h=>by
  cases e:H x with
  |none=>rfl
  |some o=>exact absurd h (a.sm x (by rw[e];exact fun z=>nomatch z))
 refine⟨fun x h=>?_,⟨m1++m2,by rw[e2,e1,yN],fun x h=>?_⟩,fun x h1 h2 h3=>?_,fun x h=>?_,fun x h=>b.sm x (a.sm x h),fun x o u h=>b.fz x o u (a.fz x o u h)⟩
 ·obtain⟨h1,e⟩:=a.ext x h
  obtain⟨h2,e'⟩:=b.ext x h1;exact⟨h2,e'.trans e⟩
 ·rcases zZ.mp h with h|h
  ·exact n1 x h
  ·exact nn x (n2 x h)
 ·have e:=a.keep x h1 h2 h3
  refine(b.keep x (by rw[e];exact h1) (fun z=>?_) (by rw[e];exact h3)).trans e;rw[e1]at z;rcases zZ.mp z with z|z
  ·exact h2 z
  ·exact h1 (n1 x z)
 ·rcases b.pn x h with h|h|h
  ·exact a.pn x h
  ·exact .inr (.inl (nn x h))
  ·rw[e1]at h
   rcases zZ.mp h with h|h
   ·exact .inr (.inr h)
   ·exact .inr (.inl (n1 x h))
theorem Rd.at(h:Rd H a u)(e:H' a=H a):Rd H' a u:=by
 rcases h with h|⟨o,h⟩
 ·exact .inl (e.trans h)
 ·exact .inr ⟨o,e.trans h⟩
theorem FLk.mono{mg:Gm}{P P':Pr}{H H':Hp}{a:Addr}{vs:List V}(h:FLk mg P H a vs)(x:∀a,P a->P' a/\H' a=H a):FLk mg P' H' a vs:=by
 rcases h with⟨p,r⟩|h
 ·exact .inl ⟨(x a p).1,Rd.at r (x a p).2⟩
 ·exact .inr h
theorem FLk.sq(h:FLk mg P H a vs):bQ mg.K H a vs:=by
 rcases h with⟨_,r⟩|h
 ·exact .inl r
 ·exact h H
section
variable{mg:Gm}{P P':Pr}{H H':Hp}{φ φ':List Addr}
mutual
theorem RA.mono'(x:∀a,P a->P' a/\H' a=H a):∀{t:AV}{v:V}{φ φ':List Addr},(∀(k:Nat) a,φ[k]?=some a->φ'[k]?=some a)->RA mg P H φ t v->RA mg P' H' φ' t v
 |.non,_,_,_,_,h=>by simp only[RA]at h ⊢;exact h
 |.bl _,_,_,_,_,h=>by simp only[RA]at h ⊢;exact h
 |.int _,_,_,_,_,h=>by simp only[RA]at h ⊢;exact h
 |.str _,_,_,_,_,h=>by simp only[RA]at h ⊢;exact h
 |.ref k,_,_,_,hφ,h=>by simp only[RA]at h ⊢;obtain⟨a,e,r⟩:=h;exact⟨a,hφ k a e,r⟩
 |.tup xs,_,_,_,hφ,h=>by
  simp only[RA]at h ⊢;obtain⟨a,vs,r,p,e,q⟩:=h;exact⟨a,vs,r,(x a p).1,(x a p).2.trans e,MY.mono' x hφ q⟩
 |.fz xs,_,_,_,hφ,h=>by
  simp only[RA]at h ⊢;obtain⟨a,vs,r,e,q⟩:=h;exact⟨a,vs,r,e.mono x,MY.mono' x (fun _ _ z=>z) q⟩
theorem MY.mono'(x:∀a,P a->P' a/\H' a=H a):∀{ts:List AV}{vs:List V}{φ φ':List Addr},(∀(k:Nat) a,φ[k]?=some a->φ'[k]?=some a)->MY mg P H φ ts vs->MY mg P' H' φ' ts vs
 |[],_,_,_,_,h=>by simp only[MY]at h ⊢;exact h
 |t::ts,_,_,_,hφ,h=>by
  simp only[MY]at h ⊢;obtain⟨v,ws,e,r,q⟩:=h;exact⟨v,ws,e,RA.mono' x hφ r,MY.mono' x hφ q⟩
end
theorem RA.mono{t:AV}{v:V}(h:RA mg P H φ t v)(x:∀a,P a->P' a/\H' a=H a)(hφ:∀(k:Nat) a,φ[k]?=some a->φ'[k]?=some a):RA mg P' H' φ' t v:=RA.mono' x hφ h
theorem MY.mono{ts:List AV}{vs:List V}(h:MY mg P H φ ts vs)(x:∀a,P a->P' a/\H' a=H a)(hφ:∀(k:Nat) a,φ[k]?=some a->φ'[k]?=some a):MY mg P' H' φ' ts vs:=MY.mono' x hφ h
theorem Frm.ix(f:Frm P φ H P' φ' H'):∀(k:Nat) a,φ[k]?=some a->φ'[k]?=some a:=fun k a e=>by
 obtain⟨m,rfl,_⟩:=f.new;rw[zN (zB.mp e).1];exact e
theorem RA.frm(h:RA mg P H φ t v)(f:Frm P φ H P' φ' H'):RA mg P' H' φ' t v:=h.mono f.ext f.ix
theorem MY.frm(h:MY mg P H φ ts vs)(f:Frm P φ H P' φ' H'):MY mg P' H' φ' ts vs:=h.mono f.ext f.ix
theorem RA.lift(h:RA mg P H [] t v):RA mg P H φ t v:=h.mono (fun _ h=>⟨h,rfl⟩) fun k a e=>by simp at e
theorem MY.lift(h:MY mg P H [] ts vs):MY mg P H φ ts vs:=h.mono (fun _ h=>⟨h,rfl⟩) fun k a e=>by simp at e
theorem MY.length:∀{ts:List AV}{vs:List V},MY mg P H φ ts vs->ts.length=vs.length
 |[],_,h=>by simp only[MY]at h;subst h;rfl
 |t::ts,_,h=>by
  simp only[MY]at h;obtain⟨v,ws,rfl,_,q⟩:=h;rw[yY,yY,MY.length q]
theorem MY.get:∀{ts:List AV}{vs:List V}{i:Nat}{t:AV},MY mg P H φ ts vs->ts[i]?=some t->∃v,vs[i]?=some v/\RA mg P H φ t v
 |[],_,_,_,_,e=>by simp at e
 |x::ts,_,i,t,h,e=>by
  simp only[MY]at h;obtain⟨v,ws,rfl,r,q⟩:=h;cases i with
  |zero=>simp at e;subst e;exact⟨v,rfl,r⟩
  |succ i=>simpa using MY.get (i:=i) q (by simpa using e)
theorem MY.app:∀{xs ys:List AV}{vs ws:List V},MY mg P H φ xs vs->MY mg P H φ ys ws->MY mg P H φ (xs++ys) (vs++ws)
 |[],_,_,_,h,g=>by simp only[MY]at h;subst h;exact g
 |x::xs,_,_,_,h,g=>by
  simp only[MY]at h;obtain⟨v,ws,rfl,r,q⟩:=h;exact aU r (MY.app q g)
theorem MY.take:∀{xs:List AV}{vs:List V} (n:Nat),MY mg P H φ xs vs->MY mg P H φ (xs.take n) (vs.take n)
 |xs,vs,0,_=>by rw[List.take_zero,List.take_zero];exact bG
 |[],vs,n+1,h=>by simp only[MY]at h;subst h;exact bG
 |x::xs,vs,n+1,h=>by
  simp only[MY]at h;obtain⟨v,ws,rfl,r,q⟩:=h;exact aU r (MY.take n q)
theorem MY.drop:∀{xs:List AV}{vs:List V} (n:Nat),MY mg P H φ xs vs->MY mg P H φ (xs.drop n) (vs.drop n)
 |xs,vs,0,h=>h
 |[],vs,n+1,h=>by simp only[MY]at h;subst h;exact bG
 |x::xs,vs,n+1,h=>by
  simp only[MY]at h;obtain⟨v,ws,rfl,r,q⟩:=h;exact MY.drop n q
theorem MY.set(r:RA mg P H φ x v):∀{xs:List AV}{vs:List V} (n:Nat),MY mg P H φ xs vs->MY mg P H φ (xs.set n x) (vs.set n v)
 |[],vs,_,h=>by simp only[MY]at h;subst h;exact bG
 |y::xs,vs,n,h=>by
  simp only[MY]at h;obtain⟨w,ws,rfl,q,t⟩:=h;cases n with
  |zero=>exact aU r t
  |succ n=>exact aU q (MY.set r n t)
theorem MY.ints:∀{ns:List Int}{vs:List V},MY mg P H φ (ns.map .int) vs->vs=ns.map .int
 |[],_,h=>by simpa only[List.map_nil,MY] using h
 |n::ns,_,h=>by
  simp only[zO,MY,RA]at h;obtain⟨v,ws,rfl,rfl,q⟩:=h;rw[MY.ints q];rfl
theorem MY.of_ints:∀{ns:List Int},MY mg P H φ (ns.map .int) (ns.map V.int)
 |[]=>bG
 |n::ns=>aU (by simp only[RA]) MY.of_ints
end
def KVR(mg:Gm)(P:Pr)(H:Hp)(φ:List Addr){κ:Type}(MU:List (κ×AV))(ws:List (κ×V)):Prop:=MU.map (·.1)=ws.map (·.1)/\MY mg P H φ (MU.map (·.2)) (ws.map (·.2))
def CellR(mg:Gm)(P:Pr)(H:Hp)(φ:List Addr)(a:Addr):MT->Prop
 |.lst xs=>¬P a/\∃vs,H a=some (.lst vs)/\MY mg P H φ xs vs
 |.al t=>P a/\RA mg P H [] t (.ref a)
 |.dK MU=>¬P a/\∃ws,H a=some (.dK ws)/\KVR mg P H φ MU ws
 |.dT MU=>¬P a/\∃ws,H a=some (.dT ws)/\KVR mg P H φ MU ws
 |.ins c fs=>¬P a/\∃C dx ws,mg.mg c=some (.ref C)/\H a=some (.ins C dx ws)/\KVR mg P H φ fs ws
 |.wk MU=>¬P a/\∃o ws,H a=some (.frz o (.dK ws))/\KVR mg P H φ MU ws
def Gx(o:Option HO):Prop:=(∀ps,o≠some (.tbl ps))/\∀f,o≠some (.ext f)
theorem _root_.L2.fP.new(h:fP H P pos q)(hp:H p=none):fP (af H p o) P pos q:=by
 obtain⟨ps,e,t,c⟩:=h;refine⟨ps,by rw[ad (aX e hp)];exact e,t,?_⟩;rcases c with c|⟨c',c1,c2⟩
 ·exact .inl c
 ·exact .inr ⟨c',c1,by rw[ad (aX c2 hp)];exact c2⟩
theorem _root_.L2.fP.ne(h:fP H P pos q)(hp:H p=none):P≠p:=by
 obtain⟨ps,e,_⟩:=h;exact aX e hp
theorem _root_.L2.fP.wr(h:fP H P pos q)(hp:Gx (H p)):fP (af H p o) P pos q:=by
 obtain⟨ps,e,t,c⟩:=h;refine⟨ps,by rw[ad fun z=>hp.1 ps (by rw[<- z];exact e)];exact e,t,?_⟩;rcases c with c|⟨c',c1,c2⟩
 ·exact .inl c
 ·exact .inr ⟨c',c1,by rw[ad fun z=>hp.2 _ (by rw[<- z];exact c2)];exact c2⟩
structure Sim[MV](mg:Gm)(P:Pr)(φ:List Addr)(st:aa)(H:Hp):Prop where
 len:φ.length=st.length
 nd:φ.Nodup
 dom:∀a,P a->H a≠none
 cd:∀a∈φ,H a≠none
 cell:∀(k:Nat) c a,st[k]?=some c->φ[k]?=some a->CellR mg P H φ a c
 tb:∀t∈MV.tb,fP H t.1 t.2.1 t.2.2/\¬P t.1
section
variable{mg:Gm}{P P':Pr}{H H':Hp}{φ φ':List Addr}{st st':aa}{a:Addr}
theorem KVR.mono{κ:Type}{MU:List (κ×AV)}{ws:List (κ×V)}(h:KVR mg P H φ MU ws)(x:∀a,P a->P' a/\H' a=H a)(hφ:∀(k:Nat) a,φ[k]?=some a->φ'[k]?=some a):KVR mg P' H' φ' MU ws:=⟨h.1,h.2.mono x hφ⟩
theorem CellR.mono{c:MT}(h:CellR mg P H φ a c)(x:∀a,P a->P' a/\H' a=H a)(hφ:∀(k:Nat) a,φ[k]?=some a->φ'[k]?=some a)(e:H' a=H a)(np:¬P a->¬P' a):CellR mg P' H' φ' a c:=by
 cases c with
 |lst xs=>obtain⟨n,vs,r,q⟩:=h;exact⟨np n,vs,e.trans r,q.mono x hφ⟩
 |al t=>exact⟨(x a h.1).1,h.2.mono x fun _ _ z=>z⟩
 |dK MU=>obtain⟨n,vs,r,q⟩:=h;exact⟨np n,vs,e.trans r,q.mono x hφ⟩
 |dT MU=>obtain⟨n,vs,r,q⟩:=h;exact⟨np n,vs,e.trans r,q.mono x hφ⟩
 |ins c fs=>obtain⟨n,C,dx,ws,m,r,q⟩:=h;exact⟨np n,C,dx,ws,m,e.trans r,q.mono x hφ⟩
 |wk MU=>obtain⟨n,o,ws,r,q⟩:=h;exact⟨np n,o,ws,e.trans r,q.mono x hφ⟩
theorem Sim.at[MV](s:Sim mg P φ st H){k:Nat}(e:st[k]?=some c):∃a,φ[k]?=some a/\CellR mg P H φ a c:=by
 have hk:k<φ.length:=by rw[s.len];exact(zB.mp e).1
 exact⟨φ[k],zF hk,s.cell k c _ e (zF hk)⟩
theorem Sim.notb[MV](s:Sim mg P φ st H){k:Nat}(ea:φ[k]?=some a)(na:¬P a):Gx (H a):=by
 obtain⟨c,hc⟩:∃c,st[k]?=some c:=⟨_,zF (by rw[<- s.len];exact(zB.mp ea).1)⟩;have h:=s.cell k c a hc ea;cases c with
 |lst xs=>obtain⟨n,vs,r,q⟩:=h;rw[r];exact⟨fun _ z=>(nomatch z),fun _ z=>(nomatch z)⟩
 |al t=>exact absurd h.1 na
 |dK MU=>obtain⟨n,vs,r,q⟩:=h;rw[r];exact⟨fun _ z=>(nomatch z),fun _ z=>(nomatch z)⟩
 |dT MU=>obtain⟨n,vs,r,q⟩:=h;rw[r];exact⟨fun _ z=>(nomatch z),fun _ z=>(nomatch z)⟩
 |ins c fs=>obtain⟨n,C,dx,ws,m,r,q⟩:=h;rw[r];exact⟨fun _ z=>(nomatch z),fun _ z=>(nomatch z)⟩
 |wk MU=>obtain⟨n,o,ws,r,q⟩:=h;rw[r];exact⟨fun _ z=>(nomatch z),fun _ z=>(nomatch z)⟩
theorem Sim.tnc[MV](s:Sim mg P φ st H)(ht:t∈MV.tb):t.1∉φ:=fun h=>by
 obtain⟨j,hj⟩:=z9 h;obtain⟨ps,e,_⟩:=(s.tb t ht).1;exact(s.notb hj (s.tb t ht).2).1 ps e
theorem Sim.okeep[MV](s:Sim mg P φ st H)(f:Frm P φ H P' φ' H')(h:H c=some (fX c q)):H' c=some (fX c q):=by
 by_cases hP:P c
 ·exact(f.ext c hP).2.trans h
 ·refine(f.keep c (by rw[h];exact fun z=>nomatch z) (fun z=>?_) fun ps z=>by rw[h]at z;cases z).trans h
  obtain⟨j,hj⟩:=z9 z;exact(s.notb hj hP).2 _ h
theorem Sim.ckeep[MV](s:Sim mg P φ st H)(x:∀a,P a->H' a=H a)(k:∀a,H a≠none->(∀ps,H a≠some (.tbl ps))->H' a=H a):∀a∈φ,H' a=H a:=fun a h=>by
 by_cases hP:P a
 ·exact x a hP
 ·obtain⟨j,hj⟩:=z9 h
  exact k a (s.cd a h) (s.notb hj hP).1
theorem Sim.stay[MV](s:Sim mg P φ st H)(x:∀a,P a->P' a/\H' a=H a)(hc:∀a∈φ,H' a=H a)(np:∀a∈φ,¬P a->¬P' a)(dm:∀a,P' a->H' a≠none)(tb:∀t∈MV.tb,fP H' t.1 t.2.1 t.2.2/\¬P' t.1):Sim mg P' φ st H' :=
 ⟨s.len,s.nd,dm,fun a h=>by rw[hc a h];exact s.cd a h,fun k c a e1 e2=>(s.cell k c a e1 e2).mono x (fun _ _ z=>z) (hc a (zW e2)) (np a (zW e2)),tb⟩
theorem Sim.nil[MV](dm:∀a,P a->H a≠none)(tb:∀t∈MV.tb,fP H t.1 t.2.1 t.2.2/\¬P t.1):Sim mg P [] [] H:=⟨rfl,List.nodup_nil,dm,fun _ h=>by simp at h,fun k c a e _=>by simp at e,tb⟩
theorem mY[MV](s:Sim mg P φ st H)(hp:H p=none):Frm P φ H (fun a=>P a\/a=p) φ (af H p o)/\Sim mg (fun a=>P a\/a=p) φ st (af H p o):=by
 have ne:∀a,H a≠none->a≠p:=fun a h e=>h (by rw[e];exact hp)
 have f:Frm P φ H (fun a=>P a\/a=p) φ (af H p o):=by
  refine⟨fun a h=>⟨.inl h,ad (ne a (s.dom a h))⟩,⟨[],by simp,by simp⟩,fun a h _ _=>ad (ne a h),fun a h=>?_,fun a h=>by rw[ad (ne a h)];exact h,fun a o u h=>by rw[ad (aX h hp)];exact h⟩;rcases h with h|h
  ·exact .inl h
  ·exact .inr (.inl (by rw[h];exact hp))
 refine⟨f,s.stay f.ext (fun a h=>ad (ne a (s.cd a h))) (fun a h n z=>?_) (fun a h=>?_) fun t ht=>⟨(s.tb t ht).1.new hp,fun z=>z.elim (s.tb t ht).2 (fun e=>(s.tb t ht).1.ne hp e)⟩⟩
 ·rcases z with z|z
  ·exact n z
  ·exact ne a (s.cd a h) z
 ·rcases h with h|h
  ·rw[ad (ne a (s.dom a h))];exact s.dom a h
  ·rw[h,ay];exact fun z=>nomatch z
theorem mB[MV](s:Sim mg P φ st H)(hp:H p=none)(hc:CellR mg P (af H p o) (φ++[p]) p c):Frm P φ H P (φ++[p]) (af H p o)/\Sim mg P (φ++[p]) (st++[c]) (af H p o):=by
 have ne:∀a,H a≠none->a≠p:=fun a h e=>h (by rw[e];exact hp)
 have ex:∀a,P a->P a/\af H p o a=H a:=fun a h=>⟨h,ad (ne a (s.dom a h))⟩
 have ix:∀(k:Nat) a,φ[k]?=some a->(φ++[p])[k]?=some a:=fun k a e=>by rw[zN (zB.mp e).1];exact e
 have sm:∀a,H a≠none->af H p o a≠none:=fun a h=>by rw[ad (ne a h)];exact h
 refine⟨⟨ex,⟨[p],rfl,fun a h=>by rw[zM.mp h];exact hp⟩,fun a h _ _=>ad (ne a h),fun a h=>.inl h,sm,fun a o u h=>by rw[ad (aX h hp)];exact h⟩,?_,?_,fun a h=>sm a (s.dom a h),fun a h=>?_,fun k d a e1 e2=>?_,fun t ht=>⟨(s.tb t ht).1.new hp,(s.tb t ht).2⟩⟩
 ·rw[zV,zV,s.len];rfl
 ·exact List.nodup_append.mpr ⟨s.nd,(by simp),fun a h b hb e=>ne a (s.cd a h) (by rw[e];exact zM.mp hb)⟩
 ·rcases zZ.mp h with h|h
  ·exact sm a (s.cd a h)
  ·rw[zM.mp h,ay];exact fun z=>nomatch z
 ·by_cases hk:k<st.length
  ·rw[zN hk]at e1
   rw[zN (by rw[s.len];exact hk)]at e2;exact(s.cell k d a e1 e2).mono ex ix (ad (ne a (s.cd a (zW e2)))) fun z=>z
  ·have hk':k=st.length:=by
    have:=(zB.mp e1).1
    rw[zV]at this;simp at this;lia
   subst hk';simp at e1;rw[<- s.len]at e2;simp at e2;subst e1;subst e2;exact hc
theorem ie[MV]{k:Nat}(s:Sim mg P φ st H)(ea:φ[k]?=some a)(na:¬P a)(hc:CellR mg P (af H a o) φ a c)(nz:∀o u,H a≠some (.frz o u)):Frm P φ H P φ (af H a o)/\Sim mg P φ (st.set k c) (af H a o):=by
 have hm:a∈φ:=zW ea;have ne:∀b,P b->b≠a:=fun b h e=>na (by rw[<- e];exact h)
 have sm:∀b,H b≠none->af H a o b≠none:=fun b h=>by
  by_cases e:b=a
  ·rw[e,ay];exact fun z=>nomatch z
  ·rw[ad e];exact h
 have ex:∀b,P b->P b/\af H a o b=H b:=fun b h=>⟨h,ad (ne b h)⟩
 refine⟨⟨ex,⟨[],by simp,by simp⟩,fun b _ h _=>ad fun e=>h (by rw[e];exact hm),fun b h=>.inl h,sm,fun b o u h=>by rw[ad (fun e=>nz o u (by rw[<- e];exact h))];exact h⟩,by rw[List.length_set];exact s.len,s.nd,fun b h=>sm b (s.dom b h),fun b h=>sm b (s.cd b h),fun j d b e1 e2=>?_,fun t ht=>⟨(s.tb t ht).1.wr (s.notb ea na),(s.tb t ht).2⟩⟩;by_cases hj:j=k
 ·subst hj
  rw[ea]at e2;cases e2;rw[List.getElem?_set_self (by rw[<- s.len];exact(zB.mp ea).1)]at e1;cases e1;exact hc
 ·rw[List.getElem?_set_ne (Ne.symm hj)]at e1
  have hb:b≠a:=fun e=>hj (by
   subst e;exact nodup_ix' s.nd e2 ea)
  exact(s.cell j d b e1 e2).mono ex (fun _ _ z=>z) (ad hb) fun z=>z
where
 nodup_ix' {l:List Addr} (hN:l.Nodup) {i j:Nat}{x:Addr} (a:l[i]?=some x) (b:l[j]?=some x):i=j:=by
  obtain⟨h1,e1⟩:=zB.mp a;obtain⟨h2,e2⟩:=zB.mp b;exact(List.getElem_inj hN).mp (e1.trans e2.symm)
end
open PySem.Spec PyProof.Rows
open DD (PE_imp PT_imp PA_imp PS_imp PSs_imp OpR_imp PW_imp PG_imp)
abbrev St:=L2.St
abbrev _root_.L2.Cx.gm(X:Cx):Gm:=⟨X.K,X.mg⟩
def KG[MV]{α β:Type}(mg:Gm)(Rl:Gm->Pr->Hp->List Addr->α->β->Prop)(P:Pr)(φ:List Addr)(H:Hp)(r:Option (α×aa))(Q:β->Hp->Prop):Prop :=
 ∃a st',r=some (a,st')/\∀P' φ' H' b,Frm P φ H P' φ' H'->Sim mg P' φ' st' H'->Rl mg P' H' φ' a b->Q b H'
def RB{α:Type}(_:Gm)(_:Pr)(_:Hp)(_:List Addr)(a b:α):Prop:=a=b
section
variable{α β γ δ:Type}{mg:Gm}{Ra:Gm->Pr->Hp->List Addr->α->β->Prop}{Rc:Gm->Pr->Hp->List Addr->γ->δ->Prop}{P:Pr}{φ:List Addr}{H:Hp}
theorem KG.bind[MV]{m:Option (α×aa)}{k:α×aa->Option (γ×aa)}{Q:δ->Hp->Prop}(h:KG mg Rc P φ H (m.bind k) Q) :
  KG mg Ra P φ H m fun b H1=>∃P1 φ1 st1 a,Frm P φ H P1 φ1 H1/\Sim mg P1 φ1 st1 H1/\Ra mg P1 H1 φ1 a b/\KG mg Rc P1 φ1 H1 (k (a,st1)) Q:=by
 obtain⟨c,st',e,q⟩:=h;cases m with
 |none=>cases e
 |some p =>
  obtain⟨a,st1⟩:=p;refine⟨a,st1,rfl,fun P1 φ1 H1 b f s r=>⟨P1,φ1,st1,a,f,s,r,c,st',e,fun P' φ' H' d f' s' r'=>q P' φ' H' d (f.trans f') s' r'⟩⟩
theorem KG.pure[MV]{a:α}{st:aa}{Q:β->Hp->Prop}{b:β}(h:KG mg Ra P φ H (some (a,st)) Q)(s:Sim mg P φ st H)(r:Ra mg P H φ a b):Q b H:=by
 obtain⟨_,_,e,q⟩:=h;cases e;exact q P φ H b Frm.refl s r
theorem KG.map[MV]{m:Option α}{st:aa}{Q:β->Hp->Prop}(h:KG mg Ra P φ H (m.map fun a=>(a,st)) Q):∃a,m=some a/\KG mg Ra P φ H (some (a,st)) Q:=by
 obtain⟨b,st',e,q⟩:=h;cases m with
 |none=>cases e
 |some a=>exact⟨a,rfl,b,st',e,q⟩
end
def M4(mg:Gm)(P:Pr)(H:Hp)(φ:List Addr)(sl:Sl)(σ:St):Prop:=sl.length=σ.length/\∀(i:Nat) v,sl[i]?=some (some v)->∃w,σ[i]?=some (some w)/\RA mg P H φ v w
section
variable{mg:Gm}{P P':Pr}{H H':Hp}{φ φ':List Addr}{sl:Sl}{σ:St}
theorem M4.frm(h:M4 mg P H φ sl σ)(f:Frm P φ H P' φ' H'):M4 mg P' H' φ' sl σ:=⟨h.1,fun i v e=>let⟨w,e',r⟩:=h.2 i v e;⟨w,e',r.frm f⟩⟩
theorem M4.set(h:M4 mg P H φ sl σ)(r:RA mg P H φ v w)(i:Nat):M4 mg P H φ (sl.set i (some v)) (σ.set i (some w)):=by
 refine⟨by rw[List.length_set,List.length_set];exact h.1,fun j u e=>?_⟩;by_cases hj:i=j
 ·subst hj
  by_cases hi:i<sl.length
  ·rw[List.getElem?_set_self hi]at e
   cases e;exact⟨w,List.getElem?_set_self (by rw[<- h.1];exact hi),r⟩
  ·rw[List.getElem?_eq_none (by rw[List.length_set];lia)]at e;cases e
 ·rw[List.getElem?_set_ne hj]at e
  rw[List.getElem?_set_ne hj];exact h.2 j u e
end
abbrev EF:=Sl->aa->Option (AV×aa)
abbrev TF:=Sl->aa->Option (Bool×aa)
abbrev AF:=Sl->aa->Option (List AV×aa)
def rE[MV](mg:Gm)(f:EF):TE:=fun σ H Q=>∃P φ sl st,M4 mg P H φ sl σ/\Sim mg P φ st H/\KG mg RA P φ H (f sl st) Q
def rT[MV](mg:Gm)(f:TF):TT:=fun σ H Q=>∃P φ sl st,M4 mg P H φ sl σ/\Sim mg P φ st H/\KG mg RB P φ H (f sl st) Q
def rA[MV](mg:Gm)(f:AF):TA:=fun σ H Q=>∃P φ sl st,M4 mg P H φ sl σ/\Sim mg P φ st H/\KG mg MY P φ H (f sl st) Q
def QE[MV](X:Cx)(e:Expr)(f:EF):Prop:=PE X e (rE X.gm f)
def QT[MV](X:Cx)(e:Expr)(f:TF):Prop:=PT X e (rT X.gm f)
def QW[MV](X:Cx)(e:Expr)(f:TF):Prop:=PW X e (rT X.gm f)
def QA[MV](X:Cx)(es:List Expr)(f:AF):Prop:=PA X es (rA X.gm f)
def aV(i:Nat):EF:=fun sl st=>match sl[i]? with
 |some (some v)=>some (v,st)
 |_=>none
def aC(v:AV):EF:=fun _ st=>some (v,st)
def fb:AF:=fun _ st=>some ([],st)
def fx(f:EF)(g:AF):AF:=fun sl st=>(f sl st).bind fun p=>(g sl p.2).bind fun q=>some (p.1::q.1,q.2)
noncomputable def pv:AV->Option V
 |.non=>some .non
 |.bl b=>some (.bl b)
 |.int i=>some (.int i)
 |.str x=>some (.str x)
 |_=>none
theorem RA.sc(h:pv v=some w):RA mg P H φ v w:=by
 cases v<;>simp only[pv]at h<;>cases h<;>simp only[RA]
section
variable{X:Cx}{e:Expr}{es:List Expr}{pos:Pos}
theorem Ew[MV]{i:Nat}(hN:X.N[i]?=some x)(hv:xQ X.env.scope x)(hd:(x==("__debug__":Str))=false)(hcd:(x==("__classdict__":Str))=false):QE X (.Name x pos) (aV i) :=
 PE_imp (ET hN hv hd hcd) fun σ H Q hq0=>by
  obtain⟨P,φ,sl,st,r,s,k⟩:=hq0;unfold aV at k;cases h:sl[i]? with
  |none=>rw[h]at k;obtain⟨_,_,e,_⟩:=k;cases e
  |some o =>
   cases o with
   |none=>rw[h]at k;obtain⟨_,_,e,_⟩:=k;cases e
   |some v =>
    rw[h]at k;obtain⟨w,e,ra⟩:=r.2 i v h;exact⟨w,e,k.pure s ra⟩
theorem qE[MV](hw:pv v=some w)(h:PE X e t)(ht:∀σ H Q,Q w H->t σ H Q):QE X e (aC v) :=
 PE_imp h fun σ H Q ⟨P,φ,sl,st,r,s,k⟩=>ht σ H Q (k.pure s (RA.sc hw))
theorem fe[MV]:QA X [] fb:=PA_imp wG fun σ H Q ⟨P,φ,sl,st,r,s,k⟩=>k.pure s bG
theorem c5[MV](ha:QE X e f)(hr:QA X es g)(hs:starEach (e::es) X.env=(false,eval e X.env)::starEach es X.env):QA X (e::es) (fx f g) :=
 PA_imp (tD ha hr hs) fun σ H Q ⟨P,φ,sl,st,r,s,k⟩=>⟨P,φ,sl,st,r,s,by
  obtain⟨a,st',e1,q⟩:=k.bind (Ra:=RA);refine⟨a,st',e1,fun P1 φ1 H1 b f1 s1 r1=>?_⟩;obtain⟨P2,φ2,st2,a2,f2,s2,r2,k2⟩:=q P1 φ1 H1 b f1 s1 r1;refine⟨P2,φ2,sl,st2,r.frm f2,s2,?_⟩;obtain⟨xs,st3,e3,q3⟩:=k2.bind (Ra:=MY);refine⟨xs,st3,e3,fun P4 φ4 H4 bs f4 s4 r4=>?_⟩;obtain⟨P5,φ5,st5,a5,f5,s5,r5,k5⟩:=q3 P4 φ4 H4 bs f4 s4 r4;exact k5.pure s5 (aU (r2.frm f5) r5)⟩
end
def a2(f g:EF)(k:AV->AV->aa->Option (AV×aa)):EF:=fun sl st=>(f sl st).bind fun p=>(g sl p.2).bind fun q=>k p.1 q.1 q.2
def a1(f:EF)(k:AV->aa->Option (AV×aa)):EF:=fun sl st=>(f sl st).bind fun p=>k p.1 p.2
def r2[MV](mg:Gm)(k:AV->AV->aa->Option (AV×aa)):R2:=fun v w H Q=>∃P φ st x y,Sim mg P φ st H/\RA mg P H φ x v/\RA mg P H φ y w/\KG mg RA P φ H (k x y st) Q
def r1[MV](mg:Gm)(k:AV->aa->Option (AV×aa)):V->Hp->VK->Prop:=fun v H Q=>∃P φ st x,Sim mg P φ st H/\RA mg P H φ x v/\KG mg RA P φ H (k x st) Q
section
variable{mg:Gm}{k:AV->AV->aa->Option (AV×aa)}{k1:AV->aa->Option (AV×aa)}{f g:EF}
theorem vM[MV](q:rE mg (a2 f g k) σ H Q):we (r2 mg k) (rE mg f) (rE mg g) σ H Q:=by
 obtain⟨P,φ,sl,st,rs,s,kk⟩:=q;refine⟨P,φ,sl,st,rs,s,?_⟩;obtain⟨a,st',e1,q⟩:=kk.bind (Ra:=RA);refine⟨a,st',e1,fun P1 φ1 H1 b f1 s1 r1=>?_⟩;obtain⟨P2,φ2,st2,x,f2,s2,r2,k2⟩:=q P1 φ1 H1 b f1 s1 r1;refine⟨P2,φ2,sl,st2,rs.frm f2,s2,?_⟩;obtain⟨a',st3,e3,q3⟩:=k2.bind (Ra:=RA);refine⟨a',st3,e3,fun P4 φ4 H4 b' f4 s4 r4=>?_⟩;obtain⟨P5,φ5,st5,y,f5,s5,r5,k5⟩:=q3 P4 φ4 H4 b' f4 s4 r4;exact⟨P5,φ5,st5,x,y,s5,r2.frm f5,r5,k5⟩
theorem Kx[MV](q:rE mg (a1 f k1) σ H Q):ID (r1 mg k1) (rE mg f) σ H Q:=by
 obtain⟨P,φ,sl,st,rs,s,kk⟩:=q;refine⟨P,φ,sl,st,rs,s,?_⟩;obtain⟨a,st',e1,q⟩:=kk.bind (Ra:=RA);refine⟨a,st',e1,fun P1 φ1 H1 b f1 s1 r1=>?_⟩;obtain⟨P2,φ2,st2,x,f2,s2,r2,k2⟩:=q P1 φ1 H1 b f1 s1 r1;exact⟨P2,φ2,st2,x,s2,r2,k2⟩
end
def ki(h:aa->AV->AV->Option AV):AV->AV->aa->Option (AV×aa):=fun x y st=>(h st x y).map fun z=>(z,st)
def DV(h:aa->AV->Option AV):AV->aa->Option (AV×aa):=fun x st=>(h st x).map fun z=>(z,st)
noncomputable def cE(a b:Int):Bool:=(Nat.ble a.natAbs.log2 62||Nat.ble b.natAbs.log2 62)||(Nat.ble a.natAbs.log2 1000000&&Nat.ble b.natAbs.log2 1000000)
noncomputable def dR(b:Int):Bool:=!(b==0)&&Nat.ble b.natAbs.log2 8999
noncomputable def uV(a b:Int):Bool:=decide (0<=b)&&Nat.ble b.natAbs 100000&&Nat.ble a.natAbs.log2 62
noncomputable def tX(a b:Int):Int:=if 0<b then a/b else a.fdiv b
noncomputable def pH(a b:Int):Int:=if 0<b then a%b else a.fmod b
def sx:Operator->Int->Int->Option Int
 |.Add,a,b=>some (a+b)
 |.Sub,a,b=>some (a-b)
 |.Mult,a,b=>if cE a b=true then some (a*b) else none
 |.FloorDiv,a,b=>if dR b=true then some (tX a b) else none
 |.Mod,a,b=>if b=0 then none else some (pH a b)
 |.Pow,a,b=>if uV a b=true then some (a^b.toNat) else none
 |.LShift,a,b=>if uV a b=true then some (a*2^b.toNat) else none
 |.RShift,a,b=>if 0<=b then some (a/2^b.toNat) else none
 |.BitAnd,a,b=>some (Builtin.bitAnd a b)
 |.BitOr,a,b=>some (Builtin.bitOr a b)
 |.BitXor,a,b=>some (Builtin.bitXor a b)
 |_,_,_=>none
def aQ(o:Operator)(_:aa):AV->AV->Option AV
 |.int a,.int b=>(sx o a b).map .int
 |.str a,.str b=>if(decide (o=.Add)&&Nat.ble (a.length+b.length) 1000000)=true then some (.str (a++b)) else none
 |_,_=>none
theorem log2_lt{n k:Nat}(h:Nat.ble n.log2 k=true):n<2^(k+1):=by
 by_cases h0:n=0
 ·subst h0;exact Nat.two_pow_pos _
 ·exact(Nat.log2_lt h0).mp (Nat.lt_succ_of_le (zS h))
theorem lm{a:Int}{k:Nat}(h:a.natAbs<2^k):Builtin.Int.intBits a<=k:=by
 unfold Builtin.Int.intBits;split
 ·lia
 ·rename_i h0
  have:a.natAbs.log2<k:=(Nat.log2_lt (by simpa using h0)).mpr h;lia
theorem CV{a b:Int}(h:cE a b=true):IntMulOk a b:=by
 unfold cE at h;rcases Bool.or_eq_true_iff.mp h with h|h
 ·rcases Bool.or_eq_true_iff.mp h with h|h
  ·exact .of_left (z5 (lm (log2_lt h)) dC)
  ·exact .of_right (z5 (lm (log2_lt h)) dC)
 ·obtain⟨h1,h2⟩:=Bool.and_eq_true_iff.mp h
  exact .of_bits (z5 (lm (log2_lt h1)) dC) (z5 (lm (log2_lt h2)) dC)
theorem Dd{b:Int}(h:dR b=true):b≠0/\b.natAbs.log2<9000:=by
 unfold dR at h;obtain⟨h1,h2⟩:=Bool.and_eq_true_iff.mp h;exact⟨by simpa using h1,Nat.lt_succ_of_le (zS h2)⟩
theorem Gc(a b:Int):a.fdiv b=tX a b:=by
 unfold tX;split
 ·exact Int.fdiv_eq_ediv_of_nonneg _ oM
 ·rfl
theorem F5(a b:Int):a.fmod b=pH a b:=by
 unfold pH;split
 ·exact Int.fmod_eq_emod_of_nonneg _ oM
 ·rfl
theorem tB{a b:Int}(h:uV a b=true):KA a b:=by
 unfold uV at h;simp only[zC,yC]at h;obtain⟨⟨h1,h2⟩,h3⟩:=h;have h2:=zS h2;exact⟨h1,by lia,zJ (log2_lt h3) dC⟩
def JZ(o:Operator):R2:=fun x y H Q=>(∃i j k,x=.int i/\y=.int j/\sx o i j=some k/\Q (.int k) H)\/(o=.Add/\∃i j,x=.str i/\y=.str j/\i.length+j.length<=sizeLine/\Q (.str (i++j)) H)
section
variable{X:Cx}
theorem E7(o:Operator):kO X (binaryOp o) (JZ o):=by
 have hI:∀(h:∀i j k t u s (Q:Value->Shared->Prop) (E:Value->Shared->Prop),sx o i j=some k->Q (.int k s.toks) { s with toks:=s.toks+1 }->wpAny (model X.prog X.w) X.A (binaryOp o (.int i t) (.int j u)) Q E s)
   (MS:List (Addr×Obj)) (s:Shared) (σ:St) (H:Hp) (x y:V) (v u:Value) (Q:VK),Inv X MS σ H s->RelV x v->RelV y u->(∃i j k,x=.int i/\y=.int j/\sx o i j=some k/\Q (.int k) H) ->
   wpAny (model X.prog X.w) X.A (binaryOp o v u) (EP X MS σ Q) X.xe s:=by
  rintro h MS s σ H x y v u Q I rx ry ⟨i,j,k,e1,e2,e3,q⟩;subst e1;subst e2;obtain⟨t,rfl⟩:=rx;obtain⟨t',rfl⟩:=ry;exact h i j k t t' s _ _ e3 ⟨.int k,H,I.tok _,⟨_,rfl⟩,q⟩
 intro MS s σ H x y v u Q I rx ry h;rcases h with h|⟨rfl,h⟩
 ·refine hI ?_ MS s σ H x y v u Q I rx ry h
  intro i j k t u s Q E e q;cases o<;>simp only[sx]at e
  case Add=>cases e;exact add_int q
  case Sub=>cases e;exact sub_int q
  case Mult =>
   split at e
   ·rename_i hm;cases e;exact mul_int q (CV hm)
   ·cases e
  case FloorDiv =>
   split at e
   ·rename_i hm;cases e
    obtain⟨h1,h2⟩:=Dd hm;exact floordiv_int h1 (by rw[Gc];exact q) (.inl (PyProof.noPylong_of_log2 h2))
   ·cases e
  case Mod =>
   split at e
   ·cases e
   ·rename_i hm;cases e
    exact mod_int' hm (by rw[F5];exact q)
  case Pow =>
   split at e
   ·rename_i hm;cases e
    have c:=tB hm;exact pow_int_small c.1 c.2.1 c.2.2 q
   ·cases e
  case LShift =>
   split at e
   ·rename_i hm;cases e
    have c:=tB hm;exact lshift_int_small c.1 c.2.1 c.2.2 q
   ·cases e
  case RShift =>
   split at e
   ·rename_i hm;cases e
    exact rshift_int hm (by rw[Int.fdiv_eq_ediv_of_nonneg _ (uk _)];exact q)
   ·cases e
  case BitAnd=>cases e;exact and_int q
  case BitOr=>cases e;exact or_int q
  case BitXor=>cases e;exact xor_int q
  all_goals cases e
 ·exact u7 MS s σ H x y v u Q I rx ry h
theorem Fa[MV](o:Operator):kO X (binaryOp o) (r2 X.gm (ki (aQ o))):=OpR_imp (E7 o) fun v w H Q hq0=>by
 obtain ⟨P,φ,st,x,y,s,r1,r2,k⟩:=hq0;obtain ⟨z,e,k⟩:=k.map;cases x <;> cases y <;> simp only [aQ] at e <;> first | (cases e;done) | skip
 ·rename_i a b
  simp only[RA]at r1 r2;obtain⟨c,e1,e2⟩:=zE.mp e;subst e2;exact .inl ⟨a,b,c,r1,r2,e1,k.pure s (by simp only[RA])⟩
 ·rename_i a b
  simp only[RA]at r1 r2;split at e
  ·rename_i hc
   cases e;simp only[zC,yC]at hc;exact .inr ⟨hc.1,a,b,r1,r2,z5 (zS hc.2) dC,k.pure s (by simp only[RA])⟩
  ·cases e
theorem ED[MV](ha:QE X a f)(hb:QE X b g):QE X (.BinOp a o b pos) (a2 f g (ki (aQ o))) :=
 PE_imp (u5 (Fa o) ha hb) fun _ _ _ q=>vM q
end
open DD (pyOk reads_each any_vals obj_list obj_tup)
def dr(st:aa):AV->AV
 |.ref k=>match st[k]? with
  |some (.al t)=>t
  |_=>.ref k
 |v=>v
def bO(st:aa)(v:AV):Option (List AV):=match dr st v with
 |.fz xs=>some xs
 |.ref k=>match st[k]? with
  |some (.lst xs)=>some xs
  |_=>none
 |_=>none
def iO(st:aa)(v:AV):Option (List AV):=match dr st v with
 |.tup xs=>some xs
 |_=>none
section
variable{mg:Gm}{P:Pr}{φ:List Addr}{st:aa}{H:Hp}{v:AV}{w:V}{xs:List AV}
theorem RA.dr[MV](s:Sim mg P φ st H)(r:RA mg P H φ v w):RA mg P H φ (dr st v) w:=by
 cases v with
 |ref k =>
  unfold R.dr;dsimp only;split
  ·rename_i t h
   obtain⟨a,e,c⟩:=s.at h;simp only[RA]at r;obtain⟨a',e',rfl⟩:=r;rw[e]at e';cases e';exact c.2.lift
  ·exact r
 |_=>exact r
theorem RA.ls[MV](s:Sim mg P φ st H)(r:RA mg P H φ v w)(h:bO st v=some xs):∃a vs,w=.ref a/\bQ mg.K H a vs/\MY mg P H φ xs vs:=by
 have r:=r.dr s;unfold bO at h;split at h
 ·rename_i ys e
  cases h;rw[e]at r;simp only[RA]at r;obtain⟨a,vs,e1,e2,q⟩:=r;exact⟨a,vs,e1,e2.sq,q.lift⟩
 ·rename_i k e
  rw[e]at r;simp only[RA]at r;obtain⟨a,e1,e2⟩:=r;split at h
  ·rename_i ys e3
   cases h;obtain⟨a',e4,c⟩:=s.at e3;rw[e1]at e4;cases e4;obtain⟨_,vs,q1,q2⟩:=c;exact⟨a,vs,e2,.inl (.inl q1),q2⟩
  ·cases h
 ·cases h
theorem RA.tp[MV](s:Sim mg P φ st H)(r:RA mg P H φ v w)(h:iO st v=some xs):∃a vs,w=.ref a/\H a=some (.tup vs)/\MY mg P H φ xs vs:=by
 have r:=r.dr s;unfold iO at h;split at h
 ·rename_i ys e
  cases h;rw[e]at r;simp only[RA]at r;obtain⟨a,vs,e1,_,e2,q⟩:=r;exact⟨a,vs,e1,e2,q⟩
 ·cases h
end
noncomputable def bH{α β:Type}(f:α->Option β):List α->Option (List β)
 |[]=>some []
 |x::xs=>(f x).bind fun y=>(bH f xs).map fun ys=>y::ys
theorem d7{α β γ:Type}{f:α->Option β}{i:γ->α}{g:γ->β}(h:∀x,f (i x)=some (g x))(xs:List γ):bH f (xs.map i)=some (xs.map g):=by
 induction xs with
 |nil=>rfl
 |cons x xs ih=>simp only[zO,bH,h,ih,bind_some,map_some]
def cJ:Nat->aa->AV->Option PyData
 |_,_,.non=>some .none
 |_,_,.bl b=>some (.bool b)
 |_,_,.int i=>some (.int i)
 |_,_,.str x=>some (.str x)
 |n+1,st,.fz xs=>(bH (cJ n st) xs).map .list
 |n+1,st,.tup xs=>(bH (cJ n st) xs).map .tuple
 |n+1,st,.ref k=>match st[k]? with
  |some (.lst xs)=>(bH (cJ n st) xs).map .list
  |some (.al t)=>cJ n st t
  |_=>none
 |0,_,_=>none
section
variable{X:Cx}{MS:List (Addr×Obj)}{σ:St}{H:Hp}{s:Shared}{P:Pr}{φ:List Addr}{st:aa}
theorem qB[MV]{n:Nat}(ih:∀t v p u,RA mg P H φ t v->cJ n st t=some p->RelV v u->∃as,Reads s.heap u p as) :
  ∀{xs:List AV}{vs:List V}{ps:List PyData}{us:List Value},MY mg P H φ xs vs->bH (cJ n st) xs=some ps->Vals vs us->∃as,ReadsAll s.heap us ps as:=by
 intro xs
 induction xs with
 |nil =>
  intro vs ps us r e q;simp only[MY]at r;subst r;cases e;cases q;exact⟨_,.nil⟩
 |cons x xs ihx =>
  intro vs ps us r e q;simp only[MY]at r;obtain⟨v,ws,rfl,r1,r2⟩:=r;simp only[bH]at e;obtain⟨p,e1,e2⟩:=zA e;obtain⟨qs,e3,e4⟩:=zE.mp e2;subst e4;cases q with
  |cons q1 q2 =>
   obtain⟨as,ra⟩:=ih x v p _ r1 e1 q1;obtain⟨bs,rb⟩:=ihx r2 e3 q2;exact⟨_,.cons ra rb⟩
theorem gF[MV](I:L2.Inv X MS σ H s)(sm:Sim X.gm P φ st H):∀(n:Nat)(t:AV)(v:V)(p:PyData)(u:Value),RA X.gm P H φ t v->cJ n st t=some p->RelV v u->∃as,Reads s.heap u p as:=by
 have lst:∀{a:Addr}{vs:List V}{u:Value}{ps:List PyData},bQ X.K H a vs->RelV (.ref a) u->(∀{us:List Value},Vals vs us->∃as,ReadsAll s.heap us ps as)->∃as,Reads s.heap u (.list ps) as:=by
  intro a vs u ps h ru k;cases ru;obtain⟨MW,ob,m,rv,e1,e2,e3⟩:=obj_list I h;obtain⟨as,ra⟩:=k rv;exact⟨_,.list e1 e2 e3 ra⟩
 have flat:∀(n:Nat)(t:AV)(v:V)(p:PyData)(u:Value)(w:V),pv t=some w->RA X.gm P H φ t v->cJ n st t=some p->RelV v u->∃as,Reads s.heap u p as:=by
  intro n t v p u w hs r e ru;cases t with
  | non=>cases n <;> (simp only [cJ] at e;cases e;simp only [RA] at r;subst r;cases ru;exact ⟨_,.none⟩)
  | bl b=>cases n <;> (simp only [cJ] at e;cases e;simp only [RA] at r;subst r;cases ru;exact ⟨_,.bool b⟩)
  | int i=>cases n <;> (simp only [cJ] at e;cases e;simp only [RA] at r;subst r;obtain ⟨t,rfl⟩:=ru;exact ⟨_,.int i t⟩)
  | str x=>cases n <;> (simp only [cJ] at e;cases e;simp only [RA] at r;subst r;obtain ⟨t,rfl⟩:=ru;exact ⟨_,.str x t⟩)
  |_=>cases hs
 intro n
 induction n with
 |zero =>
  intro t v p u r e ru;cases t with
  |non=>exact flat 0 _ v p u _ rfl r e ru
  |bl b=>exact flat 0 _ v p u _ rfl r e ru
  |int i=>exact flat 0 _ v p u _ rfl r e ru
  |str x=>exact flat 0 _ v p u _ rfl r e ru
  |_=>simp only[cJ]at e;cases e
 |succ n ih =>
  intro t v p u r e ru;cases t with
  |non=>exact flat _ _ v p u _ rfl r e ru
  |bl b=>exact flat _ _ v p u _ rfl r e ru
  |int i=>exact flat _ _ v p u _ rfl r e ru
  |str x=>exact flat _ _ v p u _ rfl r e ru
  |fz xs =>
   simp only[cJ]at e;obtain⟨ps,e1,e2⟩:=zE.mp e;subst e2;simp only[RA]at r;obtain⟨a,vs,rfl,h,q⟩:=r;exact lst h.sq ru fun rv=>qB ih q.lift e1 rv
  |tup xs =>
   simp only [cJ] at e;obtain ⟨ps,e1,e2⟩:=zE.mp e;subst e2;simp only [RA] at r;obtain ⟨a,vs,rfl,_,h,q⟩:=r;cases ru;obtain ⟨MW,ob,m,rv,h1,h2,h3⟩:=obj_tup I (show gQ X.K H a vs from .inl (.inl h));obtain ⟨as,ra⟩:=qB ih q e1 rv;exact ⟨_,.tuple h1 h2 h3 ra⟩
  |ref k =>
   simp only[cJ]at e;simp only[RA]at r;obtain⟨a,ea,rfl⟩:=r;split at e
   ·rename_i xs hk
    obtain⟨ps,e1,e2⟩:=zE.mp e;subst e2;obtain⟨a',ea',c⟩:=sm.at hk;rw[ea]at ea';cases ea';obtain⟨_,vs,h,q⟩:=c;exact lst (.inl (.inl h)) ru fun rv=>qB ih q e1 rv
   ·rename_i t hk
    obtain⟨a',ea',c⟩:=sm.at hk;rw[ea]at ea';cases ea';exact ih t _ p u c.2.lift e ru
   ·cases e
end
noncomputable def ym:PyData->Option Str
 |.str a=>some a
 |_=>none
theorem tf{p:PyData}{a:Str}(h:ym p=some a):p=.str a:=by
 cases p with
 |str b=>cases h;rfl
 |_=>cases h
def JR(p q:PyData):Option Bool:=(ym p).bind fun a=>(ym q).map fun b=>a==b
def kb(st:aa)(x y:AV):Option Bool:=(cJ 9 st x).bind fun p=>(cJ 9 st y).bind fun q=>if pyOk p q=true then some (PyData.eqv p q) else JR p q
def jP:AV->Option aT
 |.int i=>some (.inl i)
 |.str x=>some (.inr x)
 |_=>none
noncomputable def mr{κ:Type}[DecidableEq κ](MU:List (κ×AV))(k:κ):Option AV:=(MU.find? fun kv=>decide (kv.1=k)).map (·.2)
def ja(st:aa):AV->Option (List (aT×AV))
 |.ref k=>match st[k]? with
  |some (.dK MU)=>some MU
  |_=>none
 |_=>none
def lU(st:aa):AV->Option (List (List aT×AV))
 |.ref k=>match st[k]? with
  |some (.dT MU)=>some MU
  |_=>none
 |_=>none
def mH(st:aa)(y x:AV):Option (Option AV):=match ja st y with
 |some MU=>(jP x).map fun k=>mr MU k
 |none=>match lU st y with
  |some MU=>match x with
   |.tup xs=>(bH jP xs).map fun k=>mr MU k
   |_=>none
  |none=>none
def rp(st:aa)(x y:AV):Option Bool:=match mH st y x with
 |some o=>some o.isSome
 |none=>match x,y with
  |.str a,.str b=>some (!(Builtin.Str.occurrences b a 0 b.length 1).isEmpty)
  |_,_=>(cJ 9 st x).bind fun q=>(cJ 9 st y).bind fun p=>match p with
   |.list ps=>if(ps.all fun r=>pyOk r q)=true then some (ps.any fun r=>PyData.eqv r q) else none
   |.tuple ps=>if(ps.all fun r=>pyOk r q)=true then some (ps.any fun r=>PyData.eqv r q) else none
   |_=>none
noncomputable def zw:CmpOp->Int->Int->Option Bool
 |.Lt,a,b=>some (decide (a<b))
 |.LtE,a,b=>some (decide (a<=b))
 |.Gt,a,b=>some (decide (b<a))
 |.GtE,a,b=>some (decide (b<=a))
 |_,_,_=>none
noncomputable def Fc:AV->Bool
 |.non=>true
 |_=>false
def FJ(x y:AV):Option Bool:=match y with
 |.non=>some (Fc x)
 |.bl b=>(match x with
  |.bl a=>some (a==b)
  |_=>none)
 |_=>none
def bh(o:CmpOp)(st:aa)(x y:AV):Option Bool:=match o with
 |.Eq=>kb st x y
 |.NotEq=>(kb st x y).map (!·)
 |.Is=>FJ x y
 |.IsNot=>(FJ x y).map (!·)
 |.In=>rp st x y
 |.NotIn=>(rp st x y).map (!·)
 |o=>match x,y with
  |.int a,.int b=>zw o a b
  |_,_=>none
def mI(o:CmpOp)(st:aa)(x y:AV):Option AV:=(bh o st x y).map .bl
theorem oK(h:pyOk p q=true):p.canLay0=true/\q.canLay0=true/\min p.depth q.depth<=50:=by
 simp only[pyOk,zC,yC]at h;exact⟨h.1.1,h.1.2,h.2⟩
theorem jK{P:Pr}{H:Hp}{φ:List Addr}{κ:Type}[DecidableEq κ]{MU:List (κ×AV)}{ws:List (κ×V)}(h:KVR mg P H φ MU ws)(k:κ) :
  (mr MU k).isSome=(eP ws k).isSome/\∀v,mr MU k=some v->∃w,eP ws k=some w/\RA mg P H φ v w:=by
 induction MU generalizing ws with
 |nil =>
  have:ws=[]:=by simpa using h.1.symm
  subst this;exact⟨rfl,fun v e=>by cases e⟩
 |cons p MU ih =>
  cases ws with
  |nil=>exact absurd h.1 (by simp)
  |cons q ws =>
   obtain⟨h1,h2⟩:=h;rw[zO,zO]at h1 h2;injection h1 with h3 h4;simp only[MY]at h2;obtain⟨v,vs,h5,h6,h7⟩:=h2;injection h5 with h8 h9;subst h8;subst h9;by_cases e:q.1=k
   ·have e':p.1=k:=h3.trans e
    simp only[mr,eP,List.find?_cons,e,e',decide_true,map_some];refine⟨rfl,fun v hv=>?_⟩;cases hv;exact⟨_,rfl,h6⟩
   ·have e':¬p.1=k:=fun z=>e (h3.symm.trans z)
    have:=ih (ws:=ws) ⟨h4,h7⟩
    simp only[mr,eP,List.find?_cons,e,e',decide_false]at this ⊢;exact this
section
variable{X:Cx}{MS:List (Addr×Obj)}{σ:St}{H:Hp}{s:Shared}{P:Pr}{φ:List Addr}{st:aa}
theorem mF(h:jP x=some k)(r:RA mg P H φ x v):v=kV k:=by
 cases x <;> simp only [jP] at h <;> first | (cases h;done) | skip
 ·cases h;simp only[RA]at r;exact r
 ·cases h;simp only[RA]at r;exact r
theorem pB[MV]:∀{xs:List AV}{vs:List V}{k:List aT},bH jP xs=some k->MY mg P H φ xs vs->vs=k.map kV:=by
 intro xs
 induction xs with
 |nil=>intro vs k e r;cases e;simp only[MY]at r;exact r
 |cons x xs ih =>
  intro vs k e r;simp only[bH]at e;obtain⟨p,e1,e2⟩:=zA e;obtain⟨qs,e3,e4⟩:=zE.mp e2;subst e4;simp only[MY]at r;obtain⟨v,ws,rfl,r1,r2⟩:=r;rw[mF e1 r1,ih e3 r2];rfl
theorem rC[MV](sm:Sim X.gm P φ st H){x y:AV}{v w:V}{o:Option AV}(h:mH st y x=some o)(rx:RA X.gm P H φ x v)(ry:RA X.gm P H φ y w) :
  ∃a o',w=.ref a/\DGet H a v o'/\o.isSome=o'.isSome/\∀t,o=some t->∃u,o'=some u/\RA X.gm P H φ t u:=by
 unfold mH at h;split at h
 ·rename_i MU e
  obtain ⟨k,e1,e2⟩:=zE.mp h;subst e2;cases y <;> simp only [ja] at e <;> first | (cases e;done) | skip
  split at e
  ·rename_i j kvs' e3
   cases e;simp only[RA]at ry;obtain⟨a,ea,rfl⟩:=ry;obtain⟨a',ea',c⟩:=sm.at e3;rw[ea]at ea';cases ea';obtain⟨_,ws,q1,q2⟩:=c
   have:=mF e1 rx
   subst this;exact⟨a,_,rfl,DGet.k q1,(jK q2 k).1,(jK q2 k).2⟩
  ·cases e
 ·split at h
  ·rename_i MU e
   split at h
   ·rename_i xs
    obtain ⟨k,e1,e2⟩:=zE.mp h;subst e2;cases y <;> simp only [lU] at e <;> first | (cases e;done) | skip
    split at e
    ·rename_i j kvs' e3
     cases e;simp only[RA]at ry;obtain⟨a,ea,rfl⟩:=ry;obtain⟨a',ea',c⟩:=sm.at e3;rw[ea]at ea';cases ea';obtain⟨_,ws,q1,q2⟩:=c;simp only[RA]at rx;obtain⟨b,vs,rfl,_,hb,rr⟩:=rx;rw[pB e1 rr]at hb;exact⟨a,_,rfl,DGet.t q1 hb,(jK q2 k).1,(jK q2 k).2⟩
    ·cases e
   ·cases h
  ·cases h
theorem rn(hu:X.A.units+64<cLine){v:Value}{q:PyData}{as bs:List Addr}{ps:List PyData}{items:Array Value}(ra:Reads s.heap v q as)(rb:ReadsAll s.heap items.toList ps bs)(hk:(ps.all fun r=>pyOk r q)=true) :
  ∃e:Value->Bool,(∀z∈items,SeqAt.EqAt X.A.in1 s z v (e z))/\items.any e=ps.any fun r=>PyData.eqv r q:=by
 classical
 have uq:∀z p' az,Reads s.heap z p' az->decide (∃p as,Reads s.heap z p as/\PyData.eqv p q=true)=PyData.eqv p' q:=by
  intro z p' az rz;rcases he:PyData.eqv p' q with _|_
  ·refine yA ?_
   rintro⟨p2,as',r',e'⟩
   have:=(PySem.Reads.unique rz p2 as' r').1
   rw[<- this,he]at e';cases e'
  ·exact yW ⟨p',az,rz,he⟩
 refine⟨fun z=>decide (∃p as,Reads s.heap z p as/\PyData.eqv p q=true),fun z hz=>?_,?_⟩
 ·obtain⟨pz,az,hpz,rz⟩:=reads_each rb z (by simpa using hz)
  obtain⟨k1,k2,k3⟩:=oK (yR.mp hk pz hpz);dsimp only;rw[uq z pz az rz];exact PySem.SeqAt.eqAt_reads pz q _ s z v az as rz ra k1 k2 (by simp only[Around.in1_units];lia)
 ·have hc:=any_vals (q:=q) (e:=fun z=>decide (∃p as,Reads s.heap z p as/\PyData.eqv p q=true)) (h:=s.heap) (fun v p as rv=>uq v p as rv) rb
  rw[<- hc];simp
theorem tN[MV](hu:X.A.units+64<cLine)(I:L2.Inv X MS σ H s)(sm:Sim X.gm P φ st H){x y:AV}{v w:V}{u r:Value}{b:Bool}(h:rp st x y=some b)(rx:RA X.gm P H φ x v)(ry:RA X.gm P H φ y w)(ru:RelV v u)(rr:RelV w r){E:Value->Shared->Prop}
  {Q:Value->Shared->Prop}{Q':Value->Shared->Prop} (hQ:∀s',L2.Inv X MS σ H s'->Q (.bool b) s') (hQ':∀s',L2.Inv X MS σ H s'->Q' (.bool (!b)) s') :
  wpAny (model X.prog X.w) X.A (compareOp .In u r) Q E s/\wpAny (model X.prog X.w) X.A (compareOp .NotIn u r) Q' E s:=by
 unfold rp at h;split at h
 ·rename_i o e
  cases h;obtain⟨a,o',rfl,g,eo,_⟩:=rC sm e rx ry;cases rr;exact⟨Kq oM I g ru fun s' I'=>by rw[<- eo];exact hQ s' I',De oM I g ru fun s' I'=>by rw[<- eo];exact hQ' s' I'⟩
 ·split at h
  ·rename_i a c
   cases h;simp only[RA]at rx ry;subst rx;subst ry;obtain⟨t,rfl⟩:=ru;obtain⟨t',rfl⟩:=rr;exact⟨in_str (hQ s I),notIn_str (hQ' s I)⟩
  ·obtain⟨q,e1,e2⟩:=zA h
   obtain⟨p,e3,e4⟩:=zA e2;obtain⟨as,ra⟩:=gF I sm 9 _ _ _ _ rx e1 ru;obtain⟨bs,rb⟩:=gF I sm 9 _ _ _ _ ry e3 rr;split at e4
   ·rename_i ps
    split at e4
    ·rename_i hk
     cases e4;cases rb with
     |@list a o items n xs as' hg hc hdt rall =>
      obtain⟨e,he,ee⟩:=rn hu ra rall hk;have hl:s.heap.IsList a items:=⟨o,hg,hc,n,hdt⟩;exact⟨SeqAt.in_listAt e hl he (by rw[ee];exact hQ s I),SeqAt.notIn_listAt e hl he (by rw[ee];exact hQ' s I)⟩
    ·cases e4
   ·rename_i ps
    split at e4
    ·rename_i hk
     cases e4;cases rb with
     |@tuple a o items n xs as' hg hc hdt rall =>
      obtain⟨e,he,ee⟩:=rn hu ra rall hk;have hl:IsTup s.heap a items:=⟨o,hg,hc,n,hdt⟩;exact⟨SeqAt.in_tupleAt e hl he (by rw[ee];exact hQ s I),SeqAt.notIn_tupleAt e hl he (by rw[ee];exact hQ' s I)⟩
    ·cases e4
   ·cases e4
end
section
variable{X:Cx}
theorem wJ[MV](hu:X.A.units+64<cLine)(o:CmpOp):kO X (compareOp o) (r2 X.gm (ki (mI o))):=by
 rintro MS s σ H v w u r Q I ru rr ⟨P,φ,st,x,y,sm,rx,ry,k⟩;obtain⟨z,e,k⟩:=k.map;obtain⟨b,e1,e2⟩:=zE.mp e;subst e2;have aw:∀s',L2.Inv X MS σ H s'->EP X MS σ Q (.bool b) s':=fun s' I'=>⟨.bl b,H,I',rfl,k.pure sm (by simp only[RA])⟩
 have neg:∀{o:Option Bool},o.map (!·)=some b->∃c,o=some c/\b=!c:=fun h=>by
  obtain⟨c,h1,h2⟩:=zE.mp h;exact⟨c,h1,h2.symm⟩
 have eq:∀{c:Bool},kb st x y=some c->∀{Q:Value->Shared->Prop}{E:Value->Shared->Prop},(Q (.bool c) s->wpAny (model X.prog X.w) X.A (compareOp .Eq u r) Q E s)/\(Q (.bool (!c)) s->wpAny (model X.prog X.w) X.A (compareOp .NotEq u r) Q E s):=by
  intro c h Q E;unfold kb at h;obtain⟨p,h1,h2⟩:=zA h;obtain⟨q,h3,h4⟩:=zA h2;split at h4
  ·rename_i hk
   cases h4;obtain⟨c1,c2,hd⟩:=oK hk;obtain⟨as,ra⟩:=gF I sm 9 _ _ _ _ rx h1 ru;obtain⟨bs,rb⟩:=gF I sm 9 _ _ _ _ ry h3 rr;exact⟨fun q=>SeqAt.eqOverData _ _ _ _ _ _ _ _ _ _ _ _ ra rb c1 c2 oM q,fun q=>SeqAt.neOverData _ _ _ _ _ _ _ _ _ _ _ _ ra rb c1 c2 oM q⟩
  ·obtain⟨a,ha,h5⟩:=zA h4
   obtain⟨b,hb,h6⟩:=zE.mp h5;subst h6;rw[tf ha]at h1;rw[tf hb]at h3;obtain⟨as,ra⟩:=gF I sm 9 _ _ _ _ rx h1 ru;obtain⟨bs,rb⟩:=gF I sm 9 _ _ _ _ ry h3 rr;cases ra;cases rb;exact⟨fun q=>eq_str q,fun q=>ne_str q⟩
 have is:∀{c:Bool},FJ x y=some c->∀{Q:Value->Shared->Prop}{E:Value->Shared->Prop},(Q (.bool c) s->wpAny (model X.prog X.w) X.A (compareOp .Is u r) Q E s)/\(Q (.bool (!c)) s->wpAny (model X.prog X.w) X.A (compareOp .IsNot u r) Q E s):=by
  intro c h Q E;have nn:y=.non->c=(u==Value.none)->(Q (.bool c) s->wpAny (model X.prog X.w) X.A (compareOp .Is u r) Q E s)/\(Q (.bool (!c)) s->wpAny (model X.prog X.w) X.A (compareOp .IsNot u r) Q E s):=fun hy hc=>by
   subst hy;simp only[RA]at ry;subst ry;cases rr;exact⟨fun q=>is_none_gen (by rw[<- hc];exact q),fun q=>isnot_none_gen (by rw[<- hc];exact q)⟩
  cases y with
  |non =>
   have h:some (Fc x)=some c:=h;cases h;refine nn rfl ?_;cases x with
   |non=>simp only[RA]at rx;subst rx;cases ru;rfl
   | _=>rw [RelV.none_iff ru];refine (yA fun hv=>?_).symm;subst hv;simp only [RA] at rx;first | (cases rx;done) | (obtain ⟨_,_,z,_⟩:=rx;cases z;done) | (obtain ⟨_,_,z⟩:=rx;cases z;done)
  |bl d=>cases x with
   |bl a =>
    cases h;simp only[RA]at rx ry;subst rx;subst ry;cases ru;cases rr;cases a<;>cases d<;>exact⟨fun q=>yG q,fun q=>yG q⟩
   |_=>exact nomatch h
  |_=>exact nomatch h
 have ord:∀{a c:Int},x=.int a->y=.int c->zw o a c=some b->wpAny (model X.prog X.w) X.A (compareOp o u r) (EP X MS σ Q) X.xe s:=by
  intro a c hx hy ho;subst hx;subst hy;simp only [RA] at rx ry;subst rx;subst ry;obtain ⟨t,rfl⟩:=ru;obtain ⟨t',rfl⟩:=rr;cases o <;> simp only [zw] at ho <;> first | (cases ho;done) | skip
  ·cases ho;exact lt_int (aw s I)
  ·cases ho;exact le_int (aw s I)
  ·cases ho;exact gt_int (aw s I)
  ·cases ho;exact ge_int (aw s I)
 cases o<;>simp only[bh]at e1
 case Eq=>exact(eq e1).1 (aw s I)
 case NotEq=>obtain⟨c,h1,rfl⟩:=neg e1;exact(eq h1).2 (aw s I)
 case Is=>exact(is e1).1 (aw s I)
 case IsNot=>obtain⟨c,h1,rfl⟩:=neg e1;exact(is h1).2 (aw s I)
 case In=>exact(tN hu I sm e1 rx ry ru rr (Q':=fun _ _=>True) aw fun _ _=>trivial).1
 case NotIn=>obtain⟨c,h1,rfl⟩:=neg e1;exact(tN hu I sm h1 rx ry ru rr (Q:=fun _ _=>True) (fun _ _=>trivial) aw).2
 all_goals
  split at e1
  ·exact ord rfl rfl e1
  ·cases e1
noncomputable def kW(op:CmpOp)(b:Expr):Bool:=!(behindInMarks op b)
theorem qP(h:kW op b=true):behindInMarks op b=false:=by simpa [kW] using h
theorem EC[MV](hu:X.A.units+64<cLine)(ha:QE X a f)(hb:QE X b g)(hm:kW o b=true):QE X (.Compare a [o] [b] pos) (a2 f g (ki (mI o))) :=
 PE_imp (CN (wJ hu o) ha hb (qP hm)) fun _ _ _ q=>vM q
def DN(f g:EF)(o:CmpOp):TF:=fun sl st=>(f sl st).bind fun p=>(g sl p.2).bind fun q=>(bh o q.2 p.1 q.1).map fun b=>(b,q.2)
theorem Eh[MV](hu:X.A.units+64<cLine)(ha:QE X a f)(hb:QE X b g)(hm:kW o b=true):QT X (.Compare a [o] [b] pos) (DN f g o) :=
 PT_imp (Cu (wJ hu o) ha hb (qP hm)) fun σ H Q hq0=>by
  obtain⟨P,φ,sl,st,rs,s,k⟩:=hq0;refine vM (k:=ki (mI o)) ⟨P,φ,sl,st,rs,s,?_⟩;obtain⟨b,st',e,q⟩:=k;unfold DN at e;obtain⟨p,e1,e2⟩:=zA e;obtain⟨r,e3,e4⟩:=zA e2;obtain⟨c,e5,e6⟩:=zE.mp e4;injection e6 with e7 e8;subst e7;subst e8;refine⟨.bl c,r.2,by simp only[a2,e1,bind_some,e3,ki,mI,e5,map_some],fun P' φ' H' w f' s' r'=>?_⟩;simp only[RA]at r';exact⟨c,r',q P' φ' H' c f' s' rfl⟩
def lD(o:UnaryOp)(_:aa):AV->Option AV
 |.int i=>match o with
  |.USub=>some (.int (-i))
  |.Invert=>some (.int (Builtin.bitNot i))
  |_=>none
 |_=>none
theorem G4[MV](ha:QE X a f):QE X (.UnaryOp o a pos) (a1 f (DV (lD o))):=by
 have h:xR X (unaryOp o) (r1 X.gm (DV (lD o))):=by
  rintro MS s σ H v u Q I ru ⟨P,φ,st,x,sm,rx,k⟩;obtain ⟨z,e,k⟩:=k.map;cases x <;> simp only [lD] at e <;> first | (cases e;done) | skip
  rename_i i;simp only [RA] at rx;subst rx;cases o <;> first | (cases e;done) | skip
  ·cases e
   exact Dr MS s σ H _ u Q I ru ⟨i,rfl,k.pure sm (by simp only[RA])⟩
  ·cases e
   exact Dq MS s σ H _ u Q I ru ⟨i,rfl,k.pure sm (by simp only[RA])⟩
 exact PE_imp (Hi h ha) fun _ _ _ q=>Kx q
def eR(st:aa)(v:AV):Option Bool:=match bO st v with
 |some xs=>some !xs.isEmpty
 |none=>match v with
  |.non=>some false
  |.bl b=>some b
  |.int i=>some (i !=0)
  |.str x=>if Nat.ble x.length 1000000=true then some ((x.length:Int) !=0) else none
  |.tup xs=>some !xs.isEmpty
  |v=>(ja st v).map fun MU=>!MU.isEmpty
theorem pK(r:MY mg P H φ xs vs):vs.isEmpty=xs.isEmpty:=by
 cases xs with
 |nil=>simp only[MY]at r;subst r;rfl
 |cons x xs=>simp only[MY]at r;obtain⟨v,ws,rfl,_⟩:=r;rfl
theorem yf[MV]{P:Pr}{H:Hp}{φ:List Addr}{st:aa}(sm:Sim X.gm P φ st H){v:AV}{w:V}{b:Bool}(h:eR st v=some b)(r:RA X.gm P H φ v w):AK X.K w H b:=by
 unfold eR at h;split at h
 ·rename_i xs e
  cases h;obtain⟨a,vs,rfl,rd,q⟩:=r.ls sm e;exact .inl ⟨vs,rd,by rw[pK q]⟩
 ·cases v<;>simp only at h
  case non=>cases h;simp only[RA]at r;subst r;exact rfl
  case bl=>cases h;simp only[RA]at r;subst r;exact rfl
  case int=>cases h;simp only[RA]at r;subst r;exact rfl
  case str x =>
   simp only[RA]at r;subst r;split at h
   ·rename_i hl;cases h;exact⟨z5 (zS hl) dC,rfl⟩
   ·cases h
  case tup xs =>
   cases h;simp only[RA]at r;obtain⟨a,vs,rfl,_,e,q⟩:=r;exact .inr (.inl ⟨vs,.inl (.inl e),by rw[pK q]⟩)
  case fz=>obtain⟨_,z,_⟩:=zE.mp h;simp[ja]at z
  case ref k =>
   obtain⟨MU,e1,e2⟩:=zE.mp h;subst e2;simp only[ja]at e1;split at e1
   ·rename_i kvs' hk
    cases e1;simp only[RA]at r;obtain⟨a,ea,rfl⟩:=r;obtain⟨a',ea',c⟩:=sm.at hk;rw[ea]at ea';cases ea';obtain⟨_,ws,q1,q2,q3⟩:=c;refine .inr (.inr ⟨ws,q1,?_⟩)
    have:=congrArg List.isEmpty q2
    simpa using this
   ·cases e1
def tV(f:EF):TF:=fun sl st=>(f sl st).bind fun p=>(eR p.2 p.1).map fun b=>(b,p.2)
theorem wp[MV](ha:QE X a f)(he:∀whole,isTrue a X.env whole=(do let v <- whole;standAt a.pos;holding [v] (truthy v))):QT X a (tV f) :=
 PT_imp (zd ha he) fun σ H Q ⟨P,φ,sl,st,rs,s,k⟩=>⟨P,φ,sl,st,rs,s,by
  obtain⟨a,st',e1,q⟩:=k.bind (Ra:=RA);refine⟨a,st',e1,fun P1 φ1 H1 b f1 s1 r1=>?_⟩;obtain⟨P2,φ2,st2,x,f2,s2,r2,k2⟩:=q P1 φ1 H1 b f1 s1 r1;obtain⟨c,e2,k2⟩:=k2.map;exact⟨c,yf s2 e2 r2,k2.pure s2 rfl⟩⟩
def IJ(f g:TF):TF:=fun sl st=>(f sl st).bind fun p=>if p.1=true then g sl p.2 else some (false,p.2)
def DI(f g:TF):TF:=fun sl st=>(f sl st).bind fun p=>if p.1=true then some (true,p.2) else g sl p.2
def IH(f:TF):TF:=fun sl st=>(f sl st).bind fun p=>some (!p.1,p.2)
section
variable{a b:Expr}{rest:List Expr}{pos:Pos}{f g:TF}
theorem Ec[MV](op:BoolOp)(ha:QT X a f):QW X (.BoolOp op [a] pos) f:=by
 cases op
 ·exact Ct ha
 ·exact EG ha
theorem Ed[MV](ha:QT X a f)(hb:QW X (.BoolOp .And (b::rest) pos) g):QW X (.BoolOp .And (a::b::rest) pos) (IJ f g) :=
 PW_imp (EH ha hb) fun σ H Q ⟨P,φ,sl,st,rs,s,k⟩=>⟨P,φ,sl,st,rs,s,by
  obtain⟨a,st',e1,q⟩:=k.bind (Ra:=RB);refine⟨a,st',e1,fun P1 φ1 H1 c f1 s1 r1=>?_⟩;obtain⟨P2,φ2,st2,x,f2,s2,r2,k2⟩:=q P1 φ1 H1 c f1 s1 r1;cases r2;cases c with
  |true=>exact⟨P2,φ2,sl,st2,rs.frm f2,s2,k2⟩
  |false=>exact k2.pure s2 rfl⟩
theorem GW[MV](ha:QT X a f)(hb:QW X (.BoolOp .Or (b::rest) pos) g):QW X (.BoolOp .Or (a::b::rest) pos) (DI f g) :=
 PW_imp (Ha ha hb) fun σ H Q ⟨P,φ,sl,st,rs,s,k⟩=>⟨P,φ,sl,st,rs,s,by
  obtain⟨a,st',e1,q⟩:=k.bind (Ra:=RB);refine⟨a,st',e1,fun P1 φ1 H1 c f1 s1 r1=>?_⟩;obtain⟨P2,φ2,st2,x,f2,s2,r2,k2⟩:=q P1 φ1 H1 c f1 s1 r1;cases r2;cases c with
  |false=>exact⟨P2,φ2,sl,st2,rs.frm f2,s2,k2⟩
  |true=>exact k2.pure s2 rfl⟩
theorem Eg[MV](ha:QT X a f):QT X (.UnaryOp .Not a pos) (IH f) :=
 PT_imp (EI ha) fun σ H Q ⟨P,φ,sl,st,rs,s,k⟩=>⟨P,φ,sl,st,rs,s,by
  obtain⟨a,st',e1,q⟩:=k.bind (Ra:=RB);refine⟨a,st',e1,fun P1 φ1 H1 c f1 s1 r1=>?_⟩;obtain⟨P2,φ2,st2,x,f2,s2,r2,k2⟩:=q P1 φ1 H1 c f1 s1 r1;cases r2;exact k2.pure s2 rfl⟩
end
def BC(f g:EF):EF:=fun sl st=>(f sl st).bind fun p=>match p.1 with
 |.bl true=>g sl p.2
 |.bl false=>some (.bl false,p.2)
 |_=>none
def By(f g:EF):EF:=fun sl st=>(f sl st).bind fun p=>match p.1 with
 |.bl false=>g sl p.2
 |.bl true=>some (.bl true,p.2)
 |_=>none
def Jk(f:EF):EF:=fun sl st=>(f sl st).bind fun p=>match p.1 with
 |.bl b=>some (.bl !b,p.2)
 |_=>none
def Jl(t:TF)(f g:EF):EF:=fun sl st=>(t sl st).bind fun p=>if p.1=true then f sl p.2 else g sl p.2
section
variable{a b c:Expr}{rest:List Expr}{pos:Pos}{f g:EF}{t:TF}
theorem KG.no[MV]{α β:Type}{Ra:Gm->Pr->Hp->List Addr->α->β->Prop}{Q:β->Hp->Prop}(h:KG mg Ra P φ H none Q):False:=by obtain⟨_,_,e,_⟩:=h;cases e
theorem EE[MV](ha:QE X a f)(hb:QE X (.BoolOp .And (b::rest) pos) g):QE X (.BoolOp .And (a::b::rest) pos) (BC f g) :=
 PE_imp (E3 ha hb) fun σ H Q ⟨P,φ,sl,st,rs,s,k⟩=>⟨P,φ,sl,st,rs,s,by
  obtain⟨a,st',e1,q⟩:=k.bind (Ra:=RA);refine⟨a,st',e1,fun P1 φ1 H1 c f1 s1 r1=>?_⟩;obtain⟨P2,φ2,st2,x,f2,s2,r2,k2⟩:=q P1 φ1 H1 c f1 s1 r1;cases x<;>first|exact k2.no.elim|skip
  rename_i d;simp only[RA]at r2;refine⟨d,r2,?_⟩;cases d with
  |true=>exact⟨P2,φ2,sl,st2,rs.frm f2,s2,k2⟩
  |false=>exact k2.pure s2 (by simp only[RA])⟩
theorem G6[MV](ha:QE X a f)(hb:QE X (.BoolOp .Or (b::rest) pos) g):QE X (.BoolOp .Or (a::b::rest) pos) (By f g) :=
 PE_imp (Hj ha hb) fun σ H Q ⟨P,φ,sl,st,rs,s,k⟩=>⟨P,φ,sl,st,rs,s,by
  obtain⟨a,st',e1,q⟩:=k.bind (Ra:=RA);refine⟨a,st',e1,fun P1 φ1 H1 c f1 s1 r1=>?_⟩;obtain⟨P2,φ2,st2,x,f2,s2,r2,k2⟩:=q P1 φ1 H1 c f1 s1 r1;cases x<;>first|exact k2.no.elim|skip
  rename_i d;simp only[RA]at r2;refine⟨d,r2,?_⟩;cases d with
  |false=>exact⟨P2,φ2,sl,st2,rs.frm f2,s2,k2⟩
  |true=>exact k2.pure s2 (by simp only[RA])⟩
theorem Ez[MV](ha:QE X a f):QE X (.UnaryOp .Not a pos) (Jk f) :=
 PE_imp (EX ha) fun σ H Q ⟨P,φ,sl,st,rs,s,k⟩=>⟨P,φ,sl,st,rs,s,by
  obtain⟨a,st',e1,q⟩:=k.bind (Ra:=RA);refine⟨a,st',e1,fun P1 φ1 H1 c f1 s1 r1=>?_⟩;obtain⟨P2,φ2,st2,x,f2,s2,r2,k2⟩:=q P1 φ1 H1 c f1 s1 r1;cases x<;>first|exact k2.no.elim|skip
  rename_i d;simp only[RA]at r2;exact⟨d,r2,k2.pure s2 (by simp only[RA])⟩⟩
theorem G8[MV](hc:QT X c t)(ha:QE X a f)(hb:QE X b g):QE X (.IfExp c a b pos) (Jl t f g) :=
 PE_imp (zq hc ha hb) fun σ H Q ⟨P,φ,sl,st,rs,s,k⟩=>⟨P,φ,sl,st,rs,s,by
  obtain⟨a,st',e1,q⟩:=k.bind (Ra:=RB);refine⟨a,st',e1,fun P1 φ1 H1 c f1 s1 r1=>?_⟩;obtain⟨P2,φ2,st2,x,f2,s2,r2,k2⟩:=q P1 φ1 H1 c f1 s1 r1;cases r2;cases c with
  |true=>exact⟨P2,φ2,sl,st2,rs.frm f2,s2,k2⟩
  |false=>exact⟨P2,φ2,sl,st2,rs.frm f2,s2,k2⟩⟩
end
def aP(st:aa)(x y:AV):Option AV:=match mH st x y with
 |some o=>o
 |none=>match y with
  |.int i=>match bO st x with
   |some xs=>gf xs i
   |none=>match iO st x with
    |some xs=>gf xs i
    |none=>match x with
     |.str z=>if Nat.ble z.length 1000000=true then(gf z.cps.toList i).map fun c=>.str ⟨#[c]⟩ else none
     |_=>none
  |_=>none
theorem o9{i:Int}(r:MY mg P H φ xs vs)(h:gf xs i=some x):∃v,gf vs i=some v/\RA mg P H φ x v:=by
 unfold gf at h ⊢;rw[<- r.length];obtain⟨j,e1,e2⟩:=zA h;rw[e1,bind_some];exact r.get e2
theorem C6(hu:X.A.units+64<cLine):IxR X (fun x y H Q=>∃a v,x=.ref a/\DGet H a y (some v)/\Q v H):=by
 rintro value slice MS s σ H x y v u Q I rx ry ⟨a,t,ex,g,q⟩ hs;subst ex;cases rx;have hT:=sM I g;unfold subscriptTail;refine yF ?_;rw[getitemInPython_of_ne hT.not_modules];refine yF (wpAny_specialOf hT PySem.F.slot_dict_getitem.lookup ?_);have aw:wpAny (model X.prog X.w) X.A (subscripted slice false (.ref a) u) (fun r s₃=>wpAny (model X.prog X.w) X.A (letTemporaryGo value (.ref a) r>>=fun _=>pure r) (EP X MS σ Q) X.xe s₃) X.xe s:=by
  rw[hs];exact wpAny_operating (xz oM I g ry fun w' s3 I3 rw'=>yF (wpAny_letTemporaryGo (yG ⟨t,H,I3,rw',q⟩)))
 first
  |exact yG (yF aw)
  |exact yF (yG (yF aw))
  |exact yF aw
theorem Kd[MV](hu:X.A.units+64<cLine):IxR X (r2 X.gm (ki aP)):=by
 rintro value slice MS s σ H v w u r Q I ru rr ⟨P,φ,st,x,y,sm,rx,ry,k0⟩ hs;obtain⟨z,e,k⟩:=k0.map;clear k0;unfold aP at e;split at e
 ·rename_i o eo
  subst e;obtain⟨a,o',rfl,g,_,g2⟩:=rC sm eo ry rx;obtain⟨t,rfl,rt⟩:=g2 z rfl;exact C6 hu value slice MS s σ H _ _ u r Q I ru rr ⟨a,t,rfl,g,k.pure sm rt⟩ hs
 ·cases y with
  |int i =>
   simp only[RA]at ry;subst ry;dsimp only at e;split at e
   ·rename_i xs el
    obtain⟨a,vs,rfl,rd,q⟩:=rx.ls sm el;obtain⟨t,e2,rt⟩:=o9 q e;exact qZ value slice MS s σ H _ _ u r Q I ru rr (.inl ⟨a,vs,i,t,rfl,rfl,rd,e2,k.pure sm rt⟩) hs
   ·split at e
    ·rename_i xs el
     obtain⟨a,vs,rfl,rd,q⟩:=rx.tp sm el;obtain⟨t,e2,rt⟩:=o9 q e;exact qZ value slice MS s σ H _ _ u r Q I ru rr (.inr (.inl ⟨a,vs,i,t,rfl,rfl,.inl (.inl rd),e2,k.pure sm rt⟩)) hs
    ·cases x with
     |str x =>
      dsimp only at e;split at e
      ·rename_i hl
       obtain⟨c,e1,e2⟩:=zE.mp e;subst e2;simp only[RA]at rx;subst rx;exact qZ value slice MS s σ H _ _ u r Q I ru rr (.inr (.inr ⟨x,i,c,rfl,rfl,z5 (zS hl) dC,e1,k.pure sm (by simp only[RA])⟩)) hs
      ·cases e
     |_=>cases e
  |_=>cases e
theorem G7[MV](hu:X.A.units+64<cLine)(ha:QE X a f)(hb:QE X b g)(hs:pe b):QE X (.Subscript a b pos) (a2 f g (ki aP)) :=
 PE_imp (Hl (Kd hu) ha hb hs) fun _ _ _ q=>vM q
def Jj(g:AF):EF:=fun sl st=>(g sl st).bind fun p=>if Nat.ble p.1.length 1000=true then some (.tup p.1,p.2) else none
theorem Ey[MV]{x1:Nat}(h:QA X es g):QE X (.Tuple es x1 pos) (Jj g) :=
 PE_imp (EU h) fun σ H Q ⟨P,φ,sl,st,rs,s,k⟩=>⟨P,φ,sl,st,rs,s,by
  obtain⟨a,st',e1,q⟩:=k.bind (Ra:=MY);refine⟨a,st',e1,fun P1 φ1 H1 vs f1 s1 r1=>?_⟩;obtain⟨P2,φ2,st2,xs,f2,s2,r2,k2⟩:=q P1 φ1 H1 vs f1 s1 r1;dsimp only at k2;split at k2
  ·rename_i hl
   refine⟨by rw[<- r2.length];exact z5 (zS hl) dC,fun p hp=>?_⟩;obtain⟨f3,s3⟩:=mY (o:=.tup vs) s2 hp;obtain⟨_,_,e5,q5⟩:=k2;cases e5;refine q5 _ _ _ _ f3 s3 ?_;simp only[RA];exact⟨p,vs,rfl,.inr rfl,ay,r2.frm f3⟩
  ·exact k2.no.elim⟩
end
mutual
noncomputable def cU:AV->AV->Bool
 |.non,.non=>true
 |.bl a,.bl b=>a==b
 |.int a,.int b=>a==b
 |.str a,.str b=>a==b
 |.ref a,.ref b=>a==b
 |.tup a,.tup b=>fY a b
 |.fz a,.fz b=>fY a b
 |_,_=>false
noncomputable def fY:List AV->List AV->Bool
 |[],[]=>true
 |x::xs,y::ys=>cU x y&&fY xs ys
 |_,_=>false
end
mutual
theorem t9:∀{x y:AV},cU x y=true->x=y
 |.non,y,h=>by cases y<;>simp only[cU]at h<;>first|rfl|cases h
 | .bl a,y,h=>by cases y <;> simp only [cU] at h <;> first | (rw [yK h]) | cases h
 | .int a,y,h=>by cases y <;> simp only [cU] at h <;> first | (rw [yK h]) | cases h
 | .str a,y,h=>by cases y <;> simp only [cU] at h <;> first | (rw [yK h]) | cases h
 | .ref a,y,h=>by cases y <;> simp only [cU] at h <;> first | (rw [yK h]) | cases h
 | .tup a,y,h=>by cases y <;> simp only [cU] at h <;> first | (rw [lq h]) | cases h
 | .fz a,y,h=>by cases y <;> simp only [cU] at h <;> first | (rw [lq h]) | cases h
theorem lq:∀{xs ys:List AV},fY xs ys=true->xs=ys
 |[],ys,h=>by cases ys<;>simp only[fY]at h<;>first|rfl|cases h
 |x::xs,ys,h=>by
  cases ys with
  |nil=>simp only[fY]at h;cases h
  |cons y ys =>
   simp only[fY,zC]at h;rw[t9 h.1,lq h.2]
end
mutual
theorem xM:∀x:AV,cU x x=true
 |.non=>by simp only[cU]
 |.bl a=>by simp[cU]
 |.int a=>by simp[cU]
 |.str a=>by simp[cU]
 |.ref a=>by simp[cU]
 |.tup a=>by simp only[cU];exact jb a
 |.fz a=>by simp only[cU];exact jb a
theorem jb:∀xs:List AV,fY xs xs=true
 |[]=>by simp only[fY]
 |x::xs=>by simp only[fY,xM x,jb xs,Bool.and_self]
end
abbrev Gd:=List (Nat×MT)
def vJ:MT->MT->Bool
 |.lst a,.lst b=>fY a b
 |.dK a,.dK b=>decide (a.map (·.1)=b.map (·.1))&&fY (a.map (·.2)) (b.map (·.2))
 |_,_=>false
def cp:Gd->aa->Bool
 |[],_=>true
 |g::gs,st=>(match st[g.1]? with|some c=>vJ c g.2|none=>false)&&cp gs st
theorem Av{k:Nat}{xs:List AV}{gs:Gd}{st:aa}(h:cp ((k,.lst xs)::gs) st=true):st[k]?=some (.lst xs)/\cp gs st=true:=by
 simp only[cp,zC]at h;refine⟨?_,h.2⟩;have h:=h.1;split at h
 ·rename_i c e
  cases c <;> simp only [vJ] at h <;> first | (cases h;done) | skip
  rw[e,lq h]
 ·cases h
theorem tU{a b:Gd}{st:aa}(h:cp (a++b) st=true):cp a st=true/\cp b st=true:=by
 induction a with
 |nil=>exact⟨rfl,h⟩
 |cons g a ih =>
  simp only[List.cons_append,cp,zC]at h ⊢;exact⟨⟨h.1,(ih h.2).1⟩,(ih h.2).2⟩
structure Iv where
 MW:List AV
 gd:Gd
abbrev IF:=Sl->aa->Option (Iv×aa)
structure ui[MV](mg:Gm)(J:It)(iv:Iv)(P:Pr)(φ:List Addr)(H:Hp):Prop where
 go:∀P2 φ2 H2 st2 (i:Nat) x,Frm P φ H P2 φ2 H2->Sim mg P2 φ2 st2 H2->cp iv.gd st2=true->iv.MW[i]?=some x->J.go i H2/\∀v H3,J.yld i H2 v H3->∃P3,Frm P2 φ2 H2 P3 φ2 H3/\Sim mg P3 φ2 st2 H3/\RA mg P3 H3 φ2 x v
 stop:∀P2 φ2 H2 st2,Frm P φ H P2 φ2 H2->Sim mg P2 φ2 st2 H2->cp iv.gd st2=true->J.stop iv.MW.length H2
def rI[MV](mg:Gm)(f:IF):TI:=fun σ H R=>∃P φ sl st,M4 mg P H φ sl σ/\Sim mg P φ st H/\∃iv st',f sl st=some (iv,st')/\∀P' φ' H' J,Frm P φ H P' φ' H'->Sim mg P' φ' st' H'->ui mg J iv P' φ' H'->R J H'
def QI[MV](X:Cx)(tg iter:Expr)(f:IF):Prop:=PI X tg iter (rI X.gm f)
theorem ik(h:PI X tg iter t)(i:∀σ H R,t' σ H R->t σ H R):PI X tg iter t':=fun MS s σ H R I h'=>h MS s σ H R I (i σ H R h')
def iy(st:aa)(v:AV):Option Iv:=match dr st v with
 |.fz xs=>some ⟨xs,[]⟩
 |.ref k=>match st[k]? with
  |some (.lst xs)=>some ⟨xs,[(k,.lst xs)]⟩
  |_=>none
 |_=>none
section
variable{mg:Gm}{P:Pr}{φ:List Addr}{st:aa}{H:Hp}{v:AV}{w:V}{iv:Iv}
theorem kA[MV](s:Sim mg P φ st H)(r:RA mg P H φ v w)(h:iy st v=some iv):∃a,w=.ref a/\∀P2 φ2 H2 st2,Frm P φ H P2 φ2 H2->Sim mg P2 φ2 st2 H2->cp iv.gd st2=true->∃vs,bQ mg.K H2 a vs/\MY mg P2 H2 φ2 iv.MW vs:=by
 have r:=r.dr s;unfold iy at h;split at h
 ·rename_i ys e
  cases h;rw[e]at r;simp only[RA]at r;obtain⟨a,vs,e1,e2,q⟩:=r;refine⟨a,e1,fun P2 φ2 H2 st2 f _ _=>⟨vs,(e2.mono f.ext).sq,?_⟩⟩;exact MY.lift (q.mono f.ext fun k a e=>by simp at e)
 ·rename_i k e
  rw[e]at r;simp only[RA]at r;obtain⟨a,e1,e2⟩:=r;split at h
  ·rename_i ys e3
   cases h;refine⟨a,e2,fun P2 φ2 H2 st2 f s2 g=>?_⟩;obtain⟨g1,_⟩:=Av g;obtain⟨a',e4,c⟩:=s2.at g1;rw[f.ix k a e1]at e4;cases e4;obtain⟨_,vs,q1,q2⟩:=c;exact⟨vs,.inl (.inl q1),q2⟩
  ·cases h
 ·cases h
end
section
variable{X:Cx}{tg e a b:Expr}{es:List Expr}{pos p:Pos}
def ny(st:aa)(v:AV):Option Iv:=match v with
 |.str x=>if x.cps.all (·<128)=true then some ⟨x.cps.toList.map fun c=>.str ⟨#[c]⟩,[]⟩ else none
 |v=>match iO st v with
  |some xs=>some ⟨xs,[]⟩
  |none=>iy st v
def iE(f:EF):IF:=fun sl st=>(f sl st).bind fun p=>(ny p.2 p.1).map fun iv=>(iv,p.2)
theorem EQ[MV](hl:PE X e tl):PI X tg e (fun σ H R=>tl σ H fun x H1=>(∃a,x=.ref a/\(∃xs,bQ X.K H1 a xs)/\R (BK X.K a) H1)\/(∃a,x=.ref a/\(∃xs,gQ X.K H1 a xs)/\R (BI X.K a) H1)\/∃x':Str,x=.str x'/\x'.cps.all (·<128)=true/\R (BJ x') H1):=by
 intro MS s σ H R I h;refine aD (hl MS s σ H _ I h) fun v s1 hq0=>?_
 obtain⟨x,H1,I1,r1,q1⟩:=hq0;have fp:∀b∈[s1.heap.objs.size],dJ X MS H1 b:=fun b hb=>by
  have e:b=s1.heap.objs.size:=by simpa using hb
  subst e;exact I1.fpOk (zP _) (I1.M2.fresh (zP _))
 rcases q1 with⟨a,e,⟨xs,hq⟩,q⟩|⟨a,e,⟨xs,hq⟩,q⟩|⟨y,e,hy,q⟩
 ·subst e
  cases r1;obtain⟨MW,rv,p,hz⟩:=I1.list hq;refine wpAny_pyIter_list p.isList ?_;exact⟨s1.heap.objs.size,[s1.heap.objs.size],_,_,H1,rfl,I1.kept (t':=s1.toks) fun b o e=>zG _ e,vU a _,⟨_,zY _ rfl,rfl,rfl⟩,fp,q⟩
 ·subst e
  cases r1;obtain ⟨MW,rv,p,hz⟩:=I1.tuple hq;refine wpAny_pyIter_tuple (show s1.heap.IsTuple a MW.toArray from p) ?_;exact ⟨s1.heap.objs.size,[s1.heap.objs.size],_,_,H1,rfl,I1.kept (t':=s1.toks) fun b o e=>zG _ e,ul a _,⟨_,zY _ rfl,rfl,rfl⟩,fp,q⟩
 ·subst e
  obtain⟨t,rfl⟩:=r1;refine wpAny_pyIter_ascii hy ?_;exact⟨s1.heap.objs.size,[s1.heap.objs.size],_,_,H1,rfl,I1.kept (t':=s1.toks) fun b o e=>zG _ e,ye y t _,⟨_,zY _ rfl,rfl,rfl⟩,fp,q⟩
theorem An[MV]{mg:Gm}{P:Pr}{φ:List Addr}{H:Hp}{K:Frag}{a:Addr}{iv:Iv}(h:∀P2 φ2 H2 st2,Frm P φ H P2 φ2 H2->Sim mg P2 φ2 st2 H2->cp iv.gd st2=true->∃vs,bQ K H2 a vs/\MY mg P2 H2 φ2 iv.MW vs):ui mg (BK K a) iv P φ H where
 go:=fun P2 φ2 H2 st2 i x f s g e=>by
  obtain⟨vs,rd,ra⟩:=h P2 φ2 H2 st2 f s g;obtain⟨v,e1,r1⟩:=ra.get e;refine⟨⟨vs,v,rd,e1⟩,fun w H3 hq0=>?_⟩;obtain⟨hH,hx⟩:=hq0;subst hH
  have:=hx vs rd
  rw[e1]at this;cases this;exact⟨P2,Frm.refl,s,r1⟩
 stop:=fun P2 φ2 H2 st2 f s g=>by
  obtain⟨vs,rd,ra⟩:=h P2 φ2 H2 st2 f s g;exact⟨vs,rd,by rw[<- ra.length];exact zP _⟩
theorem C7[MV]{mg:Gm}{P:Pr}{φ:List Addr}{H:Hp}{K:Frag}{a:Addr}{xs:List AV}{vs:List V}(pa:P a)(ea:H a=some (.tup vs))(ra:MY mg P H φ xs vs):ui mg (BI K a) ⟨xs,[]⟩ P φ H where
 go:=fun P2 φ2 H2 st2 i x f s g e=>by
  obtain⟨v,e1,r1⟩:=(ra.frm f).get e;have e2:gQ K H2 a vs:=.inl (.inl ((f.ext a pa).2.trans ea));refine⟨⟨vs,v,e2,e1⟩,fun w H3 hq0=>?_⟩;obtain⟨hH,hx⟩:=hq0;subst hH
  have:=hx vs e2
  rw[e1]at this;cases this;exact⟨P2,Frm.refl,s,r1⟩
 stop:=fun P2 φ2 H2 st2 f s g=>⟨vs,.inl (.inl ((f.ext a pa).2.trans ea)),by rw[<- ra.length];exact zP _⟩
theorem C8[MV]:ui mg (BJ x) ⟨x.cps.toList.map fun c=>.str ⟨#[c]⟩,[]⟩ P φ H where
 go:=fun P2 φ2 H2 st2 i y f s g e=>by
  rw[zR]at e;obtain⟨c,e1,e2⟩:=zE.mp e;rw[Array.getElem?_toList]at e1;subst e2;refine⟨⟨c,e1⟩,fun w H3 hq0=>?_⟩;obtain⟨hH,c',e3,hw⟩:=hq0;subst hH;rw[e1]at e3;cases e3;exact⟨P2,Frm.refl,s,by simp only[RA];exact hw⟩
 stop:=fun P2 φ2 H2 st2 f s g=>by
  show x.cps[_]?=none;simp
theorem kz{st:aa}{v:AV}{iv:Iv}(h:iy st v=some iv):cp iv.gd st=true:=by
 unfold iy at h;split at h
 ·cases h;rfl
 ·split at h
  ·rename_i k _ xs hk
   cases h;simp only[cp];rw[hk];simp only[vJ,jb,Bool.and_self]
  ·cases h
 ·cases h
theorem J1[MV](ha:QE X e f):QI X tg e (iE f):=ik (EQ ha) fun σ H R ⟨P,φ,sl,st,rs,s,iv,st',ef,k⟩=>⟨P,φ,sl,st,rs,s,by
 unfold iE at ef;obtain⟨p,e1,e2⟩:=zA ef;obtain⟨iv',e3,e4⟩:=zE.mp e2;cases e4;refine⟨p.1,p.2,e1,fun P1 φ1 H1 w f1 s1 r1=>?_⟩;unfold ny at e3;have gen:∀v:AV,p.1=v->(match iO p.2 v with|some xs=>some ⟨xs,[]⟩|none=>iy p.2 v)=some iv->((∃a,w=.ref a/\(∃xs,bQ X.K H1 a xs)/\R (BK X.K a) H1)\/(∃a,w=.ref a/\(∃xs,gQ X.K H1 a xs)/\R (BI X.K a) H1)\/∃x':Str,w=.str x'/\x'.cps.all (·<128)=true/\R (BJ x') H1):=by
  intro v ev e3;rw[ev]at r1;split at e3
  ·rename_i xs et
   cases e3;have r2:=r1.dr s1;unfold iO at et;split at et
   ·rename_i ys ed
    cases et;rw[ed]at r2;simp only[RA]at r2;obtain⟨a,vs,rfl,pa,ea,ra⟩:=r2;exact .inr (.inl ⟨a,rfl,⟨vs,.inl (.inl ea)⟩,k P1 φ1 H1 _ f1 s1 (C7 pa ea ra)⟩)
   ·cases et
  ·obtain⟨a,rfl,h⟩:=kA s1 r1 e3
   obtain⟨vs,rd,_⟩:=h P1 φ1 H1 p.2 Frm.refl s1 (kz e3);exact .inl ⟨a,rfl,⟨vs,rd⟩,k P1 φ1 H1 _ f1 s1 (An h)⟩
 cases hv:p.1 with
 |str x =>
  rw[hv]at e3 r1;simp only at e3;split at e3
  ·rename_i hx
   cases e3;simp only[RA]at r1;exact .inr (.inr ⟨x,r1,hx,k P1 φ1 H1 _ f1 s1 C8⟩)
  ·cases e3
 |_=>rw[hv]at e3;exact gen _ hv e3⟩
noncomputable def fA(i:Int):Bool:=Nat.ble i.natAbs.log2 60
noncomputable def cX(i:Int)(n:Nat):List AV:=(List.range n).map fun k=>.int (i+(k:Nat))
def xh(f:EF):IF:=fun sl st=>(f sl st).bind fun p=>match p.1 with
 |.int j=>if fA j=true then some (⟨cX 0 j.toNat,[]⟩,p.2) else none
 |_=>none
def Bj(f g:EF):IF:=fun sl st=>(f sl st).bind fun p=>(g sl p.2).bind fun q=>match p.1,q.1 with
 |.int i,.int j=>if(fA i&&fA j)=true then some (⟨cX i (j-i).toNat,[]⟩,q.2) else none
 |_,_=>none
theorem gi{i:Int}(h:fA i=true):-(2^62)<=i/\i<2^62:=by
 have:=log2_lt h
 have e:(2:Nat)^(60+1)=2305843009213693952:=by decide
 rw[e]at this;lia
theorem tK[MV]{i:Int}{n:Nat}:ui mg (xW i n) ⟨cX i n,[]⟩ P φ H where
 go:=fun P2 φ2 H2 st2 k y f s g e=>by
  unfold cX at e;rw[zR]at e;obtain⟨c,e1,e2⟩:=zE.mp e;obtain⟨h1,h2⟩:=zB.mp e1;rw[List.getElem_range]at h2;subst h2 e2;rw[List.length_range]at h1;refine⟨h1,fun w H3 hq0=>?_⟩;obtain⟨hH,hw⟩:=hq0;subst hH;exact⟨P2,Frm.refl,s,by simp only[RA];exact hw⟩
 stop:=fun P2 φ2 H2 st2 f s g=>by
  show n<=(cX i n).length;simp[cX]
theorem wo[MV]{mg:Gm}{f:EF}{σ:St}{H:Hp}{Q:List V->Hp->Prop}{P:Pr}{φ:List Addr}{sl:Sl}{st:aa}(rs:M4 mg P H φ sl σ)(s:Sim mg P φ st H)
  (h:∃v st1,f sl st=some (v,st1)/\∀P1 φ1 H1 w,Frm P φ H P1 φ1 H1->Sim mg P1 φ1 st1 H1->RA mg P1 H1 φ1 v w->Q [w] H1):rA mg (fx f fb) σ H Q:=by
 obtain⟨v,st1,e,k⟩:=h;refine⟨P,φ,sl,st,rs,s,[v],st1,by simp only[fx,fb,e,bind_some],fun P1 φ1 H1 ws f1 s1 r1=>?_⟩;simp only[MY]at r1;obtain⟨w,us,rfl,r,rfl⟩:=r1;exact k P1 φ1 H1 w f1 s1 r
theorem Eb[MV]{mg:Gm}{f g:EF}{σ:St}{H:Hp}{Q:List V->Hp->Prop}{P:Pr}{φ:List Addr}{sl:Sl}{st:aa}(rs:M4 mg P H φ sl σ)(s:Sim mg P φ st H)
  (h:∃v st1 u st2,f sl st=some (v,st1)/\g sl st1=some (u,st2)/\∀P1 φ1 H1 w w',Frm P φ H P1 φ1 H1->Sim mg P1 φ1 st2 H1->RA mg P1 H1 φ1 v w->RA mg P1 H1 φ1 u w'->Q [w,w'] H1):rA mg (fx f (fx g fb)) σ H Q:=by
 obtain⟨v,st1,u,st2,e,e',k⟩:=h;refine⟨P,φ,sl,st,rs,s,[v,u],st2,by simp only[fx,fb,e,e',bind_some],fun P1 φ1 H1 ws f1 s1 r1=>?_⟩;simp only[MY]at r1;obtain⟨w,us,rfl,r,w',us',rfl,r',rfl⟩:=r1;exact k P1 φ1 H1 w w' f1 s1 r r'
theorem G2[MV](hg:Gl X "range")(hm:X.mg "range"=none)(ha:QE X a f)(hs:starEach [a] X.env=[(false,eval a X.env)]):QI X tg (.Call (.Name "range" p) [a] [] pos) (xh f) :=
 ik (wD hg hm (c5 ha fe (by rw[hs];rfl)) hs) fun σ H R hq0=>by
  obtain⟨P,φ,sl,st,rs,s,iv,st',ef,k⟩:=hq0;obtain⟨q,e1,e2⟩:=zA ef;refine wo rs s ⟨q.1,q.2,e1,fun P1 φ1 H1 w f1 s1 r1=>?_⟩;split at e2
  ·rename_i j ej
   rw[ej]at r1;split at e2
   ·rename_i hb
    cases e2;simp only[RA]at r1;subst r1;exact⟨j,rfl,(gi hb).1,(gi hb).2,k P1 φ1 H1 _ f1 s1 tK⟩
   ·cases e2
  ·cases e2
theorem G1[MV](hg:Gl X "range")(hm:X.mg "range"=none)(ha:QE X a f)(hb:QE X b g)(hs:starEach [a,b] X.env=[(false,eval a X.env),(false,eval b X.env)])(hs2:starEach [b] X.env=[(false,eval b X.env)]) :
  QI X tg (.Call (.Name "range" p) [a,b] [] pos) (Bj f g) :=
 ik (wC hg hm (c5 ha (c5 hb fe (by rw[hs2];rfl)) (by rw[hs,hs2])) hs hs2) fun σ H R hq0=>by
  obtain⟨P,φ,sl,st,rs,s,iv,st',ef,k⟩:=hq0;obtain⟨q,e1,e2⟩:=zA ef;obtain⟨r,e3,e4⟩:=zA e2;refine Eb rs s ⟨q.1,q.2,r.1,r.2,e1,e3,fun P1 φ1 H1 w w' f1 s1 r1 r2=>?_⟩;split at e4
  ·rename_i i j ei ej
   rw[ei]at r1;rw[ej]at r2;split at e4
   ·rename_i hb
    cases e4;obtain⟨h1,h2⟩:=Bool.and_eq_true_iff.mp hb;simp only[RA]at r1 r2;subst r1;subst r2;exact⟨i,j,rfl,⟨(gi h1).1,(gi h1).2,(gi h2).1,(gi h2).2⟩,k P1 φ1 H1 _ f1 s1 tK⟩
   ·cases e4
  ·cases e4
def iZ(f g:EF):IF:=fun sl st=>(f sl st).bind fun p=>(g sl p.2).bind fun q=>(iy q.2 p.1).bind fun x=>(iy q.2 q.1).bind fun y=>some (⟨(x.MW.zip y.MW).map fun z=>.tup [z.1,z.2],x.gd++y.gd⟩,q.2)
theorem tE[MV]{mg:Gm}{P:Pr}{φ:List Addr}{st:aa}{H:Hp}{p:Addr}{x y:AV}{u w:V}(s:Sim mg P φ st H)(hp:H p=none)(rx:RA mg P H φ x u)(ry:RA mg P H φ y w) :
  ∃P3,Frm P φ H P3 φ (af H p (.tup [u,w]))/\Sim mg P3 φ st (af H p (.tup [u,w]))/\RA mg P3 (af H p (.tup [u,w])) φ (.tup [x,y]) (.ref p):=by
 obtain⟨f3,s3⟩:=mY (o:=.tup [u,w]) s hp;refine⟨_,f3,s3,?_⟩;simp only[RA];exact⟨p,[u,w],rfl,.inr rfl,ay,aU (rx.frm f3) (aU (ry.frm f3) bG)⟩
theorem Er[MV]{x1:Nat}(hg:Gl X "zip")(hm:X.mg "zip"=none)(ha:QE X a f)(hb:QE X b g)(hs:starEach [a,b] X.env=[(false,eval a X.env),(false,eval b X.env)])(hs2:starEach [b] X.env=[(false,eval b X.env)]) :
  QI X (.Tuple elts x1 tpos) (.Call (.Name "zip" p) [a,b] [] pos) (iZ f g) :=
 ik (EO hg hm (c5 ha (c5 hb fe (by rw[hs2];rfl)) (by rw[hs,hs2])) hs hs2) fun σ H R hq0=>by
  obtain⟨P,φ,sl,st,rs,s,iv,st',ef,k⟩:=hq0;obtain⟨q,e1,e2⟩:=zA ef;obtain⟨r,e3,e4⟩:=zA e2;obtain⟨x,e5,e6⟩:=zA e4;obtain⟨y,e7,e8⟩:=zA e6;cases e8;refine Eb rs s ⟨q.1,q.2,r.1,r.2,e1,e3,fun P1 φ1 H1 w w' f1 s1 r1 r2=>?_⟩;obtain⟨a1,rfl,h1⟩:=kA s1 r1 e5;obtain⟨a2,rfl,h2⟩:=kA s1 r2 e7;obtain⟨vs,rd1,_⟩:=h1 P1 φ1 H1 r.2 Frm.refl s1 (kz e5);obtain⟨us,rd2,_⟩:=h2 P1 φ1 H1 r.2 Frm.refl s1 (kz e7);refine⟨a1,a2,rfl,⟨vs,rd1⟩,⟨us,rd2⟩,k P1 φ1 H1 _ f1 s1 ⟨fun P2 φ2 H2 st2 i t f2 s2 g2 et=>?_,fun P2 φ2 H2 st2 f2 s2 g2=>?_⟩⟩
  ·obtain⟨ga,gb⟩:=tU g2
   obtain⟨vs2,d1,q1⟩:=h1 P2 φ2 H2 st2 f2 s2 ga;obtain⟨us2,d2,q2⟩:=h2 P2 φ2 H2 st2 f2 s2 gb;rw[zR]at et;obtain⟨z,ez,et⟩:=zE.mp et;subst et;obtain⟨hx,hy⟩:=List.getElem?_zip_eq_some.mp ez;obtain⟨u1,c1,b1⟩:=q1.get hx;obtain⟨u2,c2,b2⟩:=q2.get hy;refine⟨⟨vs2,us2,u1,u2,d1,d2,c1,c2⟩,fun v H3 hq0=>?_⟩;obtain⟨pp,u,w,k1,k2,hp,hH,hv⟩:=hq0;have k1:=k1 vs2 d1;have k2:=k2 us2 d2;rw[c1]at k1;rw[c2]at k2;cases k1;cases k2;subst hH;subst hv;exact tE s2 hp b1 b2
  ·obtain⟨ga,gb⟩:=tU g2
   obtain⟨vs2,d1,q1⟩:=h1 P2 φ2 H2 st2 f2 s2 ga;obtain⟨us2,d2,q2⟩:=h2 P2 φ2 H2 st2 f2 s2 gb;refine⟨vs2,us2,d1,d2,?_⟩;rw[<- q1.length,<- q2.length];simp only[zH,List.length_zip];lia
noncomputable def eN(n0:Nat)(xs:List AV):List AV:=(xs.zipIdx n0).map fun z=>.tup [.int ((z.2:Nat):Int),z.1]
theorem rg[MV]{mg:Gm}{P:Pr}{φ:List Addr}{H:Hp}{K:Frag}{a:Addr}{iv:Iv}{n0:Nat}(h:∀P2 φ2 H2 st2,Frm P φ H P2 φ2 H2->Sim mg P2 φ2 st2 H2->cp iv.gd st2=true->∃vs,bQ K H2 a vs/\MY mg P2 H2 φ2 iv.MW vs):ui mg (xX K a n0) ⟨eN n0 iv.MW,iv.gd⟩ P φ H where
 go:=fun P2 φ2 H2 st2 i x f s g e=>by
  obtain⟨vs,rd,ra⟩:=h P2 φ2 H2 st2 f s g;unfold eN at e;rw[zR,List.getElem?_zipIdx]at e;cases hz:iv.MW[i]? with
  |none=>rw[hz]at e;cases e
  |some y =>
   rw[hz]at e;cases e;obtain⟨v,e1,r1⟩:=ra.get hz;refine⟨⟨vs,v,rd,e1⟩,fun w H3 hq0=>?_⟩;obtain⟨pp,u,hx,hp,hH,hw⟩:=hq0
   have:=hx vs rd
   rw[e1]at this;cases this;subst hH;subst hw;exact tE s hp (by simp only[RA]) r1
 stop:=fun P2 φ2 H2 st2 f s g=>by
  obtain⟨vs,rd,ra⟩:=h P2 φ2 H2 st2 f s g;exact⟨vs,rd,by rw[<- ra.length];simp[eN]⟩
def Jb(f:EF):IF:=fun sl st=>(f sl st).bind fun p=>(iy p.2 p.1).map fun iv=>(⟨eN 0 iv.MW,iv.gd⟩,p.2)
theorem G3[MV]{x1:Nat}(hg:Gl X "enumerate")(hm:X.mg "enumerate"=none)(ha:QE X a f)(hs:starEach [a] X.env=[(false,eval a X.env)]) :
  QI X (.Tuple elts x1 tpos) (.Call (.Name "enumerate" p) [a] [] pos) (Jb f) :=
 ik (CF hg hm (c5 ha fe (by rw[hs];rfl)) hs) fun σ H R hq0=>by
  obtain⟨P,φ,sl,st,rs,s,iv,st',ef,k⟩:=hq0;obtain⟨q,e1,e2⟩:=zA ef;obtain⟨iv',e3,e4⟩:=zE.mp e2;cases e4;refine wo rs s ⟨q.1,q.2,e1,fun P1 φ1 H1 w f1 s1 r1=>?_⟩;obtain⟨a1,rfl,h1⟩:=kA s1 r1 e3;obtain⟨vs,rd1,_⟩:=h1 P1 φ1 H1 q.2 Frm.refl s1 (kz e3);exact⟨a1,rfl,⟨vs,rd1⟩,k P1 φ1 H1 _ f1 s1 (rg h1)⟩
end
end R
namespace L2
open PySem PySem.Spec PyProof.Rows
section
variable{prog:Program}{w:World}{A:Around}{E:Value->Shared->Prop}{s:Shared}
theorem xx(l:Addr)(items:Array Value)(n:Nat)(dct:Option Addr)(sl:Array (Option Value))(t:Tok)(i:Int)(hf:Builtin.SmallTypes.fitsIndex i=true) :
  Meets (Builtin.«enumerate.__new__» ⟨[.type "enumerate",.ref l],[("start",.int i t)]⟩) (fun _ R s=>s.heap.get? l=some { cls:=.type "list",dict:=dct,data:=.seq items n,slots:=sl } /\
   R (.ok (.ret (.ref (s.heap.push { cls:=.type "list_iterator",data:=.fields #[.ref l,.int 0 0] }).objs.size)))
    { s with heap:=(s.heap.push { cls:=.type "list_iterator",data:=.fields #[.ref l,.int 0 0] }).push { cls:=.type "enumerate",data:=.fields #[.none,.bool false,.ref s.heap.objs.size,rawInt i,.none,.none] } }):=Meets.of_wp fun prog w A R s h=>by
  obtain⟨hp,g,d,tk,os⟩:=s;obtain⟨hl,h⟩:=h;have hsub:=sub_enumerate;have hL:Heap.IsList (Shared.heap ⟨hp,g,d,tk,os⟩) l items:=⟨_,hl,rfl,n,rfl⟩
  wp_walk using AutoSeq1.wpAny_loadPart' hl
  refine wpAny_stack_any fun st=>yG ?_
  split
  ·rename_i c _ _ _ _ _
   cases (c==Value.type "enumerate")
   ·wp_walk using AutoSeq1.wpAny_loadPart' hl,wpAny_pyIter_list hL
    exact⟨_,rfl,h⟩
   ·wp_walk using AutoSeq1.wpAny_loadPart' hl,wpAny_pyIter_list hL
    exact⟨_,rfl,h⟩
  ·wp_walk using AutoSeq1.wpAny_loadPart' hl,wpAny_pyIter_list hL
   exact⟨_,rfl,h⟩
theorem vI{l:Addr}{items:Array Value}{t:Tok}{i:Int}{Q:Value->Shared->Prop}(hf:Builtin.SmallTypes.fitsIndex i=true)(hL:s.heap.IsList l items)
  (h:∀h',IsEnum h' (s.heap.objs.size+1) s.heap.objs.size i .none->h'.IsListIter s.heap.objs.size l 0->(∀b o,s.heap.get? b=some o->h'.get? b=some o)->Q (.ref (s.heap.objs.size+1)) { s with heap:=h' }) :
  wpAny (model prog w) A (call (.type "enumerate") [.ref l] [("start",.int i t)]) Q E s:=by
 obtain⟨⟨c0,dct,dt,sl⟩,hl,hc0,n,hd⟩:=hL;dsimp only at hc0 hd;subst hc0 hd;have ft:=F.called_enumerate;obtain⟨c,tl,hmro⟩:=ft.mro;have hmade:=ft.made;have hsub:=ft.sub;have h1:=ft.notType;have h2:=ft.canCreate;have hct:=qu (.ref l) (.int i t);have hcn:=pX (.ref l) (.int i t);refine wpAny_call (codeAny_of_tree ?_);show wpAny _ _ (callAny (.type "enumerate") _) _ _ _;refine yG ⟨Code.quiet_builtin _ (by decide +kernel),codeAny_builtin F.entry_type_call ?_⟩;rw[Around.under_plain (weight_type_call_type "enumerate" _ _) (units_type_call_type "enumerate" _ _)]
 repeat (any_goals (first | assumption | wp_step))
 have hz:(s.heap.push { cls:=.type "list_iterator",data:=.fields #[.ref l,.int 0 0] }).objs.size=s.heap.objs.size+1:=Heap.size_push ..;have he:=zY (s.heap.push { cls:=.type "list_iterator",data:=.fields #[.ref l,.int 0 0] }) (o:={ cls:=.type "enumerate",data:=.fields #[.none,.bool false,.ref s.heap.objs.size,rawInt i,.none,.none] }) rfl;rw[hz]at he;refine codeAny_mono (codeAny_call_builtin (R:=wants (fun obj s₁=>s₁.TypeIs obj "enumerate"/\Q obj s₁) E) ft.plain F.entry_enumerate_new (wpAny_of_eq hcn (xx l items n dct sl t i hf prog w A.in1 _ s ⟨hl,?_⟩))) fun r s₁ hr=>?_
 ·show _/\_
  rw[hz];exact⟨⟨_,he,rfl⟩,h _ he ⟨_,zG _ (zY _ rfl),rfl,rfl⟩ fun b o x=>zG _ (zG _ x)⟩
 ·cases r with
  |error e=>exact hr
  |ok fl =>
   cases fl with
   |ret obj =>
    obtain⟨hT,hq0⟩:=hr;have hli:=ft.init.lookup;have hbi:=ft.init.bind obj
    repeat (any_goals (first | assumption | wp_step))
    refine codeAny_mono (codeAny_call_builtin (R:=wants (fun r s₂=>r=.none/\Q obj s₂) E) ft.init.plain F.entry_object_init (ft.init.check _ _ _ _ _ _ _ _ hT (oV obj (.ref l) (.int i t)) (vA ft.init.lookup ft.made dC prog w A.in1 _ s₁ ⟨hT,rfl,hq0⟩))) fun r₂ s₂ hr₂=>?_
    cases r₂ with
    |error e=>exact hr₂
    |ok fl₂ =>
     cases fl₂ with
     |ret r =>
      obtain⟨rfl,hq⟩:=hr₂
      repeat (any_goals (first | assumption | wp_step))
     |_=>exact hr₂.elim
   |_=>exact hr.elim
end
end L2
namespace R
open PySem PySem.Spec PyProof.Rows L2
open DD (PE_imp PT_imp PA_imp PS_imp PSs_imp OpR_imp PW_imp PG_imp pyOk)
section
variable{X:Cx}{tg e a b:Expr}{es:List Expr}{pos p kp:Pos}
theorem zj[MV]{x1:Nat}(hg:Gl X "enumerate")(hm:X.mg "enumerate"=none)(ha:PA X [a] ta)(hb:PE X b tb)(hs:starEach [a] X.env=[(false,eval a X.env)]) :
  PI X (.Tuple elts x1 tpos) (.Call (.Name "enumerate" p) [a] [⟨some "start",b,kp⟩] pos) (fun σ H R=>ta σ H fun vs H1=>tb σ H1 fun y H2=>∃l n0,vs=[.ref l]/\y=.int ((n0:Nat):Int)/\n0<=1000000/\(∃xs,bQ X.K H2 l xs)/\R (xX X.K l n0) H2):=by
 intro MS s σ H R I h;refine wpAny_Call_Name_kw (dD I hg hm pN (sk (by rw[hs];rfl) (by rfl) ?_));have hA:=ha pos MS s σ H _ I h;rw[hs]at hA ⊢;refine PyProof.Rows.evalArgs_kwB (by rfl) (yi hA fun us s1 hq0=>?_);obtain⟨vs,H1,I1,r1,q1⟩:=hq0;refine PyProof.Rows.kws_cons (aD (hb MS s1 σ H1 _ I1 q1) fun u s2 ⟨y,H2,I2,r2,l,n0,e1,e2,hn,⟨xs,hq⟩,q⟩=>PyProof.Rows.kws_nil ?_);subst e1;subst e2;obtain⟨t,rfl⟩:=r2;cases r1 with
 |cons r rr =>
  cases rr;cases r;obtain⟨MW,rv,p1,_⟩:=I2.list hq;show wpAny _ _ (call (.type "enumerate") [.ref l] [("start",.int ((n0:Nat):Int) t)]) _ _ _;refine vI (s:=s2) ?_ p1.isList fun h' he hi hk=>?_
  ·unfold Builtin.SmallTypes.fitsIndex
   simp only[zC,yC];lia
  refine wpAny_pyIter_enum (s:={ s2 with heap:=h' }) he ?_;exact rP (t':=s2.toks) (n0:=n0) I2 he hi hk q
def vB(f g:EF):IF:=fun sl st=>(f sl st).bind fun p=>(g sl p.2).bind fun q=>match q.1 with
 |.int i=>if(decide (0<=i)&&Nat.ble i.natAbs 1000000)=true then(iy q.2 p.1).map fun iv=>(⟨eN i.toNat iv.MW,iv.gd⟩,q.2) else none
 |_=>none
theorem Es[MV]{x1:Nat}(hg:Gl X "enumerate")(hm:X.mg "enumerate"=none)(ha:QE X a f)(hb:QE X b g)(hs:starEach [a] X.env=[(false,eval a X.env)]) :
  QI X (.Tuple elts x1 tpos) (.Call (.Name "enumerate" p) [a] [⟨some "start",b,kp⟩] pos) (vB f g) :=
 ik (zj hg hm (c5 ha fe (by rw[hs];rfl)) hb hs) fun σ H R hq0=>by
  obtain⟨P,φ,sl,st,rs,s,iv,st',ef,k⟩:=hq0;obtain⟨q,e1,e2⟩:=zA ef;obtain⟨r,e3,e4⟩:=zA e2;refine wo rs s ⟨q.1,q.2,e1,fun P1 φ1 H1 w f1 s1 r1=>⟨P1,φ1,sl,q.2,rs.frm f1,s1,r.1,r.2,e3,fun P2 φ2 H2 w2 f2 s2 r2=>?_⟩⟩;split at e4
  ·rename_i i ei
   rw[ei]at r2;simp only[RA]at r2;subst r2;split at e4
   ·rename_i hc
    simp only[zC,yC]at hc;have hc2:=zS hc.2;obtain⟨iv',e5,e6⟩:=zE.mp e4;cases e6;obtain⟨a1,rfl,h1⟩:=kA s2 (r1.frm f2) e5;obtain⟨vs,rd1,_⟩:=h1 P2 φ2 H2 r.2 Frm.refl s2 (kz e5);exact⟨a1,i.toNat,rfl,by rw[Int.toNat_of_nonneg hc.1],by lia,⟨vs,rd1⟩,k P2 φ2 H2 _ (f1.trans f2) s2 (rg h1)⟩
   ·cases e4
  ·cases e4
end
mutual
noncomputable def rf:AV->Bool
 |.ref _=>false
 |.tup xs=>rfs xs
 |_=>true
noncomputable def rfs:List AV->Bool
 |[]=>true
 |x::xs=>rf x&&rfs xs
end
mutual
theorem RA.rf:∀{t:AV}{v:V},R.rf t=true->RA mg P H φ t v->RA mg P H ψ t v
 |.non,_,_,h=>by simp only[RA]at h ⊢;exact h
 |.bl _,_,_,h=>by simp only[RA]at h ⊢;exact h
 |.int _,_,_,h=>by simp only[RA]at h ⊢;exact h
 |.str _,_,_,h=>by simp only[RA]at h ⊢;exact h
 |.fz _,_,_,h=>by simp only[RA]at h ⊢;exact h
 |.ref k,_,e,_=>by simp only[R.rf]at e;cases e
 |.tup xs,_,e,h=>by
  simp only[RA,R.rf]at h e ⊢;obtain⟨a,vs,r,p,e',q⟩:=h;exact⟨a,vs,r,p,e',MY.rf e q⟩
theorem MY.rf:∀{ts:List AV}{vs:List V},R.rfs ts=true->MY mg P H φ ts vs->MY mg P H ψ ts vs
 |[],_,_,h=>by simp only[MY]at h ⊢;exact h
 |t::ts,_,e,h=>by
  simp only[MY,R.rfs,zC]at h e ⊢;obtain⟨v,ws,e',r,q⟩:=h;exact⟨v,ws,e',RA.rf e.1 r,MY.rf e.2 q⟩
end
abbrev NF:=Sl->aa->Option (List AV×aa)
def rN[MV](mg:Gm)(f:NF):TE:=fun σ H Q=>∃P φ sl st,M4 mg P H φ sl σ/\Sim mg P φ st H/\∃xs st',f sl st=some (xs,st') /\
 ∀P' φ' H' p vs,Frm P φ H P' φ' H'->Sim mg P' φ' st' H'->H' p=none->MY mg P' H' φ' xs vs->Q (.ref p) (af H' p (.lst vs))
def QN[MV](X:Cx)(e:Expr)(f:NF):Prop:=PE X e (rN X.gm f)
def Lx(f:NF):EF:=fun sl st=>(f sl st).bind fun p=>if rfs p.1=true then some (.fz p.1,p.2) else none
def Lw(f:NF):EF:=fun sl st=>(f sl st).bind fun p=>some (.ref p.2.length,p.2++[.lst p.1])
theorem FZ[MV]{mg:Gm}{P:Pr}{φ:List Addr}{st:aa}{H:Hp}{p:Addr}{xs:List AV}{vs:List V}(s:Sim mg P φ st H)(hp:H p=none)(hr:rfs xs=true)(r:MY mg P H φ xs vs) :
  ∃P3,Frm P φ H P3 φ (af H p (.lst vs))/\Sim mg P3 φ st (af H p (.lst vs))/\RA mg P3 (af H p (.lst vs)) φ (.fz xs) (.ref p):=by
 obtain⟨f3,s3⟩:=mY (o:=.lst vs) s hp;refine⟨_,f3,s3,?_⟩;simp only[RA];exact⟨p,vs,rfl,.inl ⟨.inr rfl,.inl ay⟩,MY.rf hr (r.frm f3)⟩
theorem Ff[MV]{mg:Gm}{P:Pr}{φ:List Addr}{st:aa}{H:Hp}{p:Addr}{xs:List AV}{vs:List V}(s:Sim mg P φ st H)(hp:H p=none)(r:MY mg P H φ xs vs) :
  Frm P φ H P (φ++[p]) (af H p (.lst vs))/\Sim mg P (φ++[p]) (st++[.lst xs]) (af H p (.lst vs))/\RA mg P (af H p (.lst vs)) (φ++[p]) (.ref st.length) (.ref p):=by
 have ne:∀a,H a≠none->a≠p:=fun a h e=>h (by rw[e];exact hp)
 obtain⟨f3,s3⟩:=mB (c:=.lst xs) (o:=.lst vs) s hp ⟨fun z=>s.dom p z hp,vs,ay,r.mono (fun a h=>⟨h,ad (ne a (s.dom a h))⟩) fun k a e=>by rw[zN (zB.mp e).1];exact e⟩;refine⟨f3,s3,?_⟩;simp only[RA];exact⟨p,by rw[<- s.len];simp,rfl⟩
section
variable{X:Cx}{e a b:Expr}{es:List Expr}{pos:Pos}{f:NF}
noncomputable def cA(n:Nat):Bool:=Nat.ble n 1000000
theorem ju{n:Nat}(h:cA n=true):n<=sizeLine:=z5 (zS h) dC
def IU(g:AF):NF:=fun sl st=>(g sl st).bind fun p=>if cA p.1.length=true then some p else none
theorem Cj[MV](h:QA X es g):QN X (.List es pos) (IU g) :=
 PE_imp (wE h) fun σ H Q hq0=>by
  obtain⟨P,φ,sl,st,rs,s,xs,st',ef,k⟩:=hq0;obtain⟨q,e1,e2⟩:=zA ef;split at e2
  ·rename_i hz
   cases e2;exact⟨P,φ,sl,st,rs,s,xs,st',e1,fun P1 φ1 H1 vs f1 s1 r1=>⟨by rw[<- r1.length];exact ju hz,fun p hp=>k P1 φ1 H1 p vs f1 s1 hp r1⟩⟩
  ·cases e2
def qK(f g:EF):NF:=fun sl st=>(f sl st).bind fun p=>(g sl p.2).bind fun q=>(bO q.2 p.1).bind fun xs=>(bO q.2 q.1).bind fun ys=>if cA (xs.length+ys.length)=true then some (xs++ys,q.2) else none
theorem Ep[MV]{f g:EF}(ha:QE X a f)(hb:QE X b g):QN X (.BinOp a .Add b pos) (qK f g) :=
 PE_imp (u5 CP ha hb) fun σ H Q hq0=>by
  obtain⟨P,φ,sl,st,rs,s,xs,st',ef,k⟩:=hq0;obtain⟨q,e1,e2⟩:=zA ef;obtain⟨r,e3,e4⟩:=zA e2;obtain⟨x,e5,e6⟩:=zA e4;obtain⟨y,e7,e8⟩:=zA e6;split at e8
  ·rename_i hz
   cases e8;refine⟨P,φ,sl,st,rs,s,q.1,q.2,e1,fun P1 φ1 H1 w f1 s1 r1=>⟨P1,φ1,sl,q.2,rs.frm f1,s1,r.1,r.2,e3,fun P2 φ2 H2 w2 f2 s2 r2=>?_⟩⟩;obtain⟨a1,vs,rfl,d1,q1⟩:=(r1.frm f2).ls s2 e5;obtain⟨a2,us,rfl,d2,q2⟩:=r2.ls s2 e7;exact⟨a1,a2,vs,us,rfl,rfl,d1,d2,by rw[<- q1.length,<- q2.length];exact ju hz,fun p hp=>k P2 φ2 H2 p _ (f1.trans f2) s2 hp (q1.app q2)⟩
  ·cases e8
def ve(g:AF)(f:EF):NF:=fun sl st=>(g sl st).bind fun p=>(f sl p.2).bind fun q=>match q.1 with
 |.int k=>if(fA k&&cA (p.1.length*k.toNat)&&cA p.1.length)=true then some ((List.replicate k.toNat p.1).flatten,q.2) else none
 |_=>none
theorem MY.rep(h:MY mg P H φ xs vs):∀k:Nat,MY mg P H φ (List.replicate k xs).flatten (List.replicate k vs).flatten
 |0=>bG
 |k+1=>by rw[List.replicate_succ,List.replicate_succ,List.flatten_cons,List.flatten_cons];exact h.app (MY.rep h k)
theorem El[MV]{g:AF}{f:EF}{pos':Pos}(h:QA X es g)(hb:QE X b f):QN X (.BinOp (.List es pos') .Mult b pos) (ve g f) :=
 PE_imp (u5 E6 (wE h) hb) fun σ H Q hq0=>by
  obtain⟨P,φ,sl,st,rs,s,xs,st',ef,k⟩:=hq0;obtain⟨q,e1,e2⟩:=zA ef;obtain⟨r,e3,e4⟩:=zA e2;split at e4
  ·rename_i j ej
   split at e4
   ·rename_i hc
    cases e4;simp only[zC]at hc;refine⟨P,φ,sl,st,rs,s,q.1,q.2,e1,fun P1 φ1 H1 vs f1 s1 r1=>⟨by rw[<- r1.length];exact ju hc.2,fun p hp=>?_⟩⟩
    -- the list itself is a cell that nobody has
    obtain⟨f2,s2⟩:=mY (o:=.lst vs) s1 hp;refine⟨_,φ1,sl,q.2,(rs.frm f1).frm f2,s2,r.1,r.2,e3,fun P3 φ3 H3 w f3 s3 r3=>?_⟩;rw[ej]at r3;simp only[RA]at r3;subst r3;have hH:H3 p=some (.lst vs):=by rw[(f3.ext p (.inr rfl)).2,ay]
    have hj:=gi hc.1.1;refine⟨p,j,vs,rfl,rfl,hH,by lia,by lia,by rw[<- r1.length];exact ju hc.1.2,fun p' hp'=>?_⟩;exact k P3 φ3 H3 p' _ ((f1.trans f2).trans f3) s3 hp' (MY.rep ((r1.frm f2).frm f3) _)
   ·cases e4
  ·cases e4
abbrev OF:=Sl->aa->Option (Option Int×aa)
def rO[MV](mg:Gm)(f:OF):TO:=fun σ H Q=>∃P φ sl st,M4 mg P H φ sl σ/\Sim mg P φ st H/\KG mg RB P φ H (f sl st) Q
def QO[MV](X:Cx)(e:Option Expr)(f:OF):Prop:=PO X e (rO X.gm f)
def A9:OF:=fun _ st=>some (none,st)
def lF(f:EF):OF:=fun sl st=>(f sl st).bind fun p=>match p.1 with
 |.int i=>some (some i,p.2)
 |_=>none
theorem uf(h:PO X eo t)(i:∀σ H Q,t' σ H Q->t σ H Q):PO X eo t':=fun MS s σ H Q I h'=>h MS s σ H Q I (i σ H Q h')
theorem Ci[MV]:QO X none A9:=uf CB fun σ H Q ⟨P,φ,sl,st,rs,s,k⟩=>k.pure s rfl
theorem Ch[MV]{f:EF}(h:QE X e f):QO X (some e) (lF f):=uf (CA h) fun σ H Q ⟨P,φ,sl,st,rs,s,k⟩=>⟨P,φ,sl,st,rs,s,by
 obtain⟨a,st',e1,q⟩:=k.bind (Ra:=RA);refine⟨a,st',e1,fun P1 φ1 H1 c f1 s1 r1=>?_⟩;obtain⟨P2,φ2,st2,x,f2,s2,r2,k2⟩:=q P1 φ1 H1 c f1 s1 r1;cases x<;>first|exact k2.no.elim|skip
 rename_i i;simp only[RA]at r2;exact⟨i,r2,k2.pure s2 rfl⟩⟩
def cut{α:Type}(xs:List α)(lo hi:Option Int):List α:=(xs.drop (HT.M7 xs.length 0 lo)).take (HT.M7 xs.length xs.length hi-HT.M7 xs.length 0 lo)
theorem MY.cut(h:MY mg P H φ xs vs)(lo hi:Option Int):MY mg P H φ (R.cut xs lo hi) (o6 vs lo hi):=by
 unfold R.cut o6;rw[h.length];exact(h.drop _).take _
theorem JS[MV]{mg:Gm}{f:EF}{l h:OF}{σ:St}{H:Hp}{P:Pr}{φ:List Addr}{sl:Sl}{st:aa}(rs:M4 mg P H φ sl σ)(s:Sim mg P φ st H){r:V->Option Int->Option Int->Hp->VK->Prop}{Q:VK}
  (k:∃v st1 lo st2 hi st3,f sl st=some (v,st1)/\l sl st1=some (lo,st2)/\h sl st2=some (hi,st3)/\∀P' φ' H' w,Frm P φ H P' φ' H'->Sim mg P' φ' st3 H'->RA mg P' H' φ' v w->r w lo hi H' Q):IG r (rE mg f) (rO mg l) (rO mg h) σ H Q:=by
 obtain⟨v,st1,lo,st2,hi,st3,e1,e2,e3,k⟩:=k;refine⟨P,φ,sl,st,rs,s,v,st1,e1,fun P1 φ1 H1 w f1 s1 r1=>⟨P1,φ1,sl,st1,rs.frm f1,s1,lo,st2,e2,fun P2 φ2 H2 lo' f2 s2 r2=>⟨P2,φ2,sl,st2,(rs.frm f1).frm f2,s2,hi,st3,e3,fun P3 φ3 H3 hi' f3 s3 r3=>?_⟩⟩⟩;cases r2;cases r3;exact k P3 φ3 H3 w ((f1.trans f2).trans f3) s3 ((r1.frm f2).frm f3)
def lI(f:EF)(l h:OF):NF:=fun sl st=>(f sl st).bind fun p=>(l sl p.2).bind fun q=>(h sl q.2).bind fun r=>(bO r.2 p.1).map fun xs=>(cut xs q.1 r.1,r.2)
theorem GZ[MV]{f:EF}{l h:OF}{lo hi:Option Expr}{p2:Pos}(ha:QE X a f)(hl:QO X lo l)(hh:QO X hi h):QN X (.Subscript a (.Slice lo hi none p2) pos) (lI f l h) :=
 PE_imp (zn B4 ha hl hh) fun σ H Q hq0=>by
  obtain⟨P,φ,sl,st,rs,s,xs,st',ef,k⟩:=hq0;obtain⟨q,e1,e2⟩:=zA ef;obtain⟨r,e3,e4⟩:=zA e2;obtain⟨t,e5,e6⟩:=zA e4;obtain⟨ys,e7,e8⟩:=zE.mp e6;cases e8;refine JS rs s ⟨q.1,q.2,r.1,r.2,t.1,t.2,e1,e3,e5,fun P1 φ1 H1 w f1 s1 r1=>?_⟩;obtain⟨a1,vs,rfl,d1,q1⟩:=r1.ls s1 e7;exact⟨a1,vs,rfl,d1,fun p hp=>k P1 φ1 H1 p _ f1 s1 hp (q1.cut _ _)⟩
def oP(f:EF):NF:=fun sl st=>(f sl st).bind fun p=>match bO p.2 p.1 with
 |some xs=>some (xs,p.2)
 |none=>(iO p.2 p.1).map fun xs=>(xs,p.2)
theorem Eo[MV]{f:EF}{p pos:Pos}(hg:Gl X "list")(hm:X.mg "list"=none)(ha:QE X a f)(hs:starEach [a] X.env=[(false,eval a X.env)]):QN X (.Call (.Name "list" p) [a] [] pos) (oP f) :=
 PE_imp (pw sf hg hm jU (c5 ha fe (by rw[hs];rfl)) (he:=by rw[hs];rfl) (hpl:=rfl)) fun σ H Q hq0=>by
  obtain⟨P,φ,sl,st,rs,s,xs,st',ef,k⟩:=hq0;obtain⟨q,e1,e2⟩:=zA ef;refine wo rs s ⟨q.1,q.2,e1,fun P1 φ1 H1 w f1 s1 r1=>?_⟩;split at e2
  ·rename_i ys e3
   cases e2;obtain⟨a1,vs,rfl,d1,q1⟩:=r1.ls s1 e3;exact⟨a1,vs,rfl,.inl d1,fun p hp=>k P1 φ1 H1 p vs f1 s1 hp q1⟩
  ·obtain⟨ys,e3,e4⟩:=zE.mp e2
   cases e4;obtain⟨a1,vs,rfl,d1,q1⟩:=r1.tp s1 e3;exact⟨a1,vs,rfl,.inr (.inl (.inl d1)),fun p hp=>k P1 φ1 H1 p vs f1 s1 hp q1⟩
end
abbrev GF:=AV->Sl->aa->Option (Sl×aa)
abbrev sH:=List AV->Sl->aa->Option (Sl×aa)
def KS[MV](mg:Gm)(P:Pr)(φ:List Addr)(H:Hp)(r:Option (Sl×aa))(Q:St->Hp->Prop):Prop :=
 ∃sl' st',r=some (sl',st')/\∀P' φ' H' σ',Frm P φ H P' φ' H'->Sim mg P' φ' st' H'->M4 mg P' H' φ' sl' σ'->Q σ' H'
def rG[MV](mg:Gm)(f:GF):TG:=fun v σ H Q=>∃P φ sl st x,M4 mg P H φ sl σ/\Sim mg P φ st H/\RA mg P H φ x v/\KS mg P φ H (f x sl st) Q
def K8[MV](mg:Gm)(f:sH):mf:=fun vs σ H Q=>∃P φ sl st xs,M4 mg P H φ sl σ/\Sim mg P φ st H/\MY mg P H φ xs vs/\KS mg P φ H (f xs sl st) Q
def QG[MV](X:Cx)(tg:Expr)(f:GF):Prop:=PG X tg (rG X.gm f)
def xT[MV](X:Cx)(tgs:List Expr)(f:sH):Prop:=pV X tgs (K8 X.gm f)
def xo(i:Nat):GF:=fun x sl st=>some (sl.set i (some x),st)
def FT:sH:=fun xs sl st=>match xs with
 |[]=>some (sl,st)
 |_=>none
def FX(f:GF)(g:sH):sH:=fun xs sl st=>match xs with
 |x::xs=>(f x sl st).bind fun p=>g xs p.1 p.2
 |[]=>none
def xn(n:Nat)(g:sH):GF:=fun x sl st=>match iO st x with
 |some xs=>if xs.length=n then g xs sl st else none
 |none=>match bO st x with
  |some xs=>if xs.length=n then g xs sl st else none
  |none=>none
theorem sE(h:pV X tgs t)(i:∀v σ H Q,t' v σ H Q->t v σ H Q):pV X tgs t':=fun MS s σ H v u Q I rv h'=>h MS s σ H v u Q I rv (i v σ H Q h')
section
variable{X:Cx}{e a b:Expr}{es:List Expr}{pos:Pos}
theorem KS.pure[MV]{mg:Gm}{P:Pr}{φ:List Addr}{H:Hp}{sl:Sl}{st:aa}{σ:St}{Q:St->Hp->Prop}(h:KS mg P φ H (some (sl,st)) Q)(s:Sim mg P φ st H)(r:M4 mg P H φ sl σ):Q σ H:=by
 obtain⟨_,_,e,q⟩:=h;cases e;exact q P φ H σ Frm.refl s r
theorem Cn[MV]{i:Nat}(hN:X.N.Nodup)(hi:X.N[i]?=some x)(hx:Loc X.env.scope x)(hf:X.fn x=true\/X.env.scope.names.lookup x=some .local):QG X (.Name x pos) (xo i) :=
 PG_imp (CJ hN hi hx hf) fun v σ H Q ⟨P,φ,sl,st,x,rs,s,rx,k⟩=>k.pure s (rs.set rx i)
theorem Cm[MV]:xT X [] FT:=sE CH fun v σ H Q hq0=>by
 obtain⟨P,φ,sl,st,xs,rs,s,rx,k⟩:=hq0;cases xs with
 |nil=>simp only[MY]at rx;exact⟨rx,k.pure s rs⟩
 |cons _ _=>obtain⟨_,_,e,_⟩:=k;cases e
theorem za[MV](h1:QG X e f)(h2:xT X es g)(hs:(assignEach (e::es) X.env).map (·.2)=assign e X.env::(assignEach es X.env).map (·.2)):xT X (e::es) (FX f g) :=
 sE (zk h1 h2 hs) fun v σ H Q hq0=>by
  obtain⟨P,φ,sl,st,xs,rs,s,rx,k⟩:=hq0;cases xs with
  |nil=>obtain⟨_,_,e,_⟩:=k;cases e
  |cons x xs =>
   simp only[MY]at rx;obtain⟨w,ws,rfl,r1,r2⟩:=rx;obtain⟨sl',st',e,q⟩:=k;obtain⟨p,e1,e2⟩:=zA e;exact⟨w,ws,rfl,P,φ,sl,st,x,rs,s,r1,p.1,p.2,e1,fun P1 φ1 H1 σ1 f1 s1 rs1=>⟨P1,φ1,p.1,p.2,xs,rs1,s1,r2.frm f1,sl',st',e2,fun P2 φ2 H2 σ2 f2 s2 rs2=>q P2 φ2 H2 σ2 (f1.trans f2) s2 rs2⟩⟩
theorem Hh(h:PG X tg t)(h':PG X tg t'):PG X tg (fun v σ H Q=>t v σ H Q\/t' v σ H Q):=fun MS s σ H v u Q I r q=>by
 rcases q with q|q
 ·exact h MS s σ H v u Q I r q
 ·exact h' MS s σ H v u Q I r q
theorem Et[MV]{k n:Nat}(hc:X.calm=true)(h:xT X es g)(hn:(assignEach es X.env).length=n)(hst:(assignEach es X.env).findIdx? (·.1)=none):QG X (.Tuple es k pos) (xn n g) :=
 PG_imp (Hh (ER (k:=k) hc h hn hst) (CI (k:=k) hc h hn hst)) fun v σ H Q hq0=>by
  obtain⟨P,φ,sl,st,x,rs,s,rx,kk⟩:=hq0;obtain⟨sl',st',e,q⟩:=kk;unfold xn at e;split at e
  ·rename_i xs ex
   split at e
   ·rename_i hl
    obtain⟨a1,vs,rfl,d1,q1⟩:=rx.tp s ex;exact .inl ⟨a1,vs,rfl,.inl (.inl d1),by rw[<- q1.length];exact hl,P,φ,sl,st,xs,rs,s,q1,sl',st',e,q⟩
   ·cases e
  ·split at e
   ·rename_i xs ex
    split at e
    ·rename_i hl
     obtain⟨a1,vs,rfl,d1,q1⟩:=rx.ls s ex;exact .inr ⟨a1,vs,rfl,d1,by rw[<- q1.length];exact hl,P,φ,sl,st,xs,rs,s,q1,sl',st',e,q⟩
    ·cases e
   ·cases e
noncomputable def mz{κ:Type}[DecidableEq κ](MU:List (κ×AV))(k:κ)(v:AV):List (κ×AV) :=
 if(MU.any fun kv=>decide (kv.1=k))=true then MU.map fun kv=>if kv.1=k then(kv.1,v) else kv else MU++[(k,v)]
theorem qF{P:Pr}{H:Hp}{φ:List Addr}{κ:Type}[DecidableEq κ]{MU:List (κ×AV)}{ws:List (κ×V)}{k:κ}{v:AV}{w:V}(h:KVR mg P H φ MU ws)(r:RA mg P H φ v w):KVR mg P H φ (mz MU k v) (eS ws k w):=by
 have hany:(MU.any fun kv=>decide (kv.1=k))=(ws.any fun kv=>decide (kv.1=k)):=by
  have h1:∀{α:Type} (l:List (κ×α)),(l.any fun kv=>decide (kv.1=k))=((l.map (·.1)).any fun x=>decide (x=k)):=fun l=>by rw[List.any_map];rfl
  rw[h1 MU,h1 ws,h.1]
 unfold mz eS;rw[hany];split
 ·clear hany
  rename_i hh;clear hh
  induction MU generalizing ws with
  |nil =>
   have:ws=[]:=by simpa using h.1.symm
   subst this;exact⟨rfl,bG⟩
  |cons p MU ih =>
   cases ws with
   |nil=>exact absurd h.1 (by simp)
   |cons q ws =>
    obtain⟨h1,h2⟩:=h;rw[zO,zO]at h1 h2;injection h1 with h3 h4;simp only[MY]at h2;obtain⟨u,us,h5,h6,h7⟩:=h2;injection h5 with h8 h9;subst h8;subst h9;have ih:=ih (ws:=ws) ⟨h4,h7⟩;have h3':p.1=q.1:=h3;by_cases e:q.1=k
    ·rw[zO,zO,yI e,yI (h3'.trans e)]
     exact⟨by rw[zO,zO,ih.1,h3'],aU r ih.2⟩
    ·rw[zO,zO,yH e,yH (fun z=>e (h3'.symm.trans z))]
     exact⟨by rw[zO,zO,ih.1,h3'],aU h6 ih.2⟩
 ·refine⟨by rw[List.map_append,List.map_append,h.1];rfl,?_⟩
  rw[List.map_append,List.map_append];exact h.2.app (aU r bG)
def jL(st:aa)(o i v:AV):Option aa:=match o with
 |.ref k=>match st[k]? with
  |some (.lst xs)=>match i with
   |.int j=>(lM xs.length j).map fun n=>st.set k (.lst (xs.set n v))
   |_=>none
  |some (.dK MU)=>(jP i).bind fun x=>if cA MU.length=true then some (st.set k (.dK (mz MU x v))) else none
  |some (.dT MU)=>match i with
   |.tup is=>(bH jP is).bind fun x=>if cA MU.length=true then some (st.set k (.dT (mz MU x v))) else none
   |_=>none
  |_=>none
 |_=>none
theorem A5[MV](hu:X.A.units+64<cLine):vN X (fun o i v H Q=>∃P φ st x y z st',Sim X.gm P φ st H/\RA X.gm P H φ x o/\RA X.gm P H φ y i/\RA X.gm P H φ z v/\jL st x y z=some st'/\∀P' φ' H',Frm P φ H P' φ' H'->Sim X.gm P' φ' st' H'->Q H'):=by
 rintro MS s σ H o i v ov iv u Q I ro ri rv ⟨P,φ,st,x,y,z,st',sm,rx,ry,rz,e,k⟩;unfold jL at e;cases x with
 |ref j =>
  simp only[RA]at rx;obtain⟨a,ea,rfl⟩:=rx;dsimp only at e;split at e
  ·rename_i xs hk
   obtain⟨a',ea',c⟩:=sm.at hk;rw[ea]at ea';cases ea';obtain⟨na,vs,q1,q2⟩:=c;cases y with
   |int n =>
    simp only[RA]at ry;subst ry;obtain⟨m,e1,e2⟩:=zE.mp e;subst e2;have hp:P a->False:=na;obtain⟨f3,s3⟩:=ie (c:=.lst (xs.set m z)) (o:=.lst (vs.set m v)) sm ea na ⟨na,_,ay,(q2.set rz m).mono (fun b h=>⟨h,ad fun e=>na (e▸h)⟩) fun _ _ z=>z⟩ (fun _ _ z=>by rw[q1]at z;cases z);exact yq MS s σ H _ _ v ov iv u Q I ro ri rv ⟨a,vs,n,m,rfl,rfl,q1,by rw[<- q2.length];exact e1,k P φ _ f3 s3⟩
   |_=>cases e
  ·rename_i MU hk
   obtain⟨a',ea',c⟩:=sm.at hk;rw[ea]at ea';cases ea';obtain⟨na,ws,q1,q2⟩:=c;obtain⟨x,e1,e2⟩:=zA e;split at e2
   ·rename_i hz
    cases e2
    have:=mF e1 ry
    subst this;cases ro;obtain⟨f3,s3⟩:=ie (c:=.dK (mz MU x z)) (o:=.dK (eS ws x v)) sm ea na ⟨na,_,ay,(qF q2 rz).mono (fun b h=>⟨h,ad fun e=>na (e▸h)⟩) fun _ _ z=>z⟩ (fun _ _ z=>by rw[q1]at z;cases z);refine pM oM I (DPut.k q1 ?_) ri rv fun s' I'=>⟨_,I',k P φ _ f3 s3⟩
    have:=congrArg List.length q2.1
    rw[zH,zH]at this;rw[<- this];have h1:=zS hz;have h2:(1000000:Nat)<sizeLine:=by decide
    lia
   ·cases e2
  ·rename_i MU hk
   obtain⟨a',ea',c⟩:=sm.at hk;rw[ea]at ea';cases ea';obtain⟨na,ws,q1,q2⟩:=c;cases y with
   |tup is =>
    dsimp only at e;obtain⟨x,e1,e2⟩:=zA e;split at e2
    ·rename_i hz
     cases e2;simp only[RA]at ry;obtain⟨b,us,rfl,_,hb,rr⟩:=ry;rw[pB e1 rr]at hb;cases ro;obtain⟨f3,s3⟩:=ie (c:=.dT (mz MU x z)) (o:=.dT (eS ws x v)) sm ea na ⟨na,_,ay,(qF q2 rz).mono (fun b h=>⟨h,ad fun e=>na (e▸h)⟩) fun _ _ z=>z⟩ (fun _ _ z=>by rw[q1]at z;cases z);refine pM oM I (DPut.t q1 hb ?_) ri rv fun s' I'=>⟨_,I',k P φ _ f3 s3⟩
     have:=congrArg List.length q2.1
     rw[zH,zH]at this;rw[<- this];have h1:=zS hz;have h2:(1000000:Nat)<sizeLine:=by decide
     lia
    ·cases e2
   |_=>cases e
  ·cases e
 |_=>cases e
def Jc(f g:EF):GF:=fun x sl st=>(f sl st).bind fun p=>(g sl p.2).bind fun q=>(jL q.2 p.1 q.1 x).map fun st'=>(sl,st')
theorem Eu[MV](hu:X.A.units+64<cLine)(ho:QE X o f)(hi:QE X i g)
  (ha:∀v,assign (.Subscript o i pos) X.env v=(do
   let ov <- holding [v] (eval o X.env)
   let iv <- holding [v,ov] (eval i X.env)
   standAt pos
   holding [v,ov,iv] (setItem ov iv v)
   release [v,ov,iv] [])):QG X (.Subscript o i pos) (Jc f g) :=
 PG_imp (ES ho hi (A5 hu) ha) fun v σ H Q hq0=>by
  obtain⟨P,φ,sl,st,x,rs,s,rx,sl',st',e,k⟩:=hq0;obtain⟨q,e1,e2⟩:=zA e;obtain⟨r,e3,e4⟩:=zA e2;obtain⟨z,e5,e6⟩:=zE.mp e4;cases e6;exact⟨P,φ,sl,st,rs,s,q.1,q.2,e1,fun P1 φ1 H1 w f1 s1 r1=>⟨P1,φ1,sl,q.2,rs.frm f1,s1,r.1,r.2,e3,fun P2 φ2 H2 w2 f2 s2 r2=>⟨P2,φ2,r.2,q.1,r.1,x,st',s2,r1.frm f2,r2,(rx.frm f1).frm f2,e5,fun P3 φ3 H3 f3 s3=>k P3 φ3 H3 σ ((f1.trans f2).trans f3) s3 (((rs.frm f1).frm f2).frm f3)⟩⟩⟩
end
def hid(H:Hp)(p:Addr):Hp:=fun b=>if b=p then none else H b
theorem bC(h:b≠p):hid H p b=H b:=yH h
theorem dh:hid H p p=none:=yI rfl
theorem BP(h:H p=some o):af (hid H p) p o=H:=by
 funext b;by_cases e:b=p
 ·subst e;rw[ay,h]
 ·rw[ad e,bC e]
theorem tQ:hid (af H p o) p=hid H p:=by
 funext b;by_cases e:b=p
 ·subst e;rw[dh,dh]
 ·rw[bC e,bC e,ad e]
theorem Ao(h:H p=none):hid H p=H:=by
 funext b;by_cases e:b=p
 ·subst e;rw[dh,h]
 ·rw[bC e]
section
variable{mg:Gm}{P P':Pr}{φ φ':List Addr}{st st':aa}{H H':Hp}{p:Addr}
theorem _root_.L2.fP.sh{P:Addr}{pos:Pos}{q:Str}(h:fP (hid H p) P pos q):fP H P pos q:=by
 obtain⟨ps,e,t,c⟩:=h;have ne:∀{a o},hid H p a=some o->H a=some o:=fun {a o} e=>by
  by_cases z:a=p
  ·rw[z,dh]at e;cases e
  ·rw[bC z]at e;exact e
 refine⟨ps,ne e,t,?_⟩;rcases c with c|⟨c',c1,c2⟩
 ·exact .inl c
 ·exact .inr ⟨c',c1,ne c2⟩
theorem _root_.L2.fP.hd{P:Addr}{pos:Pos}{q:Str}(h:fP H P pos q)(hl:∃vs,H p=some (.lst vs)):fP (hid H p) P pos q:=by
 obtain⟨ps,e,t,c⟩:=h;obtain⟨vs,hv⟩:=hl;refine⟨ps,by rw[bC (vc e hv fun z=>nomatch z)];exact e,t,?_⟩;rcases c with c|⟨c',c1,c2⟩
 ·exact .inl c
 ·exact .inr ⟨c',c1,by rw[bC (vc c2 hv fun z=>nomatch z)];exact c2⟩
theorem Sim.sh[MV](s:Sim mg P φ st (hid H p))(o:HO)(ho:H p=some o):Sim mg P φ st H/\∀a,P a->P a/\H a=hid H p a:=by
 have nP:∀a,P a->a≠p:=fun a h e=>s.dom a h (by rw[e];exact dh)
 have nC:∀a∈φ,a≠p:=fun a h e=>s.cd a h (by rw[e];exact dh)
 have ex:∀a,P a->P a/\H a=hid H p a:=fun a h=>⟨h,(bC (nP a h)).symm⟩
 exact⟨s.stay ex (fun a h=>(bC (nC a h)).symm) (fun _ _ h=>h) (fun a h=>by rw[(ex a h).2];exact s.dom a h) fun t ht=>⟨(s.tb t ht).1.sh,(s.tb t ht).2⟩,ex⟩
theorem Frm.hd[MV](s0:Sim mg P φ st (hid H p))(hl:∃vs,H p=some (.lst vs))(f:Frm P φ H P' φ' H')(s:Sim mg P' φ' st' H'):Frm P φ (hid H p) P' φ' (hid H' p)/\Sim mg P' φ' st' (hid H' p)/\(∀a,P' a->P' a/\hid H' p a=H' a)/\H' p=H p:=by
 have nP:∀a,P a->a≠p:=fun a h e=>s0.dom a h (by rw[e];exact dh)
 have nC:∀a∈φ,a≠p:=fun a h e=>s0.cd a h (by rw[e];exact dh)
 have hp:H p≠none:=fun z=>by obtain⟨vs,e⟩:=hl;rw[z]at e;cases e
 have kp:H' p=H p:=f.keep p hp (fun h=>nC p h rfl) fun ps z=>by obtain⟨vs,e⟩:=hl;rw[z]at e;cases e
 obtain⟨m,em,nm⟩:=f.new;have nP':∀a,P' a->a≠p:=fun a h e=>by
  rcases f.pn a h with z|z|z
  ·exact nP a z e
  ·exact hp (by rw[<- e];exact z)
  ·exact nC a z e
 have nC':∀a∈φ',a≠p:=fun a h e=>by
  rw[em]at h;rcases zZ.mp h with z|z
  ·exact nC a z e
  ·exact hp (by rw[<- e];exact nm a z)
 have hn:∀a,hid H p a≠none->a≠p:=fun a h e=>h (by rw[e];exact dh)
 have ex:∀a,P' a->P' a/\hid H' p a=H' a:=fun a h=>⟨h,bC (nP' a h)⟩
 refine⟨⟨fun a h=>⟨(f.ext a h).1,by rw[bC (nP a h),bC (nP a h)];exact(f.ext a h).2⟩,⟨m,em,fun a h=>?_⟩,fun a h n z=>?_,fun a h=>?_,fun a h=>?_,fun a o u h=>?_⟩,s.stay ex (fun a h=>bC (nC' a h)) (fun _ _ h=>h) (fun a h=>by rw[(ex a h).2];exact s.dom a h) (fun t ht=>⟨(s.tb t ht).1.hd (by rw[kp];exact hl),(s.tb t ht).2⟩),ex,kp⟩
 ·rw[bC (nC' a (by rw[em];exact zK _ h))];exact nm a h
 ·rw[bC (hn a h),bC (hn a h)]
  rw[bC (hn a h)]at z;rw[bC (hn a h)]at h;exact f.keep a h n z
 ·rcases f.pn a h with z|z|z
  ·exact .inl z
  ·exact .inr (.inl (by rw[bC (nP' a h)];exact z))
  ·exact .inr (.inr z)
 ·rw[bC (hn a h)]
  rw[bC (hn a h)]at h;exact f.sm a h
 ·have ne:=hn a (by rw[h];exact fun z=>nomatch z)
  rw[bC ne]at h ⊢;exact f.fz a o u h
end
def gH(gd:Gd)(g:GF)(t:TF)(f:EF)(sl:Sl):List AV->aa->Option (List AV×aa)
 |[],st=>if cp gd st=true then some ([],st) else none
 |x::xs,st=>if cp gd st=true then(g x sl st).bind fun p=>(t p.1 p.2).bind fun q=>if q.1=true then(f p.1 q.2).bind fun r=>(gH gd g t f sl xs r.2).map fun z=>(r.1::z.1,z.2) else gH gd g t f sl xs q.2 else none
def Ba(k:Nat)(it:IF)(g:GF)(t:TF)(f:EF):NF:=fun sl st=>(it sl st).bind fun p=>if cA p.1.MW.length=true then gH p.1.gd g t f (sl++List.replicate k none) p.1.MW p.2 else none
def IE:TF:=fun _ st=>some (true,st)
theorem M4.ext0(h:M4 mg P H φ sl σ)(k:Nat):M4 mg P H φ (sl++List.replicate k none) (σ++List.replicate k none):=by
 refine⟨by rw[zV,zV,h.1,List.length_replicate,List.length_replicate],fun i v e=>?_⟩;have hi:i<sl.length:=by
  rcases yU i sl.length with z|z
  ·exact z
  ·rw[z6 z,List.getElem?_replicate]at e
   split at e<;>cases e
 rw[zN hi]at e;rw[zN (by rw[<- h.1];exact hi)];exact h.2 i v e
def oq(n:Nat)(g:GF):Prop:=∀x sl st sl' st',g x sl st=some (sl',st')->sl'.length=sl.length/\∀j,j<n->sl'[j]?=sl[j]?
theorem M4.back{k:Nat}(h:M4 mg P H φ sl' σ)(hl:sl'.length=(sl++List.replicate k none).length)(hj:∀j,j<sl.length->sl'[j]?=(sl++List.replicate k none)[j]?):M4 mg P H φ (sl++List.replicate k none) σ:=by
 refine⟨by rw[<- hl];exact h.1,fun i v e=>?_⟩;have hi:i<sl.length:=by
  rcases yU i sl.length with z|z
  ·exact z
  ·rw[z6 z,List.getElem?_replicate]at e
   split at e<;>cases e
 exact h.2 i v (by rw[hj i hi];exact e)
theorem Fx[MV]{n k:Nat}(hk:oq n g)(hn:σ.length=n)(h:rN mg (Ba k it g t f) σ H Q):DL k (rI mg it) (rG mg g) (rT mg t) (rE mg f) σ H Q:=by
 obtain⟨P,φ,sl,st,rs,s,out,stE,ef,kk⟩:=h;obtain⟨q,e1,e2⟩:=zA ef;split at e2
 ·rename_i hz
  refine⟨P,φ,sl,st,rs,s,q.1,q.2,e1,fun P1 φ1 H1 J f1 s1 ij=>fun p hp=>?_⟩;have hsl:sl.length=n:=by rw[rs.1];exact hn
  refine⟨fun i m σ' H'=>m=q.1.MW.length-i/\i<=q.1.MW.length/\∃P' φ' st' xs vs zs,Frm P1 φ1 H1 P' φ' (hid H' p)/\Sim mg P' φ' st' (hid H' p)/\M4 mg P' (hid H' p) φ' (sl++List.replicate k none) σ'/\H' p=some (.lst vs)/\MY mg P' (hid H' p) φ' xs vs/\xs.length<=i /\
    gH q.1.gd g t f (sl++List.replicate k none) (q.1.MW.drop i) st'=some (zs,stE)/\out=xs++zs,⟨_,rfl,Nat.zero_le _,P1,φ1,q.2,[],[],out,?_⟩,?_⟩
  ·have e:hid (af H1 p (.lst [])) p=H1:=by rw[tQ,Ao hp]
   rw[e];exact⟨Frm.refl,s1,(rs.frm f1).ext0 k,ay,bG,zP _,by simpa using e2,rfl⟩
  ·rintro i m σ' H' ⟨rfl,hle,P2,φ2,st2,xs,vs,zs,f2,s2,rs2,hv,rx,hlen,eg,eo⟩
   obtain⟨s2v,ex2⟩:=s2.sh _ hv;have rs2v:M4 mg P2 H' φ2 (sl++List.replicate k none) σ':=⟨rs2.1,fun i v e=>let⟨w,e',r⟩:=rs2.2 i v e;⟨w,e',r.mono ex2 fun _ _ z=>z⟩⟩;have hpn:H' p≠none:=by rw[hv];exact fun z=>nomatch z
   -- the iterator's rules hold at the whole heap: it keeps what is out of sight as it is
   have f2v:Frm P1 φ1 H1 P2 φ2 H':=by
    refine⟨fun a h=>⟨(f2.ext a h).1,?_⟩,f2.new,fun a h n z=>?_,fun a h=>f2.pn a h,fun a h=>?_,fun a o u h=>?_⟩
    ·have ne:a≠p:=fun e=>s1.dom a h (by rw[e];exact hp)
     rw[<- bC (H:=H') ne];exact(f2.ext a h).2
    ·have ne:a≠p:=fun e=>h (by rw[e];exact hp)
     rw[<- bC (H:=H') ne];exact f2.keep a h n z
    ·have ne:a≠p:=fun e=>h (by rw[e];exact hp)
     rw[<- bC (H:=H') ne];exact f2.sm a h
    ·have ne:a≠p:=aX h hp
     rw[<- bC (H:=H') ne];exact f2.fz a o u h
   rcases yU i q.1.MW.length with hi|hi
   ·right
    rw[List.drop_eq_getElem_cons hi]at eg;simp only[gH]at eg;split at eg
    ·rename_i hgd
     obtain⟨go,yl⟩:=ij.go P2 φ2 H' st2 i _ f2v s2v hgd (zF hi);refine⟨go,fun x H3 hy=>?_⟩;obtain⟨P3,f3,s3,r3⟩:=yl x H3 hy;obtain⟨q4,e4,e5⟩:=zA eg;obtain⟨q6,e6,e7⟩:=zA e5;obtain⟨kl,kj⟩:=hk _ _ _ _ _ e4;refine⟨P3,φ2,sl++List.replicate k none,st2,q.1.MW[i],rs2v.frm f3,s3,r3,q4.1,q4.2,e4,fun P4 φ4 H4 σ4 f4 s4 rs4=>⟨P4,φ4,q4.1,q4.2,rs4,s4,q6.1,q6.2,e6,fun P5 φ5 H5 c f5 s5 r5=>?_⟩⟩;cases r5;have f35:=(f3.trans f4).trans f5;have back:∀{P6:Pr}{φ6:List Addr}{H6:Hp},Frm P5 φ5 H5 P6 φ6 H6->M4 mg P6 H6 φ6 (sl++List.replicate k none) σ4:=fun f6=>((rs4.frm f5).frm f6).back kl fun j hj=>kj j oM
     cases hc:q6.1 with
     |true =>
      rw[hc]at e7;simp only[if_true]at e7 ⊢;obtain⟨q8,e8,e9⟩:=zA e7;obtain⟨z,e10,e11⟩:=zE.mp e9;cases e11;refine⟨P5,φ5,q4.1,q6.2,rs4.frm f5,s5,q8.1,q8.2,e8,fun P6 φ6 H6 y f6 s6 r6=>?_⟩;obtain⟨fh,sh,exh,hpe⟩:=Frm.hd s2 ⟨_,hv⟩ (f35.trans f6) s6;refine⟨vs,by rw[hpe];exact hv,?_,q.1.MW.length-(i+1),by lia,rfl,hi,P6,φ6,q8.2,xs++[q8.1],vs++[y],z.1,?_⟩
      ·rw[<- rx.length]
       have h1:=zS hz;have h2:(1000000:Nat)<sizeLine:=by decide
       lia
      ·have eh:hid (af H6 p (.lst (vs++[y]))) p=hid H6 p:=tQ
       rw[eh];refine⟨f2.trans fh,sh,?_,ay,(rx.frm fh).app (aU (r6.mono exh fun _ _ z=>z) bG),by rw[zV];simp;lia,e10,by rw[eo,yN];rfl⟩
       have:=back f6
       exact⟨this.1,fun i v e=>let⟨w,e',r⟩:=this.2 i v e;⟨w,e',r.mono exh fun _ _ z=>z⟩⟩
     |false =>
      rw[hc]at e7;simp only[yB,if_false]at e7 ⊢;obtain⟨fh,sh,exh,hpe⟩:=Frm.hd s2 ⟨_,hv⟩ f35 s5;refine⟨q.1.MW.length-(i+1),by lia,rfl,hi,P5,φ5,q6.2,xs,vs,zs,f2.trans fh,sh,?_,by rw[hpe];exact hv,rx.frm fh,by lia,e7,eo⟩
      have:=back Frm.refl
      exact⟨this.1,fun i v e=>let⟨w,e',r⟩:=this.2 i v e;⟨w,e',r.mono exh fun _ _ z=>z⟩⟩
    ·cases eg
   ·left
    have ei:i=q.1.MW.length:=Nat.le_antisymm hle hi;subst ei;rw[List.drop_length]at eg;simp only[gH]at eg;split at eg
    ·rename_i hgd
     cases eg;refine⟨ij.stop P2 φ2 H' _ f2v s2v hgd,?_⟩
     have:=kk P2 φ2 (hid H' p) p vs (f1.trans f2) s2 dh (by rw[eo,List.append_nil];exact rx)
     rw[BP hv]at this;exact this
    ·cases eg
 ·cases e2
def ue[MV](X:Cx)(ifs:List Expr)(t:TF):Prop:=ug X ifs (rT X.gm t)
section
variable{X:Cx}{elt iter tg:Expr}{ifs:List Expr}{N':List Str}{scope:Scope}{pos:Pos}{it:IF}{g:GF}{t:TF}{f:EF}
theorem Cl[MV]:ue X [] IE:=fun MS s σ H Q I ⟨P,φ,sl,st,rs,sm,k⟩=>CD MS s σ H Q I (k.pure sm rfl)
theorem Ck[MV](h:QT X e t):ue X [e] t:=CC h
theorem Gw{e:Expr}{t t':TE}(h:PE X e t)(i:∀σ H Q,σ.length=X.N.length->t' σ H Q->t σ H Q):PE X e t':=fun MS s σ H Q I h'=>h MS s σ H Q I (i σ H Q I.len h')
theorem Gs{st:Stmt}{t t':TS}(h:PS X st t)(i:∀D σ H,σ.length=X.N.length->t' D σ H->t D σ H):PS X st t':=fun MS s σ H D I h'=>h MS s σ H D I (i D σ H I.len h')
theorem A8[MV](hc:X.calm=true)(T:jq X N' scope)(hi:QI X tg iter it)(hg:∀cl s H fp MS,QG (cz X N' scope cl s H fp MS) tg g)(ht:∀cl s H fp MS,ue (cz X N' scope cl s H fp MS) ifs t)
  (he:∀cl s H fp MS,QE (cz X N' scope cl s H fp MS) elt f) (hk:oq X.N.length g) (hs:∀x,foldedSetIterable iter X.env x=pure x):QN X (.ListComp elt [⟨tg,iter,ifs,0⟩] scope pos) (Ba (N'.length-X.N.length) it g t f) :=
 Gw (Hk (g:=rG X.gm g) (tt:=rT X.gm t) (te:=rE X.gm f) hc T hi (fun cl s H fp MS=>hg cl s H fp MS) (fun cl s H fp MS=>ht cl s H fp MS) (fun cl s H fp MS=>he cl s H fp MS) hs) fun σ H Q hl h=>Fx hk hl h
end
inductive Out where
 |nx (sl:Sl) (st:aa)|rt (v:AV) (st:aa)|bk (sl:Sl) (st:aa)|ct (sl:Sl) (st:aa)
abbrev SF:=Sl->aa->Option Out
def ThO[MV](mg:Gm)(P:Pr)(φ:List Addr)(H:Hp)(D:jp):Out->Prop
 |.nx sl st=>∀P' φ' H' σ',Frm P φ H P' φ' H'->Sim mg P' φ' st H'->M4 mg P' H' φ' sl σ'->D.nx σ' H'
 |.bk sl st=>∀P' φ' H' σ',Frm P φ H P' φ' H'->Sim mg P' φ' st H'->M4 mg P' H' φ' sl σ'->D.bk σ' H'
 |.ct sl st=>∀P' φ' H' σ',Frm P φ H P' φ' H'->Sim mg P' φ' st H'->M4 mg P' H' φ' sl σ'->D.ct σ' H'
 |.rt v st=>∀P' φ' H' w,Frm P φ H P' φ' H'->Sim mg P' φ' st H'->RA mg P' H' φ' v w->D.rt w H'
def KO[MV](mg:Gm)(P:Pr)(φ:List Addr)(H:Hp)(r:Option Out)(D:jp):Prop:=∃o,r=some o/\ThO mg P φ H D o
def rS[MV](mg:Gm)(f:SF):TS:=fun D σ H=>∃P φ sl st,M4 mg P H φ sl σ/\Sim mg P φ st H/\KO mg P φ H (f sl st) D
def QS[MV](X:Cx)(st:Stmt)(f:SF):Prop:=PS X st (rS X.gm f)
def mh[MV](X:Cx)(sts:List Stmt)(f:SF):Prop:=PSs X sts (rS X.gm f)
theorem ThO.frm[MV](h:ThO mg P φ H D o)(f:Frm P φ H P1 φ1 H1):ThO mg P1 φ1 H1 D o:=by
 cases o with
 |nx sl st=>exact fun P' φ' H' σ' f'=>h P' φ' H' σ' (f.trans f')
 |bk sl st=>exact fun P' φ' H' σ' f'=>h P' φ' H' σ' (f.trans f')
 |ct sl st=>exact fun P' φ' H' σ' f'=>h P' φ' H' σ' (f.trans f')
 |rt v st=>exact fun P' φ' H' σ' f'=>h P' φ' H' σ' (f.trans f')
theorem KO.bindE[MV]{α β:Type}{Ra:Gm->Pr->Hp->List Addr->α->β->Prop}{m:Option (α×aa)}{k:α×aa->Option Out}(h:KO mg P φ H (m.bind k) D) :
  KG mg Ra P φ H m fun b H1=>∃P1 φ1 st1 a,Frm P φ H P1 φ1 H1/\Sim mg P1 φ1 st1 H1/\Ra mg P1 H1 φ1 a b/\KO mg P1 φ1 H1 (k (a,st1)) D:=by
 obtain⟨o,e,q⟩:=h;cases m with
 |none=>cases e
 |some p=>exact⟨p.1,p.2,rfl,fun P1 φ1 H1 b f s r=>⟨P1,φ1,p.2,p.1,f,s,r,o,e,q.frm f⟩⟩
theorem KO.nx[MV]{mg:Gm}{P:Pr}{φ:List Addr}{H:Hp}{sl:Sl}{st:aa}{D:jp}{σ:St}(h:KO mg P φ H (some (.nx sl st)) D)(s:Sim mg P φ st H)(r:M4 mg P H φ sl σ):D.nx σ H:=by
 obtain⟨o,e,q⟩:=h;cases e;exact q P φ H σ Frm.refl s r
theorem KO.no[MV](h:KO mg P φ H none D):False:=by obtain⟨_,e,_⟩:=h;cases e
section
variable{X:Cx}{st:Stmt}{rest:List Stmt}{e c tg:Expr}{pos:Pos}{s t:SF}{f:EF}{g:GF}{b:TF}
def IN:SF:=fun sl st=>some (.nx sl st)
def IL(s t:SF):SF:=fun sl st=>(s sl st).bind fun o=>match o with
 |.nx sl st=>t sl st
 |o=>some o
theorem Cc[MV]:mh X [] IN:=PSs_imp Cv fun D σ H ⟨P,φ,sl,st,rs,s,k⟩=>k.nx s rs
theorem yy[MV](h1:QS X st s)(h2:mh X rest t):mh X (st::rest) (IL s t):=PSs_imp (ze h1 h2) fun D σ H hq0=>by
 obtain⟨P,φ,sl,st,rs,sm,o,e,q⟩:=hq0;obtain⟨o1,e1,e2⟩:=zA e;refine⟨P,φ,sl,st,rs,sm,o1,e1,?_⟩;cases o1 with
 |nx sl1 st1=>exact fun P' φ' H' σ' f' s' rs'=>⟨P',φ',sl1,st1,rs',s',o,e2,q.frm f'⟩
 |bk sl1 st1=>cases e2;exact q
 |ct sl1 st1=>cases e2;exact q
 |rt v st1=>cases e2;exact q
def DW:SF:=fun _ _=>none
theorem Cf[MV]:QS X st DW:=PS_imp zg fun D σ H ⟨P,φ,sl,st,rs,s,k⟩=>k.no
def IR(f:EF):SF:=fun sl st=>(f sl st).bind fun p=>some (.nx sl p.2)
theorem Ce[MV](he:QE X e f)(hs:swapsWith e none pos.line X.env=pure false):QS X (.Expr e pos) (IR f):=PS_imp (Cy he hs) fun D σ H ⟨P,φ,sl,st,rs,s,k⟩=>⟨P,φ,sl,st,rs,s,by
 obtain⟨a,st',e1,q⟩:=k.bindE (Ra:=RA);refine⟨a,st',e1,fun P1 φ1 H1 w f1 s1 r1=>?_⟩;obtain⟨P2,φ2,st2,x,f2,s2,r2,k2⟩:=q P1 φ1 H1 w f1 s1 r1;exact k2.nx s2 (rs.frm f2)⟩
def IM(f:EF):SF:=fun sl st=>(f sl st).bind fun p=>some (.rt p.1 p.2)
theorem Ei[MV](he:QE X e f):QS X (.Return (some e) pos) (IM f):=PS_imp (EK he) fun D σ H ⟨P,φ,sl,st,rs,s,k⟩=>⟨P,φ,sl,st,rs,s,by
 obtain⟨a,st',e1,q⟩:=k.bindE (Ra:=RA);refine⟨a,st',e1,fun P1 φ1 H1 w f1 s1 r1=>?_⟩;obtain⟨P2,φ2,st2,x,f2,s2,r2,o,eo,q2⟩:=q P1 φ1 H1 w f1 s1 r1;cases eo;exact q2 P2 φ2 H1 w Frm.refl s2 r2⟩
def IP(b:TF)(s t:SF):SF:=fun sl st=>(b sl st).bind fun p=>if p.1=true then s sl p.2 else t sl p.2
theorem GY[MV](hc:QT X c b)(ha:mh X x s)(hb:mh X y t):QS X (.If c x y pos) (IP b s t):=PS_imp (Hc hc ha hb) fun D σ H ⟨P,φ,sl,st,rs,sm,k⟩=>⟨P,φ,sl,st,rs,sm,by
 obtain⟨a,st',e1,q⟩:=k.bindE (Ra:=RB);refine⟨a,st',e1,fun P1 φ1 H1 w f1 s1 r1=>?_⟩;obtain⟨P2,φ2,st2,x,f2,s2,r2,k2⟩:=q P1 φ1 H1 w f1 s1 r1;cases r2;cases w with
 |true=>exact⟨P2,φ2,sl,st2,rs.frm f2,s2,k2⟩
 |false=>exact⟨P2,φ2,sl,st2,rs.frm f2,s2,k2⟩⟩
def wn(f:EF)(g:GF):SF:=fun sl st=>(f sl st).bind fun p=>(g p.1 sl p.2).bind fun q=>some (.nx q.1 q.2)
theorem vL[MV](h:rS mg (wn f g) D σ H):uA (rE mg f) (rG mg g) D σ H:=by
 obtain⟨P,φ,sl,st,rs,s,o,e,q⟩:=h;obtain⟨p,e1,e2⟩:=zA e;obtain⟨r,e3,e4⟩:=zA e2;cases e4;exact⟨P,φ,sl,st,rs,s,p.1,p.2,e1,fun P1 φ1 H1 w f1 s1 r1=>⟨P1,φ1,sl,p.2,p.1,rs.frm f1,s1,r1,r.1,r.2,e3,fun P2 φ2 H2 σ2 f2 s2 rs2=>q P2 φ2 H2 σ2 (f1.trans f2) s2 rs2⟩⟩
theorem wv[MV](he:QE X e f)(hg:QG X tg g)(hs:swapsWithSole [tg] e pos.line X.env=pure false)(hw:swappedStores [tg] e X.env=pure none)(h1:(assignEach [tg] X.env).map (·.2)=[assign tg X.env]):QS X (.Assign [tg] e pos) (wn f g) :=
 PS_imp (EM he hg hs hw h1) fun D σ H h=>vL h
theorem Fd[MV]{i:Nat}(h:rG mg (xo i) v σ H Q):nO i v σ H Q:=by
 obtain⟨P,φ,sl,st,x,rs,s,rx,k⟩:=h;exact k.pure s (rs.set rx i)
theorem wu[MV]{i:Nat}(hN:X.N.Nodup)(hi:X.N[i]?=some x)(hx:Loc X.env.scope x)(he:QE X e f)(hs:swapsWith e (some (.Name x pos')) pos.line X.env=pure false)(hf:X.fn x=true\/X.env.scope.names.lookup x=some .local) :
  QS X (.Assign [.Name x pos'] e pos) (wn f (xo i)):=PS_imp (EJ hN hi hx he hs hf) fun D σ H h=>by
 obtain⟨P,φ,sl,st,rs,s,p1,p2,e1,k⟩:=vL h;exact⟨P,φ,sl,st,rs,s,p1,p2,e1,fun P1 φ1 H1 w f1 s1 r1=>Fd (k P1 φ1 H1 w f1 s1 r1)⟩
def Bz(m:Bool)(f:NF):EF:=if m=true then Lw f else Lx f
theorem Fb[MV]{mg:Gm}{m:Bool}{f:NF}{σ:St}{H:Hp}{Q:VK}(h:rE mg (Bz m f) σ H Q):rN mg f σ H Q:=by
 obtain⟨P,φ,sl,st,rs,s,v,st',ev,k⟩:=h;cases m with
 |true =>
  obtain⟨q,e1,e2⟩:=zA ev;cases e2;refine⟨P,φ,sl,st,rs,s,q.1,q.2,e1,fun P1 φ1 H1 p vs f1 s1 hp r1=>?_⟩;obtain⟨f3,s3,r3⟩:=Ff s1 hp r1;exact k P1 _ _ _ (f1.trans f3) s3 r3
 |false =>
  obtain⟨q,e1,e2⟩:=zA ev;split at e2
  ·rename_i hr
   cases e2;refine⟨P,φ,sl,st,rs,s,q.1,q.2,e1,fun P1 φ1 H1 p vs f1 s1 hp r1=>?_⟩;obtain⟨P3,f3,s3,r3⟩:=FZ s1 hp hr r1;exact k P3 φ1 _ _ (f1.trans f3) s3 r3
  ·cases e2
theorem g9[MV]{m:Bool}{f:NF}(h:QN X e f):QE X e (Bz m f):=PE_imp h fun _ _ _ q=>Fb q
theorem wq[MV]{i:Nat}{y:Str}{py:Pos}{elt iter tg:Expr}{ifs:List Expr}{N':List Str}{scope:Scope}{pos spos:Pos}{it:IF}{g:GF}{t:TF}{f:EF}{m:Bool}(hN:X.N.Nodup)(hiN:X.N[i]?=some y)(hx:Loc X.env.scope y)
  (hsw:swapsWith (.ListComp elt [⟨tg,iter,ifs,0⟩] scope pos) (some (.Name y py)) spos.line X.env=pure true)
  (hc:X.calm=true) (T:jq X N' scope) (hi:QI X tg iter it) (hg:∀cl s H fp MS,QG (cz X N' scope cl s H fp MS) tg g) (ht:∀cl s H fp MS,ue (cz X N' scope cl s H fp MS) ifs t)
  (he:∀cl s H fp MS,QE (cz X N' scope cl s H fp MS) elt f) (hk:oq X.N.length g) (hs:∀x,foldedSetIterable iter X.env x=pure x) (hf:X.fn y=true\/X.env.scope.names.lookup y=some .local) :
  QS X (.Assign [.Name y py] (.ListComp elt [⟨tg,iter,ifs,0⟩] scope pos) spos) (wn (Bz m (Ba (N'.length-X.N.length) it g t f)) (xo i)) :=
 Gs (wx (g:=rG X.gm g) (tt:=rT X.gm t) (te:=rE X.gm f) hN hiN hx hsw hc T hi (fun cl s H fp MS=>hg cl s H fp MS) (fun cl s H fp MS=>ht cl s H fp MS) (fun cl s H fp MS=>he cl s H fp MS) hs hf) fun D σ H hl h=>by
  obtain⟨P,φ,sl,st,rs,s,p1,p2,e1,k⟩:=vL h;exact Fx hk hl (Fb (m:=m) ⟨P,φ,sl,st,rs,s,p1,p2,e1,fun P1 φ1 H1 w f1 s1 r1=>Fd (k P1 φ1 H1 w f1 s1 r1)⟩)
def vK(o:Operator)(_:aa):AV->AV->Option AV
 |.int a,.int b=>match o with
  |.Add=>some (.int (a+b))
  |.Sub=>some (.int (a-b))
  |_=>none
 |_,_=>none
theorem Kf[MV](o:Operator):BG X o (fun x y H Q=>∃P φ st a b c,Sim X.gm P φ st H/\RA X.gm P H φ a x/\RA X.gm P H φ b y/\vK o st a b=some c/\∀w,RA X.gm P H φ c w->Q w H):=by
 rintro MS s σ H x y v u Q I rx ry ⟨P,φ,st,a,b,c,sm,ra,rb,e,k⟩;cases a <;> cases b <;> simp only [vK] at e <;> first | (cases e;done) | skip
 rename_i i j;simp only [RA] at ra rb;subst ra;subst rb;cases o <;> first | (cases e;done) | skip
 ·cases e
  exact FM MS s σ H _ _ v u Q I rx ry ⟨i,j,rfl,rfl,k _ (by simp only[RA])⟩
 ·cases e
  exact FK MS s σ H _ _ v u Q I rx ry ⟨i,j,rfl,rfl,k _ (by simp only[RA])⟩
theorem HL[MV]:AM X (fun x y H Q=>∃P φ st a b c,Sim X.gm P φ st H/\RA X.gm P H φ a x/\RA X.gm P H φ (.int b) y/\(∃xs,bO st a=some xs/\gf xs b=some c)/\∀w,RA X.gm P H φ c w->Q w H):=by
 rintro MS s σ H x y v u Q I rx ry ⟨P,φ,st,a,b,c,sm,ra,rb,⟨xs,e1,e2⟩,k⟩;obtain⟨p,vs,rfl,d1,q1⟩:=ra.ls sm e1;obtain⟨w,e3,r3⟩:=o9 q1 e2;simp only[RA]at rb;exact As MS s σ H _ y v u Q I rx ry ⟨p,vs,b,w,rfl,rb,d1,e3,k w r3⟩
def uH(o:Operator)(f g h:EF):SF:=fun sl st=>(f sl st).bind fun p=>(g sl p.2).bind fun q=>match q.1 with
 |.int i=>(bO q.2 p.1).bind fun xs=>(gf xs i).bind fun x=>(h sl q.2).bind fun r=>(vK o r.2 x r.1).bind fun z=>(jL r.2 p.1 (.int i) z).bind fun st'=>some (.nx sl st')
 |_=>none
theorem Cg[MV]{a i:Expr}{f g h:EF}{o:Operator}{tpos:Pos}(hu:X.A.units+64<cLine)(ho:QE X a f)(hi:QE X i g)(he:QE X e h)
  (ha:∀ov iv new,augStore i ov iv new=(do holding [new,ov,iv] (setItem ov iv new);release [new,ov,iv] [];pure .next)):QS X (.AugAssign (.Subscript a i tpos) o e pos) (uH o f g h) :=
 PS_imp (Cz ho hi HL he (Kf o) (A5 hu) ha) fun D σ H hq0=>by
  obtain⟨P,φ,sl,st,rs,s,out,eo,q⟩:=hq0;obtain⟨p,e1,e2⟩:=zA eo;obtain⟨r,e3,e4⟩:=zA e2;split at e4
  ·rename_i j hj
   obtain⟨xs,e5,e6⟩:=zA e4;obtain⟨x,e7,e8⟩:=zA e6;obtain⟨t,e9,e10⟩:=zA e8;obtain⟨z,e11,e12⟩:=zA e10;obtain⟨st',e13,e14⟩:=zA e12;cases e14;refine⟨P,φ,sl,st,rs,s,p.1,p.2,e1,fun P1 φ1 H1 w1 f1 s1 r1=>⟨P1,φ1,sl,p.2,rs.frm f1,s1,r.1,r.2,e3,fun P2 φ2 H2 w2 f2 s2 r2=>?_⟩⟩;rw[hj]at r2;refine⟨P2,φ2,r.2,p.1,j,x,s2,r1.frm f2,r2,⟨xs,e5,e7⟩,fun w3 r3=>⟨P2,φ2,sl,r.2,(rs.frm f1).frm f2,s2,t.1,t.2,e9,fun P3 φ3 H3 w4 f3 s3 r4=>⟨P3,φ3,t.2,x,t.1,z,s3,r3.frm f3,r4,e11,fun w5 r5=>⟨P3,φ3,t.2,p.1,.int j,z,st',s3,(r1.frm f2).frm f3,r2.frm f3,r5,e13,fun P4 φ4 H4 f4 s4=>?_⟩⟩⟩⟩;exact q P4 φ4 H4 σ (((f1.trans f2).trans f3).trans f4) s4 ((((rs.frm f1).frm f2).frm f3).frm f4)
  ·cases e4
end
def di(gd:Gd)(g:GF)(s:SF):List AV->Sl->aa->Option Out
 |[],sl,st=>if cp gd st=true then some (.nx sl st) else none
 |x::xs,sl,st=>if cp gd st=true then(g x sl st).bind fun p=>(s p.1 p.2).bind fun o=>match o with
  |.nx sl st=>di gd g s xs sl st
  |.ct sl st=>di gd g s xs sl st
  |.bk sl st=>some (.nx sl st)
  |.rt v st=>some (.rt v st) else none
def IQ(it:IF)(g:GF)(s:SF):SF:=fun sl st=>(it sl st).bind fun p=>di p.1.gd g s p.1.MW sl p.2
def c7(t:TF)(s:SF):Nat->Sl->aa->Option Out
 |0,_,_=>none
 |n+1,sl,st=>(t sl st).bind fun p=>if p.1=true then(s sl p.2).bind fun o=>match o with
  |.nx sl st=>c7 t s n sl st
  |.ct sl st=>c7 t s n sl st
  |.bk sl st=>some (.nx sl st)
  |.rt v st=>some (.rt v st) else some (.nx sl p.2)
open Classical in
def lE(t:TF)(s:SF):SF:=fun sl st=>if h:∃n,(c7 t s n sl st).isSome=true then c7 t s (Classical.choose h) sl st else none
theorem ph:∀{n m:Nat}{sl:Sl}{st:aa}{o:Out},n<=m->c7 t s n sl st=some o->c7 t s m sl st=some o:=by
 intro n
 induction n with
 |zero=>intro m sl st o _ h;cases h
 |succ n ih =>
  intro m sl st o hm h;cases m with
  |zero=>lia
  |succ m =>
   simp only[c7]at h ⊢;obtain⟨p,e1,e2⟩:=zA h;rw[e1,bind_some];split at e2
   ·rename_i hc
    rw[yI hc];obtain⟨q,e3,e4⟩:=zA e2;rw[e3,bind_some];cases q with
    |nx sl st=>exact ih oM e4
    |ct sl st=>exact ih oM e4
    |bk sl st=>exact e4
    |rt v st=>exact e4
   ·rename_i hc
    rw[yH hc];exact e2
theorem mQ{t:TF}{s:SF}{n:Nat}{sl:Sl}{st:aa}{o:Out}(h:c7 t s n sl st=some o):lE t s sl st=some o:=by
 have hx:∃n,(c7 t s n sl st).isSome=true:=⟨n,by rw[h];rfl⟩;unfold lE;rw[dif_pos hx];obtain⟨o',e'⟩:=Option.isSome_iff_exists.mp (Classical.choose_spec hx);have h1:=ph (Nat.le_max_left n (Classical.choose hx)) h;have h2:=ph (Nat.le_max_right n (Classical.choose hx)) e';rw[e',<- h1,h2]
theorem wH{t:TF}{s:SF}{sl:Sl}{st:aa}{o:Out}(h:lE t s sl st=some o):∃n,c7 t s n sl st=some o:=by
 unfold lE at h;split at h
 ·exact⟨_,h⟩
 ·cases h
section
variable{X:Cx}{tg iter c:Expr}{body:List Stmt}{pos:Pos}{it:IF}{g:GF}{s:SF}{t:TF}
theorem Ej[MV](hp:PassesOwn (model X.prog X.w) X.A X.env X.xe)(hc:X.calm=true)(hi:QI X tg iter it)(hg:QG X tg g)(hb:mh X body s)(hs:∀x,foldedSetIterable iter X.env x=pure x):QS X (.For tg iter body [] pos) (IQ it g s) :=
 PS_imp (wy hp hc hi hg hb hs) fun D σ H hq0=>by
  obtain⟨P,φ,sl,st,rs,sm,o,e,q⟩:=hq0;obtain⟨p,e1,e2⟩:=zA e;refine⟨P,φ,sl,st,rs,sm,p.1,p.2,e1,fun P1 φ1 H1 J f1 s1 ij=>?_⟩;have q1:=q.frm f1;refine⟨fun i m σ' H'=>m=p.1.MW.length-i/\i<=p.1.MW.length/\∃P' φ' sl' st',Frm P1 φ1 H1 P' φ' H'/\Sim X.gm P' φ' st' H'/\M4 X.gm P' H' φ' sl' σ'/\di p.1.gd g s (p.1.MW.drop i) sl' st'=some o,⟨_,rfl,Nat.zero_le _,P1,φ1,sl,p.2,Frm.refl,s1,rs.frm f1,by simpa using e2⟩,?_⟩;rintro i m σ' H' ⟨rfl,hle,P2,φ2,sl2,st2,f2,s2,rs2,eg⟩;rcases yU i p.1.MW.length with hlt|hge
  ·right
   rw[List.drop_eq_getElem_cons hlt]at eg;simp only[di]at eg;split at eg
   ·rename_i hgd
    obtain⟨go,yl⟩:=ij.go P2 φ2 H' st2 i _ f2 s2 hgd (zF hlt);obtain⟨q4,e4,e5⟩:=zA eg;obtain⟨o1,e6,e7⟩:=zA e5;refine⟨go,fun σ' H'=>∃P' φ' sl' st',Frm P1 φ1 H1 P' φ' H'/\Sim X.gm P' φ' st' H'/\M4 X.gm P' H' φ' sl' σ'/\di p.1.gd g s (p.1.MW.drop (i+1)) sl' st'=some o,fun σ' H' z=>⟨_,by lia,rfl,hlt,z⟩,fun x H3 hy=>?_⟩;obtain⟨P3,f3,s3,r3⟩:=yl x H3 hy;refine⟨P3,φ2,sl2,st2,_,rs2.frm f3,s3,r3,q4.1,q4.2,e4,fun P4 φ4 H4 σ4 f4 s4 rs4=>⟨P4,φ4,q4.1,q4.2,rs4,s4,o1,e6,?_⟩⟩;have fa:=(f2.trans f3).trans f4;cases o1 with
    |nx sl5 st5=>exact fun P5 φ5 H5 σ5 f5 s5 rs5=>⟨P5,φ5,sl5,st5,fa.trans f5,s5,rs5,e7⟩
    |ct sl5 st5=>exact fun P5 φ5 H5 σ5 f5 s5 rs5=>⟨P5,φ5,sl5,st5,fa.trans f5,s5,rs5,e7⟩
    |bk sl5 st5=>cases e7;exact fun P5 φ5 H5 σ5 f5 s5 rs5=>q1 P5 φ5 H5 σ5 (fa.trans f5) s5 rs5
    |rt v st5=>cases e7;exact fun P5 φ5 H5 w f5 s5 r5=>q1 P5 φ5 H5 w (fa.trans f5) s5 r5
   ·cases eg
  ·left
   have ei:i=p.1.MW.length:=Nat.le_antisymm hle hge;subst ei;rw[List.drop_length]at eg;simp only[di]at eg;split at eg
   ·rename_i hgd
    cases eg;exact⟨ij.stop P2 φ2 H' _ f2 s2 hgd,q1 P2 φ2 H' σ' f2 s2 rs2⟩
   ·cases eg
theorem yz[MV](hp:PassesOwn (model X.prog X.w) X.A X.env X.xe)(hc:QT X c t)(hb:mh X body s):QS X (.While c body [] pos) (lE t s) :=
 PS_imp (zf hp hc hb) fun D σ H hq0=>by
  obtain⟨P,φ,sl,st,rs,sm,o,e,q⟩:=hq0;obtain⟨n0,e0⟩:=wH e;refine⟨fun m σ' H'=>∃P' φ' sl' st',Frm P φ H P' φ' H'/\Sim X.gm P' φ' st' H'/\M4 X.gm P' H' φ' sl' σ'/\c7 t s m sl' st'=some o,⟨n0,P,φ,sl,st,Frm.refl,sm,rs,e0⟩,?_⟩;rintro m σ' H' ⟨P2,φ2,sl2,st2,f2,s2,rs2,eg⟩;cases m with
  |zero=>cases eg
  |succ m =>
   simp only[c7]at eg;obtain⟨p,e1,e2⟩:=zA eg;refine⟨P2,φ2,sl2,st2,rs2,s2,p.1,p.2,e1,fun P3 φ3 H3 b f3 s3 r3=>?_⟩;cases r3;cases hb':p.1 with
   |true =>
    rw[hb']at e2;simp only[if_true]at e2 ⊢;obtain⟨o1,e6,e7⟩:=zA e2;refine⟨fun σ' H'=>∃P' φ' sl' st',Frm P φ H P' φ' H'/\Sim X.gm P' φ' st' H'/\M4 X.gm P' H' φ' sl' σ'/\c7 t s m sl' st'=some o,fun σ' H' z=>⟨m,Nat.lt_succ_self m,z⟩,P3,φ3,sl2,p.2,rs2.frm f3,s3,o1,e6,?_⟩;have fa:=f2.trans f3;cases o1 with
    |nx sl5 st5=>exact fun P5 φ5 H5 σ5 f5 s5 rs5=>⟨P5,φ5,sl5,st5,fa.trans f5,s5,rs5,e7⟩
    |ct sl5 st5=>exact fun P5 φ5 H5 σ5 f5 s5 rs5=>⟨P5,φ5,sl5,st5,fa.trans f5,s5,rs5,e7⟩
    |bk sl5 st5=>cases e7;exact fun P5 φ5 H5 σ5 f5 s5 rs5=>q P5 φ5 H5 σ5 (fa.trans f5) s5 rs5
    |rt v st5=>cases e7;exact fun P5 φ5 H5 w f5 s5 r5=>q P5 φ5 H5 w (fa.trans f5) s5 r5
   |false =>
    rw[hb']at e2;simp only[yB,if_false]at e2 ⊢;cases e2;exact q P3 φ3 H3 σ' (f2.trans f3) s3 (rs2.frm f3)
end
abbrev Fn:=List AV->aa->Option (AV×aa)
def dA[MV](mg:Gm)(n:Nat)(fn:Fn):Sp:=fun vs H Q _=>vs.length=n/\∃P φ args st,MY mg P H φ args vs/\Sim mg P φ st H/\KG mg RA P φ H (fn args st) Q
def cK:Nat->aa->AV->Option AV
 |n+1,st,.ref k=>match st[k]? with
  |some (.lst xs)=>(bH (cK n st) xs).map .fz
  |some (.al t)=>some t
  |_=>none
 |n+1,st,.tup xs=>(bH (cK n st) xs).map .tup
 |0,_,.ref _=>none
 |0,_,.tup _=>none
 |_,_,t=>some t
def d6:aa->AV->Option AV:=cK 6
mutual
noncomputable def flat:AV->Bool
 |.ref _=>false
 |.fz _=>false
 |.tup xs=>nW xs
 |_=>true
noncomputable def nW:List AV->Bool
 |[]=>true
 |x::xs=>flat x&&nW xs
end
def pF(st:aa)(x:AV):Option (AV×aa):=if rf x=true then some (x,st) else match x with
 |.ref k=>match st[k]? with
  |some (.lst xs)=>if rfs xs=true then some (.fz xs,st.set k (.al (.fz xs))) else none
  |some (.al t)=>some (t,st)
  |_=>none
 |_=>none
def nT:aa->List AV->Option (List AV×aa)
 |st,[]=>some ([],st)
 |st,x::xs=>(pF st x).bind fun p=>(nT p.2 xs).map fun q=>(p.1::q.1,q.2)
def pm(fn:Fn):Fn:=fun args st=>if rfs args=true then(fn args []).bind fun p=>(d6 p.2 p.1).map fun t=>(t,st)
 else(bH (d6 st) args).bind fun ts=>(fn ts []).bind fun p=>(d6 p.2 p.1).bind fun t=>if flat t=true then some (t,st) else
  (nT st args).bind fun q=>(fn q.1 []).bind fun p=>(d6 p.2 p.1).map fun t=>(t,q.2)
section
variable{mg:Gm}{P:Pr}{φ:List Addr}{st:aa}{H:Hp}
theorem yw[MV]{n:Nat}(ih:∀v w t,cK n st v=some t->RA mg P H φ v w->RA mg P' H [] t w):∀{xs:List AV}{vs:List V}{ts:List AV},bH (cK n st) xs=some ts->MY mg P H φ xs vs->MY mg P' H [] ts vs:=by
 intro xs
 induction xs with
 |nil=>intro vs ts e r;cases e;simp only[MY]at r ⊢;exact r
 |cons x xs ihx =>
  intro vs ts e r;simp only[bH]at e;obtain⟨y,e1,e2⟩:=zA e;obtain⟨ys,e3,e4⟩:=zE.mp e2;subst e4;simp only[MY]at r;obtain⟨v,ws,rfl,r1,r2⟩:=r;exact aU (ih x v y e1 r1) (ihx e3 r2)
theorem qA[MV](s:Sim mg P φ st H):∀(n:Nat)(v:AV)(w:V)(t:AV),cK n st v=some t->RA mg P H φ v w->RA mg (fun a=>P a\/a∈φ) H [] t w:=by
 have ex:∀a,P a->(P a\/a∈φ)/\H a=H a:=fun a h=>⟨.inl h,rfl⟩
 have pl:∀{t:AV}{w:V},R.rf t=true->RA mg P H φ t w->RA mg (fun a=>P a\/a∈φ) H [] t w:=fun h r=>(RA.rf (ψ:=[]) h r).mono ex fun _ _ z=>z
 intro n
 induction n with
 |zero =>
  intro v w t e r;cases v <;> simp only [cK] at e <;> first | (cases e;done) | skip
  all_goals cases e;exact pl rfl r
 |succ n ih =>
  intro v w t e r;cases v with
  |ref k =>
   simp only[cK]at e;simp only[RA]at r;obtain⟨a,ea,rfl⟩:=r;split at e
   ·rename_i xs hk
    obtain⟨ts,e1,e2⟩:=zE.mp e;subst e2;obtain⟨a',ea',c⟩:=s.at hk;rw[ea]at ea';cases ea';obtain⟨_,vs,h1,h2⟩:=c;simp only[RA];exact⟨a,vs,rfl,.inl ⟨.inr (zW ea),.inl h1⟩,yw ih e1 h2⟩
   ·rename_i t' hk
    cases e;obtain⟨a',ea',c⟩:=s.at hk;rw[ea]at ea';cases ea';exact c.2.mono ex fun _ _ z=>z
   ·cases e
  |tup xs =>
   simp only[cK]at e;obtain⟨ts,e1,e2⟩:=zE.mp e;subst e2;simp only[RA]at r;obtain⟨a,vs,rfl,p,h1,h2⟩:=r;simp only[RA];exact⟨a,vs,rfl,.inl p,h1,yw ih e1 h2⟩
  |_=>simp only[cK]at e;cases e;exact pl rfl r
mutual
theorem RA.fl[MV](h:∀a vs,P a->H a=some (.tup vs)->P' a):∀{t:AV}{w:V},flat t=true->RA mg P H φ t w->RA mg P' H ψ t w
 |.non,_,_,r=>by simp only[RA]at r ⊢;exact r
 |.bl _,_,_,r=>by simp only[RA]at r ⊢;exact r
 |.int _,_,_,r=>by simp only[RA]at r ⊢;exact r
 |.str _,_,_,r=>by simp only[RA]at r ⊢;exact r
 |.ref _,_,e,_=>by simp only[flat]at e;cases e
 |.fz _,_,e,_=>by simp only[flat]at e;cases e
 |.tup xs,_,e,r=>by
  simp only[RA,flat]at r e ⊢;obtain⟨a,vs,rfl,p,h1,h2⟩:=r;exact⟨a,vs,rfl,h a vs p h1,h1,MY.fl h e h2⟩
theorem MY.fl[MV](h:∀a vs,P a->H a=some (.tup vs)->P' a):∀{ts:List AV}{ws:List V},nW ts=true->MY mg P H φ ts ws->MY mg P' H ψ ts ws
 |[],_,_,r=>by simp only[MY]at r ⊢;exact r
 |t::ts,_,e,r=>by
  simp only[MY,nW,zC]at r e ⊢;obtain⟨v,ws,rfl,r1,r2⟩:=r;exact⟨v,ws,rfl,RA.fl h e.1 r1,MY.fl h e.2 r2⟩
end
theorem F0[MV](s:Sim mg P φ st H)(e:pF st x=some (t,st'))(r:RA mg P H φ x v):∃P',Frm P φ H P' φ H/\Sim mg P' φ st' H/\RA mg P' H [] t v:=by
 unfold pF at e;split at e
 ·rename_i h
  cases e;exact⟨P,Frm.refl,s,RA.rf h r⟩
 ·cases x with
  |ref k =>
   simp only[RA]at r;obtain⟨a,ea,rfl⟩:=r;dsimp only at e;split at e
   ·rename_i xs hk
    split at e
    ·rename_i hr
     cases e;obtain⟨a',ea',c⟩:=s.at hk;rw[ea]at ea';cases ea';obtain⟨na,vs,h1,h2⟩:=c;have ex:∀b,P b->(P b\/b=a)/\H b=H b:=fun b h=>⟨.inl h,rfl⟩
     have hm:=zW ea;have rr:RA mg (fun b=>P b\/b=a) H [] (.fz xs) (.ref a):=by
      simp only[RA];exact⟨a,vs,rfl,.inl ⟨.inr rfl,.inl h1⟩,(MY.rf hr h2).mono ex fun _ _ z=>z⟩
     have dm:∀b,(P b\/b=a)->H b≠none:=fun b h=>by
      rcases h with h|h
      ·exact s.dom b h
      ·rw[h];exact s.cd a hm
     refine⟨fun b=>P b\/b=a,⟨ex,⟨[],by simp,by simp⟩,fun _ _ _ _=>rfl,fun b h=>?_,fun _ h=>h,fun _ _ _ h=>h⟩,⟨by rw[List.length_set];exact s.len,s.nd,dm,s.cd,fun j c b e1 e2=>?_,fun t ht=>⟨(s.tb t ht).1,fun z=>z.elim (s.tb t ht).2 fun z=>s.tnc ht (by rw[z];exact hm)⟩⟩,rr⟩
     ·rcases h with h|h
      ·exact .inl h
      ·exact .inr (.inr (by rw[h];exact hm))
     ·by_cases hj:j=k
      ·subst hj
       rw[ea]at e2;cases e2;rw[List.getElem?_set_self (by rw[<- s.len];exact(zB.mp ea).1)]at e1;cases e1;exact⟨.inr rfl,rr⟩
      ·rw[List.getElem?_set_ne (Ne.symm hj)]at e1
       refine(s.cell j c b e1 e2).mono ex (fun _ _ z=>z) rfl fun n z=>?_
       rcases z with z|z
       ·exact n z
       ·refine hj ?_
        subst z;obtain⟨h1,e1⟩:=zB.mp e2;obtain⟨h2,e2⟩:=zB.mp ea;exact(List.getElem_inj s.nd).mp (e1.trans e2.symm)
    ·cases e
   ·rename_i t' hk
    cases e;obtain⟨a',ea',c⟩:=s.at hk;rw[ea]at ea';cases ea';exact⟨P,Frm.refl,s,c.2⟩
   ·cases e
  |_=>cases e
theorem FY[MV]:∀{xs ts:List AV}{st st':aa}{P:Pr}{vs:List V},Sim mg P φ st H->nT st xs=some (ts,st')->MY mg P H φ xs vs->∃P',Frm P φ H P' φ H/\Sim mg P' φ st' H/\MY mg P' H [] ts vs:=by
 intro xs
 induction xs with
 |nil=>intro ts st st' P vs s e r;cases e;simp only[MY]at r;subst r;exact⟨P,Frm.refl,s,bG⟩
 |cons x xs ih =>
  intro ts st st' P vs s e r;simp only[nT]at e;obtain⟨p,e1,e2⟩:=zA e;obtain⟨q,e3,e4⟩:=zE.mp e2;cases e4;simp only[MY]at r;obtain⟨v,ws,rfl,r1,r2⟩:=r;obtain⟨P1,f1,s1,q1⟩:=F0 s e1 r1;obtain⟨P2,f2,s2,q2⟩:=ih s1 e3 (r2.frm f1);exact⟨P2,f1.trans f2,s2,aU (q1.mono f2.ext fun _ _ z=>z) q2⟩
theorem IS[MV]{fn:Fn}{args:List AV}{vs:List V}{Q:VK}(s:Sim mg P φ st H)(r:MY mg P H [] args vs)(h:KG mg RA P φ H ((fn args []).bind fun p=>(d6 p.2 p.1).map fun t=>(t,st)) Q):∃P φ args st,MY mg P H φ args vs/\Sim mg P φ st H/\KG mg RA P φ H (fn args st) Q:=by
 obtain⟨t,st',e,k⟩:=h;obtain⟨p,e1,e2⟩:=zA e;obtain⟨t',e3,e4⟩:=zE.mp e2;cases e4;refine⟨P,[],args,[],r,Sim.nil s.dom s.tb,p.1,p.2,e1,fun P1 φ1 H1 w f1 s1 r1=>?_⟩;obtain⟨m,em,nm⟩:=f1.new;have kp:∀a,H a≠none->(∀ps,H a≠some (.tbl ps))->H1 a=H a:=fun a h=>f1.keep a h (by simp)
 have kc:=s.ckeep (fun a h=>(f1.ext a h).2) kp;have nn:∀a,(P1 a\/a∈φ1)->P a\/H a=none:=fun a h=>by
  rcases h with h|h
  ·rcases f1.pn a h with z|z|z
   ·exact .inl z
   ·exact .inr z
   ·cases z
  ·rw[em]at h;exact .inr (nm a h)
 refine k (fun a=>P1 a\/a∈φ1) φ H1 w ⟨fun a h=>⟨.inl (f1.ext a h).1,(f1.ext a h).2⟩,⟨[],by simp,by simp⟩,fun a h _ z=>kp a h z,fun a h=>?_,f1.sm,f1.fz⟩ (s.stay (fun a h=>⟨.inl (f1.ext a h).1,(f1.ext a h).2⟩) kc (fun a h n z=>?_) (fun a h=>?_) fun t ht=>⟨(s1.tb t ht).1,fun z=>z.elim (s1.tb t ht).2 (s1.tnc ht)⟩) (RA.lift (qA s1 6 _ _ _ e3 r1))
 ·rcases nn a h with z|z
  ·exact .inl z
  ·exact .inr (.inl z)
 ·rcases nn a z with z|z
  ·exact n z
  ·exact s.cd a h z
 ·rcases h with h|h
  ·exact s1.dom a h
  ·exact s1.cd a h
theorem Hg[MV]{n:Nat}(h:dA mg n (pm fn) vs H Q E):dA mg n fn vs H Q E:=by
 obtain⟨hl,P,φ,args,st,r,s,k⟩:=h;refine⟨hl,?_⟩;unfold pm at k;split at k
 ·rename_i hr
  exact IS s (MY.rf hr r) k
 ·obtain⟨t,st',e,k⟩:=k
  obtain⟨ts,e1,e2⟩:=zA e;obtain⟨p,e3,e4⟩:=zA e2;obtain⟨t',e5,e6⟩:=zA e4;split at e6
  ·rename_i hf
   cases e6;have dm:∀a,(P a\/a∈φ)->H a≠none:=fun a h=>by
    rcases h with h|h
    ·exact s.dom a h
    ·exact s.cd a h
   refine⟨fun a=>P a\/a∈φ,[],ts,[],yw (fun v w t e r=>qA s 6 v w t e r) e1 r,Sim.nil dm (fun t ht=>⟨(s.tb t ht).1,fun z=>z.elim (s.tb t ht).2 (s.tnc ht)⟩),p.1,p.2,e3,fun P1 φ1 H1 w f1 s1 r1=>?_⟩;obtain⟨m,em,nm⟩:=f1.new;have kp:∀a,H a≠none->(∀ps,H a≠some (.tbl ps))->H1 a=H a:=fun a h=>f1.keep a h (by simp)
   have kc:=s.ckeep (fun a h=>(f1.ext a (.inl h)).2) kp;have ext:∀a,P a->((P1 a\/a∈φ1)/\(a∈φ->P a))/\H1 a=H a:=fun a h=>⟨⟨.inl (f1.ext a (.inl h)).1,fun _=>h⟩,(f1.ext a (.inl h)).2⟩
   refine k (fun a=>(P1 a\/a∈φ1)/\(a∈φ->P a)) φ H1 w ⟨ext,⟨[],by simp,by simp⟩,fun a h _ z=>kp a h z,fun a h=>?_,f1.sm,f1.fz⟩ (s.stay ext kc (fun a h n z=>n (z.2 h)) (fun a h=>?_) fun t ht=>⟨(s1.tb t ht).1,fun z=>z.1.elim (s1.tb t ht).2 (s1.tnc ht)⟩) (RA.fl (fun a us hP hT=>⟨hP,fun hm=>?_⟩) hf (qA s1 6 _ _ _ e5 r1))
   ·rcases h.1 with z|z
    ·rcases f1.pn a z with z|z|z
     ·rcases z with z|z
      ·exact .inl z
      ·exact .inr (.inr z)
     ·exact .inr (.inl z)
     ·cases z
    ·rw[em]at z;exact .inr (.inl (nm a z))
   ·rcases h.1 with h|h
    ·exact s1.dom a h
    ·exact s1.cd a h
   ·obtain⟨j,hj⟩:=z9 hm
    obtain⟨c,hc⟩:∃c,st[j]?=some c:=⟨_,zF (by rw[<- s.len];exact(zB.mp hj).1)⟩;have cr:=s.cell j c a hc hj;have hT':H a=some (.tup us):=by rw[<- kc a hm];exact hT
    cases c with
    |lst xs=>obtain⟨_,_,z,_⟩:=cr;rw[hT']at z;cases z
    |al t=>exact cr.1
    |dK MU=>obtain⟨_,_,z,_⟩:=cr;rw[hT']at z;cases z
    |dT MU=>obtain⟨_,_,z,_⟩:=cr;rw[hT']at z;cases z
    |ins c fs=>obtain⟨_,_,_,_,_,z,_⟩:=cr;rw[hT']at z;cases z
    |wk MU=>obtain⟨_,_,_,z,_⟩:=cr;rw[hT']at z;cases z
  ·obtain⟨q,e7,e8⟩:=zA e6
   obtain⟨P1,f1,s1,r1⟩:=FY s e7 r;exact IS s1 r1 ⟨t,st',e8,fun P2 φ2 H2 w f2 s2 r2=>k P2 φ2 H2 w (f1.trans f2) s2 r2⟩
end
theorem FnOk.pm[MV]{P:Program}{w:World}{K:Frag}{mg:Str->Option Value}{base:Heap}{k:Nat}{f:Addr}{fd:FuncData}{ps:List Str}{n:Nat}{fn:Fn}(F:FnOk P w K mg base eO k f fd ps (dA ⟨K,mg⟩ n fn)):FnOk P w K mg base eO k f fd ps (dA ⟨K,mg⟩ n (R.pm fn)) :=
 F.imp fun _ _ _ _ h=>Hg h
def run(n:Nat)(b:SF):Fn:=fun args st=>(b (args.map some++List.replicate (n-args.length) none) st).bind fun o=>match o with
 |.rt v st=>some (v,st)
 |.nx _ st=>some (.non,st)
 |_=>none
theorem B3[MV](h:MY mg P H φ args vs):M4 mg P H φ (args.map some++List.replicate (N.length-args.length) none) (L2.start N vs):=by
 have hl:=h.length;unfold L2.start;refine⟨by simp[hl],fun i v e=>?_⟩;have hi:i<args.length:=by
  rcases yU i args.length with z|z
  ·exact z
  ·rw[z6 (by simpa using z),List.getElem?_replicate]at e
   split at e<;>cases e
 rw[zN (by simpa using hi),zR]at e;rw[zN (by rw[zH,<- hl];exact hi),zR];cases ha:args[i]? with
 |none=>rw[ha]at e;cases e
 |some x =>
  rw[ha]at e;cases e;obtain⟨w,e1,r1⟩:=h.get ha;exact⟨w,by rw[e1];rfl,r1⟩
def BB(fn:Fn)(g:AF):EF:=fun sl st=>(g sl st).bind fun p=>fn p.1 p.2
section
variable{X:Cx}{x:Str}{p pos:Pos}{e o:Expr}{es:List Expr}{k:Nat}{f:Addr}{fd:FuncData}{ps:List Str}{fn:Fn}{g:AF}{h:EF}
theorem Kt[MV]{n:Nat}(hn:∀sl st xs st',g sl st=some (xs,st')->xs.length=n)(q:rE mg (BB fn g) σ H Q):uz (dA mg n fn) [] E (rA mg g) σ H Q:=by
 obtain⟨P,φ,sl,st,rs,s,kk⟩:=q;refine⟨P,φ,sl,st,rs,s,?_⟩;obtain⟨a,st',e1,q⟩:=kk.bind (Ra:=MY);refine⟨a,st',e1,fun P1 φ1 H1 b f1 s1 r1=>?_⟩;obtain⟨P2,φ2,st2,xs,f2,s2,r2,k2⟩:=q P1 φ1 H1 b f1 s1 r1;rw[List.append_nil];exact⟨by rw[<- r1.length];exact hn _ _ _ _ e1,P2,φ2,xs,st2,r2,s2,k2⟩
theorem Cs[MV](F:FnOk X.prog X.w X.K X.mg X.base eO k f fd ps (dA X.gm ps.length fn))(hr:Room k X.A)(hg:Gl X x)(hm:X.mg x=some (.ref f))(hk:keepIn X.K (.ref f)=true)(hb:Binds X.K fd ps [])
  (ha:QA X (e::es) g) (hn:∀sl st xs st',g sl st=some (xs,st')->xs.length=ps.length) (hdb:(x==("__debug__":Str))=false) (he:starEach (e::es) X.env=(false,eval e X.env)::starEach es X.env) (hpl:(backTo pos (starEach es X.env)).any (·.1)=false) :
  QE X (.Call (.Name x p) (e::es) [] pos) (BB fn g):=PE_imp (CO (E:=E0) F hr hg hm hk hb .nil mW ha hdb he hpl) fun _ _ _ q=>Kt hn q
theorem zc[MV](F:FnOk X.prog X.w X.K X.mg X.base eO k f fd ps (dA X.gm ps.length fn))(hr:Room k X.A)(hg:Gl X x)(hm:X.mg x=some (.ref f))(hk:keepIn X.K (.ref f)=true)(hb:Binds X.K fd ps [])
  (hn:ps.length=0) (hdb:(x==("__debug__":Str))=false):QE X (.Call (.Name x p) [] [] pos) (BB fn fb):=PE_imp (zu (E:=E0) F hr hg hm hk hb .nil mW hdb) fun σ H Q q=>by
 obtain⟨P,φ,sl,st,rs,s,kk⟩:=q;exact⟨by simp[hn],P,φ,[],st,bG,s,kk⟩
def jl(st:aa)(c:Str):AV->Option (List (Str×AV))
 |.ref k=>match st[k]? with
  |some (.ins c' fs)=>if c'=c then some fs else none
  |_=>none
 |_=>none
theorem nj(h:KVR mg P H φ fs ws)(f:Str):(fs.lookup f=none->ws.lookup f=none)/\∀v,fs.lookup f=some v->∃w,ws.lookup f=some w/\RA mg P H φ v w:=by
 induction fs generalizing ws with
 |nil =>
  have:ws=[]:=by simpa using h.1.symm
  subst this;exact⟨fun _=>rfl,fun v e=>by cases e⟩
 |cons p fs ih =>
  cases ws with
  |nil=>exact absurd h.1 (by simp)
  |cons q ws =>
   obtain⟨h1,h2⟩:=h;rw[zO,zO]at h1 h2;injection h1 with h3 h4;simp only[MY]at h2;obtain⟨v,vs,h5,h6,h7⟩:=h2;injection h5 with h8 h9;subst h8;subst h9;obtain⟨a,b⟩:=p;obtain⟨c,d⟩:=q;dsimp only at h3 h6;subst h3;rw[yO,yO];cases hb:f==a with
   |true=>exact⟨fun z=>(by cases z),fun v z=>(by cases z;exact⟨d,rfl,h6⟩)⟩
   |false=>exact ih ⟨h4,h7⟩
theorem mG[MV]{mg:Gm}{P:Pr}{φ:List Addr}{st:aa}{H:Hp}{c:Str}{v:AV}{w:V}{fs:List (Str×AV)}(s:Sim mg P φ st H)(h:jl st c v=some fs)(r:RA mg P H φ v w) :
  ∃k a C dx ws,v=.ref k/\φ[k]?=some a/\¬P a/\w=.ref a/\mg.mg c=some (.ref C)/\H a=some (.ins C dx ws)/\KVR mg P H φ fs ws:=by
 cases v with
 |ref k =>
  simp only[jl]at h;split at h
  ·rename_i c' fs' hk
   split at h
   ·rename_i hc
    cases h;subst hc;simp only[RA]at r;obtain⟨a,ea,rfl⟩:=r;obtain⟨a',ea',cr⟩:=s.at hk;rw[ea]at ea';cases ea';obtain⟨na,C,dx,ws,h1,h2,h3⟩:=cr;exact⟨k,a,C,dx,ws,rfl,ea,na,rfl,h1,h2,h3⟩
   ·cases h
  ·cases h
 |_=>cases h
def BA(c m:Str)(fn:Fn)(h:EF)(g:AF):EF:=fun sl st=>(h sl st).bind fun p=>(jl p.2 c p.1).bind fun fs=>if(fs.lookup m).isNone=true then(g sl p.2).bind fun q=>fn (p.1::q.1) q.2 else none
theorem Fo[MV]{n:Nat}(hC:mg.mg c=some (.ref C))(hn:∀sl st xs st',g sl st=some (xs,st')->xs.length+1=n)(q:rE mg (BA c m fn h g) σ H Q):uy C m (dA mg n fn) [] E (rE mg h) (rA mg g) σ H Q:=by
 obtain⟨P,φ,sl,st,rs,s,v,st',e,k⟩:=q;obtain⟨p,e1,e2⟩:=zA e;obtain⟨fs,e3,e4⟩:=zA e2;split at e4
 ·rename_i hm
  obtain⟨q,e5,e6⟩:=zA e4;refine⟨P,φ,sl,st,rs,s,p.1,p.2,e1,fun P1 φ1 H1 w f1 s1 r1=>?_⟩;obtain⟨j,a,C',dx,ws,h1,h2,h3,rfl,h5,h6,h7⟩:=mG s1 e3 r1;rw[hC]at h5;cases h5;refine⟨a,dx,ws,rfl,h6,(nj h7 m).1 (by simpa using hm),P1,φ1,sl,p.2,rs.frm f1,s1,q.1,q.2,e5,fun P2 φ2 H2 vs f2 s2 r2=>?_⟩;show dA mg n fn (V.ref a::(vs++[])) H2 Q E;rw[List.append_nil];exact⟨by rw[yY,<- r2.length];exact hn _ _ _ _ e5,P2,φ2,p.1::q.1,q.2,aU (r1.frm f2) r2,s2,v,st',e6,fun P3 φ3 H3 w3 f3 s3 r3=>k P3 φ3 H3 w3 ((f1.trans f2).trans f3) s3 r3⟩
 ·cases e4
theorem Cq[MV](ho:QE X o h)(cl:Cls X.K C)(hC:X.mg c=some (.ref C))(hm:j3 X.K C m f)(F:FnOk X.prog X.w X.K X.mg X.base eO k f fd ps (dA X.gm ps.length fn))(hr:Room k X.A)(hb:Binds X.K fd ps [])
  (ha:QA X (e::es) g) (hn:∀sl st xs st',g sl st=some (xs,st')->xs.length+1=ps.length) (hst:starEach (e::es) X.env=(false,eval e X.env)::starEach es X.env) (hpl:(backTo pos (starEach es X.env)).any (·.1)=false)
  (ht:eval (.Call (.Attribute o m apos) (e::es) [] pos) X.env=(do
   let ov <- eval o X.env
   standAt apos.atName
   let(f,first) <- holding [ov] (getMethod ov m pl)
   callWith pos f first (backTo pos (starEach (e::es) X.env)) (backToKw pos (keywordEach [] X.env)))):QE X (.Call (.Attribute o m apos) (e::es) [] pos) (BA c m fn h g) :=
 PE_imp (CK (E:=E0) ho cl hm F hr hb .nil mW ha hst hpl ht) fun _ _ _ q=>Fo hC hn q
theorem zb[MV](ho:QE X o h)(cl:Cls X.K C)(hC:X.mg c=some (.ref C))(hm:j3 X.K C m f)(F:FnOk X.prog X.w X.K X.mg X.base eO k f fd ps (dA X.gm ps.length fn))(hr:Room k X.A)(hb:Binds X.K fd ps [])
  (hn:ps.length=1)
  (ht:eval (.Call (.Attribute o m apos) [] [] pos) X.env=(do
   let ov <- eval o X.env
   standAt apos.atName
   let(f,first) <- holding [ov] (getMethod ov m pl)
   callWith pos f first (backTo pos (starEach [] X.env)) (backToKw pos (keywordEach [] X.env)))):QE X (.Call (.Attribute o m apos) [] [] pos) (BA c m fn h fb) :=
 PE_imp (zo (E:=E0) ho cl hm F hr hb .nil mW ht) fun σ H Q q=>by
  obtain⟨P,φ,sl,st,rs,s,v,st',e,k⟩:=Fo (E:=E0) (C:=C) hC (g:=fb) (n:=1) (fun sl st xs st' e=>by cases e;rfl) q;refine⟨P,φ,sl,st,rs,s,v,st',e,fun P1 φ1 H1 w f1 s1 r1=>?_⟩;obtain⟨a,dx,fs,h1,h2,h3,h4⟩:=k P1 φ1 H1 w f1 s1 r1;refine⟨a,dx,fs,h1,h2,h3,?_⟩;obtain⟨P2,φ2,sl2,st2,rs2,s2,xs,st3,e3,k3⟩:=h4;cases e3
  have:=k3 P2 φ2 H1 [] Frm.refl s2 bG
  rw[hn];exact this
def xP(c:Str)(fn:Fn)(g:AF):EF:=fun sl st=>(g sl st).bind fun p=>(fn (.ref p.2.length::p.1) (p.2++[.ins c []])).bind fun q=>match q.1 with
 |.non=>some (.ref p.2.length,q.2)
 |_=>none
theorem CT[MV]{mg:Gm}{P:Pr}{φ:List Addr}{st:aa}{H:Hp}{c:Str}{C x dx:Addr}(s:Sim mg P φ st H)(hC:mg.mg c=some (.ref C))(hx:H x=none)(hd:H dx=none)(ne:dx≠x) :
  Frm P φ H P (φ++[x]) (af (af H dx (.own x)) x (.ins C dx []))/\Sim mg P (φ++[x]) (st++[.ins c []]) (af (af H dx (.own x)) x (.ins C dx [])):=by
 have nd:∀a,H a≠none->a≠dx:=fun a h e=>h (by rw[e];exact hd)
 have f1:Frm P φ H P φ (af H dx (.own x)):=⟨fun a h=>⟨h,ad (nd a (s.dom a h))⟩,⟨[],by simp,by simp⟩,fun a h _ _=>ad (nd a h),fun a h=>.inl h,fun a h=>by rw[ad (nd a h)];exact h,fun a o u h=>by rw[ad (aX h hd)];exact h⟩;have s1:Sim mg P φ st (af H dx (.own x)):=s.stay f1.ext (fun a h=>ad (nd a (s.cd a h))) (fun _ _ h=>h) (fun a h=>f1.sm a (s.dom a h)) fun t ht=>⟨(s.tb t ht).1.new hd,(s.tb t ht).2⟩
 have hx1:af H dx (.own x) x=none:=by rw[ad (Ne.symm ne)];exact hx
 obtain⟨f2,s2⟩:=mB (c:=.ins c []) (o:=.ins C dx []) s1 hx1 ⟨fun z=>s1.dom x z hx1,C,dx,[],hC,ay,rfl,bG⟩;exact⟨f1.trans f2,s2⟩
theorem J4[MV]{mg:Gm}{c:Str}{C:Addr}{n:Nat}{E:XK}{σ:St}{H:Hp}{Q:VK}(hC:mg.mg c=some (.ref C))(hn:∀sl st xs st',g sl st=some (xs,st')->xs.length+1=n)(q:rE mg (xP c fn g) σ H Q):A2 C (dA mg n fn) [] E (rA mg g) σ H Q:=by
 obtain⟨P,φ,sl,st,rs,s,v,st',e,k⟩:=q;obtain⟨p,e1,e2⟩:=zA e;obtain⟨q,e3,e4⟩:=zA e2;refine⟨P,φ,sl,st,rs,s,p.1,p.2,e1,fun P1 φ1 H1 vs f1 s1 r1=>fun x dx hx hd ne=>?_⟩;obtain⟨f2,s2⟩:=CT s1 hC hx hd ne;have rx:RA mg P1 (af (af H1 dx (.own x)) x (.ins C dx [])) (φ1++[x]) (.ref p.2.length) (.ref x):=by simp only[RA];exact⟨x,by rw[<- s1.len];simp,rfl⟩
 rw[List.append_nil];refine⟨by rw[yY,<- r1.length];exact hn _ _ _ _ e1,P1,φ1++[x],_,_,aU rx (r1.frm f2),s2,q.1,q.2,e3,fun P3 φ3 H3 w f3 s3 r3=>?_⟩;cases hq:q.1 with
 |non =>
  rw[hq]at e4 r3;cases e4;simp only[RA]at r3;exact⟨r3,k P3 φ3 H3 (.ref x) ((f1.trans f2).trans f3) s3 (rx.frm f3)⟩
 |_=>rw[hq]at e4;cases e4
theorem EA[MV](M:Mk X.K C f)(F:FnOk X.prog X.w X.K X.mg X.base eO k f fd ps (dA X.gm ps.length fn))(hr:Room (k+1) X.A)(hg:Gl X c)(hm:X.mg c=some (.ref C))(hb:Binds X.K fd ps [])
  (ha:QA X (e::es) g) (hn:∀sl st xs st',g sl st=some (xs,st')->xs.length+1=ps.length) (hdb:(c==("__debug__":Str))=false) (he:starEach (e::es) X.env=(false,eval e X.env)::starEach es X.env) (hpl:(backTo pos (starEach es X.env)).any (·.1)=false) :
  QE X (.Call (.Name c p) (e::es) [] pos) (xP c fn g):=PE_imp (CL (E:=E0) M F hr hg hm hb .nil mW ha hdb he hpl) fun _ _ _ q=>J4 hm hn q
def Jm(c fl:Str)(h:EF):EF:=fun sl st=>(h sl st).bind fun p=>(jl p.2 c p.1).bind fun fs=>(fs.lookup fl).map fun v=>(v,p.2)
theorem EB[MV](ho:QE X o h)(cl:Cls X.K C)(hC:X.mg c=some (.ref C))(na:NoAttr X.K C fl)(hb:attributeBase o fl X.env (eval o X.env)=eval o X.env):QE X (.Attribute o fl apos) (Jm c fl h) :=
 PE_imp (E1 ho hb) fun σ H Q hq0=>by
  obtain⟨P,φ,sl,st,rs,s,v,st',e,k⟩:=hq0;obtain⟨p,e1,e2⟩:=zA e;obtain⟨fs,e3,e4⟩:=zA e2;obtain⟨t,e5,e6⟩:=zE.mp e4;cases e6;refine⟨P,φ,sl,st,rs,s,p.1,p.2,e1,fun P1 φ1 H1 w f1 s1 r1=>?_⟩;obtain⟨j,a,C',dx,ws,h1,h2,h3,rfl,h5,h6,h7⟩:=mG s1 e3 r1;have:C'=C:=by rw[show X.gm.mg c=X.mg c from rfl,hC]at h5;cases h5;rfl
  subst this;obtain⟨w,hw,rw'⟩:=(nj h7 fl).2 _ e5;exact⟨a,C',dx,ws,w,rfl,h6,cl,na,hw,k P1 φ1 H1 w f1 s1 rw'⟩
noncomputable def iQ(f:Str)(v:AV):List (Str×AV)->List (Str×AV)
 |[]=>[(f,v)]
 |(g,x)::r=>if g=f then(g,v)::r else(g,x)::iQ f v r
theorem ww{mg:Gm}{P:Pr}{H:Hp}{φ:List Addr}{f:Str}{v:AV}{w:V}(r:RA mg P H φ v w):∀{fs:List (Str×AV)}{ws:List (Str×V)},KVR mg P H φ fs ws->KVR mg P H φ (iQ f v fs) (dQ f w ws):=by
 intro fs
 induction fs with
 |nil =>
  intro ws h;have:ws=[]:=by simpa using h.1.symm
  subst this;exact⟨rfl,aU r bG⟩
 |cons p fs ih =>
  intro ws h;cases ws with
  |nil=>exact absurd h.1 (by simp)
  |cons q ws =>
   obtain⟨h1,h2⟩:=h;rw[zO,zO]at h1 h2;injection h1 with h3 h4;simp only[MY]at h2;obtain⟨u,us,h5,h6,h7⟩:=h2;injection h5 with h8 h9;subst h8;subst h9;obtain⟨a,b⟩:=p;obtain⟨c,d⟩:=q;dsimp only at h3 h6;subst h3;have i:=ih (ws:=ws) ⟨h4,h7⟩;unfold iQ dQ;by_cases e:a=f
   ·rw[yI e,yI e]
    exact⟨by rw[zO,zO,h4],aU r h7⟩
   ·rw[yH e,yH e]
    exact⟨by rw[zO,zO,i.1],aU h6 i.2⟩
def wm(c fl:Str)(h f:EF):SF:=fun sl st=>(f sl st).bind fun p=>(h sl p.2).bind fun q=>match q.1 with
 |.ref k=>(jl q.2 c (.ref k)).bind fun fs=>if Nat.ble fs.length 900=true then some (.nx sl (q.2.set k (.ins c (iQ fl p.1 fs)))) else none
 |_=>none
theorem Ek[MV](ho:QE X o h)(hv:QE X e f')(cl:Cls X.K C)(hC:X.mg c=some (.ref C))(na:NoAttr X.K C fl)(hs:swapsWith e (some (.Attribute o fl pos')) pos.line X.env=pure false):QS X (.Assign [.Attribute o fl pos'] e pos) (wm c fl h f') :=
 PS_imp (EL ho hv hs) fun D σ H hq0=>by
  obtain⟨P,φ,sl,st,rs,s,out,eo,q⟩:=hq0;obtain⟨p,e1,e2⟩:=zA eo;obtain⟨r,e3,e4⟩:=zA e2;split at e4
  ·rename_i j hj
   obtain⟨fs,e5,e6⟩:=zA e4;split at e6
   ·rename_i hl
    cases e6;refine⟨P,φ,sl,st,rs,s,p.1,p.2,e1,fun P1 φ1 H1 w1 f1 s1 r1=>⟨P1,φ1,sl,p.2,rs.frm f1,s1,r.1,r.2,e3,fun P2 φ2 H2 w2 f2 s2 r2=>?_⟩⟩;rw[hj]at r2;obtain⟨j',a,C',dx,ws,h1,h2,h3,rfl,h5,h6,h7⟩:=mG s2 e5 r2;cases h1;have:C'=C:=by rw[show X.gm.mg c=X.mg c from rfl,hC]at h5;cases h5;rfl
    subst this;have ln:ws.length<1000:=by
     have z:=congrArg List.length h7.1;rw[zH,zH]at z
     have:=zS hl
     lia
    obtain⟨f3,s3⟩:=ie (c:=.ins c (iQ fl p.1 fs)) (o:=.ins C' dx (dQ fl w1 ws)) s2 h2 h3 ⟨h3,C',dx,_,hC,ay,(ww (r1.frm f2) h7).mono (fun b h=>⟨h,ad fun e=>h3 (e▸h)⟩) fun _ _ z=>z⟩ (fun _ _ z=>by rw[h6]at z;cases z);exact⟨a,C',dx,ws,rfl,h6,cl,na,ln,q P2 φ2 _ σ ((f1.trans f2).trans f3) s3 (((rs.frm f1).frm f2).frm f3)⟩
   ·cases e6
  ·cases e4
end
open DD (obj_list obj_tup minL minL_eq cnt_vals)
abbrev BF:=List AV->aa->Option (AV×aa)
def rB[MV](mg:Gm)(k:BF):List V->Hp->VK->Prop:=fun vs H Q=>∃P φ st xs,Sim mg P φ st H/\MY mg P H φ xs vs/\KG mg RA P φ H (k xs st) Q
def sC(k:BF)(g:AF):EF:=fun sl st=>(g sl st).bind fun p=>k p.1 p.2
theorem AH[MV](q:rE mg (sC k g) σ H Q):DM (rB mg k) (rA mg g) σ H Q:=by
 obtain⟨P,φ,sl,st,rs,s,kk⟩:=q;refine⟨P,φ,sl,st,rs,s,?_⟩;obtain⟨a,st',e1,q⟩:=kk.bind (Ra:=MY);refine⟨a,st',e1,fun P1 φ1 H1 b f1 s1 r1=>?_⟩;obtain⟨P2,φ2,st2,xs,f2,s2,r2,k2⟩:=q P1 φ1 H1 b f1 s1 r1;exact⟨P2,φ2,st2,xs,s2,r2,k2⟩
def cj(h:aa->List AV->Option AV):BF:=fun xs st=>(h st xs).map fun z=>(z,st)
section
variable{X:Cx}{x:Str}{p pos:Pos}{e o a:Expr}{es:List Expr}{g:AF}{k:BF}{bid T:String}
theorem mV[MV](hc:cQ X (.builtin bid) (rB X.gm k))(hg:Gl X x)(hm:X.mg x=none)(hv:bootBuiltins x=some (.builtin bid))(ha:QA X (e::es) g)(hn:x≠"__name__")(hdb:(x==("__debug__":Str))=false)
  (he:starEach (e::es) X.env=(false,eval e X.env)::starEach es X.env) (hpl:(backTo pos (starEach es X.env)).any (·.1)=false):QE X (.Call (.Name x p) (e::es) [] pos) (sC k g) :=
 PE_imp (zt hc hg hm hv ha hn hdb he hpl) fun _ _ _ q=>AH q
theorem G5[MV](hc:cQ X (.type T) (rB X.gm k))(hg:Gl X x)(hm:X.mg x=none)(hv:bootBuiltins x=some (.type T))(ha:QA X (e::es) g)(hn:x≠"__name__")(hdb:(x==("__debug__":Str))=false)
  (he:starEach (e::es) X.env=(false,eval e X.env)::starEach es X.env) (hpl:(backTo pos (starEach es X.env)).any (·.1)=false):QE X (.Call (.Name x p) (e::es) [] pos) (sC k g) :=
 PE_imp (pw hc hg hm hv ha hn hdb he hpl) fun _ _ _ q=>AH q
theorem MY.one{mg:Gm}{P:Pr}{H:Hp}{φ:List Addr}{x:AV}{vs:List V}(h:MY mg P H φ [x] vs):∃v,vs=[v]/\RA mg P H φ x v:=by
 simp only[MY]at h;obtain⟨v,ws,rfl,r,rfl⟩:=h;exact⟨v,rfl,r⟩
theorem MY.two{mg:Gm}{P:Pr}{H:Hp}{φ:List Addr}{x y:AV}{vs:List V}(h:MY mg P H φ [x,y] vs):∃v w,vs=[v,w]/\RA mg P H φ x v/\RA mg P H φ y w:=by
 simp only[MY]at h;obtain⟨v,ws,rfl,r,w,us,rfl,r',rfl⟩:=h;exact⟨v,w,rfl,r,r'⟩
theorem oy(h:cQ X f r)(i:∀xs H Q,r' xs H Q->r xs H Q):cQ X f r':=fun MS s σ H xs us Q I rv h'=>h MS s σ H xs us Q I rv (i xs H Q h')
def eU(st:aa):List AV->Option AV
 |[v]=>match bO st v with
  |some xs=>some (.int xs.length)
  |none=>match iO st v with
   |some xs=>some (.int xs.length)
   |none=>match v with
    |.str x=>if cA x.length=true then some (.int x.length) else none
    |v=>match ja st v with
     |some MU=>some (.int MU.length)
     |none=>(lU st v).map fun MU=>.int MU.length
 |_=>none
theorem vH:cQ X (.builtin "len") (fun xs H Q=>∃a MU,xs=[V.ref a]/\H a=some (.dK MU)/\Q (.int MU.length) H):=by
 intro MS s σ H xs us Q I r h;obtain⟨a,MU,rfl,ha,q⟩:=h;obtain⟨u,rfl,ru⟩:=eI r;cases ru;obtain⟨z,hd,vs,rel,dd⟩:=Br I.M2 ha;have hl:MU.length=vs.length:=Paired.length rel;have hz:sizeLine=16777216:=sizeLine_eq;exact call_len_dict hd dd oM ⟨.int _,H,I.tok _,⟨_,by rw[hl]⟩,q⟩
theorem Ik[MV]:cQ X (.builtin "len") (rB X.gm (cj eU)):=by
 rintro MS s σ H vs us Q I rv ⟨P,φ,st,xs,sm,r,k0⟩;obtain⟨z,e,k⟩:=k0.map;clear k0;unfold eU at e;split at e
 ·rename_i v
  obtain⟨w,ew,r9⟩:=r.one;clear r;subst ew;have r:=r9;clear r9;have aw:∀n:Nat,z=.int n->Q (.int n) H:=fun n h=>by subst h;exact k.pure sm (by simp only[RA])
  split at e
  ·rename_i ys e1
   cases e;obtain⟨a,vs,rfl,d1,q1⟩:=r.ls sm e1;exact kK MS s σ H _ us Q I rv ⟨a,vs,rfl,.inl d1,by rw[<- q1.length];exact aw _ rfl⟩
  ·split at e
   ·rename_i ys e1
    cases e;obtain⟨a,vs,rfl,d1,q1⟩:=r.tp sm e1;exact kK MS s σ H _ us Q I rv ⟨a,vs,rfl,.inr (.inl (.inl d1)),by rw[<- q1.length];exact aw _ rfl⟩
   ·cases v with
    |str x =>
     dsimp only at e;split at e
     ·rename_i hz
      cases e;simp only[RA]at r;subst r;exact sj MS s σ H _ us Q I rv ⟨x,rfl,ju hz,aw _ rfl⟩
     ·cases e
    |ref j =>
     simp only[RA]at r;obtain⟨a,ea,rfl⟩:=r;dsimp only[ja,lU]at e;cases hj:st[j]? with
     |none=>rw[hj]at e;cases e
     |some c =>
      rw[hj]at e;obtain⟨a',ea',c'⟩:=sm.at hj;rw[ea]at ea';cases ea';cases c with
      |dK MU =>
       cases e;obtain⟨_,ws,q1,q2⟩:=c'
       have:=congrArg List.length q2.1
       rw[zH,zH]at this;exact vH MS s σ H _ us Q I rv ⟨a,ws,rfl,q1,by rw[<- this];exact aw _ rfl⟩
      |dT MU =>
       cases e;obtain⟨_,ws,q1,q2⟩:=c'
       have:=congrArg List.length q2.1
       rw[zH,zH]at this;exact xH MS s σ H _ us Q I rv ⟨a,ws,rfl,q1,by rw[<- this];exact aw _ rfl⟩
      |_=>cases e
    |_=>cases e
 ·cases e
def k4:List AV->Option (List Int):=bH fun x=>match x with
 |.int i=>some i
 |_=>none
theorem xg(h:k4 xs=some ns):xs=ns.map .int:=by
 unfold k4 at h
 induction xs generalizing ns with
 |nil=>cases h;rfl
 |cons x xs ih =>
  simp only [bH] at h;obtain ⟨y,e1,e2⟩:=zA h;obtain ⟨ys,e3,e4⟩:=zE.mp e2;subst e4;cases x <;> first | (cases e1;done) | skip
  cases e1;rw[ih e3];rfl
def lsI(st:aa)(v:AV):Option (List Int):=(bO st v).bind k4
theorem RA.lsI[MV]{mg:Gm}{P:Pr}{H:Hp}{φ:List Addr}{st:aa}{v:AV}{w:V}{ns:List Int}(s:Sim mg P φ st H)(r:RA mg P H φ v w)(h:R.lsI st v=some ns):∃a,w=.ref a/\bQ mg.K H a (ns.map .int):=by
 obtain⟨xs,e1,e2⟩:=zA h;obtain⟨a,vs,rfl,d1,q1⟩:=r.ls s e1
 have:=xg e2
 subst this;rw[q1.ints]at d1;exact⟨a,rfl,d1⟩
def oH(st:aa):List AV->Option AV
 |[v]=>(lsI st v).map fun ns=>.int ns.sum
 |_=>none
theorem Ih[MV](hc:X.calm=true):cQ X (.builtin "sum") (rB X.gm (cj oH)):=by
 rintro MS s σ H vs us Q I rv ⟨P,φ,st,xs,sm,r,k0⟩;obtain⟨z,e,k⟩:=k0.map;clear k0;unfold oH at e;split at e
 ·rename_i v
  obtain⟨w,ew,r9⟩:=r.one;clear r;subst ew;have r:=r9;clear r9;obtain⟨ns,e1,rfl⟩:=zE.mp e;obtain⟨a,rfl,d1⟩:=r.lsI sm e1;obtain⟨u,rfl,ru⟩:=eI rv;cases ru;obtain⟨MW,r',pl,_⟩:=I.list d1;have hi:IntsAre MW ns:=jQ r';obtain⟨ys,hy⟩:=hi.allInts.items;refine sum_intListG (xs:=ys) (I.ok.hd hc) (by rw[<- hy];exact pl.isList) fun h' tk t' hk=>⟨.int ns.sum,H,I.kept hk,?_,k.pure sm (by simp only[RA])⟩
  have:(preSum (numAt ys) ys.size)=ns.sum:=by
   rw[preSum_eq,List.take_of_length_le (by simp),<- nums_intItems,<- hy];rw[show MW.toArray.toList=MW from rfl,hi.numsOf]
  rw[this];exact⟨t',rfl⟩
 ·cases e
def sB(_:aa):List AV->Option AV
 |[.int i]=>some (.int (if i<0 then -i else i))
 |_=>none
theorem Im[MV]:cQ X (.builtin "abs") (rB X.gm (cj sB)):=oy AE fun vs H Q hq0=>by
 obtain⟨P,φ,st,xs,sm,r,k0⟩:=hq0;obtain⟨z,e,k⟩:=k0.map;unfold sB at e;split at e
 ·cases e
  obtain⟨w,ew,r9⟩:=r.one;clear r;subst ew;have r:=r9;clear r9;simp only[RA]at r;exact⟨_,by rw[r],k.pure sm (by simp only[RA])⟩
 ·cases e
def oQ(st:aa):List AV->Option AV
 |[.int i,.int j]=>some (.int (if j<i then j else i))
 |[v]=>(lsI st v).bind fun ns=>(minL ns).map .int
 |_=>none
noncomputable def Fp:List Int->Option Int
 |[]=>none
 |x::xs=>some (xs.foldl (fun a b=>if a<b then b else a) x)
theorem J6:∀(xs:List Int)(x:Int),(xs.foldl (fun a b=>if a<b then b else a) x∈x::xs)/\∀a∈x::xs,a<=xs.foldl (fun a b=>if a<b then b else a) x:=by
 intro xs
 induction xs with
 |nil=>intro x;exact⟨by simp,by simp⟩
 |cons y xs ih =>
  intro x;rw[List.foldl_cons];obtain⟨h1,h2⟩:=ih (if x<y then y else x);refine⟨?_,fun a ha=>?_⟩
  ·rcases zT.mp h1 with h|h
   ·rw[h];split<;>simp
   ·exact zQ _ (zQ _ h)
  ·have h3:=h2 _ z7
   rcases zT.mp ha with rfl|ha
   ·refine Int.le_trans ?_ h3;split<;>lia
   ·rcases zT.mp ha with rfl|ha
    ·refine Int.le_trans ?_ h3;split<;>lia
    ·exact h2 a (zQ _ ha)
theorem CY{m x:Int}(h:Fp ns=some m)(h1:x∈ns)(h2:∀a∈ns,a<=x):x=m:=by
 cases ns with
 |nil=>cases h
 |cons y ns =>
  obtain⟨a,b⟩:=J6 ns y;have e:ns.foldl (fun a b=>if a<b then b else a) y=m:=by injection h
  rw[e]at a b
  have:=h2 m a
  have:=b x h1
  lia
def oR(st:aa):List AV->Option AV
 |[.int i,.int j]=>some (.int (if j > i then j else i))
 |[v]=>(lsI st v).bind fun ns=>(Fp ns).map .int
 |_=>none
theorem Ii[MV](hc:X.calm=true):cQ X (.builtin "min") (rB X.gm (cj oQ)):=by
 rintro MS s σ H vs us Q I rv ⟨P,φ,st,xs,sm,r,k0⟩;obtain⟨z,e,k⟩:=k0.map;clear k0;unfold oQ at e;split at e
 ·rename_i i j
  cases e;obtain⟨w,w',ew,r8,r9⟩:=r.two;clear r;subst ew;have r:=r8;have r':=r9;clear r8 r9;simp only[RA]at r r';subst r;subst r';exact xF hc MS s σ H _ us Q I rv ⟨i,j,rfl,k.pure sm (by simp only[RA])⟩
 ·rename_i v
  obtain⟨w,ew,r9⟩:=r.one;clear r;subst ew;have r:=r9;clear r9;obtain⟨ns,e1,e2⟩:=zA e;obtain⟨m,hm,rfl⟩:=zE.mp e2;obtain⟨a,rfl,d1⟩:=r.lsI sm e1;obtain⟨u,rfl,ru⟩:=eI rv;cases ru;obtain⟨MW,r',pl,_⟩:=I.list d1;have hi:IntsAre MW ns:=jQ r';obtain⟨ys,hy⟩:=hi.allInts.items;have hns':ns=ys.toList.map (·.1):=by rw[<- hi.numsOf,<- nums_intItems,<- hy]
  have hsz:0<ys.size:=by
   cases ns with
   |nil=>cases hm
   |cons n ns =>
    have:(n::ns).length=ys.size:=by rw[hns',zH,Array.length_toList]
    simp at this;lia
  refine min_intList (xs:=ys) (I.ok.hd hc) (by rw[<- hy];exact pl.isList) hsz fun v h' tk hv hk=>?_
  obtain⟨t,rfl⟩:=intItems_at hv;obtain⟨h1,h2⟩:=argBest_lt (numAt ys) (ys.size-1);refine⟨.int m,H,I.kept hk,?_,k.pure sm (by simp only[RA])⟩;have e:numAt ys (argBest (fun i j=>decide (numAt ys i<numAt ys j)) (ys.size-1))=m:=by
   refine minL_eq hm ?_ fun a ha=>?_
   ·rw[hns',numAt_eq];exact getD_mem (by rw[zH,Array.length_toList];lia)
   ·rw[hns']at ha
    obtain⟨j,hj,rfl⟩:=mem_getD ha;rw[zH,Array.length_toList]at hj;rw[<- numAt_eq];exact h2 j oM
  exact⟨t,by rw[e]⟩
 ·cases e
theorem Ij[MV](hc:X.calm=true):cQ X (.builtin "max") (rB X.gm (cj oR)):=by
 rintro MS s σ H vs us Q I rv ⟨P,φ,st,xs,sm,r,k0⟩;obtain⟨z,e,k⟩:=k0.map;clear k0;unfold oR at e;split at e
 ·rename_i i j
  cases e;obtain⟨w,w',ew,r8,r9⟩:=r.two;clear r;subst ew;have r:=r8;have r':=r9;clear r8 r9;simp only[RA]at r r';subst r;subst r';exact xG hc MS s σ H _ us Q I rv ⟨i,j,rfl,k.pure sm (by simp only[RA])⟩
 ·rename_i v
  obtain⟨w,ew,r9⟩:=r.one;clear r;subst ew;have r:=r9;clear r9;obtain⟨ns,e1,e2⟩:=zA e;obtain⟨m,hm,rfl⟩:=zE.mp e2;obtain⟨a,rfl,d1⟩:=r.lsI sm e1;obtain⟨u,rfl,ru⟩:=eI rv;cases ru;obtain⟨MW,r',pl,_⟩:=I.list d1;have hi:IntsAre MW ns:=jQ r';obtain⟨ys,hy⟩:=hi.allInts.items;have hns':ns=ys.toList.map (·.1):=by rw[<- hi.numsOf,<- nums_intItems,<- hy]
  have hsz:0<ys.size:=by
   cases ns with
   |nil=>cases hm
   |cons n ns =>
    have:(n::ns).length=ys.size:=by rw[hns',zH,Array.length_toList]
    simp at this;lia
  refine max_intList (xs:=ys) (I.ok.hd hc) (by rw[<- hy];exact pl.isList) hsz fun v h' tk hv hk=>?_
  obtain⟨t,rfl⟩:=intItems_at hv;obtain⟨h1,h2⟩:=argBest_gt (numAt ys) (ys.size-1);refine⟨.int m,H,I.kept hk,?_,k.pure sm (by simp only[RA])⟩;have e:numAt ys (argBest (fun i j=>decide (numAt ys i > numAt ys j)) (ys.size-1))=m:=by
   refine CY hm ?_ fun a ha=>?_
   ·rw[hns',numAt_eq];exact getD_mem (by rw[zH,Array.length_toList];lia)
   ·rw[hns']at ha
    obtain⟨j,hj,rfl⟩:=mem_getD ha;rw[zH,Array.length_toList]at hj;rw[<- numAt_eq];exact h2 j oM
  exact⟨t,by rw[e]⟩
 ·cases e
def rk(_:aa):List AV->Option AV
 |[.int i]=>some (.int i)
 |[.bl b]=>some (.int (if b then 1 else 0))
 |_=>none
theorem Il[MV]:cQ X (.type "int") (rB X.gm (cj rk)):=oy xI fun vs H Q hq0=>by
 obtain⟨P,φ,st,xs,sm,r,k0⟩:=hq0;obtain⟨z,e,k⟩:=k0.map;unfold rk at e;split at e
 ·cases e
  obtain⟨w,ew,r9⟩:=r.one;clear r;subst ew;have r:=r9;clear r9;simp only[RA]at r;exact .inl ⟨_,by rw[r],k.pure sm (by simp only[RA])⟩
 ·cases e
  obtain⟨w,ew,r9⟩:=r.one;clear r;subst ew;have r:=r9;clear r9;simp only[RA]at r;exact .inr ⟨_,by rw[r],k.pure sm (by simp only[RA])⟩
 ·cases e
end
open DD (reads_each)
abbrev MF:=AV->List AV->aa->Option (AV×aa)
def rM[MV](mg:Gm)(k:MF):V->List V->Hp->VK->Prop:=fun x vs H Q=>∃P φ st a xs,Sim mg P φ st H/\RA mg P H φ a x/\MY mg P H φ xs vs/\KG mg RA P φ H (k a xs st) Q
def qv(T:String)(st:aa)(v:AV):Bool:=match v with
 |.str _=>T=="str"
 |.int _=>T=="int"
 |v=>if T="list" then(bO st v).isSome else if T="dict" then(ja st v).isSome||(lU st v).isSome else false
def md(T:String)(k:MF)(f:EF)(g:AF):EF:=fun sl st=>(f sl st).bind fun p=>if qv T p.2 p.1=true then(g sl p.2).bind fun q=>k p.1 q.1 q.2 else none
section
variable{X:Cx}{e o:Expr}{es:List Expr}{f:EF}{g:AF}{k:MF}{name:Str}{apos cpos:Pos}{T mid:String}
theorem BR[MV]{P:Pr}{φ:List Addr}{st:aa}{H:Hp}{v:AV}{w:V}(s:Sim X.gm P φ st H)(r:RA X.gm P H φ v w)(h:qv T st v=true):vT X.K T w H:=by
 have gen:(if T="list" then(bO st v).isSome else if T="dict" then(ja st v).isSome||(lU st v).isSome else false)=true->vT X.K T w H:=fun h=>by
  split at h
  ·rename_i hT
   obtain⟨xs,e⟩:=Option.isSome_iff_exists.mp h;obtain⟨a,vs,rfl,d1,_⟩:=r.ls s e;exact .inl ⟨hT,vs,d1⟩
  ·split at h
   ·rename_i hT
    cases v with
    |ref j =>
     simp only[RA]at r;obtain⟨a,ea,rfl⟩:=r;simp only[ja,lU]at h;cases hj:st[j]? with
     |none=>rw[hj]at h;simp at h
     |some c =>
      rw[hj]at h;obtain⟨a',ea',c'⟩:=s.at hj;rw[ea]at ea';cases ea';cases c with
      |dK MU=>obtain⟨_,ws,q1,_⟩:=c';exact .inr (.inr (.inl ⟨hT,.inl ⟨ws,q1⟩⟩))
      |dT MU=>obtain⟨_,ws,q1,_⟩:=c';exact .inr (.inr (.inl ⟨hT,.inr ⟨ws,q1⟩⟩))
      |_=>simp at h
    |_=>simp[ja,lU]at h
   ·cases h
 unfold qv at h;cases v with
 |str x=>simp only[RA]at r;subst r;exact yK h
 |int x=>simp only[RA]at r;subst r;exact yK h
 |_=>exact gen h
theorem Fg[MV](q:rE X.gm (md T k f g) σ H Q):II X.K T (rM X.gm k) (rE X.gm f) (rA X.gm g) σ H Q:=by
 obtain⟨P,φ,sl,st,rs,s,v,st',ev,kk⟩:=q;obtain⟨p,e1,e2⟩:=zA ev;split at e2
 ·rename_i hT
  obtain⟨r,e3,e4⟩:=zA e2;exact⟨P,φ,sl,st,rs,s,p.1,p.2,e1,fun P1 φ1 H1 w f1 s1 r1=>⟨BR s1 r1 hT,P1,φ1,sl,p.2,rs.frm f1,s1,r.1,r.2,e3,fun P2 φ2 H2 ws f2 s2 r2=>⟨P2,φ2,r.2,p.1,r.1,s2,r1.frm f2,r2,v,st',e4,fun P3 φ3 H3 w3 f3 s3 r3=>kk P3 φ3 H3 w3 ((f1.trans f2).trans f3) s3 r3⟩⟩⟩
 ·cases e2
theorem p4[MV](pa:PlainAttrs T)(slot:Slot T name mid)(hty:typeOf (.builtin mid)=pure (.type "method_descriptor"))(hm:mj X mid (rM X.gm k))(ho:QE X o f)(ha:QA X (e::es) g)
  (hbase:attributeBase o name X.env (eval o X.env)=eval o X.env)
  (hfew:((backTo cpos (starEach (e::es) X.env)).all (fun x=>!x.1)&&(backToKw cpos (keywordEach [] X.env)).all (fun x=>x.1.isSome)
   && decide ((e::es).length+([]:List Keyword).length+(if([]:List Keyword).isEmpty then 0 else 1)<30))=true)
  (hline:(apos.endLine==cpos.line)=true) (hs:starEach (e::es) X.env=(false,eval e X.env)::starEach es X.env) (hplain:(backTo cpos (starEach es X.env)).any (·.1)=false) :
  QE X (.Call (.Attribute o name apos) (e::es) [] cpos) (md T k f g):=PE_imp (Hm pa slot hty hm ho ha hbase hfew hline hs hplain) fun _ _ _ q=>Fg q
theorem mU[MV](pa:PlainAttrs T)(slot:Slot T name mid)(hty:typeOf (.builtin mid)=pure (.type "method_descriptor"))(hm:mj X mid (rM X.gm k))(ho:QE X o f)
  (hbase:attributeBase o name X.env (eval o X.env)=eval o X.env) (hline:(apos.endLine==cpos.line)=true):QE X (.Call (.Attribute o name apos) [] [] cpos) (md T k f fb) :=
 PE_imp (E2 pa slot hty hm ho hbase hline) fun σ H Q q=>by
  obtain⟨P,φ,sl,st,rs,s,v,st',ev,kk⟩:=Fg q;refine⟨P,φ,sl,st,rs,s,v,st',ev,fun P1 φ1 H1 w f1 s1 r1=>?_⟩;obtain⟨h1,P2,φ2,sl2,st2,rs2,s2,xs,st3,e3,k3⟩:=kk P1 φ1 H1 w f1 s1 r1;cases e3;exact⟨h1,k3 P2 φ2 H1 [] Frm.refl s2 bG⟩
theorem mK(h:mj X mid r)(i:∀x xs H Q,r' x xs H Q->r x xs H Q):mj X mid r':=fun MS s σ H x xs v us Q I rx rv h'=>h MS s σ H x xs v us Q I rx rv (i x xs H Q h')
def ia(st:aa):AV->Option (Nat×List AV)
 |.ref k=>match st[k]? with
  |some (.lst xs)=>some (k,xs)
  |_=>none
 |_=>none
theorem kJ[MV]{mg:Gm}{P:Pr}{φ:List Addr}{st:aa}{H:Hp}{v:AV}{w:V}{j:Nat}{xs:List AV}(s:Sim mg P φ st H)(r:RA mg P H φ v w)(h:ia st v=some (j,xs)):∃a vs,w=.ref a/\φ[j]?=some a/\¬P a/\H a=some (.lst vs)/\MY mg P H φ xs vs:=by
 cases v with
 |ref i =>
  simp only[ia]at h;split at h
  ·rename_i ys hj
   cases h;simp only[RA]at r;obtain⟨a,ea,rfl⟩:=r;obtain⟨a',ea',na,vs,h1,h2⟩:=s.at hj;rw[ea]at ea';cases ea';exact⟨a,vs,rfl,ea,na,h1,h2⟩
  ·cases h
 |_=>cases h
theorem oA[MV]{mg:Gm}{P:Pr}{φ:List Addr}{st:aa}{H:Hp}{j:Nat}{a:Addr}{ys:List AV}{us:List V}(s:Sim mg P φ st H)(ea:φ[j]?=some a)(na:¬P a)(nz:∃vs,H a=some (.lst vs))(r:MY mg P H φ ys us) :
  Frm P φ H P φ (af H a (.lst us))/\Sim mg P φ (st.set j (.lst ys)) (af H a (.lst us))/\∀{t:AV}{w:V},RA mg P H φ t w->RA mg P (af H a (.lst us)) φ t w:=by
 have ex:∀b,P b->P b/\af H a (.lst us) b=H b:=fun b h=>⟨h,ad fun e=>na (e▸h)⟩
 obtain⟨f3,s3⟩:=ie (c:=.lst ys) (o:=.lst us) s ea na ⟨na,us,ay,r.mono ex fun _ _ z=>z⟩ (fun _ _ z=>by obtain⟨vs,q⟩:=nz;rw[q]at z;cases z);exact⟨f3,s3,fun h=>h.mono ex fun _ _ z=>z⟩
def qR:MF:=fun x xs st=>match xs with
 |[y]=>(ia st x).bind fun c=>if cA c.2.length=true then some (.non,st.set c.1 (.lst (c.2++[y]))) else none
 |_=>none
theorem GQ{n:Nat}(h:cA n=true):n<sizeLine:=yM (zS h) dC
theorem Bf[MV]:mj X "list.append" (rM X.gm qR):=mK pA fun x vs H Q hq0=>by
 obtain⟨P,φ,st,a,xs,s,r,rr,v,st',e,kk⟩:=hq0;unfold qR at e;split at e
 ·rename_i y
  obtain⟨c,e1,e2⟩:=zA e;split at e2
  ·rename_i hz
   cases e2;obtain⟨b,us,rfl,ea,na,h1,h2⟩:=kJ s r e1;obtain⟨w,rfl,r1⟩:=rr.one;obtain⟨f3,s3,_⟩:=oA s ea na ⟨_,h1⟩ (h2.app (aU r1 bG));exact⟨b,us,w,rfl,rfl,h1,by rw[<- h2.length];exact GQ hz,kk P φ _ _ f3 s3 (by simp only[RA])⟩
  ·cases e2
 ·cases e
def vm:MF:=fun x xs st=>match xs with
 |[]=>(ia st x).bind fun c=>(c.2[c.2.length-1]?).map fun y=>(y,st.set c.1 (.lst c.2.dropLast))
 |_=>none
theorem MY.dropLast(h:MY mg P H φ xs vs):MY mg P H φ xs.dropLast vs.dropLast:=by
 rw[List.dropLast_eq_take,List.dropLast_eq_take,h.length];exact h.take _
theorem Bb[MV]:mj X "list.pop" (rM X.gm vm):=mK Fh fun x vs H Q hq0=>by
 obtain⟨P,φ,st,a,xs,s,r,rr,v,st',e,kk⟩:=hq0;unfold vm at e;split at e
 ·obtain⟨c,e1,e2⟩:=zA e
  obtain⟨y,e3,e4⟩:=zE.mp e2;cases e4;obtain⟨b,us,rfl,ea,na,h1,h2⟩:=kJ s r e1;simp only[MY]at rr;obtain⟨w,e5,r5⟩:=h2.get e3;obtain⟨f3,s3,lf⟩:=oA s ea na ⟨_,h1⟩ h2.dropLast;exact⟨b,us,w,rfl,rr,h1,by rw[<- h2.length];exact e5,kk P φ _ _ f3 s3 (lf r5)⟩
 ·cases e
def vn:MF:=fun x xs st=>match xs with
 |[y]=>(ia st x).bind fun c=>(bO st y).bind fun ys=>if cA (c.2.length+ys.length)=true then some (.non,st.set c.1 (.lst (c.2++ys))) else none
 |_=>none
theorem Bc[MV]:mj X "list.extend" (rM X.gm vn):=mK CW fun x vs H Q hq0=>by
 obtain⟨P,φ,st,a,xs,s,r,rr,v,st',e,kk⟩:=hq0;unfold vn at e;split at e
 ·rename_i y
  obtain⟨c,e1,e2⟩:=zA e;obtain⟨ys,e3,e4⟩:=zA e2;split at e4
  ·rename_i hz
   cases e4;obtain⟨b,us,rfl,ea,na,h1,h2⟩:=kJ s r e1;obtain⟨w,rfl,r1⟩:=rr.one;obtain⟨b2,us2,rfl,d2,q2⟩:=r1.ls s e3;obtain⟨f3,s3,_⟩:=oA s ea na ⟨_,h1⟩ (h2.app q2);exact⟨b,b2,us,us2,rfl,rfl,h1,d2,by rw[<- h2.length,<- q2.length];exact ju hz,kk P φ _ _ f3 s3 (by simp only[RA])⟩
  ·cases e4
 ·cases e
def Ae:MF:=fun x xs st=>match xs with
 |[y]=>(cJ 9 st x).bind fun p=>(cJ 9 st y).bind fun q=>match p with
  |.list ps=>if(ps.all fun r=>pyOk r q)=true then some (.int ((ps.countP fun r=>PyData.eqv r q:Nat):Int),st) else none
  |_=>none
 |_=>none
theorem Be[MV](hu:X.A.units+64<cLine):mj X "list.count" (rM X.gm Ae):=by
 rintro MS s σ H x vs v us Q I rx rv ⟨P,φ,st,a,xs,sm,r,rr,z,st',e,kk⟩;unfold Ae at e;split at e
 ·rename_i y
  obtain⟨p,e1,e2⟩:=zA e;obtain⟨q,e3,e4⟩:=zA e2;split at e4
  ·rename_i ps
   split at e4
   ·rename_i M2
    cases e4;obtain⟨w,rfl,r1⟩:=rr.one;obtain⟨u,rfl,ru⟩:=rv.one;obtain⟨as,ra⟩:=gF I sm 9 _ _ _ _ r e1 rx;obtain⟨bs,rb⟩:=gF I sm 9 _ _ _ _ r1 e3 ru;cases ra with
    |@list a o items n xs as' hg hc hdt rall =>
     obtain⟨ocl,odi,oda,osl⟩:=o;dsimp only at hc hdt;subst hc;subst hdt
     classical
     have uq:∀z p' az,Reads s.heap z p' az->decide (∃p as,Reads s.heap z p as/\PyData.eqv p q=true)=PyData.eqv p' q:=by
      intro z p' az rz;rcases he:PyData.eqv p' q with _|_
      ·refine yA ?_
       rintro⟨p2,as',r',e'⟩
       have:=(PySem.Reads.unique rz p2 as' r').1
       rw[<- this,he]at e';cases e'
      ·exact yW ⟨p',az,rz,he⟩
     refine call_meets PySem.F.slot_list_count ⟨_,hg,rfl⟩ PySem.F.entry_list_count (PySem.F.args_list_count_2 _ _) (PySem.SeqAt.list_countAt a items n odi osl u (fun z=>decide (∃p as,Reads s.heap z p as/\PyData.eqv p q=true))) ⟨hg,?_,?_⟩
     ·intro z hz
      obtain⟨pz,az,hpz,rz⟩:=reads_each rall z (by simpa using hz);obtain⟨k1,k2,k3⟩:=oK (yR.mp M2 pz hpz);rw[uq z pz az rz];exact PySem.SeqAt.eqAt_reads pz q _ s z u az bs rz rb k1 k2 (by simp only[Around.in1_units];lia)
     ·have hc:=cnt_vals (q:=q) (e:=fun z=>decide (∃p as,Reads s.heap z p as/\PyData.eqv p q=true)) (h:=s.heap) (vs:=items.toList) (ps:=ps) (fun v p as rv=>uq v p as rv) rall
      rw[hc];exact⟨.int _,H,I.kept (fun _ _ e=>e),⟨_,rfl⟩,kk P φ H _ Frm.refl sm (by simp only[RA])⟩
   ·cases e4
  ·cases e4
 ·cases e
def Jn(t:Bool):EF:=fun _ st=>some (.ref st.length,st++[if t=true then .dT [] else .dK []])
theorem Cr[MV](hm:PE X (.Dict [] [] pos) wf):QE X (.Dict [] [] pos) (Jn false):=PE_imp hm fun σ H Q hq0=>by
 obtain⟨P,φ,sl,st,rs,s,v,st',e,kk⟩:=hq0;cases e;intro d hd;obtain⟨f3,s3⟩:=mB (c:=.dK []) (o:=.dK []) s hd ⟨fun z=>s.dom d z hd,[],ay,rfl,bG⟩;refine kk P _ _ _ f3 s3 ?_;simp only[RA];exact⟨d,by rw[<- s.len];simp,rfl⟩
end
theorem sn:bootBuiltins "min"=some (.builtin "min"):=by decide +kernel
def Ab(ns:List Int):AV:=match minL ns with
 |some m=>.int m
 |none=>.non
def nh(st:aa):List AV->Option AV
 |[v]=>(lsI st v).map Ab
 |_=>none
theorem Fl(a:Value):argsOk "min" ⟨[a],[(Str.ofString "default",.none)]⟩:=by unfold argsOk;kernel_rfl
theorem Fj(a v:Value):argsOk "min" ⟨[a],[(Str.ofString "key",v),(Str.ofString "default",.none)]⟩:=by unfold argsOk;kernel_rfl
theorem Fm{α:Type}{l:List α}{x:α}(h:x∈l):∃i:Nat,l[i]?=some x:=z9 h
section
variable{X:Cx}{a:Expr}{f:EF}{p pos kp pc:Pos}{j:Nat}
theorem Cp[MV](hc:X.calm=true)(hg:Gl X "min")(hm:X.mg "min"=none)(ha:QE X a f)(hs:starEach [a] X.env=[(false,eval a X.env)]) :
  QE X (.Call (.Name "min" p) [a] [⟨some "default",.Constant .none j pc,kp⟩] pos) (sC (cj nh) (fx f fb)):=by
 intro MS s σ H Q I h;have hb:=AH h;refine wpAny_Call_Name_kw (dD I hg hm sn (callWith_kw (aD ((c5 ha fe (by rw[hs];rfl)) pos MS s σ H _ I hb) fun us s1 ⟨vs,H1,I1,r1,q1⟩=>?_) (by rw[hs];rfl) (by rw[hs];rfl) (by rfl) (by rfl)));refine kws_cons (Constant_none (kws_nil ?_));obtain⟨P,φ,st,xs,sm,r,k0⟩:=q1;obtain⟨z,e,k⟩:=k0.map;unfold nh at e;split at e
 ·rename_i v
  obtain⟨w,rfl,rv⟩:=r.one;obtain⟨ns,e1,e2⟩:=zE.mp e;obtain⟨l,rfl,hl⟩:=rv.lsI sm e1;obtain⟨u,rfl,ru⟩:=eI r1;cases ru;refine qM (ko:=none) (ns:=ns) (I.ok.hd hc) (fun i=>ns.getD i 0) (fun _ H=>H=H1) (fun i H e=>by rw[e];exact hl) rfl (Fl _) (fun i n u pl s H en ru eH I=>.inl ⟨rfl,by simp[en],eH⟩) (fun i n H en hmin eH=>?_) (fun en=>?_) I1 rfl
  ·subst eH
   have:minL ns=some n:=by
    cases hM:minL ns with
    |none =>
     cases ns with
     |nil=>simp at en
     |cons _ _=>cases hM
    |some m =>
     rw[minL_eq hM (zW en) fun b hb=>?_];obtain⟨i',hi'⟩:=Fm hb;have h1:=(hmin i' (zB.mp hi').1).1;simpa [en,hi'] using h1
   have ez:z=.int n:=by rw[<- e2];unfold Ab;rw[this]
   subst ez;exact k.pure sm (by simp only[RA])
  ·subst en
   have ez:z=.non:=by rw[<- e2];rfl
   subst ez;exact k.pure sm (by simp only[RA])
 ·cases e
end
def wZ(key:EF)(sl:Sl)(st:aa)(n:Int):Option Int:=match key (sl++[some (.int n)]) st with
 |some (.int k,_)=>some k
 |_=>none
noncomputable def kN:Int->Int->List (Int×Int)->Int
 |n,_,[]=>n
 |n,k,(m,j)::r=>if j<k then kN m j r else kN n k r
def pb:List (Int×Int)->AV
 |[]=>.non
 |(n,k)::r=>.int (kN n k r)
def qg(f key:EF):EF:=fun sl st=>(f sl st).bind fun p=>(lsI p.2 p.1).bind fun ns=>(bH (wZ key sl p.2) ns).map fun ks=>(pb (ns.zip ks),p.2)
def BE(f:EF):Prop:=∀sl st v st',f sl st=some (v,st')->st'=st
theorem lA:∀(r:List (Int×Int))(n k:Int),∃(i:Nat)(κ:Int),((n,k)::r)[i]?=some (kN n k r,κ)/\∀(j:Nat) q,((n,k)::r)[j]?=some q->κ<=q.2/\(j<i->κ<q.2)
 |[],n,k=>⟨0,k,rfl,fun j q e=>by
   cases j with
   |zero=>cases e;exact⟨Int.le_refl _,fun h=>absurd h (xB _)⟩
   |succ j=>simp at e⟩
 |(m,j0)::r,n,k=>by
  by_cases hb:j0<k
  ·obtain⟨i,κ,e1,e2⟩:=lA r m j0
   refine⟨i+1,κ,by rw[List.getElem?_cons_succ];simpa [kN,hb] using e1,fun j q e=>?_⟩;cases j with
   |zero =>
    cases e
    have:=(e2 0 (m,j0) rfl).1
    exact⟨by show κ<=k;lia,fun _=>by show κ<k;lia⟩
   |succ j =>
    rw[List.getElem?_cons_succ]at e;exact⟨(e2 j q e).1,fun h=>(e2 j q e).2 oM⟩
  ·obtain⟨i,κ,e1,e2⟩:=lA r n k
   have ea:kN n k ((m,j0)::r)=kN n k r:=by simp[kN,hb]
   have hk:=(e2 0 (n,k) rfl).1;refine⟨if i=0 then 0 else i+1,κ,?_,fun j q e=>?_⟩
   ·rw[ea]
    cases i with
    |zero=>simpa using e1
    |succ i=>simpa using e1
   ·cases j with
    |zero =>
     cases e;refine⟨hk,fun h=>?_⟩;cases i with
     |zero=>simp at h
     |succ i=>exact(e2 0 (n,k) rfl).2 (Nat.succ_pos i)
    |succ j =>
     rw[List.getElem?_cons_succ]at e;cases j with
     |zero =>
      cases e;refine⟨by show κ<=j0;lia,fun h=>?_⟩;cases i with
      |zero=>simp at h
      |succ i =>
       have:=(e2 0 (n,k) rfl).2 (Nat.succ_pos i)
       show κ<j0;have:κ<k:=this;lia
     |succ j =>
      rw[List.getElem?_cons_succ]at e
      have:=e2 (j+1) q (by rw[List.getElem?_cons_succ];exact e)
      refine⟨this.1,fun h=>this.2 ?_⟩;cases i with
      |zero=>simp at h
      |succ i=>simp at h;lia
theorem Dj{ns ks:List Int}{i:Nat}{n:Int}(hl:ns.length=ks.length)(hn:ns[i]?=some n)(hm:∀j,j<ns.length->ks.getD i 0<=ks.getD j 0/\(j<i->ks.getD i 0<ks.getD j 0)):pb (ns.zip ks)=.int n:=by
 have hi:i<ns.length:=(zB.mp hn).1;obtain⟨k,hk⟩:∃k,ks[i]?=some k:=⟨_,zF oM⟩;have hz:(ns.zip ks)[i]?=some (n,k):=by rw[List.getElem?_zip_eq_some];exact⟨hn,hk⟩
 have hd:ks.getD i 0=k:=by simp[hk]
 cases e:ns.zip ks with
 |nil=>rw[e]at hz;simp at hz
 |cons q r =>
  obtain⟨n0,k0⟩:=q;obtain⟨i',κ,e1,e2⟩:=lA r n0 k0;rw[<- e]at e1 e2;have e3:=List.getElem?_zip_eq_some.mp e1;have hi':i'<ns.length:=(zB.mp e3.1).1;have hd':ks.getD i' 0=κ:=by simp[e3.2]
  have m1:=hm i' hi';have m2:=e2 i (n,k) hz;rw[hd,hd']at m1;have m2a:κ<=k:=m2.1;have m2b:i<i'->κ<k:=m2.2;have:i=i':=by
   rcases Nat.lt_trichotomy i i' with h|h|h
   ·have:=m2b h;lia
   ·exact h
   ·have:=m1.2 h;lia
  subst this;rw[hn]at e3
  have:=e3.1
  simp only[pb];cases this;rfl
theorem qQ{α β:Type}{f:α->Option β}:∀{l:List α}{r:List β},bH f l=some r->l.length=r.length/\∀(i:Nat) x,l[i]?=some x->∃y,r[i]?=some y/\f x=some y
 |[],r,h=>by cases h;exact⟨rfl,fun i x e=>by simp at e⟩
 |x::l,r,h=>by
  simp only[bH]at h;obtain⟨y,e1,e2⟩:=zA h;obtain⟨ys,e3,e4⟩:=zE.mp e2;subst e4;obtain⟨h1,h2⟩:=qQ e3;refine⟨by simp[h1],fun i z e=>?_⟩;cases i with
  |zero=>cases e;exact⟨y,rfl,e1⟩
  |succ i=>exact h2 i z (by simpa using e)
section
variable{X:Cx}{a body:Expr}{f key:EF}{p pos kp lp kp2 pc:Pos}{j:Nat}{params:Arguments}{scope:Scope}{N':List Str}{x:Str}{c P:Addr}
theorem M4.snoc[MV]{mg:Gm}{P:Pr}{H:Hp}{φ:List Addr}{sl:Sl}{σ:St}{v:AV}{w:V}(h:M4 mg P H φ sl σ)(r:RA mg P H φ v w):M4 mg P H φ (sl++[some v]) (σ++[some w]):=by
 refine⟨by rw[zV,zV,h.1];rfl,fun i u e=>?_⟩;rcases yU i sl.length with hi|hi
 ·rw[zN hi]at e
  rw[zN (by rw[<- h.1];exact hi)];exact h.2 i u e
 ·rw[z6 hi]at e
  rw[z6 (by rw[<- h.1];exact hi),<- h.1];cases hk:i-sl.length with
  |zero=>rw[hk]at e;cases e;exact⟨w,rfl,r⟩
  |succ m=>rw[hk]at e;simp at e
theorem Co[MV](hc:X.calm=true)(hg:Gl X "min")(hm:X.mg "min"=none)(ha:QE X a f)(hs:starEach [a] X.env=[(false,eval a X.env)])(hdef:defaultsOf params X.env=([],[]))(hcode:X.env.code=.ref c)(C:CodeHd X.base c P)(B:ji X.mg X.base)
  (ht:(P,lp,X.env.qual++"<lambda>")∈MV.tb) (T:vQ X N' scope x) (hp:plainA params=true) (hps:params.args.map (·.arg)=[x]) (hd:X.A.in1.depth<recursionLimit) (pu:BE key)
  (he:∀cl f c' s H,QE (rW X N' scope cl f (X.env.qual++"<lambda>") (.ref c') X.A.in1 s H) body key)
  (hdj:∀t∈MV.tb,t.1=P->t=(P,lp,X.env.qual++"<lambda>")) :
  QE X (.Call (.Name "min" p) [a] [⟨some "key",.Lambda params body scope lp,kp⟩,⟨some "default",.Constant .none j pc,kp2⟩] pos) (qg f key):=by
 rintro MS s σ H Q I ⟨Pr0,φ,sl,st,rs,sm,v,st',ev,k⟩;obtain⟨p1,e1,e2⟩:=zA ev;obtain⟨ns,e3,e4⟩:=zA e2;obtain⟨ks,e5,e6⟩:=zE.mp e4;cases e6;have hra:rA X.gm (fx f fb) σ H (fun vs H1=>∃P1 φ1 w,vs=[w]/\Frm Pr0 φ H P1 φ1 H1/\Sim X.gm P1 φ1 p1.2 H1/\RA X.gm P1 H1 φ1 p1.1 w) :=
  wo rs sm ⟨p1.1,p1.2,e1,fun P1 φ1 H1 w f1 s1 r1=>⟨P1,φ1,w,rfl,f1,s1,r1⟩⟩
 refine wpAny_Call_Name_kw (dD I hg hm sn (callWith_kw (aD ((c5 ha fe (by rw[hs];rfl)) pos MS s σ H _ I hra) fun us s1 ⟨vs,H1,I1,r1,P1,φ1,w,ew,f1,s1',rw1⟩=>?_) (by rw[hs];rfl) (by rw[hs];rfl) (by rfl) (by rfl)));subst ew;obtain⟨l,rfl,hl0⟩:=rw1.lsI s1' e3;obtain⟨u,rfl,ru⟩:=eI r1;cases ru;obtain⟨cl,hcl,hcl1,hcl2⟩:=jT (scope:=scope) (env:=X.env) (fun y hy=>by
  rcases T.cy.free y hy with h|h
  ·exact I1.ok.has y (.inl h)
  ·exact I1.ok.has y (.inr h))
 refine kws_cons (Ak I1 hdef hcode C B hcl (s1'.tb _ ht).1 fun q c' ctv H2 s2 hH2 DG hx2 I2=>kws_cons (Constant_none (kws_nil ?_)))
 -- the heap behind the making
 have fs:Frm P1 φ1 H1 P1 φ1 H2/\Sim X.gm P1 φ1 p1.2 H2:=by
  rcases hH2 with rfl|⟨ps,more,hP,hn,hne,rfl⟩
  ·exact⟨Frm.refl,s1'⟩
  ·have nP:∀b,P1 b->b≠P:=fun b h e=>(s1'.tb _ ht).2 (by rw[<- e];exact h)
   have nc:∀b,H1 b≠none->b≠c':=fun b h e=>h (by rw[e];exact hn)
   have ncell:∀b∈φ1,b≠P:=fun b h e=>s1'.tnc ht (by rw[<- e];exact h)
   have eq:∀b,b≠P->b≠c'->af (af H1 P (.tbl (ps++more))) c' (fX c' (X.env.qual++"<lambda>")) b=H1 b:=fun b h1 h2=>by rw[ad h2,ad h1]
   have ex:∀b,P1 b->P1 b/\af (af H1 P (.tbl (ps++more))) c' (fX c' (X.env.qual++"<lambda>")) b=H1 b:=fun b h=>⟨h,eq b (nP b h) (nc b (s1'.dom b h))⟩
   refine⟨⟨ex,⟨[],by simp,by simp⟩,fun b h _ z=>eq b (fun e=>z ps (by rw[e];exact hP)) (nc b h),fun b h=>.inl h,fun b h=>?_,fun b o u h=>?_⟩,s1'.stay ex (fun b h=>eq b (ncell b h) (nc b (s1'.cd b h))) (fun _ _ h=>h) (fun b h=>by rw[(ex b h).2];exact s1'.dom b h) fun t ht'=>⟨?_,(s1'.tb t ht').2⟩⟩
   ·by_cases e:b=P
    ·subst e;rw[ad hne,ay];exact fun z=>nomatch z
    ·rw[eq b e (nc b h)];exact h
   ·rw[eq b (fun e=>by rw[e,hP]at h;cases h) (nc b (by rw[h];exact fun z=>nomatch z))];exact h
   ·by_cases e:t.1=P
    ·rw[hdj t ht' e];exact DG
    ·obtain⟨qs,g1,g2,g3⟩:=(s1'.tb t ht').1
     refine⟨qs,by rw[eq t.1 e (nc _ (by rw[g1];exact fun z=>nomatch z))];exact g1,g2,?_⟩;rcases g3 with g3|⟨c2,g4,g5⟩
     ·exact .inl g3
     ·exact .inr ⟨c2,g4,by rw[eq c2 (fun z=>by rw[z,hP]at g5;cases g5) (nc _ (by rw[g5];exact fun z=>nomatch z))];exact g5⟩
 obtain⟨hlen,hget⟩:=qQ e5;have aw:∀H',(∃P' φ',Frm P1 φ1 H2 P' φ' H'/\Sim X.gm P' φ' p1.2 H')->∀z,pb (ns.zip ks)=z->∀w,(∀P' φ',RA X.gm P' H' φ' z w)->Q w H':=fun H' hq0 z hz w r=>by
  obtain⟨P',φ',f',s'⟩:=hq0;rw[hz]at k;exact k P' φ' H' w ((f1.trans fs.1).trans f') s' (r P' φ')
 have hmc:=qM (X:=X) (MS:=MS++[(q,vv X.mg (X.env.qual++"<lambda>") params body scope cl (.ref c') ctv)]) (σ:=σ) (ko:=some (.ref q)) (kws:=[(Str.ofString "key",.ref q),(Str.ofString "default",.none)]) (l:=l) (ns:=ns) (H:=H2) (s:=s2) (Q:=Q) (E:=X.xe)
  (I.ok.hd hc) (fun i=>ks.getD i 0) (fun _ H'=>∃P' φ',Frm P1 φ1 H2 P' φ' H'/\Sim X.gm P' φ' p1.2 H') (fun i H' ⟨P',φ',f',s'⟩=>?_) rfl (Fj _ _) (fun i n u pl s3 H3 en ru ⟨P3,φ3,f3,s3'⟩ I3=>.inr ⟨q,rfl,?_⟩) (fun i n H' en hmin hJ=>?_) (fun en=>?_) I2 ⟨P1,φ1,Frm.refl,fs.2⟩
 ·exact aD hmc fun u s9 ⟨v9,H9,I9,r9,q9⟩=>⟨v9,H9,I9.pins_of fun p hp=>I9.pin p (zK _ (zL _ hp)),r9,q9⟩
 ·obtain⟨b,eb,hb⟩:=(rw1.frm (fs.1.trans f')).lsI s' e3
  cases eb;exact hb
 ·obtain⟨kv,ek,hk⟩:=hget i n en
  unfold wZ at hk;split at hk
  ·rename_i k0 st0 ekey
   cases hk
   have:=pu _ _ _ _ ekey
   subst this;have hpin:=I3.pin (q,vv X.mg (X.env.qual++"<lambda>") params body scope cl (.ref c') ctv) (zK _ (zL _ (zK _ (zM.mpr rfl))));have hcx:H3 c'=some (fX c' (X.env.qual++"<lambda>")):=fs.2.okeep f3 hx2;have hcr:s3.heap.CodeRec (.ref c') (X.env.qual++"<lambda>"):=(I3.M2 c' _ hcx).1;refine Al (te:=rE X.gm key) T I3 I.ok.frames (I.ok.hd hc) hd hcl1 hcl2 hp hps hpin.1 hcr (fun s H=>he cl q c' s H) ru ?_;have ksl:M4 X.gm P3 H3 φ3 (sl++[some (.int n)]) (σ++[some (.int n)]):=M4.snoc (((rs.frm f1).frm fs.1).frm f3) (by simp only[RA]);refine⟨P3,φ3,sl++[some (.int n)],p1.2,ksl,s3',.int kv,p1.2,ekey,fun P4 φ4 H4 b f4 s4 r4=>?_⟩;simp only[RA]at r4;exact⟨by rw[r4];simp[ek],P4,φ4,f3.trans f4,s4⟩
  ·cases hk
 ·exact aw H' hJ _ (Dj hlen en hmin) _ fun P' φ'=>by simp only[RA]
 ·subst en
  exact aw H2 ⟨P1,φ1,Frm.refl,fs.2⟩ _ rfl _ fun P' φ'=>by simp only[List.zip_nil_left,pb,RA]
end
section
variable{X:Cx}{a b:Expr}{f g:EF}{pos p1 p2 pos2:Pos}
noncomputable def pq(i:Int):Bool:=decide (0<=i)&&decide (i<=1000)
def vg(f:EF):NF:=fun sl st=>(f sl st).bind fun p=>match p.1 with
 |.int j=>if pq j=true then some (cX 0 j.toNat,p.2) else none
 |_=>none
def vf(f g:EF):NF:=fun sl st=>(f sl st).bind fun p=>(g sl p.2).bind fun q=>match p.1,q.1 with
 |.int i,.int j=>if(pq i&&pq j&&decide (i<=j))=true then some (cX i (j-i).toNat,q.2) else none
 |_,_=>none
theorem MY.rng(i:Nat):∀n:Nat,MY mg P H φ (cX (i:Int) n) ((List.range' i n).map fun(q:Nat)=>V.int (q:Int)):=by
 have key:∀(l:List Nat),MY mg P H φ (l.map fun(k:Nat)=>AV.int ((i:Int)+(k:Int))) (l.map fun(k:Nat)=>V.int ((i:Int)+(k:Int))):=by
  intro l
  induction l with
  |nil=>exact bG
  |cons x l ih=>exact aU (by simp only[RA]) ih
 intro n;have:((List.range' i n).map fun(q:Nat)=>V.int (q:Int))=(List.range n).map fun(k:Nat)=>V.int ((i:Int)+(k:Int)):=by
  rw[List.range'_eq_map_range,List.map_map];refine List.map_congr_left fun k _=>?_
  simp
 rw[this];exact key _
theorem En[MV](hc:X.calm=true)(hgl:Gl X "list")(hml:X.mg "list"=none)(hgr:Gl X "range")(hmr:X.mg "range"=none)(ha:QE X a f)
  (hs:starEach [a] X.env=[(false,eval a X.env)]):QN X (.Call (.Name "list" p1) [.Call (.Name "range" p2) [a] [] pos2] [] pos) (vg f) :=
 PE_imp (zp hc hgl hml hgr hmr ha hs) fun σ H Q hq0=>by
  obtain⟨P,φ,sl,st,rs,s,xs,st',ef,k⟩:=hq0;obtain⟨q,e1,e2⟩:=zA ef;refine⟨P,φ,sl,st,rs,s,q.1,q.2,e1,fun P1 φ1 H1 w f1 s1 r1=>?_⟩;show ∃j:Nat,[w]=[.int (j:Int)]/\j<=1000/\∀p,H1 p=none->Q (.ref p) (af H1 p (.lst ((List.range' 0 j).map fun(q:Nat)=>V.int (q:Int))));split at e2
  ·rename_i j ej
   split at e2
   ·rename_i hb
    cases e2;rw[ej]at r1;simp only[RA]at r1;subst r1;obtain⟨h1,h2⟩:=Bool.and_eq_true_iff.mp hb;have h1:=of_decide_eq_true h1;have h2:=of_decide_eq_true h2;refine⟨j.toNat,by rw[Int.toNat_of_nonneg h1],by lia,fun p hp=>?_⟩;exact k P1 φ1 H1 p _ f1 s1 hp (MY.rng 0 j.toNat)
   ·cases e2
  ·cases e2
theorem Em[MV](hc:X.calm=true)(hgl:Gl X "list")(hml:X.mg "list"=none)(hgr:Gl X "range")(hmr:X.mg "range"=none)(ha:QE X a f)(hb:QE X b g)
  (hs:starEach [a,b] X.env=[(false,eval a X.env),(false,eval b X.env)]) (hs2:starEach [b] X.env=[(false,eval b X.env)]):QN X (.Call (.Name "list" p1) [.Call (.Name "range" p2) [a,b] [] pos2] [] pos) (vf f g) :=
 PE_imp (wF hc hgl hml hgr hmr (c5 ha (c5 hb fe (by rw[hs2];rfl)) (by rw[hs,hs2])) hs hs2) fun σ H Q hq0=>by
  obtain⟨P,φ,sl,st,rs,s,xs,st',ef,k⟩:=hq0;obtain⟨q,e1,e2⟩:=zA ef;obtain⟨r,e3,e4⟩:=zA e2;refine Eb rs s ⟨q.1,q.2,r.1,r.2,e1,e3,fun P1 φ1 H1 w w' f1 s1 r1 r2=>?_⟩;split at e4
  ·rename_i i j ei ej
   split at e4
   ·rename_i hb
    cases e4;rw[ei]at r1;rw[ej]at r2;simp only[RA]at r1 r2;subst r1;subst r2;simp only[pq,zC,yC]at hb;obtain⟨⟨⟨h1,h2⟩,h3,h4⟩,h5⟩:=hb;refine⟨i.toNat,j.toNat,by rw[Int.toNat_of_nonneg h1,Int.toNat_of_nonneg h3],by lia,by lia,fun p hp=>?_⟩;refine k P1 φ1 H1 p _ f1 s1 hp ?_;have e1:(j-i).toNat=j.toNat-i.toNat:=by lia
    have e2:i=((i.toNat:Nat):Int):=by lia
    have:=MY.rng (mg:=X.gm) (P:=P1) (H:=H1) (φ:=φ1) i.toNat (j.toNat-i.toNat)
    rw[<- e2,<- e1]at this;rw[<- e1];exact this
   ·cases e4
  ·cases e4
end
def nk:aT->AV
 |.inl i=>.int i
 |.inr x=>.str x
noncomputable def AY(k:Nat):Out->Option Out
 |.nx sl st=>match st[k]? with
  |some (.wk MU)=>some (.nx sl (st.set k (.dK MU)))
  |_=>none
 |.rt v st=>match st[k]? with
  |some (.wk MU)=>some (.rt v (st.set k (.dK MU)))
  |_=>none
 |_=>none
def uF(f:EF)(g:GF)(s:SF):SF:=fun sl st=>(f sl st).bind fun p=>match p.1 with
 |.ref k=>match p.2[k]? with
  |some (.dK MU)=>(di [] g s (MU.map fun q=>nk q.1) sl (p.2.set k (.wk MU))).bind (AY k)
  |_=>none
 |_=>none
section
variable{X:Cx}{tg iter:Expr}{body:List Stmt}{pos:Pos}{f:EF}{g:GF}{s:SF}
theorem Cd[MV](hp:PassesOwn (model X.prog X.w) X.A X.env X.xe)(hc:X.calm=true)(hi:QE X iter f)(hg:QG X tg g)(hb:mh X body s)(hs:∀x,foldedSetIterable iter X.env x=pure x):QS X (.For tg iter body [] pos) (uF f g s) :=
 PS_imp (Cw (wy hp hc (CG hi) hg hb hs)) fun D σ H hq0=>by
  obtain⟨P,φ,sl,st,rs,sm,o,e,q⟩:=hq0;obtain⟨p,e1,e2⟩:=zA e;refine⟨P,φ,sl,st,rs,sm,p.1,p.2,e1,fun P1 φ1 H1 w f1 s1 r1=>?_⟩;split at e2
  ·rename_i k ek
   rw[ek]at r1;simp only[RA]at r1;obtain⟨a,ea,rfl⟩:=r1;split at e2
   ·rename_i MU hk
    obtain⟨o1,e3,e4⟩:=zA e2;obtain⟨na,ws,h1,h2⟩:=s1.cell k _ a hk ea;refine⟨a,ws,rfl,h1,fun ob hn=>?_⟩;have hkeys:(MU.map fun q=>nk q.1).length=ws.length:=by
     have:=congrArg List.length h2.1
     rw[zH,zH]at this;rw[zH];exact this
    obtain⟨fw,sw⟩:=ie (c:=.wk MU) (o:=.frz ob (.dK ws)) s1 ea na ⟨na,ob,ws,ay,h2.mono (fun b h=>⟨h,ad fun e=>na (e▸h)⟩) fun _ _ z=>z⟩ (fun _ _ z=>by rw[h1]at z;cases z);have rsw:M4 X.gm P1 (af H1 a (.frz ob (.dK ws))) φ1 sl σ:=(rs.frm f1).frm fw
    -- behind the loop
    have back:∀{P5 φ5 H5 st5},Frm P1 φ1 (af H1 a (.frz ob (.dK ws))) P5 φ5 H5->Sim X.gm P5 φ5 st5 H5->∀{kvs'},st5[k]?=some (.wk kvs')->∃o5 ws5,H5 a=some (.frz o5 (.dK ws5)) /\
      Frm P φ H P5 φ5 (af H5 a (.dK ws5))/\Sim X.gm P5 φ5 (st5.set k (.dK kvs')) (af H5 a (.dK ws5))/\∀b,P5 b->P5 b/\af H5 a (.dK ws5) b=H5 b:=by
     intro P5 φ5 H5 st5 f5 s5 kvs' hw;have ea5:φ5[k]?=some a:=f5.ix k a ea;obtain⟨na5,o5,ws5,g1,g2⟩:=s5.cell k _ a hw ea5;have ex5:∀b,P5 b->P5 b/\af H5 a (.dK ws5) b=H5 b:=fun b h=>⟨h,ad fun e=>na5 (e▸h)⟩
     refine⟨o5,ws5,g1,?_,?_,ex5⟩
     ·have fall:=(f1.trans fw).trans f5
      obtain⟨m,em,nm⟩:=fall.new;have hna:H a=none\/a∈φ:=by
       rcases zZ.mp (show a ∈ φ++f1.new.choose by rw [<- f1.new.choose_spec.1];exact zW ea) with z | z
       ·exact .inr z
       ·exact .inl (f1.new.choose_spec.2 a z)
      refine⟨fun b h=>⟨(fall.ext b h).1,?_⟩,⟨m,em,nm⟩,fun b h n z=>?_,fall.pn,fun b h=>?_,fun b o u h=>?_⟩
      ·rw[(ex5 b (fall.ext b h).1).2];exact(fall.ext b h).2
      ·have nb:b≠a:=fun e=>by
        rcases hna with y|y
        ·exact h (by rw[e];exact y)
        ·exact n (by rw[e];exact y)
       rw[ad nb];exact fall.keep b h n z
      ·by_cases e:b=a
       ·rw[e,ay];exact fun z=>nomatch z
       ·rw[ad e];exact fall.sm b h
      ·have nb:b≠a:=fun e=>by
        have:=f1.fz b o u h
        rw[e,h1]at this;cases this
       rw[ad nb];exact fall.fz b o u h
     ·have hs5:st5[k]?=some (.wk kvs'):=hw
      refine⟨by rw[List.length_set];exact s5.len,s5.nd,fun b h=>by rw[(ex5 b h).2];exact s5.dom b h,fun b h=>?_,fun j c b e5 e6=>?_,fun t ht=>⟨(s5.tb t ht).1.wr (s5.notb ea5 na5),(s5.tb t ht).2⟩⟩
      ·by_cases e:b=a
       ·rw[e,ay];exact fun z=>nomatch z
       ·rw[ad e];exact s5.cd b h
      ·by_cases hj:j=k
       ·subst hj
        rw[ea5]at e6;cases e6;rw[List.getElem?_set_self (by rw[<- s5.len];exact(zB.mp ea5).1)]at e5;cases e5;exact⟨na5,ws5,ay,g2.mono ex5 fun _ _ z=>z⟩
       ·rw[List.getElem?_set_ne (Ne.symm hj)]at e5
        have hb:b≠a:=fun e=>hj (by
         subst e;obtain⟨l1,q1⟩:=zB.mp e6;obtain⟨l2,q2⟩:=zB.mp ea5;exact(List.getElem_inj s5.nd).mp (q1.trans q2.symm))
        exact(s5.cell j c b e5 e6).mono ex5 (fun _ _ z=>z) (ad hb) fun z=>z
    have endN:∀{P5 φ5 H5 σ5 sl5 st5},o1=.nx sl5 st5->Frm P1 φ1 (af H1 a (.frz ob (.dK ws))) P5 φ5 H5->Sim X.gm P5 φ5 st5 H5->M4 X.gm P5 H5 φ5 sl5 σ5->(pZ X.H₀ D).nx σ5 H5:=by
     intro P5 φ5 H5 σ5 sl5 st5 eo f5 s5 rs5;subst eo;simp only[AY]at e4;split at e4
     ·rename_i kvs' hw
      cases e4;obtain⟨o5,ws5,g1,g2,g3,g4⟩:=back f5 s5 hw;exact⟨a,o5,ws5,g1,hn,q P5 φ5 _ σ5 g2 g3 ⟨rs5.1,fun i v e=>let⟨w,e',r⟩:=rs5.2 i v e;⟨w,e',r.mono g4 fun _ _ z=>z⟩⟩⟩
     ·cases e4
    have endR:∀{P5 φ5 H5 v5 st5 w5},o1=.rt v5 st5->Frm P1 φ1 (af H1 a (.frz ob (.dK ws))) P5 φ5 H5->Sim X.gm P5 φ5 st5 H5->RA X.gm P5 H5 φ5 v5 w5->(pZ X.H₀ D).rt w5 H5:=by
     intro P5 φ5 H5 v5 st5 w5 eo f5 s5 r5;subst eo;simp only[AY]at e4;split at e4
     ·rename_i kvs' hw
      cases e4;obtain⟨o5,ws5,g1,g2,g3,g4⟩:=back f5 s5 hw;exact⟨a,o5,ws5,g1,hn,q P5 φ5 _ w5 g2 g3 (r5.mono g4 fun _ _ z=>z)⟩
     ·cases e4
    refine⟨fun i m σ' H'=>m=ws.length-i/\i<=ws.length/\∃P' φ' sl' st',Frm P1 φ1 (af H1 a (.frz ob (.dK ws))) P' φ' H'/\Sim X.gm P' φ' st' H'/\M4 X.gm P' H' φ' sl' σ'/\di [] g s ((MU.map fun q=>nk q.1).drop i) sl' st'=some o1,
     ⟨_,rfl,Nat.zero_le _,P1,φ1,sl,_,Frm.refl,sw,rsw,by simpa using e3⟩,?_⟩
    rintro i m σ' H' ⟨rfl,hle,P2,φ2,sl2,st2,f2,s2,rs2,eg⟩;have hfz:H' a=some (.frz ob (.dK ws)):=f2.fz a _ _ ay;rcases yU i ws.length with hlt|hge
    ·right
     rw[List.drop_eq_getElem_cons (by rw[hkeys];exact hlt)]at eg;simp only[di,cp,if_true]at eg;obtain⟨q4,e5,e6⟩:=zA eg;obtain⟨o2,e7,e8⟩:=zA e6;refine⟨⟨hfz,hlt⟩,fun σ' H'=>∃P' φ' sl' st',Frm P1 φ1 (af H1 a (.frz ob (.dK ws))) P' φ' H'/\Sim X.gm P' φ' st' H'/\M4 X.gm P' H' φ' sl' σ'/\di [] g s ((MU.map fun q=>nk q.1).drop (i+1)) sl' st'=some o1,fun σ' H' z=>⟨_,by lia,rfl,hlt,z⟩,fun x H3 hy=>?_⟩;obtain⟨rfl,hx⟩:=hy;have rx:RA X.gm P2 H3 φ2 ((MU.map fun q=>nk q.1)[i]'(by rw[hkeys];exact hlt)) x:=by
      have hkw:MU[i]?.map (·.1)=ws[i]?.map (·.1):=by rw[<- zR,<- zR,h2.1]
      have hlt':i<MU.length:=by rw[zH]at hkeys;lia
      rw[zR,zF hlt]at hx;rw[zF hlt',zF hlt]at hkw;simp only[map_some,Option.some.injEq]at hx hkw;rw[List.getElem_map,hkw,<- hx];cases ws[i].1 with
      |inl n=>simp only[nk,RA,kV]
      |inr z=>simp only[nk,RA,kV]
     refine⟨P2,φ2,sl2,st2,_,rs2,s2,rx,q4.1,q4.2,e5,fun P4 φ4 H4 σ4 f4 s4 rs4=>⟨P4,φ4,q4.1,q4.2,rs4,s4,o2,e7,?_⟩⟩;have fa:=f2.trans f4;cases o2 with
     |nx sl5 st5=>exact fun P5 φ5 H5 σ5 f5 s5 rs5=>⟨P5,φ5,sl5,st5,fa.trans f5,s5,rs5,e8⟩
     |ct sl5 st5=>exact fun P5 φ5 H5 σ5 f5 s5 rs5=>⟨P5,φ5,sl5,st5,fa.trans f5,s5,rs5,e8⟩
     |bk sl5 st5=>exact fun P5 φ5 H5 σ5 f5 s5 rs5=>endN (yE e8).symm (fa.trans f5) s5 rs5
     |rt v st5=>exact fun P5 φ5 H5 w f5 s5 r5=>endR (yE e8).symm (fa.trans f5) s5 r5
    ·left
     have ei:i=ws.length:=Nat.le_antisymm hle hge;subst ei;rw[<- hkeys,List.drop_length]at eg;simp only[di,cp,if_true]at eg;exact⟨⟨hfz,zP _⟩,endN (yE eg).symm f2 s2 rs2⟩
   ·cases e2
  ·cases e2
end
noncomputable def cx:Expr->Bool
 |.Starred _ _=>false
 |_=>true
noncomputable def jw:Expr->Bool
 |.Slice _ _ _ _=>false
 |_=>true
noncomputable def zy:Expr->Bool
 |.Set _ _ _=>false
 |_=>true
noncomputable def oO:Expr->Bool
 |.Call (.Name _ _) [] [] _=>false
 |_=>true
noncomputable def m6:Expr->Bool
 |.ListComp _ _ _ _=>false
 |.SetComp _ _ _ _=>false
 |.DictComp _ _ _ _ _=>false
 |_=>true
noncomputable def qI:Expr->Bool
 |.Tuple _ _ _=>false
 |_=>true
noncomputable def wA:Expr->Bool
 |.UnaryOp .Not _ _=>false
 |.BoolOp _ _ _=>false
 |.IfExp _ _ _ _=>false
 |.Compare _ _ _ _=>false
 |_=>true
section
variable{env:Env}{e o i a b:Expr}{es:List Expr}{pos cpos apos:Pos}{f:Str}
theorem aH(h:cx e=true):starEach (e::es) env=(false,eval e env)::starEach es env:=by
 cases e<;>first|rfl|cases h
theorem io(h:es.all cx=true):(backTo pos (starEach es env)).any (·.1)=false:=by
 induction es with
 |nil=>rfl
 |cons e es ih =>
  rw[List.all_cons,zC]at h;rw[aH h.1];show(false||(backTo pos (starEach es env)).any (·.1))=false;rw[ih h.2];rfl
theorem yp(h:es.all cx=true):(backTo pos (starEach es env)).all (fun x=>!x.1)=true:=by
 induction es with
 |nil=>rfl
 |cons e es ih =>
  rw[List.all_cons,zC]at h;rw[aH h.1];show(true&&(backTo pos (starEach es env)).all (fun x=>!x.1))=true;rw[ih h.2];rfl
theorem Jf(h:es.all cx=true)(hl:es.length<30):((backTo cpos (starEach es env)).all (fun x=>!x.1)&&(backToKw cpos (keywordEach [] env)).all (fun x=>x.1.isSome)&&decide (es.length+([]:List Keyword).length+(if([]:List Keyword).isEmpty then 0 else 1)<30))=true:=by
 rw[yp h];have:decide (es.length+([]:List Keyword).length+(if([]:List Keyword).isEmpty then 0 else 1)<30)=true:=yW (by simpa using hl);rw[this];rfl
theorem fO(w:Sem Value)(h:oO o=true):attributeBase o f env w=w:=by
 unfold attributeBase;split
 ·simp[oO]at h
 ·rfl
theorem tG(hb:oO o=true)(hs:es.all cx=true)(hl:es.length<30)(hline:(apos.endLine==pos.line)=true):eval (.Call (.Attribute o f apos) es [] pos) env=(do
   let ov <- eval o env
   standAt apos.atName
   let(f,first) <- holding [ov] (getMethod ov f (do return (<- importBound o env).getD true))
   callWith pos f first (backTo pos (starEach es env)) (backToKw pos (keywordEach [] env))):=by
 rw[arm_eval_Call,fO _ hb];have hform:methodCallForm (es.length+([]:List Keyword).length) (backTo pos (starEach es env)) (backToKw pos (keywordEach [] env))=true:=Jf hs hl;have hpos:methodCallPos true o env apos pos=pure pos:=by unfold methodCallPos;simp[hline]
 unfold methodCall;rw[hform,hpos];rfl
theorem qy(h:zy e=true)(x:Value):foldedSetIterable e env x=pure x:=by
 cases e<;>first|rfl|cases h
theorem HE(h:jw i=true):pe i:=fun _ _=>by
 cases i<;>first|rfl|cases h
theorem DR(h:jw i=true)(v:Value):assign (.Subscript o i pos) env v=(do
   let ov <- holding [v] (eval o env)
   let iv <- holding [v,ov] (eval i env)
   standAt pos
   holding [v,ov,iv] (setItem ov iv v)
   release [v,ov,iv] []):=by
 cases i<;>first|rfl|cases h
theorem Gn(h:jw i=true)(ov iv new:Value):augStore i ov iv new=(do holding [new,ov,iv] (setItem ov iv new);release [new,ov,iv] [];pure .next):=by
 cases i<;>first|rfl|cases h
theorem sY{l:Nat}(h:m6 e=true):swapsWith e t l env=pure false:=by
 cases e<;>first|rfl|cases h
theorem yj{l:Nat}:swapsWith e (some (.Attribute o f p)) l env=pure false:=by
 cases e<;>rfl
noncomputable def IK(nm:List (Str×NameKind))(t:Str)(tl:Nat)(sc:Scope)(vl:Nat):Bool:=decide (nm.lookup t=some .local)&&(tl==vl)&&!(sc.names.any fun(n,k)=>n==t&&(k==.local||k==.cell))
theorem DO{l:Nat}(hk:env.scope.kind=.function) :
  swapsWith (.ListComp elt gens sc pos) (some (.Name t p)) l env=pure (IK env.scope.names t p.line sc pos.line):=by
 have hb:env.blockKind=.function:=by unfold Env.blockKind;rw[hk];rfl
 show(pure (env.blockKind==.function&&env.kindOf t==some .local&&p.line==pos.line&&!(sc.names.any fun(n,k)=>n==t&&(k==.local||k==.cell))):Sem Bool)=_;rw[hb];have:(env.kindOf t==some NameKind.local)=decide (env.scope.names.lookup t=some .local):=by
  show(env.scope.names.lookup t==some NameKind.local)=_;cases h:env.scope.names.lookup t with
  |none=>rfl
  |some k=>cases k<;>rfl
 rw[this];rfl
theorem yo:swappedStores [.Subscript a b p] e env=pure none:=by cases e<;>rfl
theorem yn{k:Nat}(h:qI e=true):swappedStores [.Tuple ts k p] e env=pure none:=by cases e<;>first|rfl|cases h
theorem tZ(h:cx e=true):(assignEach [e] env).map (·.2)=[assign e env]:=by
 cases e<;>first|rfl|cases h
theorem Aw(h:cx e=true):(assignEach (e::es) env).map (·.2)=assign e env::(assignEach es env).map (·.2):=by
 cases e<;>first|rfl|cases h
theorem Ax:(assignEach es env).length=es.length:=by
 induction es with
 |nil=>rfl
 | cons e es ih=>cases e <;> (show (assignEach es env).length + 1=es.length + 1;rw [ih])
theorem Ay(h:es.all cx=true):(assignEach es env).findIdx? (·.1)=none:=by
 have:∀p∈assignEach es env,p.1=false:=by
  induction es with
  |nil=>intro p hp;cases hp
  |cons e es ih =>
   rw[List.all_cons,zC]at h;have e1:assignEach (e::es) env=(false,assign e env)::assignEach es env:=by
    cases e<;>first|rfl|cases h.1
   rw[e1];intro p hp;rcases zT.mp hp with rfl|hp
   ·rfl
   ·exact ih h.2 p hp
 rw[List.findIdx?_eq_none_iff];intro p hp;rw[this p hp]
theorem sS(h:wA e=true)(whole:Sem Value):isTrue e env whole=(do let v <- whole;standAt e.pos;holding [v] (truthy v)):=by
 cases e with
 |UnaryOp op x p=>cases op<;>first|rfl|cases h
 |BoolOp=>cases h
 |IfExp=>cases h
 |Compare=>cases h
 |_=>rfl
end
set_option genInjectivity false
set_option genSizeOf false
set_option genSizeOfSpec false
inductive Bi where
 |len|sum|abs|min|max|int
inductive Mi where
 |app|pop|ext|cnt
mutual
inductive Ex where
 |n|b (x:Bool)|i (x:Int)|s (x:Str)|v (k:Nat)|g (x:Str) (c:AV)|bin (o:Operator) (a b:Ex)|cmp (o:CmpOp) (a b:Ex)|un (o:UnaryOp) (a:Ex)|no (a:Ex)|an (a b:Ex)|or (a b:Ex)|ife (t:Tx) (a b:Ex)|ix (a b:Ex)|tu (es:Exs)|nw (m:Bool) (x:Nx)|ca (p:Bool) (j:Nat) (es:Exs)|me (c m:Str) (j:Nat) (o:Ex) (es:Exs)|ne (c:Str) (j:Nat) (es:Exs)|fd (c f:Str) (o:Ex)|bi (b:Bi) (es:Exs)|mt (m:Mi) (o:Ex) (es:Exs)|dn|mnd (a:Ex)|mnk (a key:Ex)
inductive Tx where
 |va (e:Ex)|cmp (o:CmpOp) (a b:Ex)|no (t:Tx)|an (t u:Tx)|or (t u:Tx)
inductive Exs where
 |nil|cons (e:Ex) (es:Exs)
inductive Nx where
 |li (es:Exs)|cat (a b:Ex)|rep (es:Exs) (b:Ex)|sl (a:Ex) (l h:Ox)|lof (a:Ex)|lc (k:Nat) (it:Ix) (t:Tg) (c:Cx') (e:Ex)|lr1 (a:Ex)|lr2 (a b:Ex)
inductive Ox where
 |no|so (e:Ex)
inductive Cx' where
 |no|so (t:Tx)
inductive Ix where
 |e (a:Ex)|r1 (a:Ex)|r2 (a b:Ex)|zi (a b:Ex)|en (a:Ex)|es (a b:Ex)
inductive Tg where
 |nm (k:Nat)|tu (n:Nat) (ts:Tgs)|su (a b:Ex)
inductive Tgs where
 |nil|cons (t:Tg) (ts:Tgs)
end
mutual
inductive Sx where
 |ex (e:Ex)|as (e:Ex) (t:Tg)|aus (o:Operator) (a b e:Ex)|fl (c f:Str) (o e:Ex)|rt (e:Ex)|iff (t:Tx) (a b:M6)|fo (it:Ix) (t:Tg) (b:M6)|wh (t:Tx) (b:M6)|dead|fd (a:Ex) (t:Tg) (b:M6)
inductive M6 where
 |nil|cons (s:Sx) (ss:M6)|dead
end
def og:Bi->BF
 |.len=>cj eU
 |.sum=>cj oH
 |.abs=>cj sB
 |.min=>cj oQ
 |.max=>cj oR
 |.int=>cj rk
def qN:Mi->MF
 |.app=>qR
 |.pop=>vm
 |.ext=>vn
 |.cnt=>Ae
noncomputable def qO:Mi->String
 |_=>"list"
def kf(ks:List Fn)(j:Nat):Fn:=ks.getD j fun _ _=>none
def dN(p:Bool)(fn:Fn):Fn:=if p=true then pm fn else fn
section
variable(ks:List Fn)
mutual
noncomputable def ev:Ex->EF
 |.n=>aC .non
 |.b x=>aC (.bl x)
 |.i x=>aC (.int x)
 |.s x=>aC (.str x)
 |.v k=>aV k
 |.g _ c=>aC c
 |.bin o a b=>a2 (ev a) (ev b) (ki (aQ o))
 |.cmp o a b=>a2 (ev a) (ev b) (ki (mI o))
 |.un o a=>a1 (ev a) (DV (lD o))
 |.no a=>Jk (ev a)
 |.an a b=>BC (ev a) (ev b)
 |.or a b=>By (ev a) (ev b)
 |.ife t a b=>Jl (tv t) (ev a) (ev b)
 |.ix a b=>a2 (ev a) (ev b) (ki aP)
 |.tu es=>Jj (d8 es)
 |.nw m x=>Bz m (i7 x)
 |.ca p j es=>BB (dN p (kf ks j)) (d8 es)
 |.me c m j o es=>BA c m (kf ks j) (ev o) (d8 es)
 |.ne c j es=>xP c (kf ks j) (d8 es)
 |.fd c f o=>Jm c f (ev o)
 |.bi b es=>sC (og b) (d8 es)
 |.mt m o es=>md (qO m) (qN m) (ev o) (d8 es)
 |.dn=>Jn false
 |.mnd a=>sC (cj nh) (fx (ev a) fb)
 |.mnk a key=>qg (ev a) (ev key)
noncomputable def tv:Tx->TF
 |.va e=>tV (ev e)
 |.cmp o a b=>DN (ev a) (ev b) o
 |.no a=>IH (tv a)
 |.an a b=>IJ (tv a) (tv b)
 |.or a b=>DI (tv a) (tv b)
noncomputable def d8:Exs->AF
 |.nil=>fb
 |.cons e es=>fx (ev e) (d8 es)
noncomputable def i7:Nx->NF
 |.li es=>IU (d8 es)
 |.cat a b=>qK (ev a) (ev b)
 |.rep es b=>ve (d8 es) (ev b)
 |.sl a l h=>lI (ev a) (rL l) (rL h)
 |.lof a=>oP (ev a)
 |.lc k it t c e=>Ba k (dO it) (b8 t) (i8 c) (ev e)
 |.lr1 a=>vg (ev a)
 |.lr2 a b=>vf (ev a) (ev b)
noncomputable def rL:Ox->OF
 |.no=>A9
 |.so e=>lF (ev e)
noncomputable def i8:Cx'->TF
 |.no=>IE
 |.so e=>tv e
noncomputable def dO:Ix->IF
 |.e a=>iE (ev a)
 |.r1 a=>xh (ev a)
 |.r2 a b=>Bj (ev a) (ev b)
 |.zi a b=>iZ (ev a) (ev b)
 |.en a=>Jb (ev a)
 |.es a b=>vB (ev a) (ev b)
noncomputable def b8:Tg->GF
 |.nm k=>xo k
 |.tu n ts=>xn n (jn ts)
 |.su a b=>Jc (ev a) (ev b)
noncomputable def jn:Tgs->sH
 |.nil=>FT
 |.cons t ts=>FX (b8 t) (jn ts)
end
mutual
noncomputable def cS:Sx->SF
 |.ex e=>IR (ev ks e)
 |.as e t=>wn (ev ks e) (b8 ks t)
 |.aus o a b e=>uH o (ev ks a) (ev ks b) (ev ks e)
 |.fl c f o e=>wm c f (ev ks o) (ev ks e)
 |.rt e=>IM (ev ks e)
 |.iff t a b=>IP (tv ks t) (ah a) (ah b)
 |.fo it t b=>IQ (dO ks it) (b8 ks t) (ah b)
 |.wh t b=>lE (tv ks t) (ah b)
 |.dead=>DW
 |.fd a t b=>uF (ev ks a) (b8 ks t) (ah b)
noncomputable def ah:M6->SF
 |.nil=>IN
 |.cons s ss=>IL (cS s) (ah ss)
 |.dead=>DW
end
end
inductive Ke where
 |f (x:Str) (n:Nat)|m (c m:Str) (n:Nat)|k (c:Str) (n:Nat)
structure SC where
 N:List Str
 nm:List (Str×NameKind)
 cf:List Str
 ke:List Ke
 gs:List (Str×AV)
 cl:List (Str×List Str)
 la:List Pos
 cn:List Str
 hs:List Nat
 ck:Bool
noncomputable def kd(C:SC)(x:Str):Option NameKind:=C.nm.lookup x
def yc(C:SC)(x:Str):Bool:=match kd C x with
 |some .local=>true
 |some .cell=>true
 |some .free=>true
 |_=>false
def Ag(C:SC)(x:Str):Bool:=match kd C x with
 |some .local=>true
 |some .cell=>C.cf.contains x
 |_=>false
noncomputable def Bs(x:Str):Bool:=!(x==("__debug__":Str))&&!(x==("__classdict__":Str))
def iY(C:SC)(x:Str):Bool:=(match kd C x with
 |some .globalImplicit=>true
 |_=>false)&&Bs x
noncomputable def IZ(C:SC)(j:Nat)(x:Str)(n:Nat):Bool:=match C.ke[j]? with
 |some (.f y m)=>y==x&&m==n
 |_=>false
noncomputable def IX(C:SC)(j:Nat)(c m:Str)(n:Nat):Bool:=match C.ke[j]? with
 |some (.m c' m' k)=>c'==c&&m'==m&&k==n
 |_=>false
noncomputable def IY(C:SC)(j:Nat)(c:Str)(n:Nat):Bool:=match C.ke[j]? with
 |some (.k c' k)=>c'==c&&k==n
 |_=>false
noncomputable def bnames:List Str:=["len","sum","all","any","abs","min","max","int","tuple","range","zip","enumerate","list","isinstance","bool","str","sorted"]
noncomputable def Gk:List (Str×Bi):=[("len",.len)
 ,("sum",.sum)
 ,("abs",.abs)
 ,("min",.min)
 ,("max",.max)
 ,("int",.int)
 ]
noncomputable def Fi:List (Str×Mi):=[("append",.app)
 ,("pop",.pop)
 ,("extend",.ext)
 ,("count",.cnt)
 ]
noncomputable def Bi.nm:Bi->Str
 |.len=>"len"
 |.sum=>"sum"
 |.abs=>"abs"
 |.min=>"min"
 |.max=>"max"
 |.int=>"int"
noncomputable def Mi.nm:Mi->Str
 |.app=>"append"
 |.pop=>"pop"
 |.ext=>"extend"
 |.cnt=>"count"
noncomputable def K0:List (Str×String):=[("int","int"),("bool","bool"),("list","list"),("tuple","tuple"),("str","str")]
noncomputable def zv(sc:Scope):List Str:=(sc.names.filter fun p=>(match p.2 with|.local=>true|.cell=>true|_=>false)&&!(p.1==(".0":Str))).map (·.1)
noncomputable def rh(sc:Scope)(x:Str):Bool:=match sc.names.lookup x with
 |some .free=>true
 |_=>false
noncomputable def FP(k:Bool)(x:Str):Str:=match k with
 |true=>x++("!":Str)
 |false=>""
def d9(C:SC)(sc:Scope):List Str:=(C.N.map fun x=>if rh sc x=true then x else FP C.ck x)++zv sc
noncomputable def Jd:NameKind->Bool
 |.free=>true
 |_=>false
noncomputable def Bu:Option NameKind->Bool
 |some .cell=>true
 |_=>false
noncomputable def sO{α:Type}(k:Bool)(x:List α):List α:=match k with
 |true=>x
 |false=>[]
@[reducible] def blk(C:SC)(sc:Scope):SC:={ C with N:=d9 C sc,nm:=sO C.ck (sc.names.map fun p=>if(Jd p.2&&Bu (kd C p.1))=true then(p.1,.cell) else(p.1,p.2)),cf:=sO C.ck ((sc.names.filter fun p=>Bu (some p.2)).map (·.1)),la:=[] }
def sv(C:SC)(sc:Scope):Bool :=
 (match sc.kind with|.function=>true|_=>false)&&decide (sc.names.map (·.1)).Nodup&&decide (d9 C sc).Nodup &&
 (sc.names.all fun p=>match p.2 with|.free=>(match kd C p.1 with|some .cell=>true|some .free=>true|_=>false)|_=>true) &&
 ((List.range C.N.length).all fun i=>match (d9 C sc)[i]? with
  |some x=>(match sc.names.lookup x with
   |some .free=>decide (C.N[i]?=some x)
   |some _=>false
   |none=>true)
  |none=>false)
mutual
noncomputable def oG(n:Nat):Tg->Bool
 |.nm k=>Nat.ble n k
 |.tu _ ts=>p0 n ts
 |.su _ _=>false
noncomputable def p0(n:Nat):Tgs->Bool
 |.nil=>true
 |.cons t ts=>oG n t&&p0 n ts
end
@[reducible] def Fz(C:SC)(sc:Scope):SC:={ C with N:=d9 C sc,nm:=sO C.ck sc.names,cf:=[],ke:=[],la:=[] }
noncomputable def Lf(C:SC)(p:Pos):Bool:=C.la.any fun q=>q.line==p.line&&q.col==p.col&&q.endLine==p.endLine&&q.endCol==p.endCol
def Am(C:SC)(sc:Scope)(ps:Arguments):Bool:=sv C sc&&!sc.isCoroutine&&!sc.isGenerator&&plainA ps&&ps.defaults.isEmpty&&ps.kw_defaults.isEmpty &&
 (match zv sc,ps.args.map (·.arg) with
  |[x],[y]=>x==y&&(match sc.names.lookup x with|some .local=>true|_=>false)
  |_,_=>false)&&sc.names.all fun p=>!(Bu (some p.2))
noncomputable def kT:Ex->Bool
 |.v _=>true
 |.i _=>true
 |.ix a b=>kT a&&kT b
 |.fd _ _ o=>kT o
 |_=>false
theorem lH{P:Prop}(h:false=true):P:=nomatch h
theorem bt{α:Type}{P:Prop}{m:α}(h:none=some m):P:=nomatch h
theorem dw{a b:Bool}{P:Prop}(h:(a&&b)=true)(H:a=true->b=true->P):P:=by cases a;exact lH h;exact H rfl h
theorem kg{a b c:Bool}{P:Prop}(h:(a&&b&&c)=true)(H:a=true->b=true->c=true->P):P:=dw h fun x y=>dw x fun h0 h1=>H h0 h1 y
theorem pT{a b c d:Bool}{P:Prop}(h:(a&&b&&c&&d)=true)(H:a=true->b=true->c=true->d=true->P):P:=dw h fun x y=>kg x fun h0 h1 h2=>H h0 h1 h2 y
section
variable{α β γ δ ε:Type}
noncomputable def gu(k c:Bool)(x:Option α):Option α:=match k with
 |false=>x
 |true=>if c=true then x else none
noncomputable def m2(f:α->β->γ)(x:Option α)(y:Option β):Option γ:=x.bind fun a=>y.map (f a)
def m3(f:α->β->γ->δ)(x:Option α)(y:Option β)(z:Option γ):Option δ:=x.bind fun a=>m2 (f a) y z
theorem aM{k c:Bool}{x:Option α}{m:α}{P:Prop}(hk:k=true)(h:gu k c x=some m)(H:c=true->x=some m->P):P:=by
 subst hk;cases c
 ·exact bt h
 ·exact H rfl h
@[elab_as_elim] theorem ci{f:α->β}{x:Option α}{m:β}{P:β->Prop}(h:x.map f=some m)(H:∀a,x=some a->P (f a)):P m:=by
 cases x with
 |none=>exact bt h
 |some a=>cases h;exact H a rfl
@[elab_as_elim] theorem bY{f:α->β->γ}{x:Option α}{y:Option β}{m:γ}{P:γ->Prop}(h:m2 f x y=some m)(H:∀a b,x=some a->y=some b->P (f a b)):P m:=by
 cases x with
 |none=>exact bt h
 |some a=>exact ci h fun b hb=>H a b rfl hb
@[elab_as_elim] theorem kY{f:α->β->γ->δ}{x:Option α}{y:Option β}{z:Option γ}{m:δ}{P:δ->Prop}(h:m3 f x y z=some m)(H:∀a b c,x=some a->y=some b->z=some c->P (f a b c)):P m:=by
 cases x with
 |none=>exact bt h
 |some a=>exact bY h fun b c hb hc=>H a b c rfl hb hc
theorem gC{x:Option α}{f:α->Option β}{m:β}{P:Prop}(h:x.bind f=some m)(H:∀a,x=some a->f a=some m->P):P:=by
 cases x with
 |none=>exact bt h
 |some a=>exact H a rfl h
noncomputable def at_(x:Str):List Str->Nat->Option Nat
 |[],_=>none
 |y::l,k=>if(y==x)=true then some k else at_ x l (k+1)
theorem Bw{x:Str}:∀{l:List Str}{k j:Nat},at_ x l k=some j->∃i,j=k+i/\l[i]?=some x
 |[],_,_,h=>bt h
 |y::l,k,j,h=>by
  unfold at_ at h;split at h
  ·rename_i e;cases h;exact⟨0,rfl,by rw[yK e];rfl⟩
  ·obtain⟨i,e1,e2⟩:=Bw h
   exact⟨i+1,by lia,e2⟩
theorem Go{x:Str}{l:List Str}{j:Nat}(h:at_ x l 0=some j):l[j]?=some x:=by
 obtain⟨i,e,h⟩:=Bw h;rw[e,Nat.zero_add];exact h
noncomputable def lk(x:Str):List (Str×α)->Option α
 |[]=>none
 |p::l=>if(p.1==x)=true then some p.2 else lk x l
theorem qa{x:Str}{v:α}:∀{l:List (Str×α)},lk x l=some v->(x,v)∈l
 |[],h=>bt h
 |p::l,h=>by
  unfold lk at h;split at h
  ·rename_i e;cases h;rw[<- yK e];exact z7
  ·exact zQ _ (qa h)
def rZ(f:Str):List (Str×List Str)->Option Str
 |[]=>none
 |p::l=>match at_ f p.2 0 with
  |some _=>some p.1
  |none=>rZ f l
theorem xE{f c:Str}:∀{l:List (Str×List Str)},rZ f l=some c->∃fs,(c,fs)∈l/\f∈fs
 |[],h=>bt h
 |p::l,h=>by
  unfold rZ at h;split at h
  ·rename_i e;cases h;exact⟨p.2,z7,zW (Go e)⟩
  ·obtain⟨fs,h1,h2⟩:=xE h
   exact⟨fs,zQ _ h1,h2⟩
noncomputable def Ac(n:Nat):List Nat->Bool
 |[]=>false
 |m::l=>(m==n)||Ac n l
def hB(C:SC)(p:Pos)(k:Nat):Bool:=Ac (((p.line*1000+p.col)*1000+p.endCol)*8+k) C.hs
end
noncomputable def nmO:Expr->Option Str
 |.Name x _=>some x
 |_=>none
theorem wM{e:Expr}(h:nmO e=some x):∃p,e=.Name x p:=by
 cases e with
 |Name y p=>cases h;exact⟨p,rfl⟩
 |_=>exact bt h
noncomputable def lsO:Expr->Option (List Expr)
 |.List es _=>some es
 |_=>none
theorem Fu{e:Expr}(h:lsO e=some es):∃p,e=.List es p:=by
 cases e with
 |List y p=>cases h;exact⟨p,rfl⟩
 |_=>exact bt h
noncomputable def cN:Expr->Bool
 |.Constant .none _ _=>true
 |_=>false
theorem Bv{e:Expr}(h:cN e=true):∃a p,e=.Constant .none a p:=by
 cases e with
 |Constant c a p=>cases c with
  |none=>exact⟨a,p,rfl⟩
  |_=>exact lH h
 |_=>exact lH h
noncomputable def kX:Const->Option Ex
 |.none=>some .n
 |.bool b=>some (.b b)
 |.int i=>some (.i i)
 |.str s=>some (.s s)
 |_=>none
structure Tr where
 E:SC->Expr->Option Ex
 T:SC->Expr->Option Tx
 G:SC->Expr->Option Tg
 S:SC->Stmt->Option Sx
def AW(C:SC)(x:Str):Option Ex:=match at_ x C.N 0 with
 |some k=>gu C.ck (yc C x&&Bs x) (some (.v k))
 |none=>(lk x C.gs).bind fun c=>gu C.ck (iY C x&&(pv c).isSome) (some (.g x c))
section
variable(r:Tr)(C:SC)
def j5:List Expr->Option Exs
 |[]=>some .nil
 |e::es=>gu C.ck (cx e) (m2 .cons (r.E C e) (j5 es))
noncomputable def trO:Option Expr->Option Ox
 |none=>some .no
 |some e=>(r.E C e).map .so
def uo:List Expr->Option Tgs
 |[]=>some .nil
 |e::es=>gu C.ck (cx e) (m2 .cons (r.G C e) (uo es))
def mP:List Stmt->Option M6
 |[]=>some .nil
 |s::ss=>m2 .cons (r.S C s) (mP ss)
noncomputable def Ji:BoolOp->Ex->Ex->Ex
 |.And=>.an
 |.Or=>.or
noncomputable def Jh:BoolOp->Tx->Tx->Tx
 |.And=>.an
 |.Or=>.or
def uv(o:BoolOp):List Expr->Option Ex
 |[]=>none
 |[x]=>r.E C x
 |x::y::es=>m2 (Ji o) (r.E C x) (uv o (y::es))
def ut(o:BoolOp):List Expr->Option Tx
 |[]=>none
 |[x]=>r.T C x
 |x::y::es=>m2 (Jh o) (r.T C x) (ut o (y::es))
noncomputable def trC:List Expr->Option Cx'
 |[]=>some .no
 |[e]=>(r.T C e).map .so
 |_=>none
def trR(es:List Expr):Option Ix:=match es with
 |[a]=>(r.E C a).map .r1
 |[a,b]=>m2 .r2 (r.E C a) (r.E C b)
 |_=>none
def trZ(es:List Expr):Option Ix:=match es with
 |[a,b]=>m2 .zi (r.E C a) (r.E C b)
 |_=>none
def trEn(a:Expr)(kws:List Keyword):Option Ix:=match kws with
 |[]=>(r.E C a).map .en
 |[⟨some y,b,_⟩]=>gu C.ck (y==("start":Str)) (m2 .es (r.E C a) (r.E C b))
 |_=>none
def trIc(t e:Expr)(es:List Expr)(kws:List Keyword)(o:Option Str):Option Ix:=match o with
 |some x =>
  if(x==("range":Str))=true then gu C.ck (iY C "range"&&kws.isEmpty&&es.all cx) (trR r C es)
  else if(x==("zip":Str))=true then gu C.ck (iY C "zip"&&kws.isEmpty&&es.all cx&&!qI t) (trZ r C es)
  else if(x==("enumerate":Str))=true then gu C.ck (iY C "enumerate"&&es.all cx&&!qI t) (match es with
   |[a]=>trEn r C a kws
   |_=>none)
  else(r.E C e).map .e
 |none=>(r.E C e).map .e
def trI(t e:Expr):Option Ix:=match e with
 |.Call f es kws _=>trIc r C t e es kws (nmO f)
 |_=>(r.E C e).map .e
def trL(elt:Expr)(gens:List Comprehension)(sc:Scope):Option Nx:=match gens with
 |[⟨t,it,cs,i⟩]=>gu C.ck (sv C sc&&(i==0)&&zy it) ((trI r C t it).bind fun x=>(r.G (blk C sc) t).bind fun g=>gu C.ck (oG C.N.length g) (m2 (.lc ((d9 C sc).length-C.N.length) x g) (trC r (blk C sc) cs) (r.E (blk C sc) elt)))
 |_=>none
def trLr(p:Pos)(es:List Expr):Option Ex:=match es with
 |[a]=>(r.E C a).map fun a=>.nw (hB C p 0) (.lr1 a)
 |[a,b]=>m2 (fun a b=>.nw (hB C p 0) (.lr2 a b)) (r.E C a) (r.E C b)
 |_=>none
def trLf(p:Pos)(a:Expr):Option Ex:=match a with
 |.Call f es kws _=>gu C.ck ((match nmO f with|some y=>y==("range":Str)|none=>false)&&kws.isEmpty&&iY C "range"&&es.all cx) (trLr r C p es)
 |a=>(r.E C a).map fun a=>.nw (hB C p 0) (.lof a)
def trF1(x:Str)(p:Pos)(es:List Expr):Option Ex:=match es with
 |[a] =>
  gu C.ck (x==("list":Str)&&iY C "list"&&cx a) (trLf r C p a)
 |_=>none
def yg(x:Str)(es:List Expr)(p:Pos)(j:Nat)(o:Option (List Str)):Option Ex:=match o with
 |some _=>gu C.ck (IY C j x (es.length+1)&&iY C x&&!es.isEmpty&&es.all cx) ((j5 r C es).map (.ne x j))
 |_=>gu C.ck (IZ C j x es.length&&iY C x&&es.all cx) ((j5 r C es).map (.ca (!hB C p 6) j))
def yh(x:Str)(es:List Expr)(p:Pos)(o:Option Bi):Option Ex:=match o with
 |some b=>gu C.ck (iY C x&&!es.isEmpty&&es.all cx) ((j5 r C es).map (.bi b))
 |none=>trF1 r C x p es
def AX(x:Str)(es:List Expr)(p:Pos):Option Ex:=match at_ x C.cn 0 with
 |some j=>yg r C x es p j (lk x C.cl)
 |none=>yh r C x es p (lk x Gk)
def trK(x:Str)(es:List Expr)(kws:List Keyword):Option Ex:=match es with
 |[a]=>(match kws with
  |[⟨some y,d,_⟩]=>gu C.ck (x==("min":Str)&&y==("default":Str)&&cN d&&(iY C "min"&&cx a)) ((r.E C a).map .mnd)
  |[⟨some y,.Lambda ps body sc lp,_⟩,⟨some z,d,_⟩]=>gu C.ck (x==("min":Str)&&y==("key":Str)&&z==("default":Str)&&(cN d&&iY C "min"&&cx a&&(Lf C lp&&Am C sc ps))) ((r.E C a).bind fun a=>(r.E (Fz C sc) body).bind fun b=>gu C.ck (kT b) (some (.mnk a b)))
  |_=>none)
 |_=>none
noncomputable def miA(q:Mi)(es:List Expr):Mi:=match q,es with
 |q,_=>q
def Dy(o:Expr)(m:Str)(ap:Pos)(es:List Expr)(p:Pos):Option Ex:=gu C.ck (es.all cx&&Nat.blt es.length 30&&oO o&&(ap.endLine==p.line)) (match at_ m C.cn 0 with
 |some j=>C.cl.head?.bind fun q=>gu C.ck (IX C j q.1 m (es.length+1)) (m2 (.me q.1 m j) (r.E C o) (j5 r C es))
 |none=>(lk m Fi).bind fun q=>m2 (.mt (miA q es)) (r.E C o) (j5 r C es))
def trSl(a:Expr)(l h st:Option Expr)(p:Pos):Option Ex:=match st with
 |none =>
  m3 (fun a l h=>.nw (hB C p 0) (.sl a l h)) (r.E C a) (trO r C l) (trO r C h)
 |some _=>none
def trCe(a:Expr)(os:List CmpOp)(bs:List Expr):Option Ex:=match os with
 |[o]=>(match bs with
  |[b]=>gu C.ck (kW o b) (m2 (.cmp o) (r.E C a) (r.E C b))
  |_=>none)
 |_=>none
def trCt(a:Expr)(os:List CmpOp)(bs:List Expr):Option Tx:=match os with
 |[o]=>(match bs with
  |[b]=>gu C.ck (kW o b) (m2 (.cmp o) (r.E C a) (r.E C b))
  |_=>none)
 |_=>none
def trE(e:Expr):Option Ex:=match e with
 |.Constant k _ _=>kX k
 |.Name x _=>AW C x
 |.BinOp a o b p =>
  if hB C p 1=true then gu C.ck (decide (o=.Add)) (m2 (fun x y=>.nw (hB C p 0) (.cat x y)) (r.E C a) (r.E C b)) else
  (match lsO a with
  |some es=>gu C.ck (decide (o=.Mult)) (m2 (fun x y=>.nw (hB C p 0) (.rep x y)) (j5 r C es) (r.E C b))
  |none=>m2 (.bin o) (r.E C a) (r.E C b))
 |.Compare a os bs _=>trCe r C a os bs
 |.UnaryOp o a _=>(match o with
  |.Not=>(r.E C a).map .no
  |o=>(r.E C a).map (.un o))
 |.BoolOp o es _=>uv r C o es
 |.IfExp t a b _=>m3 .ife (r.T C t) (r.E C a) (r.E C b)
 |.Subscript a i p=>(match i with
  |.Slice l h st _=>trSl r C a l h st p
  |i=>gu C.ck (jw i) (m2 .ix (r.E C a) (r.E C i)))
 |.Tuple es _ _=>(j5 r C es).map .tu
 |.List es p=>(j5 r C es).map fun x=>.nw (hB C p 0) (.li x)
 |.ListComp elt gens sc p=>(trL r C elt gens sc).map fun x=>.nw (hB C p 0) x
 |.Dict ks vs _=>gu C.ck (ks.isEmpty&&vs.isEmpty) (some .dn)
 |.Attribute o f _=>(rZ f C.cl).bind fun c=>gu C.ck (oO o) ((r.E C o).map (.fd c f))
 |.Call f es kws p=>(match f with
  |.Name x _=>(match kws with
   |[]=>AX r C x es p
   |kws=>trK r C x es kws)
  |.Attribute o m ap=>gu C.ck kws.isEmpty (Dy r C o m ap es p)
  |_=>none)
 |_=>none
def trT(e:Expr):Option Tx:=match e with
 |.UnaryOp o a p=>(match o with
  |.Not=>(r.T C a).map .no
  |o=>(r.E C (.UnaryOp o a p)).map .va)
 |.BoolOp o es _=>ut r C o es
 |.Compare a os bs _=>trCt r C a os bs
 |e=>gu C.ck (wA e) ((r.E C e).map .va)
def oC(x:Str):Option Tg:=(at_ x C.N 0).bind fun k=>gu C.ck (Ag C x&&Bs x) (some (.nm k))
def trG(e:Expr):Option Tg:=match e with
 |.Name x _=>oC C x
 |.Tuple es _ _=>gu C.ck (es.all cx) ((uo r C es).map (.tu es.length))
 |.Subscript a b _=>gu C.ck (jw b) (m2 .su (r.E C a) (r.E C b))
 |_=>none
def trAn(x:Str)(v:Expr):Option Sx:=match v with
 |.ListComp elt gens sc q=>m2 .as ((trL r C elt gens sc).map fun x=>.nw (hB C q 0) x) (oC C x)
 |v=>gu C.ck (m6 v) (m2 .as (r.E C v) (oC C x))
def trAs(t v:Expr):Option Sx:=match t with
 |.Attribute o f _=>(rZ f C.cl).bind fun c=>m2 (.fl c f) (r.E C o) (r.E C v)
 |.Name x _=>trAn r C x v
 |.Subscript a b p=>m2 .as (r.E C v) (r.G C (.Subscript a b p))
 |.Tuple ts k p=>(match v with
  |v=>gu C.ck (qI v&&m6 v) (m2 .as (r.E C v) (r.G C (.Tuple ts k p))))
 |_=>none
def trS(s:Stmt):Option Sx:=match s with
 |.Expr e _=>gu C.ck (m6 e) ((r.E C e).map .ex)
 |.Assign ts v _=>(match ts with
  |[t]=>trAs r C t v
  |_=>none)
 |.AugAssign t o v _=>(match t with
  |.Subscript a b _=>gu C.ck (jw b) (m3 (.aus o) (r.E C a) (r.E C b) (r.E C v))
  |_=>none)
 |.Return e _=>(match e with
  |none=>none
  |some e=>(r.E C e).map .rt)
 |.If t a b _=>m3 .iff (r.T C t) (mP r C a) (mP r C b)
 |.For t it b els p=>gu C.ck (els.isEmpty&&zy it) (
  if hB C p 4=true then m3 .fd (r.E C it) (r.G C t) (mP r C b) else
  m3 .fo (trI r C t it) (r.G C t) (mP r C b))
 |.While t b els _=>gu C.ck els.isEmpty (m2 .wh (r.T C t) (mP r C b))
 |.Raise _ _ _=>some .dead
 |_=>none
end
theorem FR{α:Type}{c:Bool}{x:Option α}:gu false c x=x:=rfl
theorem CS{a b:String}(h:Str.ofString a=Str.ofString b):a=b:=by
 rw[Str.ofString_eq_byList]at h;have h:=congrArg (fun x=>x.cps.toList) h;exact String.toList_inj.mp (List.map_inj_right (fun x y e=>Char.toNat_inj.mp e) |>.mp h)
theorem E9{a b:String}:(Str.ofString a==Str.ofString b)=decide (a=b):=by
 by_cases h:a=b
 ·subst h;simp
 ·rw[yA h]
  exact beq_eq_false_iff_ne.mpr fun e=>h (CS e)
def tr:Nat->Tr
 |0=>⟨fun _ _=>none,fun _ _=>none,fun _ _=>none,fun _ _=>none⟩
 |n+1=>⟨trE (tr n),trT (tr n),trG (tr n),trS (tr n)⟩
section
variable{n:Nat}
theorem JE:(tr (n+1)).E=trE (tr n):=rfl
theorem JB:(tr (n+1)).T=trT (tr n):=rfl
theorem JD:(tr (n+1)).G=trG (tr n):=rfl
theorem JC:(tr (n+1)).S=trS (tr n):=rfl
end
theorem uS:type_of% @trS.eq_def:=@trS.eq_def
theorem uE:type_of% @trE.eq_def:=@trE.eq_def
theorem uT:type_of% @trT.eq_def:=@trT.eq_def
theorem uG:type_of% @trG.eq_def:=@trG.eq_def
theorem KR:type_of% @trAs.eq_def:=@trAs.eq_def
theorem KU:type_of% @trAn.eq_def:=@trAn.eq_def
theorem uK:type_of% @trK.eq_def:=@trK.eq_def
theorem KQ:type_of% @trCe.eq_def:=@trCe.eq_def
theorem KP:type_of% @trCt.eq_def:=@trCt.eq_def
theorem uI:type_of% @trI.eq_def:=@trI.eq_def
theorem KK:type_of% @trIc.eq_def:=@trIc.eq_def
theorem KH:type_of% @trSl.eq_def:=@trSl.eq_def
theorem uL:type_of% @trL.eq_def:=@trL.eq_def
theorem KN:type_of% @trEn.eq_def:=@trEn.eq_def
theorem uR:type_of% @trR.eq_def:=@trR.eq_def
theorem uZ:type_of% @trZ.eq_def:=@trZ.eq_def
theorem KM:type_of% @trF1.eq_def:=@trF1.eq_def
theorem KJ:type_of% @trLf.eq_def:=@trLf.eq_def
theorem KI:type_of% @trLr.eq_def:=@trLr.eq_def
theorem uO:type_of% @trO.eq_def:=@trO.eq_def
theorem uC:type_of% @trC.eq_def:=@trC.eq_def
theorem uX:type_of% @kX.eq_def:=@kX.eq_def
theorem uM:type_of% @nmO.eq_def:=@nmO.eq_def
theorem uN:type_of% @lsO.eq_def:=@lsO.eq_def
theorem uP:type_of% @miA.eq_def:=@miA.eq_def
def GB[MV](P:Program)(w:World)(K:Frag)(mg:Str->Option Value)(base:Heap)(A:Around)(fn:Fn):Ke->Prop
 |.f x n=>∃d f fd ps,ps.length=n/\FnOk P w K mg base eO d f fd ps (dA ⟨K,mg⟩ ps.length fn)/\Room d A/\mg x=some (.ref f)/\keepIn K (.ref f)=true/\Binds K fd ps []
 |.m c m n=>∃d f fd ps C,ps.length=n/\FnOk P w K mg base eO d f fd ps (dA ⟨K,mg⟩ ps.length fn)/\Room d A/\mg c=some (.ref C)/\Cls K C/\j3 K C m f/\Binds K fd ps []
 |.k c n=>∃d f fd ps C,ps.length=n/\FnOk P w K mg base eO d f fd ps (dA ⟨K,mg⟩ ps.length fn)/\Room (d+1) A/\mg c=some (.ref C)/\Mk K C f/\Binds K fd ps []
structure Fit[MV](X:Cx)(C:SC)(ks:List Fn):Prop where
 N:X.N=C.N
 ck:C.ck=true
 nm:X.env.scope.names=C.nm
 nd:C.N.Nodup
 kind:X.env.scope.kind=.function
 calm:X.calm=true
 cf:∀x∈C.cf,X.fn x=true
 hu:X.A.units+64<cLine
 gd:X.A.guards=some []
 bl:∀x∈bnames,X.mg x=none
 po:PassesOwn (model X.prog X.w) X.A X.env X.xe
 ke:∀(j:Nat) k,C.ke[j]?=some k->GB X.prog X.w X.K X.mg X.base X.A (kf ks j) k
 gs:∀p∈C.gs,∀w,pv p.2=some w->∃u,X.mg p.1=some u/\RelV w u
 cl:∀p∈C.cl,∃Ca,X.mg p.1=some (.ref Ca)/\Cls X.K Ca/\∀f∈p.2,NoAttr X.K Ca f
 la:∀p∈C.la,Room 2 X.A/\∃c P,X.env.code=.ref c/\CodeHd X.base c P/\ji X.mg X.base/\(P,p,X.env.qual++"<lambda>")∈MV.tb/\∀t∈MV.tb,t.1=P->t=(P,p,X.env.qual++"<lambda>")
section
variable{X:Cx}{C:SC}{ks:List Fn}
theorem Fit.kdO[MV](F:Fit X C ks)(x:Str):X.env.kindOf x=kd C x:=by unfold kd;rw[<- F.nm];rfl
theorem Fit.vis[MV](F:Fit X C ks)(h:yc C x=true):xQ X.env.scope x:=by
 unfold yc kd at h;rw[<- F.nm]at h;unfold xQ;split at h
 ·rename_i e;exact .inl e
 ·rename_i e;exact .inr (.inl e)
 ·rename_i e;exact .inr (.inr e)
 ·cases h
theorem Fit.loc[MV](F:Fit X C ks)(h:Ag C x=true):L2.Loc X.env.scope x/\(X.fn x=true\/X.env.scope.names.lookup x=some .local):=by
 unfold Ag kd at h;rw[<- F.nm]at h;unfold L2.Loc;split at h
 ·rename_i e;exact⟨.inl e,.inr e⟩
 ·rename_i e;exact⟨.inr e,.inl (F.cf x (by simpa using h))⟩
 ·cases h
theorem rV(h:Bs x=true):(x==("__debug__":Str))=false/\(x==("__classdict__":Str))=false:=dw h fun h1 h2=>⟨by simpa using h1,by simpa using h2⟩
theorem Fit.gl[MV](F:Fit X C ks)(h:iY C x=true):Gl X x/\(x==("__debug__":Str))=false:=by
 unfold iY at h;refine dw h fun h1 h2=>⟨?_,(rV h2).1⟩
 unfold Gl;rw[F.kdO];split at h1
 ·rename_i e;exact e
 ·cases h1
theorem Fit.nmb[MV](F:Fit X C ks){k:Nat}(h:at_ x C.N 0=some k):X.N[k]?=some x:=by rw[F.N];exact Go h
theorem Fit.clb[MV](F:Fit X C ks){c f:Str}(h:rZ f C.cl=some c):∃Ca,X.mg c=some (.ref Ca)/\Cls X.K Ca/\NoAttr X.K Ca f:=by
 obtain⟨fs,h1,h2⟩:=xE h;obtain⟨Ca,a,b,d⟩:=F.cl _ h1;exact⟨Ca,a,b,d f h2⟩
theorem Fit.blt[MV](F:Fit X C ks)(h:x∈bnames):X.mg x=none:=F.bl x h
theorem F4(b:NameKind):Jd b=(b==NameKind.free):=by cases b<;>rfl
theorem Gh(o:Option NameKind):Bu o=(o==some NameKind.cell):=by
 cases o with
 |none=>rfl
 |some k=>cases k<;>rfl
theorem Fit.blk[MV](F:Fit X C ks)(h:sv C sc=true):jq X (d9 C sc) sc/\∀cl s H fp MS,Fit (cz X (d9 C sc) sc cl s H fp MS) (R.blk C sc) ks:=by
 unfold sv at h;simp only[zC,yC]at h;obtain⟨⟨⟨⟨h1,h2⟩,h3⟩,h4⟩,h5⟩:=h;have hk:sc.kind=.function:=by
  split at h1
  ·rename_i e;exact e
  ·cases h1
 have hlen:C.N.length<=(d9 C sc).length:=by unfold d9;rw[zV,zH];lia
 have free:∀x,(x,NameKind.free)∈sc.names->X.env.kindOf x=some .cell\/X.env.kindOf x=some .free:=fun x hx=>by
  have:=yR.mp h4 _ hx
  simp only at this;rw[F.kdO];split at this
  ·rename_i e;exact .inl e
  ·rename_i e;exact .inr e
  ·cases this
 have at5:∀i x,i<X.N.length->(d9 C sc)[i]?=some x->(∀k,(x,k)∈sc.names->k=.free/\X.N[i]?=some x):=fun i x hi e k hm=>by
  rw[F.N]at hi ⊢
  have:=yR.mp h5 i (List.mem_range.mpr hi)
  rw [e] at this;simp only at this;have hl:=cY h2 hm;rw [hl] at this;cases k <;> simp only at this <;> first | (cases this;done) | exact ⟨rfl,of_decide_eq_true this⟩
 refine ⟨⟨hk,h2,by rw [F.N];exact hlen,free,fun i x hi e hm=>(at5 i x hi e _ hm).2,fun i x hi e hq0=>by obtain ⟨k,hm⟩:=hq0;have:=(at5 i x hi e k hm).1;subst this;exact hm⟩,fun cl s H fp MS=>?_⟩;refine ⟨rfl,F.ck,?_,h3,hk,F.calm,fun x hx=>?_,F.hu,F.gd,F.bl,PassesOwn.never,F.ke,F.gs,F.cl,fun p hp=>absurd (show p ∈ ([]:List Pos) from hp) (by simp)⟩
 ·show(relabel sc X.env).names=_
  unfold relabel R.blk;dsimp only;rw[F.kind,F.ck];apply List.map_congr_left;intro p _;obtain⟨a,b⟩:=p;simp only[F.kdO,F4,Gh];simp
 ·unfold R.blk at hx
  rw[F.ck]at hx;obtain⟨p,hp,e⟩:=yD.mp hx;obtain⟨hp1,hp2⟩:=List.mem_filter.mp hp;obtain⟨a,b⟩:=p;dsimp only at e hp2;subst e;have:b=.cell:=by cases b<;>first|rfl|cases hp2
  subst this;show(sc.names.lookup a==some NameKind.cell)=true;rw[cY h2 hp1];rfl
end
section
variable{X:Cx}{C:SC}{ks:List Fn}
theorem Fit.lam[MV](F:Fit X C ks)(rm:Room 2 X.A)(h:Am C sc ps=true):∃x,vQ X (d9 C sc) sc x/\plainA ps=true/\ps.args.map (·.arg)=[x]/\defaultsOf ps X.env=([],[]) /\
  ∀cl f q cd s H,Fit (rW X (d9 C sc) sc cl f q cd X.A.in1 s H) (Fz C sc) ks:=by
 unfold Am at h;simp only[zC]at h;obtain⟨⟨⟨⟨⟨⟨⟨h1,h2⟩,h3⟩,h4⟩,h5⟩,h6⟩,h7⟩,h8⟩:=h;obtain⟨cy,_⟩:=F.blk h1;split at h7
 ·rename_i x y ex ey
  simp only[zC]at h7;have exy:=yK h7.1;subst exy;have hl:sc.names.lookup x=some .local:=by
   have:=h7.2
   split at this
   ·rename_i e;exact e
   ·cases this
  have hN:d9 C sc=(C.N.map fun x=>if rh sc x=true then x else FP C.ck x)++[x]:=by unfold d9;rw[ex]
  refine⟨x,⟨cy,by simpa using h2,by simpa using h3,by rw[hN,F.N];simp,by rw[hN,F.N];simp,hl,fun y hy e=>?_⟩,h4,ey,?_,fun cl f q cd s H=>?_⟩
  ·have:=yR.mp h8 y hy
   rw[e]at this;cases this
  ·obtain⟨a1,a2,a3,a4,a5,a6,a7⟩:=ps
   have e5:a7=[]:=List.isEmpty_iff.mp h5;have e6:a5=[]:=List.isEmpty_iff.mp h6;subst e5;subst e6;rfl
  ·have hnd:(d9 C sc).Nodup:=by
    unfold sv at h1;simp only[zC,yC]at h1;exact h1.1.1.2
   have hkd:sc.kind=.function:=cy.kind;have r1:Room 1 X.A.in1:=rm.in1;have r0:=Room.deeper r1 (newEnv sc s.heap.objs.size mainGlobals cl (q++".<locals>.") (some f) cd none builtinsNs);refine ⟨rfl,F.ck,(by show _=sO C.ck sc.names;rw [F.ck];rfl),hnd,hkd,rfl,fun x hx=>absurd (show x ∈ ([]:List Str) from hx) (by simp),r0.units,r0.gd,F.bl,PassesOwn.never,fun j k e=>absurd (show ([]:List Ke)[j]?=some k from e) (by simp),F.gs,F.cl,fun p hp=>absurd (show p ∈ ([]:List Pos) from hp) (by simp)⟩
 ·cases h7
end
mutual
theorem sX{n:Nat}:∀{t:Tg},oG n t=true->oq n (b8 ks t)
 |.nm k,h=>by
  simp only[oG]at h;have hk:=zS h;simp only[b8];intro x sl st sl' st' e;cases e;exact⟨List.length_set,fun j hj=>List.getElem?_set_ne oM⟩
 |.tu m ts,h=>by
  simp only[oG]at h;simp only[b8];intro x sl st sl' st' e;unfold xn at e;split at e
  ·split at e
   ·exact mw h _ _ _ _ _ e
   ·cases e
  ·split at e
   ·split at e
    ·exact mw h _ _ _ _ _ e
    ·cases e
   ·cases e
 |.su _ _,h=>by simp only[oG]at h;cases h
theorem mw{n:Nat}:∀{ts:Tgs},p0 n ts=true->∀xs sl st sl' st',jn ks ts xs sl st=some (sl',st')->sl'.length=sl.length/\∀j,j<n->sl'[j]?=sl[j]?
 |.nil,_,xs,sl,st,sl',st',e=>by
  simp only[jn]at e;cases xs with
  |nil=>cases e;exact⟨rfl,fun _ _=>rfl⟩
  |cons _ _=>cases e
 |.cons t ts,h,xs,sl,st,sl',st',e=>by
  simp only[p0,zC]at h;simp only[jn]at e;cases xs with
  |nil=>cases e
  |cons x xs =>
   obtain⟨p,e1,e2⟩:=zA e;obtain⟨a1,a2⟩:=sX h.1 _ _ _ _ _ e1;obtain⟨b1,b2⟩:=mw h.2 _ _ _ _ _ e2;exact⟨b1.trans a1,fun j hj=>(b2 j hj).trans (a2 j hj)⟩
end
theorem lb{r:Tr}(hk:C.ck=true):∀{es:List Expr}{as:Exs},j5 r C es=some as->∀sl st xs st',d8 ks as sl st=some (xs,st')->xs.length=es.length
 |[],as,h,sl,st,xs,st',e=>by cases h;cases e;rfl
 |x::es,as,h,sl,st,xs,st',e=>by
  refine aM hk h fun _ h=>?_
  revert e
  refine bY h fun a as _ h2 e=>?_
  obtain⟨p,e1,e2⟩:=zA e;obtain⟨q,e3,e4⟩:=zA e2;cases e4;rw[yY,yY,lb hk h2 _ _ _ _ e3]
theorem Iw:bootBuiltins "len"=some (.builtin "len"):=by decide +kernel
theorem Ip:bootBuiltins "sum"=some (.builtin "sum"):=by decide +kernel
theorem Iz:bootBuiltins "abs"=some (.builtin "abs"):=by decide +kernel
theorem Ir:bootBuiltins "min"=some (.builtin "min"):=by decide +kernel
theorem Iu:bootBuiltins "max"=some (.builtin "max"):=by decide +kernel
theorem Iy:bootBuiltins "int"=some (.type "int"):=by decide +kernel
section
variable{X:Cx}{C:SC}{ks:List Fn}
theorem Io[MV](F:Fit X C ks)(b:Bi){e:Expr}{es:List Expr}{g:AF}{p pos:Pos}(hg:iY C b.nm=true)(ha:QA X (e::es) g)(hs:(e::es).all cx=true):QE X (.Call (.Name b.nm p) (e::es) [] pos) (sC (og b) g):=by
 have gl:=F.gl hg;rw[List.all_cons,zC]at hs;have he:=aH (env:=X.env) (es:=es) hs.1;have hpl:=io (env:=X.env) (pos:=pos) hs.2;cases b with
 |len=>exact mV Ik gl.1 (F.blt dC) Iw ha dC gl.2 he hpl
 |sum=>exact mV (Ih F.calm) gl.1 (F.blt dC) Ip ha dC gl.2 he hpl
 |abs=>exact mV Im gl.1 (F.blt dC) Iz ha dC gl.2 he hpl
 |min=>exact mV (Ii F.calm) gl.1 (F.blt dC) Ir ha dC gl.2 he hpl
 |max=>exact mV (Ij F.calm) gl.1 (F.blt dC) Iu ha dC gl.2 he hpl
 |int=>exact G5 Il gl.1 (F.blt dC) Iy ha dC gl.2 he hpl
theorem Hu[MV](F:Fit X C ks)(m:Mi){o:Expr}{es:List Expr}{f:EF}{g:AF}{ap p:Pos}(ho:QE X o f)(ha:QA X es g)(h0:es=[]->g=fb)(hs:es.all cx=true)(hl:es.length<30)(hb:oO o=true)(hline:(ap.endLine==p.line)=true) :
  QE X (.Call (.Attribute o m.nm ap) es [] p) (md (qO m) (qN m) f g):=by
 cases es with
 |nil =>
  have:=h0 rfl
  subst this;have hbase:=fO (env:=X.env) (f:=m.nm) (eval o X.env) hb;cases m with
  |app=>exact mU PySem.F.plainAttrs_list PySem.F.slot_list_append PySem.F.type_list_append Bf ho hbase hline
  |pop=>exact mU PySem.F.plainAttrs_list PySem.F.slot_list_pop PySem.F.type_list_pop Bb ho hbase hline
  |ext=>exact mU PySem.F.plainAttrs_list PySem.F.slot_list_extend PySem.F.type_list_extend Bc ho hbase hline
  |cnt=>exact mU PySem.F.plainAttrs_list PySem.F.slot_list_count PySem.F.type_list_count (Be F.hu) ho hbase hline
 |cons e es =>
  have hbase:=fO (env:=X.env) (f:=m.nm) (eval o X.env) hb;have hfew:=Jf (env:=X.env) (cpos:=p) hs hl;rw[List.all_cons,zC]at hs;have he:=aH (env:=X.env) (es:=es) hs.1;have hpl:=io (env:=X.env) (pos:=p) hs.2;cases m with
  |app=>exact p4 PySem.F.plainAttrs_list PySem.F.slot_list_append PySem.F.type_list_append Bf ho ha hbase hfew hline he hpl
  |pop=>exact p4 PySem.F.plainAttrs_list PySem.F.slot_list_pop PySem.F.type_list_pop Bb ho ha hbase hfew hline he hpl
  |ext=>exact p4 PySem.F.plainAttrs_list PySem.F.slot_list_extend PySem.F.type_list_extend Bc ho ha hbase hfew hline he hpl
  |cnt=>exact p4 PySem.F.plainAttrs_list PySem.F.slot_list_count PySem.F.type_list_count (Be F.hu) ho ha hbase hfew hline he hpl
theorem EN[MV]{P:Program}{w:World}{K:Frag}{mg:Str->Option Value}{base:Heap}{k:Nat}{f:Addr}{fd:FuncData}{ps:List Str}{n:Nat}{fn:Fn}(b:Bool)(F:FnOk P w K mg base eO k f fd ps (dA ⟨K,mg⟩ n fn)):FnOk P w K mg base eO k f fd ps (dA ⟨K,mg⟩ n (dN b fn)):=by
 cases b
 ·exact F
 ·exact FnOk.pm F
end
theorem jM{ks:List Fn}:∀{e:Ex},kT e=true->BE (ev ks e)
 |.v k,_=>fun sl st v st' e=>by
  have e:aV k sl st=some (v,st'):=e;unfold aV at e;split at e
  ·cases e;rfl
  ·cases e
 |.i k,_=>fun sl st v st' e=>by
  cases e;rfl
 |.ix a b,h=>fun sl st v st' e=>by
  refine dw h fun h1 h2=>?_
  obtain⟨p,e1,e2⟩:=zA e;obtain⟨q,e3,e4⟩:=zA e2;obtain⟨z,e5,e6⟩:=zE.mp e4;cases e6;rw[jM h2 _ _ _ _ e3,jM h1 _ _ _ _ e1]
 |.fd c f o,h=>fun sl st v st' e=>by
  obtain ⟨p,e1,e2⟩:=zA e;obtain ⟨q,e3,e4⟩:=zA e2;obtain ⟨z,e5,e6⟩:=zE.mp e4;cases e6;rw [jM (show kT o=true from h) _ _ _ _ e1]
theorem Hw{α β γ:Type}{f:α->β->γ}{x:Option α}{y:Option β}{m:γ}(h:m2 f x y=some m):∃a b,x=some a/\y=some b/\m=f a b:=bY h fun a b h1 h2=>⟨a,b,h1,h2,rfl⟩
structure AL[MV](r:Tr)(ks:List Fn):Prop where
 E:∀{X:Cx}{C:SC}{e:Expr}{m:Ex},Fit X C ks->r.E C e=some m->QE X e (ev ks m)
 T:∀{X:Cx}{C:SC}{e:Expr}{m:Tx},Fit X C ks->r.T C e=some m->QT X e (tv ks m)
 G:∀{X:Cx}{C:SC}{e:Expr}{m:Tg},Fit X C ks->r.G C e=some m->QG X e (b8 ks m)
 S:∀{X:Cx}{C:SC}{s:Stmt}{m:Sx},Fit X C ks->r.S C s=some m->QS X s (cS ks m)
section
variable[MV]{ks:List Fn}{r:Tr}(R:AL r ks){X:Cx}{C:SC}(F:Fit X C ks)
include R F
theorem fQ:∀{es:List Expr}{m:Exs},j5 r C es=some m->QA X es (d8 ks m)
 |[],m,h=>by cases h;exact fe
 |e::es,m,h=>aM F.ck h fun h0 h=>bY h fun a as h1 h2=>c5 (R.E F h1) (fQ h2) (aH h0)
theorem wa{e:Option Expr}{m:Ox}(h:trO r C e=some m):QO X e (rL ks m):=by
 cases e with
 |none=>cases h;exact Ci
 |some e=>exact ci h fun a h=>Ch (R.E F h)
theorem im:∀{ss:List Stmt}{m:M6},mP r C ss=some m->mh X ss (ah ks m)
 |[],m,h=>by cases h;exact Cc
 |s::ss,m,h=>bY h fun a as h1 h2=>yy (R.S F h1) (im h2)
theorem sU:∀{es:List Expr}{m:Tgs},uo r C es=some m->xT X es (jn ks m)
 |[],m,h=>by cases h;exact Cm
 |e::es,m,h=>aM F.ck h fun h0 h=>bY h fun a as h1 h2=>za (R.G F h1) (sU h2) (Aw h0)
theorem oF{o:BoolOp}{p:Pos}:∀{x:Expr}{es:List Expr}{m:Ex},uv r C o (x::es)=some m->QE X (.BoolOp o (x::es) p) (ev ks m)
 |x,[],m,h=>by cases o<;>exact EW (R.E F h)
 |x,y::es,m,h=>bY h fun a b h1 h2=>by
  cases o
  ·exact EE (R.E F h1) (oF h2)
  ·exact G6 (R.E F h1) (oF h2)
theorem oE{o:BoolOp}{p:Pos}:∀{x:Expr}{es:List Expr}{m:Tx},ut r C o (x::es)=some m->QW X (.BoolOp o (x::es) p) (tv ks m)
 |x,[],m,h=>Ec o (R.T F h)
 |x,y::es,m,h=>bY h fun a b h1 h2=>by
  cases o
  ·exact Ed (R.T F h1) (oE h2)
  ·exact GW (R.T F h1) (oE h2)
theorem DF{es:List Expr}{m:Cx'}(h:trC r C es=some m):ue X es (i8 ks m):=by
 rcases es with _|⟨e,_|_⟩
 ·cases h;exact Cl
 ·exact ci h fun a h=>Ck (R.T F h)
 ·exact bt h
omit R in
theorem Du{x:Str}{p:Pos}{m:Ex}(h:AW C x=some m):QE X (.Name x p) (ev ks m):=by
 unfold AW at h;split at h
 ·rename_i k hk
  refine aM F.ck h fun h0 h=>dw h0 fun h1 h2=>?_
  cases h;exact Ew (F.nmb hk) (F.vis h1) (rV h2).1 (rV h2).2
 ·refine gC h fun c hc h=>aM F.ck h fun h0 h=>dw h0 fun h1 h2=>?_
  cases h;obtain⟨w,hw⟩:=Option.isSome_iff_exists.mp h2;obtain⟨u,h2',h3⟩:=F.gs _ (qa hc) w hw;obtain⟨g1,g2⟩:=F.gl h1;exact qE hw (CM g1 h2' h3 g2) fun _ _ _ h=>h
omit R F in
theorem v8{t:Expr}(h:(!qI t)=true):∃ts k p,t=.Tuple ts k p:=by
 cases t with
 |Tuple ts k p=>exact⟨ts,k,p,rfl⟩
 |_=>exact lH h
theorem wd{t e:Expr}{m:Ix}(h:trI r C t e=some m):QI X t e (dO ks m):=by
 have dfl:∀{m},(r.E C e).map .e=some m->QI X t e (dO ks m):=fun h=>ci h fun a h=>J1 (R.E F h)
 cases e with
 |Call f es kws p =>
  have h:trIc r C t _ es kws (nmO f)=some m:=h;cases hx:nmO f with
  |none=>rw[hx]at h;exact dfl h
  |some x =>
   rw[hx]at h;obtain⟨q,rfl⟩:=wM hx;unfold trIc at h;split at h
   ·rename_i hr
    rw[yK hr];refine aM F.ck h fun h0 g=>kg h0 fun h1 h2 h3=>?_
    cases List.isEmpty_iff.mp h2;rcases es with _|⟨a,_|⟨b,_|⟨c,_|_⟩⟩⟩
    ·exact bt g
    ·refine dw h3 fun h4 _=>?_
     exact ci g fun x hx=>G2 (F.gl h1).1 (F.blt dC) (R.E F hx) (aH h4)
    ·refine dw h3 fun h4 h3=>dw h3 fun h5 _=>?_
     exact bY g fun x y hx hy=>G1 (F.gl h1).1 (F.blt dC) (R.E F hx) (R.E F hy) (by rw[aH h4,aH h5];rfl) (aH h5)
    all_goals exact bt g
   ·split at h
    ·rename_i hr
     rw[yK hr];refine aM F.ck h fun h0 g=>pT h0 fun h1 h2 h3 ht=>?_
     cases List.isEmpty_iff.mp h2;obtain⟨ts,k,tp,rfl⟩:=v8 ht;rcases es with _|⟨a,_|⟨b,_|⟨c,_|⟨d,_|_⟩⟩⟩⟩
     ·exact bt g
     ·exact bt g
     ·refine dw h3 fun h4 h3=>dw h3 fun h5 _=>?_
      exact bY g fun x y hx hy=>Er (F.gl h1).1 (F.blt dC) (R.E F hx) (R.E F hy) (by rw[aH h4,aH h5];rfl) (aH h5)
     ·exact bt g
     all_goals exact bt g
    ·split at h
     ·rename_i hr
      rw[yK hr];refine aM F.ck h fun h0 g=>kg h0 fun h1 h3 ht=>?_
      obtain⟨ts,k,tp,rfl⟩:=v8 ht;rcases es with _|⟨a,_|_⟩
      ·exact bt g
      ·refine dw h3 fun h4 _=>?_
       unfold trEn at g;dsimp only at g;split at g
       ·exact ci g fun x hx=>G3 (F.gl h1).1 (F.blt dC) (R.E F hx) (aH h4)
       ·refine aM F.ck g fun h0 g=>?_
        rw[yK h0];exact bY g fun x y hx hy=>Es (F.gl h1).1 (F.blt dC) (R.E F hx) (R.E F hy) (aH h4)
       ·exact bt g
      ·exact bt g
     ·exact dfl h
 |_=>exact dfl h
theorem wc{elt:Expr}{gens:List Comprehension}{sc:Scope}{m:Nx}(h:trL r C elt gens sc=some m):∃t it cs x g c y N',gens=[⟨t,it,cs,0⟩]/\m=.lc (N'.length-X.N.length) x g c y/\jq X N' sc/\QI X t it (dO ks x)/\(∀cl s H fp MS,QG (cz X N' sc cl s H fp MS) t (b8 ks g))/\(∀cl s H fp MS,ue (cz X N' sc cl s H fp MS) cs (i8 ks c)) /\
  (∀cl s H fp MS,QE (cz X N' sc cl s H fp MS) elt (ev ks y))/\oq X.N.length (b8 ks g)/\(∀x,foldedSetIterable it X.env x=pure x):=by
 unfold trL at h;split at h
 ·rename_i t it cs i
  refine aM F.ck h fun h0 h=>kg h0 fun h1 h2 h3=>gC h fun x hx h=>gC h fun g hg h=>aM F.ck h fun h4 k=>?_
  cases yK h2;obtain⟨T,FB⟩:=F.blk h1;obtain⟨c,y,hc,hy,rfl⟩:=Hw k;exact⟨t,it,cs,x,g,c,y,d9 C sc,rfl,by rw[F.N],T,wd R F hx,fun cl s H fp MS=>R.G (FB cl s H fp MS) hg,fun cl s H fp MS=>DF R (FB cl s H fp MS) hc,fun cl s H fp MS=>R.E (FB cl s H fp MS) hy,by rw[F.N];exact sX h4,qy h3⟩
 ·exact bt h
theorem BT{x:Str}{es:List Expr}{p p':Pos}{m:Ex}(h:trF1 r C x p' es=some m):QE X (.Call (.Name x p) es [] p') (ev ks m):=by
 rcases es with _|⟨a,_|⟨b,_|_⟩⟩
 ·exact bt h
 ·skip
  refine aM F.ck h fun h0 g=>kg h0 fun hx h1 h2=>?_
  rw[yK hx];clear h;have dfl:∀{m},((r.E C a).map fun a=>Ex.nw (hB C p' 0) (.lof a))=some m->QE X (.Call (.Name "list" p) [a] [] p') (ev ks m):=fun h=>ci h fun y h=>g9 (Eo (F.gl h1).1 (F.blt dC) (R.E F h) (aH h2))
  cases a with
  |Call f es' kws' q =>
   refine aM F.ck g fun h0 k=>pT h0 fun h3 h4 h5 h6=>?_
   obtain⟨q1,rfl⟩:∃q,f=.Name "range" q:=by
    split at h3
    ·rename_i y hy
     obtain⟨q,rfl⟩:=wM hy;rw[yK h3];exact⟨q,rfl⟩
    ·exact lH h3
   cases List.isEmpty_iff.mp h4;rcases es' with _|⟨a,_|⟨b,_|⟨c,_|_⟩⟩⟩
   ·exact bt k
   ·exact dw h6 fun h7 _=>ci k fun x hx=>g9 (En F.calm (F.gl h1).1 (F.blt dC) (F.gl h5).1 (F.blt dC) (R.E F hx) (aH h7))
   ·exact dw h6 fun h7 h6=>dw h6 fun h8 _=>bY k fun x y hx hy=>g9 (Em F.calm (F.gl h1).1 (F.blt dC) (F.gl h5).1 (F.blt dC) (R.E F hx) (R.E F hy) ((aH h7).trans (by rw[aH h8];rfl)) (aH h8))
   ·exact bt k
   all_goals exact bt k
  |_=>first|exact dfl g|exact bt g
 all_goals exact bt h
theorem DB{x:Str}{es:List Expr}{p p':Pos}{m:Ex}(h:AX r C x es p'=some m):QE X (.Call (.Name x p) es [] p') (ev ks m):=by
 unfold AX at h;split at h
 ·rename_i j _
  unfold yg at h;split at h
  ·refine aM F.ck h fun h0 h=>pT h0 fun h1 h2 h3 h4=>ci h fun as h=>?_
   unfold IY at h1;split at h1
   ·rename_i c' k hk
    refine dw h1 fun a1 a2=>?_
    obtain⟨d,f,fd,ps,Ca,hl,Fn,hr,hC,M,hb⟩:=F.ke j _ hk;rw[yK a1]at hC;obtain⟨g1,g2⟩:=F.gl h2;cases es with
    |nil=>exact lH h3
    |cons e1 es1 =>
     have hn:ps.length=es1.length+2:=by rw[hl];exact yK a2
     refine dw h4 fun h4 h6=>?_
     exact EA M Fn hr g1 hC hb (fQ R F h) (fun sl st xs st' e=>by rw[hn,lb F.ck h _ _ _ _ e];rfl) g2 (aH h4) (io h6)
   ·exact lH h1
  ·refine aM F.ck h fun h0 h=>kg h0 fun h1 h2 h4=>ci h fun as h=>?_
   unfold IZ at h1;split at h1
   ·rename_i y m hk
    refine dw h1 fun h1 h0=>?_
    obtain⟨d,f,fd,ps,hl,Fn,hr,hm,kp,hb⟩:=F.ke j _ hk;obtain⟨g1,g2⟩:=F.gl h2;rw[yK h1]at hm;have hn:ps.length=es.length:=by rw[hl];exact yK h0
    cases es with
    |nil=>cases h;exact zc (EN _ Fn) hr g1 hm kp hb hn g2
    |cons e1 es1 =>
     refine dw h4 fun h4 h5=>?_
     exact Cs (EN _ Fn) hr g1 hm kp hb (fQ R F h) (fun sl st xs st' e=>by rw[hn];exact lb F.ck h _ _ _ _ e) g2 (aH h4) (io h5)
   ·exact lH h1
 ·unfold yh at h
  split at h
  ·rename_i b hb
   refine aM F.ck h fun h0 h=>kg h0 fun h1 h2 h3=>ci h fun as g=>?_
   cases es with
   |nil=>exact lH h2
   |cons e es =>
    obtain rfl:x=b.nm:=(show ∀ q ∈ Gk,q.1=q.2.nm by decide) _ (qa hb);exact Io F b h1 (fQ R F g) h3
  ·exact BT R F h
theorem Dz{x:Str}{es:List Expr}{kws:List Keyword}{p p':Pos}{m:Ex}(h:trK r C x es kws=some m):QE X (.Call (.Name x p) es kws p') (ev ks m):=by
 unfold trK at h;split at h
 rotate_left
 ·exact bt h
 split at h
 ·refine aM F.ck h fun h0 h=>pT h0 fun h1 h2 h3 h4=>dw h4 fun h4 h5=>ci h fun y g=>?_
  obtain⟨a,q,rfl⟩:=Bv h3;rw[yK h1,yK h2];exact Cp F.calm (F.gl h4).1 (F.blt dC) (R.E F g) (aH h5)
 ·rename_i a y ps body sc lp p1 z d p2
  refine aM F.ck h fun h0 h=>pT h0 fun h1 h2 h3 h4=>pT h4 fun h4 h5 h6 h7=>dw h7 fun h7 h8=>gC h fun y hy h=>gC h fun w hw h=>aM F.ck h fun h9 h=>?_
  cases h;obtain⟨a,q,rfl⟩:=Bv h4;rw[yK h1,yK h2,yK h3];obtain⟨q,hq,hqe⟩:=List.any_eq_true.mp h7;have eqp:q=lp:=by
   refine pT hqe fun q1 q2 q3 q4=>?_
   cases q;cases lp;cases yK q1;cases yK q2;cases yK q3;cases yK q4;rfl
  subst eqp;obtain⟨rm,c,P,g1,g2,g3,g4,g5⟩:=F.la q hq;obtain⟨x,T,hp,hps,hdef,FL⟩:=F.lam rm h8;exact Co F.calm (F.gl h5).1 (F.blt dC) (R.E F hy) (aH h6) hdef g1 g2 g3 g4 T hp hps rm.in1.depth (jM h9) (fun cl f c' s H=>R.E (FL cl f _ _ s H) hw) g5
 ·exact bt h
theorem Dx{o:Expr}{f:Str}{ap p:Pos}{es:List Expr}{m:Ex}(h:Dy r C o f ap es p=some m):QE X (.Call (.Attribute o f ap) es [] p) (ev ks m):=by
 refine aM F.ck h fun h0 h=>pT h0 fun h3 h4 h5 h6=>?_
 have h4':es.length<30:=zJ (Nat.lt_succ_self _) (zS h4);split at h
 ·rename_i j _
  refine gC h fun q _ h=>aM F.ck h fun h1 h=>?_
  revert h;intro h
  refine bY h fun a as ha has=>?_
  unfold IX at h1;split at h1
  ·rename_i c' m'' k hk
   refine kg h1 fun a1 a2 a3=>?_
   obtain⟨d,f',fd,ps,Ca,hl,Fn,hr,hC,cl,hm,hb⟩:=F.ke j _ hk;rw[yK a1]at hC;rw[yK a2]at hm;have hn:ps.length=es.length+1:=by rw[hl];exact yK a3
   cases es with
   |nil=>cases has;exact zb (R.E F ha) cl hC hm Fn hr hb hn (tG h5 h3 h4' h6)
   |cons e1 es1 =>
    have ht:=tG (env:=X.env) (f:=f) (o:=o) (es:=e1::es1) h5 h3 h4' h6;refine dw h3 fun h3 h8=>?_
    exact Cq (R.E F ha) cl hC hm Fn hr hb (fQ R F has) (fun sl st xs st' e=>by rw[hn,lb F.ck has _ _ _ _ e]) (aH h3) (io h8) ht
  ·exact lH h1
 ·refine gC h fun q hq h=>bY h fun a as ha has=>?_
  have e:f=(miA q es).nm:=by
   have e:=(show ∀ q ∈ Fi,q.1=q.2.nm by decide) _ (qa hq);dsimp only at e;rw [e];cases q <;> first | rfl | (cases es <;> rfl)
  subst e;exact Hu F _ (R.E F ha) (fQ R F has) (fun e=>by subst e;cases has;rfl) h3 h4' h5 h6
theorem BS{a:Expr}{l h s:Option Expr}{p q:Pos}{m:Ex}(e:trSl r C a l h s p=some m):QE X (.Subscript a (.Slice l h s q) p) (ev ks m):=by
 cases s with
 |none =>
  unfold trSl at e;exact kY e fun x y z hx hy hz=>g9 (GZ (R.E F hx) (wa R F hy) (wa R F hz))
 |some s =>
  exact bt e
theorem DC{e:Expr}{m:Ex}(h:trE r C e=some m):QE X e (ev ks m):=by
 cases e with
 |Constant k a p=>cases k with
  |none=>cases h;exact qE (w:=.non) rfl EY fun _ _ _ h=>h
  |bool b=>cases h;exact qE rfl Hn fun _ _ _ h=>h
  |int b=>cases h;exact qE rfl EZ fun _ _ _ h=>h
  |str b=>cases h;exact qE rfl EV fun _ _ _ h=>h
  |_=>exact bt h
 |Name x p=>exact Du F h
 |BinOp a o b p =>
  unfold trE at h;split at h
  ·refine aM F.ck h fun h0 g=>?_
   cases of_decide_eq_true h0;exact bY g fun x y hx hy=>g9 (Ep (R.E F hx) (R.E F hy))
  ·split at h
   ·rename_i es hs
    obtain⟨q,rfl⟩:=Fu hs;refine aM F.ck h fun h0 g=>?_
    cases of_decide_eq_true h0;exact bY g fun x y hx hy=>g9 (El (fQ R F hx) (R.E F hy))
   ·exact bY h fun x y hx hy=>ED (R.E F hx) (R.E F hy)
 |Compare a os bs p =>
  have h:trCe r C a os bs=some m:=h;rcases os with _|⟨o,_|⟨o',_|_⟩⟩
  ·exact bt h
  ·rcases bs with _|⟨b,_|_⟩<;>first|exact bt h|exact aM F.ck h fun h0 h=>bY h fun x y hx hy=>EC F.hu (R.E F hx) (R.E F hy) h0
  ·exact bt h
  ·exact bt h
 |UnaryOp o a p=>cases o with
  |Not=>exact ci h fun x hx=>Ez (R.E F hx)
  |_=>exact ci h fun x hx=>G4 (R.E F hx)
 |BoolOp o es p=>cases es with
  |nil=>exact bt h
  |cons x es=>exact oF R F h
 |IfExp t a b p=>exact kY h fun x y z hx hy hz=>G8 (R.T F hx) (R.E F hy) (R.E F hz)
 |Subscript a i p=>cases i with
  |Slice l h' s q=>exact BS R F h
  |_=>exact aM F.ck h fun h0 h=>bY h fun x y hx hy=>G7 F.hu (R.E F hx) (R.E F hy) (HE h0)
 |Tuple es k p=>exact ci h fun x hx=>Ey (fQ R F hx)
 |List es p=>exact ci h fun x hx=>g9 (Cj (fQ R F hx))
 |ListComp elt gens sc p =>
  refine ci h fun x hx=>?_
  obtain⟨t,it,cs,i,g,c,y,N',rfl,rfl,T,a1,a2,a3,a4,a5,a6⟩:=wc R F hx;exact g9 (A8 F.calm T a1 a2 a3 a4 a5 a6)
 |Dict k v p =>
  refine aM F.ck h fun h0 g=>dw h0 fun h1 h2=>?_
  cases g;cases List.isEmpty_iff.mp h1;cases List.isEmpty_iff.mp h2;exact Cr zr
 |Attribute o f p =>
  refine gC h fun c hc h=>aM F.ck h fun h0 h=>ci h fun x hx=>?_
  obtain⟨Ca,hC,cl,na⟩:=F.clb hc;exact EB (R.E F hx) cl hC na (fO _ h0)
 |Call f es kws p=>cases f with
  |Name x q=>cases kws with
   |nil=>exact DB R F h
   |cons _ _=>exact Dz R F h
  |Attribute o f q =>
   refine aM F.ck h fun h0 g=>?_
   cases List.isEmpty_iff.mp h0;exact Dx R F g
  |_=>exact bt h
 |_=>exact bt h
theorem Dv{e:Expr}{m:Tx}(h:trT r C e=some m):QT X e (tv ks m):=by
 cases e with
 |UnaryOp o a p=>cases o with
  |Not=>exact ci h fun x hx=>Eg (R.T F hx)
  |_=>exact ci h fun x hx=>wp (R.E F hx) (sS rfl)
 |BoolOp o es p=>cases es with
  |nil=>exact bt h
  |cons x es=>exact PW.pt (oE R F h)
 |Compare a os bs p =>
  have h:trCt r C a os bs=some m:=h;rcases os with _|⟨o,_|⟨o',_|_⟩⟩
  ·exact bt h
  ·rcases bs with _|⟨b,_|_⟩<;>first|exact bt h|exact aM F.ck h fun h0 h=>bY h fun x y hx hy=>Eh F.hu (R.E F hx) (R.E F hy) h0
  ·exact bt h
  ·exact bt h
 |_=>exact aM F.ck h fun h0 h=>ci h fun x hx=>wp (R.E F hx) (sS h0)
omit R in
theorem u9{x:Str}{m:Tg}(h:oC C x=some m):∃k,m=.nm k/\X.N[k]?=some x/\L2.Loc X.env.scope x/\(X.fn x=true\/X.env.scope.names.lookup x=some .local):=by
 refine gC h fun k hk h=>aM F.ck h fun h0 h=>dw h0 fun h1 _=>?_
 cases h;obtain⟨l1,l2⟩:=F.loc h1;exact⟨k,rfl,F.nmb hk,l1,l2⟩
theorem DA{e:Expr}{m:Tg}(h:trG r C e=some m):QG X e (b8 ks m):=by
 have hN:X.N.Nodup:=by rw[F.N];exact F.nd
 cases e with
 |Name x p =>
  obtain⟨k,rfl,a,b,c⟩:=u9 F h;exact Cn hN a b c
 |Tuple es k p=>exact aM F.ck h fun h0 h=>ci h fun x hx=>Et F.calm (sU R F hx) Ax (Ay h0)
 |Subscript a b p=>exact aM F.ck h fun h0 h=>bY h fun x y hx hy=>Eu F.hu (R.E F hx) (R.E F hy) (DR h0)
 |_=>exact bt h
end
theorem wj{env:Env}{e o i:Expr}{p:Pos}{l:Nat}:swapsWithSole [.Subscript o i p] e l env=pure false:=by cases e<;>rfl
theorem wg{env:Env}{e:Expr}{es:List Expr}{k:Nat}{p:Pos}{l:Nat}:swapsWithSole [.Tuple es k p] e l env=pure false:=by cases e<;>rfl
section
variable[MV]{ks:List Fn}{r:Tr}(R:AL r ks){X:Cx}{C:SC}(F:Fit X C ks)
include R F
theorem BU{t v:Expr}{p:Pos}{m:Sx}(h:trAs r C t v=some m):QS X (.Assign [t] v p) (cS ks m):=by
 have hN:X.N.Nodup:=by rw[F.N];exact F.nd
 have nm:∀{x q v m},m6 v=true->m2 Sx.as (r.E C v) (oC C x)=some m->QS X (.Assign [.Name x q] v p) (cS ks m):=fun h0 h=>bY h fun a g ha hg=>by
  obtain⟨k,rfl,a1,a2,a3⟩:=u9 F hg;exact wu hN a1 a2 (R.E F ha) (sY h0) a3
 cases t with
 |Name x q=>cases v with
  |ListComp elt gens sc q2 =>
   refine bY h fun a g ha hg=>?_
   clear h;obtain⟨k,rfl,l0,l1,l2⟩:=u9 F hg;refine ci ha fun y hy=>?_
   obtain⟨t,it,cs,i,g,c,y,N',rfl,rfl,T,a1,a2,a3,a4,a5,a6⟩:=wc R F hy;have hsw:=DO (env:=X.env) (elt:=elt) (gens:=[⟨t,it,cs,0⟩]) (sc:=sc) (pos:=q2) (t:=x) (p:=q) (l:=p.line) F.kind;cases hsb:IK X.env.scope.names x q.line sc q2.line with
   |false=>rw[hsb]at hsw;exact wu hN l0 l1 (g9 (A8 F.calm T a1 a2 a3 a4 a5 a6)) hsw l2
   |true=>rw[hsb]at hsw;exact wq hN l0 l1 hsw F.calm T a1 a2 a3 a4 a5 a6 l2
  |_=>exact aM F.ck h fun h0 h=>nm h0 h
 |Subscript a b q=>exact bY h fun x g hx hg=>wv (R.E F hx) (R.G F hg) wj yo (tZ rfl)
 |Tuple ts k q=>cases v with
  |_=>exact aM F.ck h fun h0 h=>dw h0 fun h0 h1=>bY h fun x g hx hg=>wv (R.E F hx) (R.G F hg) wg (yn h0) (tZ rfl)
 |Attribute o f q =>
  refine gC h fun c hc h=>bY h fun a b ha hb=>?_
  obtain⟨Ca,hC,cl,na⟩:=F.clb hc;exact Ek (R.E F ha) (R.E F hb) cl hC na yj
 |_=>exact bt h
theorem Dw{s:Stmt}{m:Sx}(h:trS r C s=some m):QS X s (cS ks m):=by
 cases s with
 |Expr e p=>exact aM F.ck h fun h0 h=>ci h fun x hx=>Ce (R.E F hx) (sY h0)
 |Assign ts v p =>
  rcases ts with _|⟨t,_|_⟩
  ·exact bt h
  ·exact BU R F h
  ·exact bt h
 |AugAssign t o v p=>cases t with
  |Subscript a b q=>exact aM F.ck h fun h0 h=>kY h fun x y z hx hy hz=>Cg F.hu (R.E F hx) (R.E F hy) (R.E F hz) (Gn h0)
  |_=>exact bt h
 |Return e p=>cases e with
  | none=>first | exact bt h | (cases h;exact qs_retN)
  |some e=>exact ci h fun x hx=>Ei (R.E F hx)
 |If t a b p=>exact kY h fun x y z hx hy hz=>GY (R.T F hx) (im R F hy) (im R F hz)
 |For t it b els p =>
  refine aM F.ck h fun h0 g=>dw h0 fun h1 h2=>?_
  cases List.isEmpty_iff.mp h1;split at g
  ·exact kY g fun x y z hx hy hz=>Cd F.po F.calm (R.E F hx) (R.G F hy) (im R F hz) (qy h2)
  exact kY g fun x y z hx hy hz=>Ej F.po F.calm (wd R F hx) (R.G F hy) (im R F hz) (qy h2)
 |While t b els p =>
  refine aM F.ck h fun h0 g=>?_
  cases List.isEmpty_iff.mp h0;exact bY g fun x y hx hy=>yz F.po (R.T F hx) (im R F hy)
 |Raise=>cases h;exact Cf
 |_=>exact bt h
end
theorem mO[MV]{ks:List Fn}:∀n:Nat,AL (tr n) ks
 |0=>⟨fun _ h=>bt h,fun _ h=>bt h,fun _ h=>bt h,fun _ h=>bt h⟩
 |n+1=>⟨fun F h=>DC (mO n) F h,fun F h=>Dv (mO n) F h,fun F h=>DA (mO n) F h,fun F h=>Dw (mO n) F h⟩
section
variable(P:Program)(w:World)(K:Frag)(mg:Str->Option Value)(base:Heap)
def LN[MV](d:Nat)(x:Str)(n:Nat)(fn:Fn):Prop:=∃f fd ps,ps.length=n/\FnOk P w K mg base eO d f fd ps (dA ⟨K,mg⟩ ps.length fn)/\mg x=some (.ref f)/\keepIn K (.ref f)=true/\Binds K fd ps []
def Lz[MV](d:Nat)(c m:Str)(n:Nat)(fn:Fn):Prop:=∃f fd ps C,ps.length=n/\FnOk P w K mg base eO d f fd ps (dA ⟨K,mg⟩ ps.length fn)/\mg c=some (.ref C)/\Cls K C/\j3 K C m f/\Binds K fd ps []
def Ly[MV](d:Nat)(c:Str)(n:Nat)(fn:Fn):Prop:=∃f fd ps C,ps.length=n/\FnOk P w K mg base eO d f fd ps (dA ⟨K,mg⟩ ps.length fn)/\mg c=some (.ref C)/\Mk K C f/\Binds K fd ps []
def KOk[MV](d:Nat)(fn:Fn):Ke->Prop
 |.f x n=>LN P w K mg base d x n fn
 |.m c m n=>Lz P w K mg base d c m n fn
 |.k c n=>Ly P w K mg base d c n fn
def KsOk[MV](d:Nat):List Ke->List Fn->Prop
 |[],_=>True
 |k::ke,fn::ks=>KOk P w K mg base d fn k/\KsOk d ke ks
 |_::_,[]=>False
structure Ev(gs:List (Str×AV))(cl:List (Str×List Str)):Prop where
 bl:∀x∈bnames,mg x=none
 gs:∀p∈gs,∀w,pv p.2=some w->∃u,mg p.1=some u/\RelV w u
 cl:∀p∈cl,∃Ca,mg p.1=some (.ref Ca)/\Cls K Ca/\∀f∈p.2,NoAttr K Ca f
end
section
variable{P:Program}{w:World}{K:Frag}{mg:Str->Option Value}{base:Heap}{d d':Nat}{fn:Fn}
theorem KOk.mono[MV](h:d<=d'):∀{k:Ke},KOk P w K mg base d fn k->KOk P w K mg base d' fn k
 |.f _ _,⟨f,fd,ps,e,F,r⟩=>⟨f,fd,ps,e,F.mono h,r⟩
 |.m _ _ _,⟨f,fd,ps,C,e,F,r⟩=>⟨f,fd,ps,C,e,F.mono h,r⟩
 |.k _ _,⟨f,fd,ps,C,e,F,r⟩=>⟨f,fd,ps,C,e,F.mono h,r⟩
theorem KsOk.at[MV]:∀{ke:List Ke}{ks:List Fn}{j:Nat}{k:Ke},KsOk P w K mg base d ke ks->ke[j]?=some k->KOk P w K mg base d (kf ks j) k
 |[],_,_,_,_,e=>by simp at e
 |k::ke,[],_,_,h,_=>h.elim
 |k::ke,fn::ks,0,_,h,e=>by simp at e;subst e;exact h.1
 |k::ke,fn::ks,j+1,_,h,e=>by
  have:=KsOk.at (j:=j) h.2 (by simpa using e)
  exact this
theorem KOk.ok[MV](hr:Room (d+1) A):∀{k:Ke},KOk P w K mg base d fn k->GB P w K mg base A fn k
 |.f _ _,⟨f,fd,ps,e,F,m,kp,b⟩=>⟨d,f,fd,ps,e,F,hr.mono (Nat.le_succ d),m,kp,b⟩
 |.m _ _ _,⟨f,fd,ps,C,e,F,m,c,me,b⟩=>⟨d,f,fd,ps,C,e,F,hr.mono (Nat.le_succ d),m,c,me,b⟩
 |.k _ _,⟨f,fd,ps,C,e,F,m,mk,b⟩=>⟨d,f,fd,ps,C,e,F,hr,m,mk,b⟩
end
def fB(st:Stmt):List Str:=(dF st).args.map (·.arg)
noncomputable def F2(N ps:List Str)(sc:Scope):Bool:=(match sc.kind with|.function=>true|_=>false)&&!sc.isCoroutine&&!sc.isGenerator&&decide N.Nodup&&decide (N.take ps.length=ps) &&
 (ps.all fun x=>match sc.names.lookup x with|some .local=>true|some .cell=>true|_=>false)&&(sc.names.all fun p=>match p.2 with|.free=>false|_=>true)
theorem F1(h:F2 N ps sc=true):lB N ps sc:=by
 unfold F2 at h;simp only[zC,yC]at h;obtain⟨⟨⟨⟨⟨⟨h1,h2⟩,h3⟩,h4⟩,h5⟩,h6⟩,h7⟩:=h;refine⟨?_,by simpa using h2,by simpa using h3,h4,h5,fun x hx=>?_,fun y hy e=>?_⟩
 ·split at h1
  ·rename_i e;exact e
  ·cases h1
 ·have:=yR.mp h6 x hx
  split at this
  ·rename_i e;exact .inl e
  ·rename_i e;exact .inr e
  ·cases this
 ·have:=yR.mp h7 y hy
  rw[e]at this;cases this
structure FH where
 ke:Ke
 qual:Str
 st:Stmt
 N:List Str
 cs:List Nat
 d:Nat
 la:List Pos
 cn:List Str
 hs:List Nat
def FH.tr(e:FH)(k:Bool)(ke:List Ke)(gs:List (Str×AV))(cl:List (Str×List Str)):Option M6 :=
 gu k (F2 e.N (fB e.st) (cL e.st)&&plainA (dF e.st)&&decide (fB e.st).Nodup) (mP (R.tr 60) ⟨e.N,sO k (cL e.st).names,e.N,ke,gs,cl,e.la,e.cn,e.hs,k⟩ (dE e.st))
section
variable{P:Program}{w:World}{K:Frag}{mg:Str->Option Value}{base:Heap}{d:Nat}{x qual:Str}{st:Stmt}{f:Addr}{fd:FuncData}{N:List Str}{ke:List Ke}{ks:List Fn}{gs:List (Str×AV)}{cl:List (Str×List Str)}{la:List Pos}{b:M6}
theorem HV[MV]{N ps:List Str}{k:Nat}{b:SF}(F:Fun K x qual st f fd)(S:lB N ps (cL st))
  (hbody:∀(A:Around)(outer:List Env)(s:Shared)(H:Hp)(E:XK),Room k (A.deeper (envOfC qual (cL st) s.heap.objs.size f fd.code))->mh (o0 eO P w K mg base N qual (cL st) f fd.code A outer s H E).nox (dE st) b) :
  FnOk P w K mg base eO (k+1) f fd ps (dA ⟨K,mg⟩ ps.length (run N.length b)):=by
 obtain⟨oc,od,kV,doc,pm,an,cdv,ct,osl,rfl,lk,hcd⟩:=F.ex;refine HU lk hcd S (fun vs H Q E h=>h.1) fun A outer s H vs Q E hr h=>?_
 obtain⟨hl,P,φ,args,st,r,sm,k⟩:=h;have hb:=hbody A outer s H E hr;refine⟨_,PSs.nox hb,?_⟩;obtain⟨v,st',e,q⟩:=k;obtain⟨o,e1,e2⟩:=zA e;refine⟨P,φ,_,st,B3 r,sm,o,e1,?_⟩;cases o with
 |nx sl st1=>cases e2;exact fun P' φ' H' σ' f' s' _=>q P' φ' H' .non f' s' (by simp only[RA])
 |rt v st1=>cases e2;exact fun P' φ' H' w f' s' r'=>q P' φ' H' w f' s' r'
 |bk sl st1=>cases e2
 |ct sl st1=>cases e2
def sF[MV](mg:Str->Option Value)(base:Heap)(qual:Str)(cd:Value)(la:List Pos):Prop:=∀p∈la,∃c P,cd=.ref c/\CodeHd base c P/\ji mg base/\(P,p,qual++".<locals>."++"<lambda>")∈MV.tb/\∀t∈MV.tb,t.1=P->t=(P,p,qual++".<locals>."++"<lambda>")
theorem nU[MV]{e:FH}(F:Fun K x qual e.st f fd)(E:Ev K mg gs cl)(hl:sF mg base qual fd.code e.la)(hk:KsOk P w K mg base d ke ks)(h:e.tr true ke gs cl=some b) :
  FnOk P w K mg base eO (d+3) f fd (fB e.st) (dA ⟨K,mg⟩ (fB e.st).length (run e.N.length (ah ks b)))/\Binds K fd (fB e.st) []:=by
 refine aM rfl h fun h0 h4=>kg h0 fun h1 h2 h3=>?_
 have S:=F1 h1;refine⟨HV F S fun A outer s H E' hr=>?_,F.binds fun kV doc pm an cdv ct us hl=>bind_plain h2 rfl (of_decide_eq_true h3) hl⟩;exact im (mO _) ⟨rfl,rfl,rfl,S.nd,S.kind,rfl,fun _ _=>rfl,hr.units,hr.gd,E.bl,PassesOwn.never,fun j k e=>(hk.at e).ok (hr.mono oM),E.gs,E.cl,fun p hp=>⟨hr.mono oM,hl p hp⟩⟩ h4
end
structure FE extends FH where
 b:M6
def FE.fn(e:FE)(fs:List Fn):Fn:=run e.N.length (ah (e.cs.map (kf fs)) e.b)
def FE.ok[MV](e:FE)(K:Frag)(mg:Str->Option Value)(base:Heap):Prop:=match e.ke with
 |.f x _=>∃f fd,mg x=some (.ref f)/\Fun K x e.qual e.st f fd/\sF mg base e.qual fd.code e.la
 |.m c m _=>∃f fd C,mg c=some (.ref C)/\Cls K C/\j3 K C m f/\Fun K m e.qual e.st f fd/\sF mg base e.qual fd.code e.la
 |.k c _=>∃f fd C,mg c=some (.ref C)/\Mk K C f/\Fun K "__init__" e.qual e.st f fd/\sF mg base e.qual fd.code e.la
noncomputable def Ke.n:Ke->Nat
 |.f _ n=>n
 |.m _ _ n=>n
 |.k _ n=>n
noncomputable def qY(pre:List FE)(j:Nat):Ke:=match pre[j]? with
 |some e=>e.ke
 |none=>.f "" 0
def FE.chk(gs:List (Str×AV))(cl:List (Str×List Str))(pre:List FE)(e:FE):Option M6 :=
 gu true (e.ke.n==(fB e.st).length&&e.cs.all (fun j=>match pre[j]? with|some g=>Nat.ble (g.d+3) e.d|none=>false)&&Nat.ble 3 e.d) (e.tr true (e.cs.map (qY pre)) gs cl)
def oa(gs:List (Str×AV))(cl:List (Str×List Str)):List FE->List FE->List (Option M6)
 |_,[]=>[]
 |pre,e::r=>e.chk gs cl pre::oa gs cl (pre++[e]) r
def i6:List Fn->List FE->List Fn
 |fs,[]=>fs
 |fs,e::r=>i6 (fs++[e.fn fs]) r
section
variable{P:Program}{w:World}{K:Frag}{mg:Str->Option Value}{base:Heap}{gs:List (Str×AV)}{cl:List (Str×List Str)}
def qh[MV](P:Program)(w:World)(K:Frag)(mg:Str->Option Value)(base:Heap)(pre:List FE)(fs:List Fn):Prop:=pre.length=fs.length/\∀(j:Nat) e,pre[j]?=some e->KOk P w K mg base e.d (kf fs j) e.ke
theorem vw[MV]{d:Nat}(h:qh P w K mg base pre fs):∀cs:List Nat,(cs.all fun j=>match pre[j]? with|some g=>Nat.ble (g.d+3) (d+3)|none=>false)=true->KsOk P w K mg base d (cs.map (qY pre)) (cs.map (kf fs))
 |[],_=>trivial
 |j::cs,hc=>by
  rw[List.all_cons,zC]at hc;refine⟨?_,vw h cs hc.2⟩;have h1:=hc.1;split at h1
  ·rename_i g hg
   have:=h.2 j g hg
   unfold qY;rw[hg];exact this.mono (by have:=zS h1;lia)
  ·cases h1
theorem HW[MV]{pre:List FE}{fs:List Fn}{e:FE}(E:Ev K mg gs cl)(h:qh P w K mg base pre fs)(hf:e.ok K mg base)(hc:e.chk gs cl pre=some e.b):KOk P w K mg base e.d (e.fn fs) e.ke:=by
 obtain⟨h2,h3,h4,h1⟩:(e.ke.n==(fB e.st).length)=true/\(e.cs.all fun j=>match pre[j]? with|some g=>Nat.ble (g.d+3) e.d|none=>false)=true/\Nat.ble 3 e.d=true/\e.tr true (e.cs.map (qY pre)) gs cl=some e.b:=aM rfl hc fun h0 h=>kg h0 fun a b c=>⟨a,b,c,h⟩
 have hn:=yK h2;obtain⟨d,hd⟩:∃d,e.d=d+3:=⟨e.d-3,by have:=zS h4;lia⟩;rw[hd]at h3 ⊢;have hk:=vw h e.cs h3;unfold FE.fn;unfold FE.ok at hf;split at hf
 ·rename_i x n ek
  obtain⟨f,fd,m,F,L⟩:=hf;obtain⟨a1,a2⟩:=nU (e:=e.toFH) F E L hk h1;rw[ek]at hn ⊢;exact⟨f,fd,fB e.st,hn.symm,a1,m,F.kp,a2⟩
 ·rename_i c m n ek
  obtain⟨f,fd,C,hC,hc,hm,F,L⟩:=hf;obtain⟨a1,a2⟩:=nU (e:=e.toFH) F E L hk h1;rw[ek]at hn ⊢;exact⟨f,fd,fB e.st,C,hn.symm,a1,hC,hc,hm,a2⟩
 ·rename_i c n ek
  obtain⟨f,fd,C,hC,hm,F,L⟩:=hf;obtain⟨a1,a2⟩:=nU (e:=e.toFH) F E L hk h1;rw[ek]at hn ⊢;exact⟨f,fd,fB e.st,C,hn.symm,a1,hC,hm,a2⟩
theorem w6{j:Nat}(h:j<fs.length):kf (fs++[g]) j=kf fs j:=by
 unfold kf;rw[zD,zD,zN h]
theorem C5:kf (fs++[g]) fs.length=g:=by
 unfold kf;rw[zD];simp
theorem tz[MV](E:Ev K mg gs cl):∀(rest pre:List FE)(fs:List Fn),qh P w K mg base pre fs->(∀e∈rest,e.ok K mg base)->oa gs cl pre rest=rest.map (fun e=>some e.b)->qh P w K mg base (pre++rest) (i6 fs rest)
 |[],pre,fs,h,_,_=>by rw[List.append_nil];exact h
 |e::r,pre,fs,h,hf,hc=>by
  obtain⟨hc1,hc2⟩:=List.cons.inj hc;have h1:=HW E h (hf e z7) hc1
  have:=tz E r (pre++[e]) (fs++[e.fn fs]) ⟨by simp[h.1],fun j g hg=>?_⟩ (fun g hg=>hf g (zQ _ hg)) hc2
  ·rw[yN]at this;exact this
  ·rcases yU j pre.length with hj|hj
   ·rw[zN hj]at hg
    rw[w6 (by rw[<- h.1];exact hj)];exact h.2 j g hg
   ·have ej:j=pre.length:=by
     have:=(zB.mp hg).1
     rw[zV]at this;simp at this;lia
    subst ej;simp at hg;subst hg;rw[h.1,C5];exact h1
end
theorem HB[MV]{K:Frag}{mg:Str->Option Value}{H:Hp}{a:Addr}{ns:List Int}{fn:Fn}{E:XK}(hg:∃st,fn [.fz (ns.map .int)] []=some (.bl true,st))(hS:bQ K H a (ns.map V.int))(tb:∀t∈MV.tb,fP H t.1 t.2.1 t.2.2):dA ⟨K,mg⟩ 1 fn [.ref a] H (fun v _=>v=.bl true) E:=by
 obtain ⟨st,e⟩:=hg;refine ⟨rfl,fun c=>∃ vs,Rd H c (.lst vs),[],[.fz (ns.map .int)],[],aU ?_ bG,Sim.nil (fun c h=>?_) (fun t ht=>⟨tb t ht,fun hq0=>by obtain ⟨vs,z⟩:=hq0;obtain ⟨ps,e,_⟩:=tb t ht;rcases z with z | ⟨o,z⟩ <;> (rw [e] at z;cases z)⟩),.bl true,st,e,fun P' φ' H' w f s r=>by simpa only [RA] using r⟩
 ·simp only[RA]
  refine⟨a,ns.map V.int,rfl,?_,MY.of_ints⟩;rcases hS with h|h
  ·exact .inl ⟨⟨_,h⟩,h⟩
  ·exact .inr fun H'=>.inr h
 ·obtain ⟨vs,h | ⟨o,h⟩⟩:=h <;> (rw [h];exact fun z=>nomatch z)
end R
namespace L2
open PySem PySem.Spec PyProof.Rows
theorem wY{P:Program}{w:World}{K:Frag}{mg mb:Str->Option Value}{CX:kQ}{k:Nat}{fa a:Addr}{fd:FuncData}{x:Str}{sp:Sp}{s₁:Shared}{vs:List Value}{ns:List Int}{tabs:List (Addr×Addr)}
  (KX:K.In s₁.heap) (hns:s₁.heap.Ns mainGlobals mg) (hb:s₁.heap.Ns builtinsNs mb) (hbb:∀x:Str,x≠"__name__"->mb x=bootBuiltins x) (hlim:s₁.heap.NoLimit) (hg:s₁.gens=#[])
  (bm:∃bm ob,mg "__builtins__"=some (.ref bm)/\bm≠builtinsNs/\s₁.heap.get? bm=some ob/\ob.cls=.type "module"/\ob.dict=some builtinsNs/\ob.data=.plain)
  (hT:TabsAt tabs s₁.heap) (hK0:noTabs K=true)
  (ha:s₁.heap.get? a=some { cls:=.type "list",data:=.seq vs.toArray }) (hi:IntsAre vs ns) (hl:ns.length<=sizeLine) (hr:Room k callerA)
  (F:∀base:Heap,K.In base->base.Ns mainGlobals mg->ji mg base->FnOk P w K mg base CX k fa fd [x] sp) (hbind:∀(s:Shared)(u:Value),BindsTo s fd ⟨[u],[]⟩ [(x,u)])
  (hsp:∀H:Hp,(∀q∈tabs,H q.2=some (.tbl #[]))->bQ K H a (ns.map V.int)->sp [.ref a] H (fun v _=>v=.bl true) fun _ _ _=>False)
  (hCX:∀H e s',CX [] H s₁ (fun _ _ _=>False) e s'->False) :
  codeAny (model P w) callerA (.call (.ref fa) ⟨[.ref a],[]⟩) (fun r s'=>r=.ok (.ret (.bool true))/\OldK s₁.heap s'.heap/\s'.os=s₁.os/\AllBare s'.gens) s₁:=by
 have rv:=vR hi;have lenV:=hi.length;have core:∀H:Hp,bQ K H a (ns.map V.int)->HOk P w H s₁.heap->(∀b,H b=none\/(b=a/\K.lookup a=none/\∃o xs,H b=some (.frz o (.lst xs)))\/(∃q∈tabs,b=q.2/\H b=some (.tbl #[])))->(∀q∈tabs,H q.2=some (.tbl #[])) ->
   codeAny (model P w) callerA (.call (.ref fa) ⟨[.ref a],[]⟩) (fun r s'=>r=.ok (.ret (.bool true))/\OldK s₁.heap s'.heap/\s'.os=s₁.os/\AllBare s'.gens) s₁:=by
  intro H hS M2 hA hTb;have fO:∀{b:Addr}{o:Obj},s₁.heap.get? b=some o->H b=none->(jm s₁.heap H).get? b=some o:=fun e n=>Ap e n
  have none_of:∀{b:Addr}{o:Obj},s₁.heap.get? b=some o->o.cls≠.type "list"->o≠tabObj #[]->H b=none:=fun {b o} e n1 n2=>by
   rcases hA b with z|⟨rfl,_⟩|⟨q,hq,rfl,_⟩
   ·exact z
   ·rw[ha]at e;cases e;exact absurd rfl n1
   ·rw[(hT q hq).2]at e;cases e;exact absurd rfl n2
  have dict_of:∀{b:Addr}{o:Obj}{es:Array DictEntry}{ep:Nat},s₁.heap.get? b=some o->o.data=.dict es ep->H b=none:=fun {b o es ep} e d=>by
   rcases hA b with z|⟨rfl,_⟩|⟨q,hq,rfl,_⟩
   ·exact z
   ·rw[ha]at e;cases e;cases d
   ·rw[(hT q hq).2]at e;cases e;cases d
  have nsK:∀{b:Addr}{m:Str->Option Value},s₁.heap.Ns b m->(jm s₁.heap H).Ns b m:=fun {b m} ⟨o,es,ep,e,d,r⟩=>⟨o,es,ep,fO e (dict_of e d),d,r⟩
  have hKb:K.In (jm s₁.heap H):=fun b o e=>fO (KX b o e) (by
   rcases hA b with z|⟨rfl,z,_⟩|⟨q,hq,rfl,_⟩
   ·exact z
   ·rw[z]at e;cases e
   ·have e1:=KX _ o e
    rw[(hT q hq).2]at e1;cases e1;have h2:=yR.mp hK0 _ (mem_of_lookupK e);exact absurd (show false=true from h2) Bool.false_ne_true)
  have hM:Mod K mg (jm s₁.heap H):=⟨hKb,nsK hns,⟨mb,nsK hb,hbb⟩,let⟨mc,h1,h2⟩:=hlim;⟨mc,nsK h1,h2⟩⟩;have hBM:ji mg (jm s₁.heap H):=by
   obtain⟨bm,ob,b1,b2,b3,b4,b5,b6⟩:=bm;refine⟨bm,ob,b1,b2,fun z=>?_,fO b3 (none_of b3 (by rw[b4];intro z;injection z with z;exact absurd z dC) (fun z=>by rw[z]at b4;cases b4)),b4,b5,b6⟩;obtain⟨o,es,ep,e,d,_⟩:=hns;rw[z,e]at b3;cases b3;rw[d]at b6;cases b6
  have e0:Env0 P w K mg (jm s₁.heap H) callerA [] s₁ H:=⟨rfl,hM,fun b o e=>CQ e,Nat.le_of_eq (xk _ _),trivial,fun b hb=>absurd (show b ∈ ([]:List Addr) from hb) (by simp),M2,.of_eq hg⟩;refine codeAny_mono ((F _ hKb (nsK hns) hBM).run callerA [] s₁ H ⟨[.ref a],[]⟩ [.ref a] [.ref a] _ _ hr e0 (hbind s₁ (.ref a)) (.cons rfl .nil) (hsp H hTb hS)) fun r s' h=>?_
  cases r with
  |error e=>exact(hCX H e s' h).elim
  |ok fl =>
   cases fl with
   |next=>exact False.elim h
   |brk=>exact False.elim h
   |cont=>exact False.elim h
   |ret u =>
    obtain⟨v,H',os,bare,un,hok',r',q⟩:=h;have q':v=.bl true:=q;subst q';obtain rfl:u=Value.bool true:=r';have old:∀b o,s₁.heap.get? b=some o->asItWas s₁.heap s'.heap b o:=fun b o e=>by
     rcases hA b with z|⟨rfl,_,ob,xs,z⟩|⟨q,hq,rfl,z⟩
     ·exact .inl (un.keep b o e z (by intro z;exact absurd (show b ∈ ([]:List Addr) from z) (by simp)) (by simp))
     ·have z2:=un.frzs b ob _ z
      obtain⟨e1,_⟩:=M2 b _ z;obtain⟨e2,_⟩:=hok' b _ z2;rw[e]at e1;cases e1;exact .inl e2
     ·obtain⟨more,z2⟩:=un.tbls _ _ z
      have e2:=hok' _ _ z2;rw[(hT q hq).2]at e;cases e;exact .inr (.inl ⟨((hT q hq).1.tab (hT q hq).2).isCodeTable,rfl,#[],more,rfl,e2⟩)
    refine⟨rfl,⟨old,fun b o e=>?_⟩,os,bare⟩;exact un.there b o e (by simp)
 have natab:∀q∈tabs,q.2≠a:=fun q hq e=>by
  have:=(hT q hq).2
  rw[e,ha]at this;cases this
 cases hk:K.lookup a with
 |some o =>
  have e:=KX a o hk;rw[ha]at e;cases e;refine core (fun b=>if b∈tabs.map (·.2) then some (.tbl #[]) else none) (.inr ⟨_,vs.toArray,_,hk,rfl,rfl,rfl,by rw[zI,lenV];exact hl,by simpa using rv⟩) (fun b u z=>?_) (fun b=>?_) fun q hq=>yI (List.mem_map_of_mem hq)
  ·dsimp only at z
   by_cases hb:b∈tabs.map (·.2)
   ·rw[yI hb]at z;cases z
    obtain⟨q,hq,rfl⟩:=yD.mp hb;exact(hT q hq).2
   ·rw[yH hb]at z;cases z
  ·by_cases hb:b∈tabs.map (·.2)
   ·obtain⟨q,hq,rfl⟩:=yD.mp hb
    exact .inr (.inr ⟨q,hq,rfl,yI hb⟩)
   ·exact .inl (yH hb)
 |none =>
  refine core (fun b=>if b∈tabs.map (·.2) then some (.tbl #[]) else if b=a then some (.frz { cls:=.type "list",data:=.seq vs.toArray } (.lst (ns.map V.int))) else none) (.inl (.inr ⟨{ cls:=.type "list",data:=.seq vs.toArray },?_⟩)) (fun b u z=>?_) (fun b=>?_) fun q hq=>yI (List.mem_map_of_mem hq)
  ·dsimp only
   rw[yH (fun z=>by obtain⟨q,hq,e⟩:=yD.mp z;exact natab q hq e),yI rfl]
  ·dsimp only at z
   by_cases hb:b∈tabs.map (·.2)
   ·rw[yI hb]at z;cases z
    obtain⟨q,hq,rfl⟩:=yD.mp hb;exact(hT q hq).2
   ·rw[yH hb]at z
    by_cases hb':b=a
    ·rw[yI hb']at z;cases z
     subst hb';exact⟨ha,by rw[zH];exact hl,vs,_,rv,ha⟩
    ·rw[yH hb']at z;cases z
  ·by_cases hb:b∈tabs.map (·.2)
   ·obtain⟨q,hq,rfl⟩:=yD.mp hb
    exact .inr (.inr ⟨q,hq,rfl,yI hb⟩)
   ·by_cases hb':b=a
    ·exact .inr (.inl ⟨hb',hk,_,_,(yH hb).trans (yI hb')⟩)
    ·exact .inl ((yH hb).trans (yH hb'))
theorem Dn{l:PySem.W.OpenLaw}{n k:Nat}{q:Program}{bW:List Str}{XP:(Str->Option Value)->Heap->Prop}{YP:World->Heap->Prop}{d:DefRec}{K:Params->Frag}{sp:World->Sp}{x:Str}{tabs:List (Addr×Addr)}
  (hn:l.most=some n) (hn2:n<=sizeLine) (hdf:d.params.defaults=[]) (hr:Room k callerA)
  (hY:∀(w:World)(h:Heap),YP w h->(K w.params).In h/\∀q∈tabs,h.get? q.2=some (tabObj #[])) (hc:∀(w:World),∀q∈tabs,codeHdIn (K w.params) q.1 q.2=true) (hK0:∀(w:World),noTabs (K w.params)=true)
  (F:∀(w:World)(mg:Str->Option Value)(fa:Addr)(h:Heap),(K w.params).In h->h.Ns mainGlobals mg->mg d.name=some (.ref fa) ->
   ∃fd:FuncData,(∀(s:Shared)(u:Value),BindsTo s fd ⟨[u],[]⟩ [(x,u)]) /\
    ∀base:Heap,(K w.params).In base->base.Ns mainGlobals mg->ji mg base->FnOk l.prog w (K w.params) mg base eO k fa fd [x] (sp w))
  (hsp:∀(w:World)(H:Hp)(a:Addr)(ns:List Int),ns.length<=n->(∀q∈tabs,H q.2=some (.tbl #[]))->bQ (K w.params) H a (ns.map V.int)->sp w [.ref a] H (fun v _=>v=.bl true) fun _ _ _=>False) :
  PySem.W.WalkO q bW XP YP l.row.toRowW d [] (fun f vs=>PySem.call f vs):=by
 refine Att.attach_call hn hdf fun w s₀ s₁ mg mb fa o pm cd doc a vs ns G Y ho hd hcd hmg hobj hints hlen hg=>?_
 obtain⟨KX,hT0⟩:=hY w _ Y;obtain⟨fd,hb,hF⟩:=F w mg fa _ KX G.T.g hmg;exact wY (tabs:=tabs) KX G.T.g G.T.b G.T.builtins G.T.nolimit hg G.T.bmain (fun q hq=>⟨codeHd_of_K KX (hc w q hq),hT0 q hq⟩) (hK0 w) hobj hints (z5 hlen hn2) hr hF hb (fun H hO hS=>hsp w H a ns hlen hO hS) fun H e s' z=>z
end L2
namespace R
open PySem PySem.Spec PyProof.Rows L2
abbrev Gz[MV](K:Frag)(qual:Str)(cd:Value)(la:List Pos):Prop:=la=[]\/∃p c P,la=[p]/\cd=.ref c/\codeHdIn K c P=true/\MV.tb=[(P,p,qual++".<locals>."++"<lambda>")]
abbrev FactF[MV](K:Frag)(x:Str)(e:FE):Prop:=∃(f:Addr)(oc:Value)(od:Option Addr)(sl:Array (Option Value))(kV dc pm:Value)(an:Option Addr)(cd ct:Value),nsIn K mainGlobals x=some (some (.ref f)) /\
 K.lookup f=some ⟨oc,od,.func (fnOf x e.qual (dF e.st) (dE e.st) (cL e.st) .none kV dc pm an cd ct),sl⟩/\codeIn K cd e.qual=true/\keepIn K (.ref f)=true/\Gz K e.qual cd e.la
abbrev FactM[MV](K:Frag)(c m:Str)(e:FE):Prop:=∃(C f:Addr)(oc:Value)(od:Option Addr)(sl:Array (Option Value))(kV dc pm:Value)(an:Option Addr)(cd ct:Value),nsIn K mainGlobals c=some (some (.ref C))/\findIn K (.ref C) m=some (some (.ref f)) /\
 K.lookup f=some ⟨oc,od,.func (fnOf m e.qual (dF e.st) (dE e.st) (cL e.st) .none kV dc pm an cd ct),sl⟩/\codeIn K cd e.qual=true/\keepIn K (.ref f)=true/\isFn K (.ref f)=true/\Gz K e.qual cd e.la
abbrev FactN(K:Frag)(c:Str):Prop:=∃C:Addr,nsIn K mainGlobals c=some (some (.ref C))/\makesIn K C=true/\keepIn K (.ref C)=true
abbrev ot(K:Frag)(c:Str):Prop:=∃C:Addr,nsIn K mainGlobals c=some (some (.ref C))/\plainGet K C Str.empty=true/\hasDictIn K C=true/\plainOver K C=true/\findIn K (.ref C) "__setattr__"=some (some (.builtin "object.__setattr__"))
abbrev vP(K:Frag)(c:Str)(fs:List Str):Prop:=∃C:Addr,nsIn K mainGlobals c=some (some (.ref C))/\(fs.all fun f=>match findIn K (.ref C) f with|some none=>true|_=>false)=true
abbrev BH(K:Frag):Prop:=(bnames.all fun x=>match nsIn K mainGlobals x with|some none=>true|_=>false)=true
section
variable[MV]{K:Frag}{h base:Heap}{mg:Str->Option Value}
theorem qb(B:K.In base)(hb:ji mg base)(L:Gz K qual cd la):sF mg base qual cd la:=by
 intro p hp;rcases L with rfl|⟨q,c,P,rfl,e,hc,ht⟩
 ·cases hp
 ·rw[zM.mp hp]
  exact⟨c,P,e,codeHd_of_K B hc,hb,by rw[ht];simp,fun t h1 _=>by rw[ht]at h1;exact zM.mp h1⟩
theorem FactF.ok{n:Nat}(hk:e.ke=.f x n)(F:FactF K x e)(X:K.In h)(G:h.Ns mainGlobals mg)(B:K.In base)(hb:ji mg base):e.ok K mg base:=by
 obtain⟨f,oc,od,sl,kV,dc,pm,an,cd,ct,a,l,c,k,L⟩:=F;unfold FE.ok;rw[hk];exact⟨f,_,mg_of X G a,nV l c k,qb B hb L⟩
theorem xD(F:ot K c)(X:K.In h)(G:h.Ns mainGlobals mg)(hC:nsIn K mainGlobals c=some (some (.ref C))):mg c=some (.ref C)/\Cls K C:=by
 obtain⟨C',a,f1,f2,f3,f4⟩:=F;rw[hC]at a;cases a;exact⟨mg_of X G hC,⟨f1,f2,f3,f4⟩⟩
theorem FactM.ok{n:Nat}(hk:e.ke=.m c m n)(F:FactM K c m e)(C0:ot K c)(X:K.In h)(G:h.Ns mainGlobals mg)(B:K.In base)(hb:ji mg base):e.ok K mg base:=by
 obtain⟨C,f,oc,od,sl,kV,dc,pm,an,cd,ct,a,g,l,cc,k,i,L⟩:=F;unfold FE.ok;rw[hk];obtain⟨m1,m2⟩:=xD C0 X G a;exact⟨f,_,C,m1,m2,⟨g,i,k⟩,nV l cc k,qb B hb L⟩
theorem FactN.ok{n:Nat}(hk:e.ke=.k c n)(F:FactM K c "__init__" e)(N:FactN K c)(X:K.In h)(G:h.Ns mainGlobals mg)(B:K.In base)(hb:ji mg base):e.ok K mg base:=by
 obtain⟨C,f,oc,od,sl,kV,dc,pm,an,cd,ct,a,g,l,cc,k,i,L⟩:=F;obtain⟨C',a',m1,m2⟩:=N;rw[a]at a';cases a';unfold FE.ok;rw[hk];exact⟨f,_,C,mg_of X G a,⟨m1,g,i,m2⟩,nV l cc k,qb B hb L⟩
abbrev FactG(K:Frag)(p:Str×AV):Prop:=match p.2 with
 |.int i=>∃t,nsIn K mainGlobals p.1=some (some (.int i t))
 |.str x=>∃t,nsIn K mainGlobals p.1=some (some (.str x t))
 |_=>False
theorem FactG.ok(F:FactG K p)(X:K.In h)(G:h.Ns mainGlobals mg):∀w,pv p.2=some w->∃u,mg p.1=some u/\RelV w u:=by
 obtain⟨x,c⟩:=p;intro w hw;cases c with
 |int i=>obtain⟨t,e⟩:=F;cases hw;exact⟨_,mg_of X G e,t,rfl⟩
 |str y=>obtain⟨t,e⟩:=F;cases hw;exact⟨_,mg_of X G e,t,rfl⟩
 |_=>exact F.elim
theorem HY(X:K.In h)(G:h.Ns mainGlobals mg)(hb:BH K)(hg:∀p∈gs,FactG K p)(hc:∀p∈cl,ot K p.1/\vP K p.1 p.2):Ev K mg gs cl:=by
 refine⟨fun x hx=>?_,fun p hp=>(hg p hp).ok X G,fun p hp=>?_⟩
 ·have:=yR.mp hb x hx
  split at this
  ·rename_i e;exact mg_none_of X G e
  ·cases this
 ·obtain⟨C0,C,a,fs⟩:=hc p hp
  obtain⟨m1,m2⟩:=xD C0 X G a;refine⟨C,m1,m2,fun f hf=>?_⟩
  have:=yR.mp fs f hf
  split at this
  ·rename_i e;exact e
  ·cases this
end
abbrev BN[MV](K:Frag)(e:FE):Prop:=match e.ke with
 |.f x _=>FactF K x e
 |.m c m _=>FactM K c m e
 |.k c _=>FactM K c "__init__" e/\FactN K c
def sI[MV](K:Frag):List FE->Prop
 |[]=>True
 |e::r=>BN K e/\sI K r
noncomputable def AD(cl:List (Str×List Str))(e:FE):Bool:=match e.ke with
 |.m c _ _=>decide (c∈cl.map (·.1))
 |_=>true
theorem rJ[MV]{K:Frag}{h base:Heap}{mg:Str->Option Value}(X:K.In h)(G:h.Ns mainGlobals mg)(B:K.In base)(hb:ji mg base)(hc:∀p∈cl,ot K p.1/\vP K p.1 p.2):∀{pre:List FE},pre.all (AD cl)=true->sI K pre->∀e∈pre,e.ok K mg base
 |[],_,_,_,h=>nomatch h
 |a::r,hx,h,e,he=>by
  rw[List.all_cons,zC]at hx;rcases zT.mp he with rfl|he
  ·have h1:=h.1
   have h2:=hx.1;unfold BN at h1;unfold AD at h2;split at h1
   ·rename_i ek;exact FactF.ok ek h1 X G B hb
   ·rename_i ek
    rw[ek]at h2;obtain⟨p,hp,e1⟩:=yD.mp (of_decide_eq_true h2);exact FactM.ok ek h1 (by rw[<- e1];exact(hc p hp).1) X G B hb
   ·rename_i ek;exact FactN.ok ek h1.1 h1.2 X G B hb
  ·exact rJ X G B hb hc hx.2 h.2 e he
def BM:List Fn->List FE->List Fn->Prop
 |_,[],[]=>True
 |fs,e::r,F::Fs=>e.fn fs=F/\BM (fs++[F]) r Fs
 |_,_,_=>False
theorem xw:∀{pre:List FE}{fs Fs:List Fn},BM fs pre Fs->i6 fs pre=fs++Fs
 |[],fs,[],_=>(List.append_nil fs).symm
 |e::r,fs,F::Fs,h=>by
  show i6 (fs++[e.fn fs]) r=_;rw[h.1,xw h.2];simp
 |[],_,_::_,h=>h.elim
 |_::_,_,[],h=>h.elim
theorem law_F[MV]{P:Program}{w:World}{K:Frag}{h:Heap}{mg:Str->Option Value}{fa:Addr}{gs:List (Str×AV)}{cl:List (Str×List Str)}{pre:List FE}{e:FE}{fn:Fn}(X:K.In h)(G:h.Ns mainGlobals mg)(hfa:mg "law"=some (.ref fa))
  (hb:BH K) (hg:∀p∈gs,FactG K p) (hc:∀p∈cl,ot K p.1/\vP K p.1 p.2) (hchk:oa gs cl [] pre=pre.map fun e=>some e.b) (hce:e.chk gs cl pre=some e.b)
  (hx:pre.all (AD cl)=true) (facts:sI K pre) (hF:FactF K "law" e) (hps:fB e.st=[("_law_script":Str)]) (hfn:e.fn (i6 [] pre)=fn) :
  ∃fd:FuncData,(∀(s:Shared)(v:Value),BindsTo s fd ⟨[v],[]⟩ [("_law_script",v)])/\∀base:Heap,K.In base->base.Ns mainGlobals mg->ji mg base ->
   FnOk P w K mg base eO e.d fa fd ["_law_script"] (fun vs H Q E=>∀mg,dA ⟨K,mg⟩ 1 fn vs H Q E):=by
 have E:=HY X G hb hg hc;obtain⟨h2,h3,h4,h1⟩:(e.ke.n==(fB e.st).length)=true/\(e.cs.all fun j=>match pre[j]? with|some g=>Nat.ble (g.d+3) e.d|none=>false)=true/\Nat.ble 3 e.d=true/\e.tr true (e.cs.map (qY pre)) gs cl=some e.b:=aM rfl hce fun h0 h=>kg h0 fun a b c=>⟨a,b,c,h⟩
 obtain⟨d,hd⟩:∃d,e.d=d+3:=⟨e.d-3,by have:=zS h4;lia⟩;rw[hd]at h3 ⊢;obtain⟨f,oc,od,sl,kV,dc,pm,an,cd,ct,a,l,c,k,L⟩:=hF;have m:=mg_of X G a;rw[hfa]at m;cases m;have F:=nV l c k;refine⟨fnOf "law" e.qual (dF e.st) (dE e.st) (cL e.st) .none kV dc pm an cd ct,fun s v=>?_,fun base B _ hbm=>?_⟩
 ·have hp:plainA (dF e.st)=true:=aM rfl h1 fun h0 _=>kg h0 fun _ h _=>h
  refine .of_eq ?_
  have:=bind_plain (fd:=fnOf "law" e.qual (dF e.st) (dE e.st) (cL e.st) .none kV dc pm an cd ct) (us:=[v]) hp rfl (by show(fB e.st).Nodup;rw[hps];simp) (by show _=(fB e.st).length;rw[hps];rfl)
  rw[this];show pure ((fB e.st).zip [v])=_;rw[hps];rfl
 ·have pk:=tz (P:=P) (w:=w) E pre [] [] ⟨rfl,fun j g hg=>by simp at hg⟩ (rJ X G B hbm hc hx facts) hchk
  have hk:=vw (d:=d) pk e.cs h3
  have:=(nU (e:=e.toFH) F E (qb B hbm L) hk h1).1
  rw[hps]at this;have hfn':run e.N.length (ah (e.cs.map (kf (i6 [] pre))) e.b)=fn:=hfn;rw[hfn']at this;exact this.imp fun vs H Q E q=>q mg
theorem walk_R[MV]{l:PySem.W.OpenLaw}{k:Nat}{q:Program}{bW:List Str}{XP:(Str->Option Value)->Heap->Prop}{YP:World->Heap->Prop}{d:DefRec}{K:Params->Frag}{fn:Fn}{tabs:List (Addr×Addr)}
  (hn:l.most=some 63) (hdf:d.params.defaults=[]) (hr:Room k callerA)
  (hY:∀(w:World)(h:Heap),YP w h->(K w.params).In h/\∀q∈tabs,h.get? q.2=some (tabObj #[])) (hc:∀(w:World),∀q∈tabs,codeHdIn (K w.params) q.1 q.2=true) (hK0:∀(w:World),noTabs (K w.params)=true)
  (ht:∀t∈MV.tb,t.1∈tabs.map (·.2)) (hg:∀ns:List Int,ns.length<=63->∃st,fn [.fz (ns.map .int)] []=some (.bl true,st))
  (F:∀(w:World)(mg:Str->Option Value)(fa:Addr)(h:Heap),(K w.params).In h->h.Ns mainGlobals mg->mg d.name=some (.ref fa) ->
   ∃fd:FuncData,(∀(s:Shared)(u:Value),BindsTo s fd ⟨[u],[]⟩ [("_law_script",u)]) /\
    ∀base:Heap,(K w.params).In base->base.Ns mainGlobals mg->ji mg base->FnOk l.prog w (K w.params) mg base eO k fa fd ["_law_script"] (fun vs H Q E=>∀mg,dA ⟨K w.params,mg⟩ 1 fn vs H Q E)) :
  PySem.W.WalkO q bW XP YP l.row.toRowW d [] (fun f vs=>PySem.call f vs) :=
 Dn (sp:=fun w vs H Q E=>∀mg,dA ⟨K w.params,mg⟩ 1 fn vs H Q E) hn dC hdf hr hY hc hK0 F fun w H a ns hl hT hS mg=>HB (hg ns hl) hS fun t h=>by
  obtain⟨q,hq,e⟩:=yD.mp (ht t h);exact⟨#[],by rw[<- e];exact hT q hq,trivial,.inl rfl⟩
end R
namespace SX
def MX:Nat->(Nat->Int)->Int
 |0,_=>0
 |n+1,f=>MX n f+f n
theorem sum_congr{n:Nat}{f g:Nat->Int}(h:∀i,i<n->f i=g i):MX n f=MX n g:=by
 induction n with
 |zero=>rfl
 |succ n ih=>simp only[MX];rw[ih fun i hi=>h i oM,h n oM]
theorem sum_zero{n:Nat}{f:Nat->Int}(h:∀i,i<n->f i=0):MX n f=0:=by
 induction n with
 |zero=>rfl
 |succ n ih=>simp only[MX];rw[ih fun i hi=>h i oM,h n oM];rfl
theorem sum_add(n:Nat)(f g:Nat->Int):MX n (fun i=>f i+g i)=MX n f+MX n g:=by
 induction n with
 |zero=>rfl
 |succ n ih=>simp only[MX];rw[ih];lia
theorem sum_mul(n:Nat)(c:Int)(f:Nat->Int):MX n (fun i=>c*f i)=c*MX n f:=by
 induction n with
 |zero=>simp[MX]
 |succ n ih=>simp only[MX];rw[ih,Int.mul_add]
theorem sum_one{n k:Nat}{f:Nat->Int}(hk:k<n)(h:∀i,i<n->i≠k->f i=0):MX n f=f k:=by
 induction n with
 |zero=>lia
 |succ n ih =>
  simp only[MX];rcases yU k n with hn|hn
  ·rw[ih hn fun i hi he=>h i oM he,h n oM oM];lia
  ·have:k=n:=by lia
   subst this;rw[sum_zero fun i hi=>h i oM oM];lia
theorem td{n k l:Nat}{f:Nat->Int}(hk:k<n)(hl:l<n)(hne:k≠l)(h:∀i,i<n->i≠k->i≠l->f i=0):MX n f=f k+f l:=by
 have e:MX n f=MX n (fun i=>(if i=k then f i else 0)+if i=k then 0 else f i):=sum_congr fun i _=>by split<;>lia
 rw[e,sum_add,sum_one (k:=k) hk fun i _ he=>yH he,sum_one (k:=l) hl fun i hi he=>?_]
 ·rw[yI rfl,yH (fun z=>hne z.symm)]
 ·by_cases z:i=k
  ·exact yI z
  ·rw[yH z];exact h i hi z he
theorem yk(n m:Nat)(f:Nat->Nat->Int):MX n (fun i=>MX m (fun j=>f i j))=MX m (fun j=>MX n (fun i=>f i j)):=by
 induction n with
 |zero=>exact(sum_zero fun _ _=>rfl).symm
 |succ n ih=>simp only[MX];rw[ih,<- sum_add]
noncomputable def up(A:Nat->Nat->Int)(r:Nat)(u:Nat->Int):Nat->Nat->Int:=fun i=>if i=r then u else A i
theorem bU{A:Nat->Nat->Int}{r:Nat}{u:Nat->Int}:up A r u r=u:=yI rfl
theorem bo{A:Nat->Nat->Int}{r i:Nat}{u:Nat->Int}(h:i≠r):up A r u i=A i:=yH h
theorem fJ{A:Nat->Nat->Int}{r:Nat}:up A r (A r)=A:=by
 funext i;by_cases h:i=r
 ·rw[h,bU]
 ·exact bo h
theorem ig{A:Nat->Nat->Int}{r q:Nat}{u v:Nat->Int}(h:r≠q):up (up A r u) q v=up (up A q v) r u:=by
 funext i;by_cases h1:i=q
 ·subst h1;rw[bU,bo (fun z=>h z.symm),bU]
 ·rw[bo h1]
  by_cases h2:i=r
  ·subst h2;rw[bU,bU]
  ·rw[bo h2,bo h2,bo h1]
noncomputable def skip(k i:Nat):Nat:=if i<k then i else i+1
noncomputable def jt(k r:Nat):Nat:=if r<k then r else r-1
noncomputable def sg(k:Nat):Int:=if k%2=0 then 1 else -1
theorem B6(k:Nat):sg (k+1)=- sg k:=by unfold sg;split<;>split<;>lia
theorem DU(k:Nat):(sg k).natAbs=1:=by unfold sg;split<;>rfl
def gg(A:Nat->Nat->Int)(k:Nat):Nat->Nat->Int:=fun i j=>A (skip k i) (j+1)
def bF:Nat->(Nat->Nat->Int)->Int
 |0,_=>1
 |n+1,A=>MX (n+1) fun k=>sg k*A k 0*bF n (gg A k)
theorem mC{A:Nat->Nat->Int}{k:Nat}{u:Nat->Int}:gg (up A k u) k=gg A k:=by
 funext i j;unfold gg;rw[bo];unfold skip;split<;>lia
theorem qL{A:Nat->Nat->Int}{k r:Nat}{u:Nat->Int}(h:r≠k):gg (up A r u) k=up (gg A k) (jt k r) (fun j=>u (j+1)):=by
 funext i j;unfold gg;by_cases hi:i=jt k r
 ·have:skip k i=r:=by unfold skip;unfold jt at hi;split at hi<;>split<;>lia
  rw[this,bU,hi,bU]
 ·have:skip k i≠r:=by unfold skip;unfold jt at hi;split at hi<;>split<;>lia
  rw[bo this,bo hi]
theorem de:∀{n:Nat}{A B:Nat->Nat->Int},(∀i j,i<n->j<n->A i j=B i j)->bF n A=bF n B
 |0,_,_,_=>rfl
 |n+1,A,B,h=>sum_congr fun k hk=>by
  rw[h k 0 hk oM,de (A:=gg A k) (B:=gg B k) fun i j hi hj=>h _ _ (by unfold skip;split<;>lia) oM]
theorem gx:∀{n:Nat}{A:Nat->Nat->Int}{r:Nat}{a b:Int}{u v:Nat->Int},r<n->bF n (up A r fun j=>a*u j+b*v j)=a*bF n (up A r u)+b*bF n (up A r v)
 |0,_,_,_,_,_,_,h=>by lia
 |n+1,A,r,a,b,u,v,h=>by
  show MX (n+1) _=a*MX (n+1) _+b*MX (n+1) _;rw[<- sum_mul,<- sum_mul,<- sum_add];refine sum_congr fun k hk=>?_
  by_cases e:r=k
  ·subst e
   rw[mC,mC,mC,bU,bU,bU]
   grind
  ·rw[qL e,qL e,qL e,bo (fun z=>e z.symm),bo (fun z=>e z.symm),bo (fun z=>e z.symm)]
   rw[gx (A:=gg A k) (r:=jt k r) (u:=fun j=>u (j+1)) (v:=fun j=>v (j+1)) (by unfold jt;split<;>lia)]
   grind
theorem lj:∀{n:Nat}{A:Nat->Nat->Int}{r:Nat},r+1<n->(∀j,A r j=A (r+1) j)->bF n A=0
 |0,_,_,h,_=>by lia
 |n+1,A,r,h,e=>by
  show MX (n+1) _=0;have hm:bF n (gg A r)=bF n (gg A (r+1)):=by
   refine de fun i j _ _=>?_
   unfold gg;by_cases hi:i=r
   ·subst hi
    have h1:skip i i=i+1:=by unfold skip;split<;>lia
    have h2:skip (i+1) i=i:=by unfold skip;split<;>lia
    rw[h1,h2,e]
   ·have:skip r i=skip (r+1) i:=by unfold skip;split<;>split<;>lia
    rw[this]
  rw[td (k:=r) (l:=r+1) oM h oM fun k hk h1 h2=>?_]
  ·rw[hm,e 0,B6];grind
  ·have:bF n (gg A k)=0:=by
    rcases yU k r with hk'|hk'
    ·refine lj (r:=r-1) oM fun j=>?_
     unfold gg;have a1:skip k (r-1)=r:=by unfold skip;split<;>lia
     have a2:skip k (r-1+1)=r+1:=by unfold skip;split<;>lia
     rw[a1,a2,e]
    ·refine lj (r:=r) oM fun j=>?_
     unfold gg;have a1:skip k r=r:=by unfold skip;split<;>lia
     have a2:skip k (r+1)=r+1:=by unfold skip;split<;>lia
     rw[a1,a2,e]
   rw[this,yP]
theorem lW{n:Nat}{A:Nat->Nat->Int}{c j:Nat}(hc:c<n)(hj:j<n)(hne:c≠j)(alt:∀x:Nat->Int,bF n (up (up A c x) j x)=0)(u v:Nat->Int):bF n (up (up A c u) j v)=- bF n (up (up A c v) j u):=by
 have h:=alt (fun k=>1*u k+1*v k);rw[gx hj,ig hne,gx hc,ig hne (v:=v),gx hc,<- ig hne,<- ig hne,<- ig hne,<- ig hne,alt u,alt v]at h;lia
theorem oZ{n:Nat}:∀(k:Nat){A:Nat->Nat->Int}{i j:Nat},j=i+k+1->j<n->(∀x,A i x=A j x)->bF n A=0
 |0,A,i,j,e,hj,h=>lj (r:=i) oM (by subst e;exact h)
 |k+1,A,i,j,e,hj,h=>by
  have alt:∀x:Nat->Int,bF n (up (up A (j-1) x) j x)=0:=fun x=>lj (r:=j-1) oM fun y=>by
   rw[show j-1+1=j by lia,bU,bo oM,bU]
  have hs:=lW (A:=A) (c:=j-1) (j:=j) oM hj oM alt (A (j-1)) (A j);rw[fJ,fJ]at hs;rw[hs,oZ k (A:=up (up A (j-1) (A j)) j (A (j-1))) (i:=i) (j:=j-1) oM oM fun x=>by
   rw[bo oM,bo oM,bo oM,bU,h]]
  rfl
theorem jF{n:Nat}{A:Nat->Nat->Int}{i j:Nat}(hi:i<n)(hj:j<n)(hne:i≠j)(h:∀x,A i x=A j x):bF n A=0:=by
 rcases yU i j with l|l
 ·exact oZ (j-i-1) (i:=i) (j:=j) oM hj h
 ·exact oZ (i-j-1) (i:=j) (j:=i) oM hi fun x=>(h x).symm
theorem AA{n:Nat}{A:Nat->Nat->Int}{c j:Nat}(hc:c<n)(hj:j<n)(hne:c≠j)(u v:Nat->Int):bF n (up (up A c u) j v)=- bF n (up (up A c v) j u) :=
 lW hc hj hne (fun x=>jF hc hj hne fun y=>by rw[bo hne,bU,bU]) u v
theorem jE{n:Nat}{A:Nat->Nat->Int}{r:Nat}(hr:r<n){t:Nat->Int}{b:Nat->Nat->Int}:∀m:Nat,bF n (up A r fun x=>MX m fun k=>t k*b k x)=MX m fun k=>t k*bF n (up A r (b k))
 |0=>by
  have:=gx (A:=A) (r:=r) (a:=0) (b:=0) (u:=fun _=>0) (v:=fun _=>0) hr
  simp only[yQ,Int.add_zero]at this;exact this
 |m+1=>by
  have:=gx (A:=A) (r:=r) (a:=1) (b:=t m) (u:=fun x=>MX m fun k=>t k*b k x) (v:=b m) hr
  rw[Int.one_mul,jE hr m]at this;simp only[Int.one_mul]at this;exact this
theorem oY{n:Nat}{A:Nat->Nat->Int}{r:Nat}(hr:r<n){d:Int}{u:Nat->Int}:bF n (up A r fun x=>d*u x)=d*bF n (up A r u):=by
 have:=gx (A:=A) (r:=r) (a:=d) (b:=0) (u:=u) (v:=u) hr
 simp only[yQ,Int.add_zero]at this;exact this
theorem iI{n:Nat}{A:Nat->Nat->Int}{r:Nat}{u v:Nat->Int}(h:∀x,x<n->u x=v x):bF n (up A r u)=bF n (up A r v):=de fun i j _ hj=>by
 by_cases e:i=r
 ·subst e;rw[bU,bU];exact h j hj
 ·rw[bo e,bo e]
theorem Ic{n:Nat}{B:Nat->Nat->Int}{j:Nat}{d:Int}{v:Nat->Int}{t:Nat->Int}(hj:j<n)(h:∀x,x<n->d*v x=MX n fun k=>t k*B k x):d*bF n (up B j v)=t j*bF n B:=by
 rw[<- oY hj,iI h,jE hj,sum_one hj fun k hk hne=>?_,fJ];rw[jF (i:=k) (j:=j) hk hj hne fun x=>by rw[bo hne,bU],yP]
theorem Ib{n:Nat}{B:Nat->Nat->Int}{c j:Nat}{d:Int}{u v:Nat->Int}{t:Nat->Int}(hc:c<n)(hj:j<n)(hne:c≠j)(h:∀x,x<n->d*v x=MX n fun k=>t k*B k x) :
  d*bF n (up (up B c u) j v)=t j*bF n (up B c u)-t c*bF n (up B j u):=by
 rw[<- oY hj,iI h,jE hj,td hj hc (fun z=>hne z.symm) fun k hk h1 h2=>?_]
 ·have e1:up (up B c u) j (B j)=up B c u:=by
   have:up B c u j=B j:=bo fun z=>hne z.symm
   rw[<- this,fJ]
  rw[e1,AA hc hj hne u (B c),fJ]
  grind
 ·rw[jF (i:=k) (j:=j) hk hj h1 fun x=>by rw[bo h1,bo h2,bU],yP]
def fct:Nat->Nat
 |0=>1
 |n+1=>(n+1)*fct n
theorem abs_sum{n:Nat}{f:Nat->Int}{M:Nat}(h:∀i,i<n->(f i).natAbs<=M):(MX n f).natAbs<=n*M:=by
 induction n with
 |zero=>simp[MX]
 |succ n ih =>
  simp only[MX];have h1:=ih fun i hi=>h i oM
  have h2:=h n oM;rw[Nat.succ_mul]
  have:=Int.natAbs_add_le (MX n f) (f n)
  lia
theorem rR:∀{n:Nat}{A:Nat->Nat->Int}{M:Nat},(∀i j,i<n->j<n->(A i j).natAbs<=M)->(bF n A).natAbs<=fct n*M^n
 |0,_,_,_=>by simp[bF,fct]
 |n+1,A,M,h=>by
  show(MX (n+1) _).natAbs<=_;refine z5 (abs_sum (M:=M*(fct n*M^n)) fun k hk=>?_) ?_
  ·rw[xA,xA,DU,Nat.one_mul]
   exact Nat.mul_le_mul (h k 0 hk oM) (rR fun i j hi hj=>h _ _ (by unfold skip;split<;>lia) oM)
  ·show(n+1)*(M*(fct n*M^n))<=(n+1)*fct n*M^(n+1)
   rw[Nat.pow_succ];generalize fct n=a;generalize M^n=b;exact Nat.le_of_eq (by grind)
noncomputable def eW(w:Nat):Nat->Int:=fun x=>if x=w then 1 else 0
def aJ(w:Nat)(v:Nat->Nat->Int)(h:Nat->Nat):Nat->Nat->Int:=fun k=>if k=w then eW w else v (h k)
structure Lin(w m:Nat)(v:Nat->Nat->Int)(d:Int)(t:Nat->Nat->Int)(h s:Nat->Nat):Prop where
 pos:0<d
 lin:∀i,i<m->∀x,x<w+1->d*v (s i) x=MX (w+1) fun k=>t i k*aJ w v h k x
 dt:∃g:Int,g*g=1/\bF (w+1) (aJ w v h)=g*d
structure pU(w m r c:Nat)(e d:Int)(t:Nat->Nat->Int)(h s:Nat->Nat)(d':Int)(t':Nat->Nat->Int)(h' s':Nat->Nat):Prop where
 e1:e*e=1
 ep:0<e*t r c
 d':d'=e*t r c
 tc:∀i,i<m->i≠r->t' i c=e*t i c
 tj:∀i,i<m->i≠r->∀j,j<w+1->j≠c->t' i j=(t i j*(e*t r c)-t i c*(e*t r j))/d
 rc:t' r c=e*d
 rj:∀j,j<w+1->j≠c->t' r j=- (e*t r j)
 hc:h' c=s r
 hj:∀j,j<w->j≠c->h' j=h j
 sr:s' r=h c
 si:∀i,i<m->i≠r->s' i=s i
section
variable{w m r c:Nat}{e d d':Int}{v t t':Nat->Nat->Int}{h s h' s':Nat->Nat}
theorem Lin.one(L:Lin w m v d t h s){g:Int}(hg:bF (w+1) (aJ w v h)=g*d){i j:Nat}(hi:i<m)(hj:j<w+1):bF (w+1) (up (aJ w v h) j (v (s i)))=g*t i j:=by
 have h1:=Ic (n:=w+1) (j:=j) hj (L.lin i hi);rw[hg]at h1;have h0:d≠0:=by have:=L.pos;lia
 refine Int.eq_of_mul_eq_mul_left h0 ?_;rw[h1];grind
theorem Lin.ex(L:Lin w m v d t h s){i j:Nat}(hi:i<m)(hr:r<m)(hc:c<w+1)(hj:j<w+1)(hne:c≠j):d ∣ t i j*t r c-t i c*t r j:=by
 obtain⟨g,g1,hg⟩:=L.dt;have h1:=Ib (n:=w+1) (c:=c) (j:=j) (u:=v (s r)) hc hj hne (L.lin i hi);rw[L.one hg hr hc,L.one hg hr hj]at h1;refine⟨g*bF (w+1) (up (up (aJ w v h) c (v (s r))) j (v (s i))),?_⟩;generalize bF (w+1) (up (up (aJ w v h) c (v (s r))) j (v (s i)))=D at h1
 grind
theorem Lin.ex'(L:Lin w m v d t h s){i j:Nat}(hi:i<m)(hr:r<m)(hc:c<w+1)(hj:j<w+1)(hne:c≠j):d*((t i j*(e*t r c)-t i c*(e*t r j))/d)=t i j*(e*t r c)-t i c*(e*t r j):=by
 refine Int.mul_ediv_cancel' ?_;obtain⟨k,hk⟩:=L.ex hi hr hc hj hne;exact⟨e*k,by grind⟩
theorem sy(hc:c<w)(P1:h' c=s r)(P2:∀j,j<w->j≠c->h' j=h j):∀k,k<w+1->aJ w v h' k=up (aJ w v h) c (v (s r)) k:=by
 intro k hk;unfold aJ;by_cases e:k=c
 ·subst e;rw[bU,yH oM,P1]
 ·rw[bo e]
  by_cases e2:k=w
  ·rw[yI e2,yI e2]
  ·rw[yH e2,yH e2,P2 k oM e]
theorem Lin.piv(L:Lin w m v d t h s)(P:pU w m r c e d t h s d' t' h' s')(hr:r<m)(hc:c<w):Lin w m v d' t' h' s':=by
 have h0:d≠0:=by have:=L.pos;lia
 have e1:=P.e1;refine⟨by rw[P.d'];exact P.ep,fun i hi x hx=>?_,?_⟩
 ·by_cases ir:i=r
  ·subst ir
   rw[P.sr,P.d'];have hk:MX (w+1) (fun k=>t' i k*aJ w v h' k x)=MX (w+1) fun k=>(- e)*(t i k*aJ w v h k x)+if k=c then e*t i c*aJ w v h c x+e*d*v (s i) x else 0:=by
    refine sum_congr fun k hk=>?_
    rw[sy hc P.hc P.hj k hk];by_cases kc:k=c
    ·subst kc;rw[yI rfl,bU,P.rc];grind
    ·rw[yH kc,bo kc,P.rj k hk kc];grind
   rw[hk,sum_add,sum_mul,<- L.lin i hi x hx,sum_one (k:=c) oM fun k _ z=>yH z,yI rfl];have:aJ w v h c x=v (h c) x:=by unfold aJ;rw[yH oM]
   rw[this];grind
  ·refine Int.eq_of_mul_eq_mul_left h0 ?_
   rw[P.si i hi ir,<- sum_mul];have hk:MX (w+1) (fun k=>d*(t' i k*aJ w v h' k x))=MX (w+1) fun k=>(e*t r c*(t i k*aJ w v h k x)+(- (e*t i c))*(t r k*aJ w v h k x))+if k=c then d*(e*t i c*v (s r) x) else 0:=by
    refine sum_congr fun k hk=>?_
    rw[sy hc P.hc P.hj k hk];by_cases kc:k=c
    ·subst kc;rw[yI rfl,bU,P.tc i hi ir];grind
    ·rw[yH kc,bo kc,P.tj i hi ir k hk kc,<- Int.mul_assoc,L.ex' hi hr oM hk fun z=>kc z.symm];grind
   rw[hk,sum_add,sum_add,sum_mul,sum_mul,<- L.lin i hi x hx,<- L.lin r hr x hx,sum_one (k:=c) oM fun k _ z=>yH z,yI rfl,P.d']
   grind
 ·obtain⟨g,g1,hg⟩:=L.dt
  refine⟨g*e,by grind,?_⟩;rw[de (B:=up (aJ w v h) c (v (s r))) fun i j hi hj=>by rw[sy hc P.hc P.hj i hi],L.one hg hr oM,P.d']
  grind
theorem Lin.func(L:Lin w m v d t h s)(hv:∀q,q<w->∀x,x<w+1->v q x=if x=q then 1 else 0)(hc:c<w+1){X:Nat->Int}(hs:∀i,i<m->s i<w->X (s i)=t i c)(hh:∀j,j<w->h j<w->X (h j)=if j=c then d else 0)
  (cov:∀q,q<w->(∃i,i<m/\s i=q)\/∃j,j<w/\h j=q) :
  (∀i,i<m->(MX w fun q=>v (s i) q*X q)+v (s i) w*(if c=w then d else 0)=t i c)/\∀j,j<w->(MX w fun q=>v (h j) q*X q)+v (h j) w*(if c=w then d else 0)=if j=c then d else 0:=by
 obtain⟨g,g1,hg⟩:=L.dt;have F:∀u:Nat->Int,(MX w fun q=>u q*X q)+u w*(if c=w then d else 0)=g*bF (w+1) (up (aJ w v h) c u):=fun u=>by
  have e1:bF (w+1) (up (aJ w v h) c u)=MX (w+1) fun q=>u q*bF (w+1) (up (aJ w v h) c (eW q)):=by
   rw[<- jE hc];refine iI fun x hx=>?_
   rw[sum_one hx fun k _ z=>by unfold eW;rw[yH fun y=>z y.symm,yP]];unfold eW;rw[yI rfl,Int.mul_one]
  have bb:∀k,k<w+1->g*bF (w+1) (up (aJ w v h) c (aJ w v h k))=if k=c then d else 0:=fun k hk=>by
   by_cases kc:k=c
   ·rw[yI kc,kc,fJ,hg];grind
   ·rw[yH kc,jF (i:=k) (j:=c) hk hc kc fun x=>by rw[bo kc,bU],yP]
  rw[e1,<- sum_mul];show _=MX w _+_;congr 1
  ·refine sum_congr fun q hq=>?_
   have:g*bF (w+1) (up (aJ w v h) c (eW q))=X q:=by
    have ev:∀x,x<w+1->eW q x=v q x:=fun x hx=>(hv q hq x hx).symm
    rw[iI ev];rcases cov q hq with⟨i,hi,rfl⟩|⟨j,hj,rfl⟩
    ·rw[L.one hg hi hc,hs i hi hq];grind
    ·have:=bb j oM
     rw[show aJ w v h j=v (h j) by unfold aJ;rw[yH oM]]at this;rw[this,hh j hj hq]
   rw[<- this];grind
  ·have:=bb w oM
   rw[show aJ w v h w=eW w by unfold aJ;rw[yI rfl]]at this;have e2:(if c=w then d else 0)=if w=c then d else 0:=by
    by_cases z:c=w
    ·rw[yI z,yI z.symm]
    ·rw[yH z,yH fun y=>z y.symm]
   rw[e2,<- this];grind
 refine⟨fun i hi=>?_,fun j hj=>?_⟩
 ·rw[F,L.one hg hi hc];grind
 ·rw[F]
  have e:v (h j)=aJ w v h j:=by unfold aJ;rw[yH oM]
  rw[e];by_cases jc:j=c
  ·rw[yI jc,jc,fJ,hg];grind
  ·rw[yH jc,jF (i:=j) (j:=c) oM hc jc fun x=>by rw[bo jc,bU],yP]
theorem Lin.bound(L:Lin w m v d t h s){M:Nat}(hM:1<=M)(hv:∀q x,x<w+1->(v q x).natAbs<=M):d.natAbs<=fct (w+1)*M^(w+1)/\∀i,i<m->∀j,j<w+1->(t i j).natAbs<=fct (w+1)*M^(w+1):=by
 obtain⟨g,g1,hg⟩:=L.dt;have ga:g.natAbs=1:=by
  have:g.natAbs*g.natAbs=1:=by rw[<- xA,g1];rfl
  exact Nat.eq_one_of_mul_eq_one_left this
 have hb:∀k x,x<w+1->(aJ w v h k x).natAbs<=M:=fun k x hx=>by
  unfold aJ;split
  ·unfold eW;split<;>simp<;>lia
  ·exact hv _ x hx
 refine⟨?_,fun i hi j hj=>?_⟩
 ·have:=rR (n:=w+1) (A:=aJ w v h) (M:=M) fun i j _ hj=>hb i j hj
  rw[hg,xA,ga,Nat.one_mul]at this;exact this
 ·have:=rR (n:=w+1) (A:=up (aJ w v h) j (v (s i))) (M:=M) fun k x _ hx=>by
   by_cases z:k=j
   ·subst z;rw[bU];exact hv _ x hx
   ·rw[bo z];exact hb k x hx
  rw[L.one hg hi hj,xA,ga,Nat.one_mul]at this;exact this
end
structure Pm(w m:Nat)(h s:Nat->Nat):Prop where
 hl:∀j,j<w->h j<w+m
 sl:∀i,i<m->s i<w+m
 hi:∀j k,j<w->k<w->h j=h k->j=k
 si:∀j k,j<m->k<m->s j=s k->j=k
 hs:∀j i,j<w->i<m->h j≠s i
 cov:∀q,q<w+m->(∃i,i<m/\s i=q)\/∃j,j<w/\h j=q
structure Fea(w m:Nat)(G N:Nat->Prop)(t:Nat->Nat->Int)(h s:Nat->Nat):Prop where
 g:∀i,i<m->G (s i)->0<=t i w
 n:∀i,i<m->N (s i)->t i w=0/\∀j,j<w->¬N (h j)->t i j=0
 f:∀j,j<w->G (h j)\/N (h j)
section
variable{w m r c:Nat}{e d d':Int}{v t t':Nat->Nat->Int}{h s h' s':Nat->Nat}{G N G' N':Nat->Prop}
theorem Pm.piv(Q:Pm w m h s)(P:pU w m r c e d t h s d' t' h' s')(hr:r<m)(hc:c<w):Pm w m h' s':=by
 have hh:∀j,j<w->(j=c/\h' j=s r)\/(j≠c/\h' j=h j):=fun j hj=>by
  by_cases z:j=c
  ·subst z;exact .inl ⟨rfl,P.hc⟩
  ·exact .inr ⟨z,P.hj j hj z⟩
 have ss:∀i,i<m->(i=r/\s' i=h c)\/(i≠r/\s' i=s i):=fun i hi=>by
  by_cases z:i=r
  ·subst z;exact .inl ⟨rfl,P.sr⟩
  ·exact .inr ⟨z,P.si i hi z⟩
 refine⟨fun j hj=>?_,fun i hi=>?_,fun j k hj hk e=>?_,fun j k hj hk e=>?_,fun j i hj hi e=>?_,fun q hq=>?_⟩
 ·rcases hh j hj with⟨_,z⟩|⟨_,z⟩<;>rw[z]
  ·exact Q.sl r hr
  ·exact Q.hl j hj
 ·rcases ss i hi with⟨_,z⟩|⟨_,z⟩<;>rw[z]
  ·exact Q.hl c hc
  ·exact Q.sl i hi
 ·rcases hh j hj with⟨a,z⟩|⟨a,z⟩<;>rcases hh k hk with⟨b,y⟩|⟨b,y⟩<;>rw[z,y]at e
  ·rw[a,b]
  ·exact absurd e.symm (Q.hs k r hk hr)
  ·exact absurd e (Q.hs j r hj hr)
  ·exact Q.hi j k hj hk e
 ·rcases ss j hj with⟨a,z⟩|⟨a,z⟩<;>rcases ss k hk with⟨b,y⟩|⟨b,y⟩<;>rw[z,y]at e
  ·rw[a,b]
  ·exact absurd e (Q.hs c k hc hk)
  ·exact absurd e.symm (Q.hs c j hc hj)
  ·exact Q.si j k hj hk e
 ·rcases hh j hj with⟨a,z⟩|⟨a,z⟩<;>rcases ss i hi with⟨b,y⟩|⟨b,y⟩<;>rw[z,y]at e
  ·exact Q.hs c r hc hr e.symm
  ·exact b (Q.si i r hi hr e.symm)
  ·exact a (Q.hi j c hj hc e)
  ·exact Q.hs j i hj hi e
 ·by_cases z:q=h c
  ·exact .inl ⟨r,hr,by rw[P.sr,z]⟩
  ·by_cases y:q=s r
   ·exact .inr ⟨c,hc,by rw[P.hc,y]⟩
   ·rcases Q.cov q hq with⟨i,hi,e⟩|⟨j,hj,e⟩
    ·exact .inl ⟨i,hi,by rw[P.si i hi (fun x=>y (by rw[<- e,x]))];exact e⟩
    ·exact .inr ⟨j,hj,by rw[P.hj j hj (fun x=>z (by rw[<- e,x]))];exact e⟩
theorem u8{d x:Int}(hd:0<d)(h:0<=d*x):0<=x:=by
 rcases yV x 0 with z|z
 ·have:=Int.mul_neg_of_pos_of_neg hd z;lia
 ·exact z
theorem yb{d x:Int}(hd:0<d)(h:d*x=0):x=0:=by
 rcases Int.mul_eq_zero.mp h with z|z
 ·lia
 ·exact z
theorem Fea.piv(L:Lin w m v d t h s)(Q:Pm w m h s)(F:Fea w m G N t h s)(P:pU w m r c e d t h s d' t' h' s')(hr:r<m)(hc:c<w)(nc:¬N (h c))
  (val:∀i,i<m->i≠r->G (s i)->0<=t i w*(e*t r c)-t i c*(e*t r w)) (new:G (h c)->0<=- (e*t r w))
  (hG:∀q,q≠s r->(G' q ↔ G q)) (hN:∀q,q≠s r->(N' q ↔ N q)) (hr':G' (s r)\/N' (s r)):Fea w m G' N' t' h' s':=by
 have old:∀i,i<m->i≠r->s i≠s r:=fun i hi z y=>z (Q.si i r hi hr y)
 refine⟨fun i hi hg=>?_,fun i hi hn=>?_,fun j hj=>?_⟩
 ·by_cases z:i=r
  ·subst z
   rw[P.rj w oM oM];rw[P.sr]at hg;exact new ((hG _ (Q.hs c i hc hr)).mp hg)
  ·rw[P.si i hi z]at hg
   have:=val i hi z ((hG _ (old i hi z)).mp hg)
   rw[P.tj i hi z w oM oM];exact u8 L.pos (by rw[L.ex' hi hr oM oM oM];exact this)
 ·by_cases z:i=r
  ·subst z
   rw[P.sr]at hn;exact absurd ((hN _ (Q.hs c i hc hr)).mp hn) nc
  ·rw[P.si i hi z]at hn
   obtain⟨n1,n2⟩:=F.n i hi ((hN _ (old i hi z)).mp hn);have tc:=n2 c hc nc;refine⟨?_,fun j hj hn'=>?_⟩
   ·rw[P.tj i hi z w oM oM]
    exact yb L.pos (by rw[L.ex' hi hr oM oM oM,n1,tc];grind)
   ·by_cases y:j=c
    ·subst y;rw[P.tc i hi z,tc,yP]
    ·rw[P.hj j hj y]at hn'
     have:=n2 j hj fun x=>hn' ((hN _ (Q.hs j r hj hr)).mpr x)
     rw[P.tj i hi z j oM y];exact yb L.pos (by rw[L.ex' hi hr oM oM (fun x=>y x.symm),this,tc];grind)
 ·by_cases y:j=c
  ·subst y;rw[P.hc];exact hr'
  ·rw[P.hj j hj y]
   rcases F.f j hj with x|x
   ·exact .inl ((hG _ (Q.hs j r hj hr)).mpr x)
   ·exact .inr ((hN _ (Q.hs j r hj hr)).mpr x)
theorem Fea.tight(L:Lin w m v d t h s)(Q:Pm w m h s)(F:Fea w m G N t h s)(P:pU w m r c e d t h s d' t' h' s')(hr:r<m)(hc:c<w)(nc:¬N (h c))(gr:G (s r))(neg:t r c<0)
  (ti:∀i,i<m->G (s i)->t i c<0->t r w*- t i c<=t i w*- t r c):Fea w m G N t' h' s':=by
 have e0:e=-1:=by
  have h1:=P.ep;have h2:=P.e1;rcases yV e 0 with z|z
  ·have:e*e=1:=h2
   have:e=-1:=by
    rcases yV e (-1) with y|y
    ·have:1<e*e:=by
      have a:(-e)*1<(-e)*(-e):=Int.mul_lt_mul_of_pos_left oM oM;have b:(-e)*(-e)=e*e:=by grind
      lia
     lia
    ·lia
   exact this
  ·have:e*t r c<=0:=Int.mul_nonpos_of_nonneg_of_nonpos z oM
   lia
 have rw0:=F.g r hr gr;refine Fea.piv L Q F P hr hc nc (fun i hi ne hg=>?_) (fun _=>by rw[e0];lia) (fun _ _=>.rfl) (fun _ _=>.rfl) (.inl gr);have iw:=F.g i hi hg;rw[e0];rcases yV (t i c) 0 with z|z
 ·have:=ti i hi hg z
  have a:t i w*(-1*t r c)-t i c*(-1*t r w)=t i w*- t r c-t r w*- t i c:=by grind
  rw[a];lia
 ·have a:t i w*(-1*t r c)-t i c*(-1*t r w)=t i w*- t r c+t i c*t r w:=by grind
  rw [a];have b:=Int.mul_nonneg iw (show 0 <= - t r c by lia);have c:=Int.mul_nonneg z rw0;lia
theorem Fea.lift(L:Lin w m v d t h s)(Q:Pm w m h s)(F:Fea w m G N t h s)(P:pU w m r c e d t h s d' t' h' s')(hr:r<m)(hc:c<w)(nc:¬N (h c))(pos:0<t r c)(low:t r w<0)
  (ti:∀i,i<m->G (s i)->t i c<0->t r w*t i c<=t i w*t r c) (hG:∀q,q≠s r->(G' q ↔ G q)) (hN:∀q,q≠s r->(N' q ↔ N q)) (hr':G' (s r)\/N' (s r)):Fea w m G' N' t' h' s':=by
 have e0:e=1:=by
  have h1:=P.ep;have h2:=P.e1;have e0:0<e:=by
   rcases yV 0 e with z|z
   ·exact z
   ·have:e*t r c<=0:=Int.mul_nonpos_of_nonpos_of_nonneg z oM
    lia
  rcases yV 1 e with y|y
  ·have:e*1<e*e:=Int.mul_lt_mul_of_pos_left y e0
   lia
  ·lia
 refine Fea.piv L Q F P hr hc nc (fun i hi ne hg=>?_) (fun _=>by rw[e0];lia) hG hN hr';have iw:=F.g i hi hg;rw[e0];rcases yV (t i c) 0 with z|z
 ·have:=ti i hi hg z
  have a:t i w*(1*t r c)-t i c*(1*t r w)=t i w*t r c-t r w*t i c:=by grind
  rw[a];lia
 ·have a:t i w*(1*t r c)-t i c*(1*t r w)=t i w*t r c+t i c*- t r w:=by grind
  rw [a];have b:=Int.mul_nonneg iw (show 0 <= t r c by lia);have c:=Int.mul_nonneg z (show 0 <= - t r w by lia);lia
theorem Fea.move(L:Lin w m v d t h s)(Q:Pm w m h s)(F:Fea w m G N t h s)(P:pU w m r c e d t h s d' t' h' s')(hr:r<m)(hc:c<w)(nc:¬N (h c))(nought:t r w=0)
  (hG:∀q,q≠s r->(G' q ↔ G q)) (hN:∀q,q≠s r->(N' q ↔ N q)) (hr':G' (s r)\/N' (s r)):Fea w m G' N' t' h' s':=by
 refine Fea.piv L Q F P hr hc nc (fun i hi ne hg=>?_) (fun _=>by rw[nought];lia) hG hN hr';have iw:=F.g i hi hg
 have:=P.ep
 have b:=Int.mul_nonneg iw (show 0 <= e * t r c by lia);rw [nought];have a:t i w * (e * t r c) - t i c * (e * 0)=t i w * (e * t r c):=by grind
 rw[a];exact b
theorem C2{a b x y u z:Int}(hb:b<0)(hx:x<0)(hu:0<u)(h1:z*b<=a*u)(h2:a*- x<=y*- b):z*x<=y*u:=by
 have h3:(z*b)*(-x)<=(a*u)*(-x):=Int.mul_le_mul_of_nonneg_right h1 oM;have h4:(a*- x)*u<=(y*- b)*u:=Int.mul_le_mul_of_nonneg_right h2 oM;have h5:(z*x)*(-b)<=(y*u)*(-b):=by
  have e1:(z*b)*(-x)=(z*x)*(-b):=by grind
  have e2:(a*u)*(-x)=(a*- x)*u:=by grind
  have e3:(y*- b)*u=(y*u)*(-b):=by grind
  rw[e1,e2]at h3;rw[e3]at h4;exact Int.le_trans h3 h4
 exact Int.le_of_mul_le_mul_right h5 oM
theorem Fea.guard{p:Nat}(F:Fea w m G N t h s)(Q:Pm w m h s)(hp:p<m)(h0:0<=t p w):Fea w m (fun q=>G q\/q=s p) N t h s :=
 ⟨fun i hi hg=>by
  rcases hg with hg|hg
  ·exact F.g i hi hg
  ·rw[Q.si i p hi hp hg];exact h0,F.n,fun j hj=>(F.f j hj).imp .inl id⟩
theorem Fea.nail{p:Nat}(F:Fea w m G N t h s)(Q:Pm w m h s)(hp:p<m)(h0:t p w=0)(hz:∀j,j<w->¬N (h j)->t p j=0):Fea w m G (fun q=>N q\/q=s p) t h s :=
 ⟨F.g,fun i hi hn=>by
  rcases hn with hn|hn
  ·obtain⟨a,b⟩:=F.n i hi hn
   exact⟨a,fun j hj z=>b j hj fun y=>z (.inl y)⟩
  ·rw[Q.si i p hi hp hn]
   exact⟨h0,fun j hj z=>hz j hj fun y=>z (.inl y)⟩,fun j hj=>(F.f j hj).imp id .inl⟩
noncomputable def tv(v:Nat->Nat->Int)(q:Nat):Nat->Nat->Int:=fun k x=>if k=q then-v k x else v k x
theorem Lin.turn{p:Nat}(L:Lin w m v d t h s)(Q:Pm w m h s)(hp:p<m)(h1:∀j,j<w+1->t' p j=- t p j)(h2:∀i,i<m->i≠p->∀j,j<w+1->t' i j=t i j):Lin w m (tv v (s p)) d t' h s:=by
 have hb:∀k,k<w+1->aJ w (tv v (s p)) h k=aJ w v h k:=fun k hk=>by
  unfold aJ;by_cases z:k=w
  ·rw[yI z,yI z]
  ·rw[yH z,yH z];funext x;unfold tv;rw[yH (Q.hs k p oM hp)]
 refine⟨L.pos,fun i hi x hx=>?_,?_⟩
 ·by_cases z:i=p
  ·subst z
   have:=L.lin i hi x hx
   rw[sum_congr (g:=fun k=>(-1)*(t i k*aJ w v h k x)) fun k hk=>by rw[hb k hk,h1 k hk];grind,sum_mul,<- this];unfold tv;rw[yI rfl];grind
  ·rw[sum_congr (g:=fun k=>t i k*aJ w v h k x) fun k hk=>by rw[hb k hk,h2 i hi z k hk],<- L.lin i hi x hx]
   unfold tv;rw[yH fun y=>z (Q.si i p hi hp y)]
 ·obtain⟨g,g1,hg⟩:=L.dt
  exact⟨g,g1,by rw[de (B:=aJ w v h) fun i j hi _=>by rw[hb i hi]];exact hg⟩
theorem Fea.turn{p:Nat}(F:Fea w m G N t h s)(Q:Pm w m h s)(hp:p<m)(ng:¬G (s p))(nn:¬N (s p))(h2:∀i,i<m->i≠p->∀j,j<w+1->t' i j=t i j):Fea w m G N t' h s:=by
 refine⟨fun i hi hg=>?_,fun i hi hn=>?_,F.f⟩
 ·rw[h2 i hi (fun z=>ng (by rw[<- z];exact hg)) w oM];exact F.g i hi hg
 ·have ne:i≠p:=fun z=>nn (by rw[<- z];exact hn)
  obtain⟨a,b⟩:=F.n i hi hn;exact⟨by rw[h2 i hi ne w oM];exact a,fun j hj z=>by rw[h2 i hi ne j oM];exact b j hj z⟩
end
theorem wB:∀(M:Nat)(f:Nat->Nat),(∀n,f n<M)->∃i j,i<j/\f i=f j
 |0,f,h=>absurd (h 0) oM
 |M+1,f,h=>by
  by_cases c:∃n,∀k,n<=k->f k≠M
  ·obtain⟨n,hn⟩:=c
   obtain⟨i,j,hij,e⟩:=wB M (fun k=>f (n+k)) fun k=>by have:=h (n+k);have:=hn (n+k) oM;lia
   exact⟨n+i,n+j,by lia,e⟩
  ·have c':∀n,∃k,n<=k/\f k=M:=fun n=>Classical.byContradiction fun z=>c ⟨n,fun k hk e=>z ⟨k,hk,e⟩⟩
   obtain⟨i,_,hi⟩:=c' 0;obtain⟨j,hj,hj'⟩:=c' (i+1);exact⟨i,j,by lia,by rw[hi,hj']⟩
def i9(b:Nat)(h:Nat->Nat):Nat->Nat
 |0=>0
 |n+1=>i9 b h n*b+h n
theorem xy{b:Nat}{h:Nat->Nat}:∀{n:Nat},(∀j,j<n->h j<b)->i9 b h n<b^n
 |0,_=>by simp[i9]
 |n+1,H=>by
  have h1:=xy (n:=n) fun j hj=>H j oM
  have h2:=H n oM;show i9 b h n*b+h n<b^(n+1);rw[Nat.pow_succ];have:(i9 b h n+1)*b<=b^n*b:=Nat.mul_le_mul_right b h1;rw[Nat.succ_mul]at this;lia
theorem tY{b:Nat}{h g:Nat->Nat}:∀{n:Nat},(∀j,j<n->h j<b)->(∀j,j<n->g j<b)->i9 b h n=i9 b g n->∀j,j<n->h j=g j
 |0,_,_,_,j,hj=>by lia
 |n+1,H,K,e,j,hj=>by
  have h2:=H n oM;have k2:=K n oM;have e':i9 b h n*b+h n=i9 b g n*b+g n:=e;have e1:h n=g n:=by
   have:=congrArg (·%b) e'
   simp only[Nat.mul_add_mod_self_right]at this
   rwa [Nat.mod_eq_of_lt h2,Nat.mod_eq_of_lt k2]at this
  have e2:i9 b h n=i9 b g n:=by
   have:i9 b h n*b=i9 b g n*b:=by lia
   exact Nat.eq_of_mul_eq_mul_right oM this
  rcases yU j n with z|z
  ·exact tY (fun j hj=>H j oM) (fun j hj=>K j oM) e2 j z
  ·rw[show j=n by lia];exact e1
theorem v7(b:Nat->Prop){i:Nat}:∀(k:Nat),b i->¬b (i+k)->∃n,i<=n/\n<i+k/\b n/\¬b (n+1)
 |0,h,g=>absurd h g
 |k+1,h,g=>by
  by_cases z:b (i+k)
  ·exact⟨i+k,by lia,by lia,z,g⟩
  ·obtain⟨n,a,c,d⟩:=v7 b k h z
   exact⟨n,a,by lia,d⟩
theorem v6(b:Nat->Prop){i j x y:Nat}(hx:i<=x/\x<=j)(hy:i<=y/\y<=j)(bx:b x)(by':¬b y)(e:b i ↔ b j):∃n,i<=n/\n<j/\b n/\¬b (n+1):=by
 have go:∀a c,i<=a->a<=c->c<=j->b a->¬b c->∃n,i<=n/\n<j/\b n/\¬b (n+1):=fun a c h1 h2 h3 p q=>by
  obtain⟨n,n1,n2,n3⟩:=v7 b (c-a) p (by rwa [show a+(c-a)=c by lia]);exact⟨n,by lia,by lia,n3⟩
 rcases Nat.le_total x y with z|z
 ·exact go x y hx.1 z hy.2 bx by'
 ·by_cases q:b j
  ·exact go i y oM hy.1 hy.2 (e.mpr q) by'
  ·exact go x j hx.1 hx.2 (zP j) bx q
structure St where
 d:Int
 t:Nat->Nat->Int
 h:Nat->Nat
 s:Nat->Nat
structure Bl(w m p:Nat)(G N:Nat->Prop)(r c:Nat)(e:Int)(S S':St):Prop where
 hc:c<w
 nc:¬N (S.h c)
 up:0<S.t p c
 least:∀j,j<w->¬N (S.h j)->0<S.t p j->S.h c<=S.h j
 hr:r<m
 gr:G (S.s r)
 neg:S.t r c<0
 ti:∀i,i<m->G (S.s i)->S.t i c<0->S.t r w*- S.t i c<S.t i w*- S.t r c\/(S.t r w*- S.t i c=S.t i w*- S.t r c/\S.s r<=S.s i)
 piv:pU w m r c e S.d S.t S.h S.s S'.d S'.t S'.h S'.s
def iN(w:Nat)(S:St)(q:Nat):Prop:=∃k,k<w/\S.h k=q
def Zr(w m:Nat)(S:St)(q:Nat):Prop:=∀i,i<m->S.s i=q->S.t i w=0
theorem Bt{a b c d e f:Int}(hb:0<b)(hd:0<d)(hf:0<f)(h1:a*d<=c*b)(h2:c*f<=e*d):a*f<=e*b:=by
 have h3:(a*d)*f<=(c*b)*f:=Int.mul_le_mul_of_nonneg_right h1 oM;have h4:(c*f)*b<=(e*d)*b:=Int.mul_le_mul_of_nonneg_right h2 oM;have e1:(c*b)*f=(c*f)*b:=by grind
 have h5:(a*f)*d<=(e*b)*d:=by
  have e2:(a*f)*d=(a*d)*f:=by grind
  have e3:(e*b)*d=(e*d)*b:=by grind
  rw[e2,e3];rw[e1]at h3;exact Int.le_trans h3 h4
 exact Int.le_of_mul_le_mul_right h5 hd
section
variable{w m p:Nat}{v:Nat->Nat->Int}{G N:Nat->Prop}{S:Nat->St}{r c:Nat->Nat}{e:Nat->Int}
structure Run(w m p:Nat)(v:Nat->Nat->Int)(G N:Nat->Prop)(S:Nat->St)(r c:Nat->Nat)(e:Nat->Int):Prop where
 L:∀n,Lin w m v (S n).d (S n).t (S n).h (S n).s
 Q:∀n,Pm w m (S n).h (S n).s
 F:∀n,Fea w m G N (S n).t (S n).h (S n).s
 B:∀n,Bl w m p G N (r n) (c n) (e n) (S n) (S (n+1))
 hp:p<m
 np:¬G ((S 0).s p)
theorem Run.sp(R:Run w m p v G N S r c e):∀n,(S n).s p=(S 0).s p
 |0=>rfl
 |n+1=>by
  have h:=R.sp n;have:p≠r n:=fun z=>R.np (by rw[<- h,z];exact(R.B n).gr)
  rw[(R.B n).piv.si p R.hp this];exact h
theorem Run.pr(R:Run w m p v G N S r c e)(n:Nat):p≠r n:=fun z=>R.np (by rw[<- R.sp n,z];exact(R.B n).gr)
theorem CU{e a:Int}(h1:e*e=1)(h2:0<e*a)(h3:a<0):e=-1:=by
 have hz:e<0:=by
  rcases yV e 0 with z|z
  ·exact z
  ·have:e*a<=0:=Int.mul_nonpos_of_nonneg_of_nonpos z oM
   lia
 rcases yV e (-1) with y|y
 ·have a:(-e)*1<(-e)*(-e):=Int.mul_lt_mul_of_pos_left oM oM
  have b:(-e)*(-e)=e*e:=by grind
  lia
 ·lia
theorem Run.em(R:Run w m p v G N S r c e)(n:Nat):e n=-1:=CU (R.B n).piv.e1 (R.B n).piv.ep (R.B n).neg
theorem Run.col(R:Run w m p v G N S r c e)(n:Nat){i:Nat}(hi:i<m)(ne:i≠r n):(S n).d*(S (n+1)).t i w=(S n).t i w*(S (n+1)).d+(S n).t i (c n)*(S n).t (r n) w:=by
 have B:=R.B n;rw[B.piv.tj i hi ne w oM (by have:=B.hc;lia),(R.L n).ex' hi B.hr (by have:=B.hc;lia) oM (by have:=B.hc;lia),B.piv.d',R.em n]
 grind
theorem Run.mono(R:Run w m p v G N S r c e)(n:Nat):(S n).t p w*(S (n+1)).d<=(S (n+1)).t p w*(S n).d:=by
 have B:=R.B n
 have:=R.col n R.hp (R.pr n)
 have h1:=Int.mul_nonneg (show 0 <= (S n).t p (c n) by have:=B.up;lia) ((R.F n).g (r n) B.hr B.gr);rw [Int.mul_comm ((S (n + 1)).t p w)];lia
theorem Run.monos(R:Run w m p v G N S r c e)(i:Nat):∀k,(S i).t p w*(S (i+k)).d<=(S (i+k)).t p w*(S i).d
 |0=>Int.le_refl _
 |k+1=>Bt (R.L i).pos (R.L (i+k)).pos (R.L (i+k+1)).pos (R.monos i k) (R.mono (i+k))
theorem Run.same(R:Run w m p v G N S r c e){i j:Nat}(h:∀k,k<w->(S i).h k=(S j).h k):(S i).d=(S j).d/\(S i).t p w=(S j).t p w:=by
 have hb:∀k,k<w+1->aJ w v (S i).h k=aJ w v (S j).h k:=fun k hk=>by
  unfold aJ;by_cases z:k=w
  ·rw[yI z,yI z]
  ·rw[yH z,yH z,h k oM]
 obtain⟨g,g1,hg⟩:=(R.L i).dt;obtain⟨g',g1',hg'⟩:=(R.L j).dt;have e1:bF (w+1) (aJ w v (S i).h)=bF (w+1) (aJ w v (S j).h):=de fun a b ha _=>by rw[hb a ha]
 have e2:=(R.L i).one hg R.hp (j:=w) oM;have e3:=(R.L j).one hg' R.hp (j:=w) oM;rw[R.sp i]at e2;rw[R.sp j]at e3;have e4:bF (w+1) (up (aJ w v (S i).h) w (v ((S 0).s p)))=bF (w+1) (up (aJ w v (S j).h) w (v ((S 0).s p))):=de fun a b ha _=>by
  by_cases z:a=w
  ·subst z;rw[bU,bU]
  ·rw[bo z,bo z,hb a ha]
 rw[hg,hg']at e1;rw[e2,e3]at e4;have p1:=(R.L i).pos;have p2:=(R.L j).pos;have gd:∀x:Int,x*x=1->x=1\/x=-1:=fun x hx=>by
  have:x.natAbs*x.natAbs=1:=by rw[<- xA,hx];rfl
  have:=Nat.eq_one_of_mul_eq_one_left this
  lia
 rcases gd g g1 with rfl|rfl<;>rcases gd g' g1' with rfl|rfl<;>constructor<;>lia
theorem Run.flat(R:Run w m p v G N S r c e){i j n:Nat}(h:∀k,k<w->(S i).h k=(S j).h k)(h1:i<=n)(h2:n<j):(S n).t (r n) w=0:=by
 have B:=R.B n;have a:=R.monos i (n-i);have b:=R.monos (n+1) (j-(n+1));rw[show i+(n-i)=n by lia]at a;rw[show n+1+(j-(n+1))=j by lia]at b;obtain⟨e1,e2⟩:=R.same h;rw[<- e1,<- e2]at b;have c1:=Bt (R.L (n+1)).pos (R.L i).pos (R.L n).pos b a;have c2:=R.col n R.hp (R.pr n);have g0:=(R.F n).g (r n) B.hr B.gr;rcases yV 0 ((S n).t (r n) w) with z|z
 ·have:=Int.mul_pos B.up z
  rw[Int.mul_comm ((S (n+1)).t p w)]at c1;lia
 ·lia
theorem Run.zero(R:Run w m p v G N S r c e){n q:Nat}(f:(S n).t (r n) w=0):Zr w m (S n) q ↔ Zr w m (S (n+1)) q:=by
 have B:=R.B n;have P:=B.piv;have nw:w≠c n:=by have:=B.hc;lia
 have hr':(S (n+1)).t (r n) w=0:=by rw[P.rj w oM nw,f];lia
 have iff:∀i,i<m->i≠r n->((S n).t i w=0 ↔ (S (n+1)).t i w=0):=fun i hi ne=>by
  have:=R.col n hi ne
  rw[f,yP,Int.add_zero]at this;constructor
  ·intro z;rw[z,yQ]at this;exact yb (R.L n).pos this
  ·intro z;rw[z,yP]at this
   rcases Int.mul_eq_zero.mp this.symm with y|y
   ·exact y
   ·have:=(R.L (n+1)).pos;lia
 constructor
 ·intro h i hi e
  by_cases z:i=r n
  ·rw[z];exact hr'
  ·rw[P.si i hi z]at e;exact(iff i hi z).mp (h i hi e)
 ·intro h i hi e
  by_cases z:i=r n
  ·rw[z];exact f
  ·exact(iff i hi z).mpr (h i hi (by rw[P.si i hi z];exact e))
theorem Run.zeros(R:Run w m p v G N S r c e){i j q:Nat}(h:∀k,k<w->(S i).h k=(S j).h k){a:Nat}(ha:i<=a):∀k,a+k<=j->(Zr w m (S a) q ↔ Zr w m (S (a+k)) q)
 |0,_=>.rfl
 |k+1,hk=>(R.zeros h ha k oM).trans (R.zero (R.flat h oM oM))
theorem Run.zall(R:Run w m p v G N S r c e){i j q:Nat}(h:∀k,k<w->(S i).h k=(S j).h k){a b:Nat}(ha:i<=a)(ha':a<=j)(hb:i<=b)(hb':b<=j)(z:Zr w m (S a) q):Zr w m (S b) q:=by
 rcases Nat.le_total a b with l|l
 ·have:=(R.zeros (q:=q) h ha (b-a) oM).mp;rw[show a+(b-a)=b by lia]at this;exact this z
 ·have:=(R.zeros (q:=q) h hb (a-b) oM).mpr;rw[show b+(a-b)=a by lia]at this;exact this z
theorem Run.out(R:Run w m p v G N S r c e){n q:Nat}(h:iN w (S n) q)(g:¬iN w (S (n+1)) q):q=(S n).h (c n):=by
 obtain⟨k,hk,rfl⟩:=h;by_cases z:k=c n
 ·rw[z]
 ·exact absurd ⟨k,hk,(R.B n).piv.hj k hk z⟩ g
theorem Run.inn(R:Run w m p v G N S r c e){n q:Nat}(h:¬iN w (S n) q)(g:iN w (S (n+1)) q):q=(S n).s (r n):=by
 obtain⟨k,hk,rfl⟩:=g;by_cases z:k=c n
 ·rw[z];exact(R.B n).piv.hc
 ·exact absurd ⟨k,hk,((R.B n).piv.hj k hk z).symm⟩ h
theorem Run.hz(R:Run w m p v G N S r c e){n q:Nat}(h:iN w (S n) q):Zr w m (S n) q:=fun i hi e=>by
 obtain⟨k,hk,rfl⟩:=h;exact absurd e.symm ((R.Q n).hs k i hk hi)
theorem zh{n:Nat}{f:Nat->Int}(h:0<MX n f):∃k,k<n/\0<f k:=by
 induction n with
 |zero=>exact absurd h (by simp[MX])
 |succ n ih =>
  by_cases z:0<f n
  ·exact⟨n,by lia,z⟩
  ·obtain⟨k,hk,e⟩:=ih (by simp only[MX]at h;lia)
   exact⟨k,by lia,e⟩
theorem Run.ends(R:Run w m p v G N S r c e):False:=by
 obtain⟨i,j,hij,eq⟩:=wB ((w+m)^w) (fun n=>i9 (w+m) (S n).h w) fun n=>xy (R.Q n).hl
 have hh:=tY (R.Q i).hl (R.Q j).hl eq
 -- the greatest quantity that is now free,now not
 let Fk:Nat->Prop:=fun q=>∃a b,i<=a/\a<=j/\i<=b/\b<=j/\iN w (S a) q/\¬iN w (S b) q
 have f0:Fk ((S i).h (c i)):=⟨i,i+1,by lia,by lia,by lia,by lia,⟨c i,(R.B i).hc,rfl⟩,fun⟨k,hk,e⟩=>(R.Q (i+1)).hs k (r i) hk (R.B i).hr (by rw[e,(R.B i).piv.sr])⟩;have bd:∀q,Fk q->q<w+m:=fun q hq0=>by obtain⟨a,b,_,_,_,_,⟨k,hk,e⟩,_⟩:=hq0;rw[<- e];exact(R.Q a).hl k hk
 obtain⟨q,hq,mx⟩:∃q,Fk q/\∀x,Fk x->x<=q:=by
  have go:∀k,(∃q,Fk q/\w+m<=q+k)->∃q,Fk q/\∀x,Fk x->x<=q:=fun k=>by
   induction k with
   |zero=>intro⟨q,h1,h2⟩;have:=bd q h1;lia
   |succ k ih =>
    rintro⟨q,h1,h2⟩;by_cases z:∃x,Fk x/\q<x
    ·obtain⟨x,x1,x2⟩:=z;exact ih ⟨x,x1,by lia⟩
    ·exact⟨q,h1,fun x hx=>by
      rcases yU q x with y|y
      ·exact absurd ⟨x,hx,y⟩ z
      ·exact y⟩
  exact go (w+m) ⟨_,f0,by lia⟩
 have hij':iN w (S i) q ↔ iN w (S j) q:=⟨fun⟨k,hk,e⟩=>⟨k,hk,by rw[<- hh k hk];exact e⟩,fun⟨k,hk,e⟩=>⟨k,hk,by rw[hh k hk];exact e⟩⟩;obtain⟨a,b,a1,a2,b1,b2,ha,hb⟩:=id hq;obtain⟨t1,u1,u2,u3,u4⟩:=v6 (fun n=>iN w (S n) q) ⟨a1,a2⟩ ⟨b1,b2⟩ ha hb hij';obtain⟨t2,v1,v2,v3,v4⟩:=v6 (fun n=>¬iN w (S n) q) ⟨b1,b2⟩ ⟨a1,a2⟩ hb (fun z=>z ha) (not_congr hij');have v4:iN w (S (t2+1)) q:=Classical.byContradiction v4;have q1:=R.out u3 u4;have q2:=R.inn v3 v4;have B1:=R.B t1;have B2:=R.B t2
 -- the way along the column at t2
 obtain⟨g,g1,hg⟩:=(R.L t2).dt
 let W:(Nat->Int)->Int:=fun u=>g*bF (w+1) (up (aJ w v (S t2).h) (c t2) u)
 have hcw:c t2<w+1:=by have:=B2.hc;lia
 have Ws:∀k,k<m->W (v ((S t2).s k))=(S t2).t k (c t2):=fun k hk=>by
  show g*_=_;rw[(R.L t2).one hg hk hcw];grind
 have Wb:∀k,k<w+1->W (aJ w v (S t2).h k)=if k=c t2 then(S t2).d else 0:=fun k hk=>by
  show g*_=_;by_cases z:k=c t2
  ·rw[yI z,z,fJ,hg];grind
  ·rw[yH z,jF (i:=k) (j:=c t2) hk hcw z fun x=>by rw[bo z,bU],yP]
 have key:(S t1).d*(S t2).t p (c t2)=MX w fun k=>(S t1).t p k*W (v ((S t1).h k)):=by
  have h1:(S t1).d*W (v ((S 0).s p))=MX (w+1) fun k=>(S t1).t p k*W (aJ w v (S t1).h k):=by
   show(S t1).d*(g*bF (w+1) (up (aJ w v (S t2).h) (c t2) (v ((S 0).s p))))=MX (w+1) fun k=>(S t1).t p k*(g*bF (w+1) (up (aJ w v (S t2).h) (c t2) (aJ w v (S t1).h k)))
   have h2:(S t1).d*bF (w+1) (up (aJ w v (S t2).h) (c t2) (v ((S 0).s p)))=MX (w+1) fun k=>(S t1).t p k*bF (w+1) (up (aJ w v (S t2).h) (c t2) (aJ w v (S t1).h k)):=by
    rw[<- oY hcw,<- jE hcw];exact iI fun x hx=>by rw[<- R.sp t1];exact(R.L t1).lin p R.hp x hx
   rw[sum_congr (g:=fun k=>g*((S t1).t p k*bF (w+1) (up (aJ w v (S t2).h) (c t2) (aJ w v (S t1).h k)))) fun k _=>by grind,sum_mul,<- h2];grind
  rw[<- Ws p R.hp,R.sp t2,h1];show MX w _+_=_;have hw:W (aJ w v (S t1).h w)=0:=by
   have:aJ w v (S t1).h w=aJ w v (S t2).h w:=by unfold aJ;rw[yI rfl,yI rfl]
   rw[this,Wb w oM,yH (by have:=B2.hc;lia)]
  show MX w _+(S t1).t p w*W (aJ w v (S t1).h w)=_;rw[hw,yP,Int.add_zero];exact sum_congr fun k hk=>by rw[show aJ w v (S t1).h k=v ((S t1).h k) by unfold aJ;rw[yH oM]]
 obtain⟨k,hk,kp⟩:=zh (by rw[<- key];exact Int.mul_pos (R.L t1).pos B2.up);have kH:iN w (S t1) ((S t1).h k):=⟨k,hk,rfl⟩;rcases(R.Q t2).cov ((S t1).h k) ((R.Q t1).hl k hk) with⟨l,hl,el⟩|⟨l,hl,el⟩
 ·-- a line at t2
  rw[<- el,Ws l hl]at kp;have nH:¬iN w (S t2) ((S t1).h k):=fun⟨x,hx,ex⟩=>(R.Q t2).hs x l hx hl (by rw[ex,el])
  have le:=mx _ ⟨t1,t2,by lia,by lia,by lia,by lia,kH,nH⟩;have nt:(S t2).t l (c t2)≠0:=fun z=>by rw[z,yP]at kp;lia
  have nN:¬N ((S t1).h k):=fun z=>nt (((R.F t2).n l hl (by rw[el];exact z)).2 (c t2) B2.hc B2.nc)
  by_cases kq:(S t1).h k=q
  ·have kc:k=c t1:=(R.Q t1).hi k (c t1) hk B1.hc (by rw[kq];exact q1)
   have lr:l=r t2:=(R.Q t2).si l (r t2) hl B2.hr (by rw[el,kq];exact q2);rw[kc,lr]at kp
   have:=Int.mul_neg_of_pos_of_neg B1.up B2.neg
   lia
  ·have np:¬0<(S t1).t p k:=fun z=>by
    have:=B1.least k hk nN z
    rw[<- q1]at this;lia
   have n0:(S t1).t p k<0:=by
    rcases yV ((S t1).t p k) 0 with z|z
    ·exact z
    ·rw[show(S t1).t p k=0 by lia,yQ]at kp;lia
   have tl:(S t2).t l (c t2)<0:=by
    rcases yV ((S t2).t l (c t2)) 0 with z|z
    ·exact z
    ·have:=Int.mul_nonpos_of_nonpos_of_nonneg (Int.le_of_lt n0) z;lia
   have gl:G ((S t2).s l):=by
    rcases(R.F t1).f k hk with z|z
    ·rw[el];exact z
    ·exact absurd z nN
   have lz:(S t2).t l w=0:=R.zall hh oM oM oM oM (R.hz kH) l hl el;have rz:=R.flat hh (n:=t2) oM oM;rcases B2.ti l hl gl tl with z|⟨_,z⟩
   ·rw[lz,rz]at z;lia
   ·rw[<- q2,el]at z;lia
 ·-- free at t2
  have e1:v ((S t1).h k)=aJ w v (S t2).h l:=by unfold aJ;rw[yH oM,el]
  rw[e1,Wb l oM]at kp;by_cases z:l=c t2
  ·rw[yI z]at kp
   have tp:0<(S t1).t p k:=by
    rcases yV 0 ((S t1).t p k) with y|y
    ·exact y
    ·have:=Int.mul_nonpos_of_nonpos_of_nonneg y (Int.le_of_lt (R.L t2).pos);lia
   have nN:¬N ((S t1).h k):=by rw[<- el,z];exact B2.nc
   have l1:=B1.least k hk nN tp;rw[<- q1]at l1;have nH:¬iN w (S (t2+1)) ((S t1).h k):=fun⟨x,hx,ex⟩=>(R.Q (t2+1)).hs x (r t2) hx B2.hr (by rw[ex,B2.piv.sr,<- el,z])
   have l2:=mx _ ⟨t1,t2+1,by lia,by lia,by lia,by lia,kH,nH⟩;have:q=(S t1).h k:=by lia
   exact(R.Q t2).hs l (r t2) hl B2.hr (by rw[el,<- q2,this])
  ·rw[yH z,yP]at kp;lia
end
structure Sh where
 d:Int
 ls:List (List Int)
 hd:List Nat
 sd:List Nat
 gd:List Nat
 nl:List Nat
 tn:List Nat
noncomputable def gI(xs:List Int)(j:Nat):Int:=xs.getD j 0
noncomputable def row(S:Sh)(i:Nat):List Int:=S.ls.getD i []
def Sh.t(S:Sh)(i j:Nat):Int:=gI (row S i) j
noncomputable def Sh.h(S:Sh)(j:Nat):Nat:=S.hd.getD j 0
noncomputable def Sh.s(S:Sh)(i:Nat):Nat:=S.sd.getD i 0
noncomputable def fdvS(a b:Int):Int:=if 0<b then a/b else a.fdiv b
def chLine(l P:List Int)(c:Nat)(sg d:Int):List Int :=
 if gI l c=0 then(if gI P c=d then l else l.map fun x=>fdvS (x*gI P c) d) else((l.zip P).map fun z=>fdvS (z.1*gI P c-gI l c*z.2) d).set c (sg*gI l c)
noncomputable def sgn(x:Int):Int:=if x<0 then -1 else 1
def pvl(S:Sh)(r c:Nat):List Int:=(row S r).map fun x=>sgn (S.t r c)*x
def M3(S:Sh)(r c:Nat):Sh:={ S with
 d:=gI (pvl S r c) c
 ls:=(S.ls.map fun l=>chLine l (pvl S r c) c (sgn (S.t r c)) S.d).set r (((pvl S r c).map fun x=>- x).set c (sgn (S.t r c)*S.d))
 hd:=S.hd.set c (S.s r)
 sd:=S.sd.set r (S.h c) }
structure M5(w m:Nat)(S:Sh):Prop where
 ls:S.ls.length=m
 row:∀l∈S.ls,l.length=w+1
 hd:S.hd.length=w
 sd:S.sd.length=m
theorem nQ{f:Int->Int}{xs:List Int}{j:Nat}(h:j<xs.length):gI (xs.map f) j=f (gI xs j):=by
 unfold gI;simp[zD,h]
theorem gI_set_at{xs:List Int}{j:Nat}{x:Int}(h:j<xs.length):gI (xs.set j x) j=x:=by
 unfold gI;simp[zD,h]
theorem gI_set_ne{j k:Nat}{x:Int}(h:k≠j):gI (xs.set j x) k=gI xs k:=by
 unfold gI;simp[zD,yX,h.symm]
theorem gI_zip{xs ys:List Int}{f:Int×Int->Int}{j:Nat}(h:j<xs.length)(h':j<ys.length):gI ((xs.zip ys).map f) j=f (gI xs j,gI ys j):=by
 unfold gI;have hz:j<(xs.zip ys).length:=by rw[List.length_zip];lia
 simp only[zD,zR,zF h,zF h',zF hz,map_some,Option.getD_some,List.getElem_zip]
theorem getD_mem{α:Type}{xs:List α}{i:Nat}{a:α}(h:i<xs.length):xs.getD i a∈xs:=by
 simp[zD,zF h]
theorem M5.rl{w m:Nat}(P:M5 w m S){i:Nat}(h:i<m):(SX.row S i).length=w+1:=P.row _ (getD_mem (by rw[P.ls];exact h))
theorem tW{a b:Int}(h:0<b):fdvS a b=a/b:=yI h
theorem vF{c:Nat}{sg d:Int}(h:l.length=P.length):(chLine l P c sg d).length=l.length:=by
 unfold chLine;split
 ·split
  ·rfl
  ·simp
 ·simp[h]
theorem rK{r c i:Nat}(hi:i<S.ls.length)(hr:r<S.ls.length):SX.row (M3 S r c) i=if i=r then((pvl S r c).map fun x=>- x).set c (sgn (S.t r c)*S.d) else chLine (SX.row S i) (pvl S r c) c (sgn (S.t r c)) S.d:=by
 unfold SX.row M3;simp only[zD,yX,zH];by_cases e:i=r
 ·subst e;simp[hi]
 ·rw[yH fun z=>e z.symm,yH e];simp[zF hi]
theorem exch_shp{w m:Nat}{r c:Nat}(P:M5 w m S)(hr:r<m):M5 w m (M3 S r c):=by
 have hp:(pvl S r c).length=w+1:=by unfold pvl;rw[zH];exact P.rl hr
 refine⟨by simp[M3,P.ls],fun l hl=>?_,by simp[M3,P.hd],by simp[M3,P.sd]⟩;rcases List.mem_or_eq_of_mem_set hl with h|h
 ·obtain⟨l',h1,rfl⟩:=yD.mp h
  rw[vF (by rw[P.row _ h1,hp])];exact P.row _ h1
 ·rw[h];simp[hp]
theorem DT(x:Int):sgn x*sgn x=1:=by unfold sgn;split<;>rfl
theorem B5{x:Int}(h:x≠0):0<sgn x*x:=by unfold sgn;split<;>lia
theorem jS{w m:Nat}{r c:Nat}(P:M5 w m S)(hr:r<m)(hc:c<w)(hd:0<S.d)(hp:S.t r c≠0):pU w m r c (sgn (S.t r c)) S.d S.t S.h S.s (M3 S r c).d (M3 S r c).t (M3 S r c).h (M3 S r c).s:=by
 have lr:=P.rl hr;have lp:(pvl S r c).length=w+1:=by unfold pvl;rw[zH];exact lr
 have gp:∀j,j<w+1->gI (pvl S r c) j=sgn (S.t r c)*S.t r j:=fun j hj=>by
  unfold pvl;rw[nQ (by rw[lr];exact hj)];rfl
 have other:∀i,i<m->i≠r->∀j,j<w+1->(M3 S r c).t i j=if j=c then sgn (S.t r c)*S.t i c else(S.t i j*(sgn (S.t r c)*S.t r c)-S.t i c*(sgn (S.t r c)*S.t r j))/S.d:=fun i hi ne j hj=>by
  have li:=P.rl hi;show gI (SX.row (M3 S r c) i) j=_;rw[rK (by rw[P.ls];exact hi) (by rw[P.ls];exact hr),yH ne];have tc:gI (SX.row S i) c=S.t i c:=rfl;have tj:gI (SX.row S i) j=S.t i j:=rfl;unfold chLine;by_cases z:gI (SX.row S i) c=0
  ·rw[yI z]
   rw[tc]at z;rw[z];have e0:∀x:Int,x-0*(sgn (S.t r c)*S.t r j)=x:=fun x=>by rw[yQ,Int.sub_zero]
   rw[e0];by_cases y:gI (pvl S r c) c=S.d
   ·rw[yI y,tj]
    rw[gp c oM]at y;rw[y,Int.mul_ediv_cancel _ oM];by_cases x:j=c
    ·rw[yI x,x,z,yP]
    ·rw[yH x]
   ·rw[yH y,nQ (by rw[li];exact hj),tj,tW hd,gp c oM]
    by_cases x:j=c
    ·rw[yI x,x,z,yP,yQ,Int.zero_ediv]
    ·rw[yH x]
  ·rw[yH z]
   by_cases x:j=c
   ·rw[yI x,x,gI_set_at (by simp[li,lp];lia),tc]
   ·rw[yH x,gI_set_ne x,gI_zip (by rw[li];exact hj) (by rw[lp];exact hj),tW hd,tj,tc,gp c oM,gp j hj]
 have rr:∀j,j<w+1->(M3 S r c).t r j=if j=c then sgn (S.t r c)*S.d else-(sgn (S.t r c)*S.t r j):=fun j hj=>by
  show gI (SX.row (M3 S r c) r) j=_;rw[rK (by rw[P.ls];exact hr) (by rw[P.ls];exact hr),yI rfl];by_cases x:j=c
  ·rw[yI x,x,gI_set_at (by simp[lp];lia)]
  ·rw[yH x,gI_set_ne x,nQ (by rw[lp];exact hj),gp j hj]
 refine⟨DT _,B5 hp,gp c oM,fun i hi ne=>by rw[other i hi ne c oM,yI rfl],fun i hi ne j hj x=>by rw[other i hi ne j hj,yH x],by rw[rr c oM,yI rfl],fun j hj x=>by rw[rr j hj,yH x],?_,fun j hj x=>?_,?_,fun i hi x=>?_⟩
 ·show((S.hd.set c (S.s r)).getD c 0)=_
  simp[zD,P.hd,hc]
 ·show((S.hd.set c (S.s r)).getD j 0)=S.hd.getD j 0
  simp[zD,yX,x.symm]
 ·show((S.sd.set r (S.h c)).getD r 0)=_
  simp[zD,P.sd,hr]
 ·show((S.sd.set r (S.h c)).getD i 0)=S.sd.getD i 0
  simp[zD,yX,x.symm]
def trn(S:Sh)(p:Nat):Sh:={ S with ls:=S.ls.set p ((row S p).map fun x=>- x),tn:=if S.s p∈S.tn then S.tn else S.tn++[S.s p] }
theorem trn_shp{w m p:Nat}(P:M5 w m S)(hp:p<m):M5 w m (trn S p):=by
 refine⟨by simp[trn,P.ls],fun l hl=>?_,P.hd,P.sd⟩;rcases List.mem_or_eq_of_mem_set hl with h|h
 ·exact P.row _ h
 ·rw[h,zH];exact P.rl hp
theorem trn_t{w m p:Nat}(P:M5 w m S)(hp:p<m):(∀j,j<w+1->(trn S p).t p j=- S.t p j)/\∀i,i<m->i≠p->∀j,j<w+1->(trn S p).t i j=S.t i j:=by
 have hr:∀i,i<m->row (trn S p) i=if i=p then(row S p).map (fun x=>- x) else row S i:=fun i hi=>by
  show(S.ls.set p _).getD i []=_;simp only[zD,yX];by_cases e:i=p
  ·subst e;rw[yI rfl,yI (by rw[P.ls];exact hi),yI rfl];rfl
  ·rw[yH fun z=>e z.symm,yH e];unfold row;rw[zD]
 refine⟨fun j hj=>?_,fun i hi ne j hj=>?_⟩
 ·show gI (row (trn S p) p) j=_
  rw[hr p hp,yI rfl,nQ (by rw[P.rl hp];exact hj)];rfl
 ·show gI (row (trn S p) i) j=_
  rw[hr i hi,yH ne];rfl
def Jo(S:Sh)(w q r i:Nat):Prop:=S.t r w*- S.t i q<S.t i w*- S.t r q\/(S.t r w*- S.t i q=S.t i w*- S.t r q/\S.s r<=S.s i)
def MZ(S:Sh)(w q k:Nat)(o:Option Nat):Prop:=(o=none->∀i,i<k->S.s i∈S.gd->¬S.t i q<0)/\∀r,o=some r->r<k/\S.s r∈S.gd/\S.t r q<0/\∀i,i<k->S.s i∈S.gd->S.t i q<0->Jo S w q r i
theorem K1{A B C x y z:Int}{a b c:Nat}(hx:0<x)(hy:0<y)(hz:0<z)(h1:A*y<B*x\/(A*y=B*x/\a<=b))(h2:B*z<C*y\/(B*z=C*y/\b<=c)):A*z<C*x\/(A*z=C*x/\a<=c):=by
 have l1:A*y<=B*x:=by lia
 have l2:B*z<=C*y:=by lia
 have l3:(A*y)*z<=(B*x)*z:=Int.mul_le_mul_of_nonneg_right l1 oM;have l4:(B*z)*x<=(C*y)*x:=Int.mul_le_mul_of_nonneg_right l2 oM;have e1:(B*x)*z=(B*z)*x:=by grind
 have e2:(A*y)*z=(A*z)*y:=by grind
 have e3:(C*y)*x=(C*x)*y:=by grind
 have l5:(A*z)*y<=(C*x)*y:=by lia
 have l6:A*z<=C*x:=Int.le_of_mul_le_mul_right l5 hy;by_cases e:A*z=C*x
 ·right
  refine⟨e,?_⟩;have e4:(A*z)*y=(C*x)*y:=by rw[e]
  have q1:A*y=B*x:=by
   have:(A*y)*z=(B*x)*z:=by(omega)
   exact Int.eq_of_mul_eq_mul_right oM this
  have q2:B*z=C*y:=by
   have:(B*z)*x=(C*y)*x:=by lia
   exact Int.eq_of_mul_eq_mul_right oM this
  rcases h1 with h1|h1
  ·lia
  ·rcases h2 with h2|h2
   ·lia
   ·lia
 ·left;(omega)
section
variable{S:Sh}{w q k r:Nat}{o:Option Nat}
theorem tt_zero:MZ S w q 0 none:=⟨fun _ i h=>by lia,fun r h=>nomatch h⟩
theorem tt_skip(h:¬(S.t k q<0/\S.s k∈S.gd))(T:MZ S w q k o):MZ S w q (k+1) o:=by
 refine⟨fun e i hi hg ht=>?_,fun r e=>?_⟩
 ·by_cases z:i=k
  ·subst z;exact h ⟨ht,hg⟩
  ·exact T.1 e i oM hg ht
 ·obtain⟨a,b,c,d⟩:=T.2 r e
  refine⟨by lia,b,c,fun i hi hg ht=>?_⟩;by_cases z:i=k
  ·subst z;exact absurd ⟨ht,hg⟩ h
  ·exact d i oM hg ht
theorem tt_first(h:S.t k q<0)(hg:S.s k∈S.gd)(T:MZ S w q k none):MZ S w q (k+1) (some k):=by
 refine⟨(fun e=>nomatch e),fun r e=>?_⟩;cases e;refine⟨by lia,hg,h,fun i hi hg ht=>?_⟩;by_cases z:i=k
 ·subst z;exact .inr ⟨rfl,zP _⟩
 ·exact absurd ht (T.1 rfl i oM hg)
theorem tt_new(h:S.t k q<0)(hg:S.s k∈S.gd)(ht:S.t k w*- S.t r q<S.t r w*- S.t k q\/(S.t k w*- S.t r q=S.t r w*- S.t k q/\S.s k<S.s r))(T:MZ S w q k (some r)):MZ S w q (k+1) (some k):=by
 refine⟨(fun e=>nomatch e),fun r' e=>?_⟩;cases e;obtain⟨a,b,c,d⟩:=T.2 r rfl;refine⟨by lia,hg,h,fun i hi hg' ht'=>?_⟩;by_cases z:i=k
 ·subst z;exact .inr ⟨rfl,zP _⟩
 ·exact K1 (x:=- S.t k q) (y:=- S.t r q) (z:=- S.t i q) oM oM oM (ht.imp id fun x=>⟨x.1,by lia⟩) (d i oM hg' ht')
theorem tt_old(h:S.t k q<0)(ht:¬(S.t k w*- S.t r q<S.t r w*- S.t k q\/(S.t k w*- S.t r q=S.t r w*- S.t k q/\S.s k<S.s r)))(T:MZ S w q k (some r)):MZ S w q (k+1) (some r):=by
 refine⟨(fun e=>nomatch e),fun r' e=>?_⟩;cases e;obtain⟨a,b,c,d⟩:=T.2 r rfl;refine⟨by lia,b,c,fun i hi hg' ht'=>?_⟩;by_cases z:i=k
 ·subst z
  unfold Jo;have h1:¬(S.t i w*- S.t r q<S.t r w*- S.t i q):=fun x=>ht (.inl x)
  by_cases e:S.t i w*- S.t r q=S.t r w*- S.t i q
  ·exact .inr ⟨e.symm,Nat.le_of_not_lt fun x=>ht (.inr ⟨e,x⟩)⟩
  ·left;(omega)
 ·exact d i oM hg' ht'
end
noncomputable def vt(v:Nat->Nat->Int)(tn:List Nat):Nat->Nat->Int:=fun q x=>if q∈tn then-v q x else v q x
structure MI(w m:Nat)(v:Nat->Nat->Int)(S:Sh):Prop where
 shp:M5 w m S
 lin:Lin w m (vt v S.tn) S.d S.t S.h S.s
 pm:Pm w m S.h S.s
 fea:Fea w m (·∈S.gd) (·∈S.nl) S.t S.h S.s
def toSt(S:Sh):St:=⟨S.d,S.t,S.h,S.s⟩
def Rais(w:Nat)(S:Sh)(p:Nat)(o:Option Nat):Prop:=(o=none->∀j,j<w->S.h j∉S.nl->¬0<S.t p j)/\∀q,o=some q->q<w/\S.h q∉S.nl/\0<S.t p q/\∀j,j<w->S.h j∉S.nl->0<S.t p j->S.h q<=S.h j
structure Kept(m p:Nat)(S T:Sh):Prop where
 gd:T.gd=S.gd
 nl:T.nl=S.nl
 tn:T.tn=S.tn
 si:∀i,i<m->i≠p->S.s i∉S.gd->T.s i=S.s i
section
variable{w m p q r:Nat}{v:Nat->Nat->Int}{S T:Sh}
theorem Kept.refl:Kept m p S S:=⟨rfl,rfl,rfl,fun _ _ _ _=>rfl⟩
theorem Kept.trans(a:Kept m p S T)(b:Kept m p T U):Kept m p S U :=
 ⟨b.gd.trans a.gd,b.nl.trans a.nl,b.tn.trans a.tn,fun i hi ne h=>by
  have h1:=a.si i hi ne h;rw[b.si i hi ne (by rw[h1,a.gd];exact h),h1]⟩
theorem MI.step(I:MI w m v S)(hp:p<m)(np:S.s p∉S.gd)(hq:Rais w S p (some q))(hr:MZ S w q m (some r)):MI w m v (M3 S r q)/\Bl w m p (·∈S.gd) (·∈S.nl) r q (sgn (S.t r q)) (toSt S) (toSt (M3 S r q))/\Kept m p S (M3 S r q)/\(M3 S r q).s p=S.s p:=by
 obtain ⟨h1,h2,h3,h4⟩:=hq.2 q rfl;obtain ⟨r1,r2,r3,r4⟩:=hr.2 r rfl;have hpv:=jS I.shp r1 h1 I.lin.pos (show S.t r q ≠ 0 by lia);refine ⟨⟨exch_shp I.shp r1,I.lin.piv hpv r1 h1,I.pm.piv hpv r1 h1,?_⟩,⟨h1,h2,h3,h4,r1,r2,r3,r4,hpv⟩,⟨rfl,rfl,rfl,fun i hi _ hg=>?_⟩,?_⟩
 ·exact Fea.tight I.lin I.pm I.fea hpv r1 h1 h2 r2 r3 fun i hi hg ht=>by
   rcases r4 i hi hg ht with z|z
   ·lia
   ·exact Int.le_of_eq z.1
 ·exact hpv.si i hi fun z=>hg (by rw[z];exact r2)
 ·exact hpv.si p hp fun z=>np (by rw[z];exact r2)
theorem MI.low(I:MI w m v S)(hp:p<m)(np:S.s p∉S.gd)(hq:Rais w S p (some q))(hr:MZ S w q m (some r))(hu:¬S.t p w*S.t r q<=S.t r w*S.t p q):(M3 S r q).t p w<0:=by
 obtain ⟨h1,h2,h3,h4⟩:=hq.2 q rfl;obtain ⟨r1,r2,r3,r4⟩:=hr.2 r rfl;have hpv:=jS I.shp r1 h1 I.lin.pos (show S.t r q ≠ 0 by lia);have ne:p ≠ r:=fun z=>np (by rw [z];exact r2)
 have e1:=I.lin.ex' (e:=sgn (S.t r q)) hp r1 (show q < w + 1 by lia) (show w < w + 1 by lia) (show q ≠ w by lia);rw [<- hpv.tj p hp ne w oM oM] at e1;have e2:sgn (S.t r q)=-1:=by unfold sgn;rw [yI r3]
 rw[e2]at e1;have e3:S.t p w*(-1*S.t r q)-S.t p q*(-1*S.t r w)=S.t r w*S.t p q-S.t p w*S.t r q:=by grind
 rw[e3]at e1;rcases yV ((M3 S r q).t p w) 0 with z|z
 ·exact z
 ·have:=Int.mul_nonneg (Int.le_of_lt I.lin.pos) z;lia
theorem MI.up(I:MI w m v S)(hp:p<m)(ng:S.s p∉S.gd)(nn:S.s p∉S.nl)(low:S.t p w<0)(hq:Rais w S p (some q))(ht:MZ S w q m none\/∃r,MZ S w q m (some r)/\S.t p w*S.t r q<=S.t r w*S.t p q) :
  MI w m v { M3 S p q with gd:=S.gd++[S.s p] }/\MI w m v { M3 S p q with nl:=S.nl++[S.s p] }/\Kept m p S (M3 S p q):=by
 obtain ⟨h1,h2,h3,h4⟩:=hq.2 q rfl;have hpv:=jS I.shp hp h1 I.lin.pos (show S.t p q ≠ 0 by lia);have sh:=exch_shp (c:=q) I.shp hp;have ti:∀ i,i < m->S.s i ∈ S.gd->S.t i q < 0->S.t p w * S.t i q <= S.t i w * S.t p q:=fun i hi hg hn=>by
  rcases ht with ht|⟨r,ht,hu⟩
  ·exact absurd hn (ht.1 rfl i hi hg)
  ·obtain⟨r1,r2,r3,r4⟩:=ht.2 r rfl
   refine C2 (a:=S.t r w) (b:=S.t r q) r3 hn h3 hu ?_;rcases r4 i hi hg hn with z|z
   ·lia
   ·exact Int.le_of_eq z.1
 refine⟨⟨⟨sh.ls,sh.row,sh.hd,sh.sd⟩,I.lin.piv hpv hp h1,I.pm.piv hpv hp h1,?_⟩,⟨⟨sh.ls,sh.row,sh.hd,sh.sd⟩,I.lin.piv hpv hp h1,I.pm.piv hpv hp h1,?_⟩,⟨rfl,rfl,rfl,fun i hi ne _=>hpv.si i hi ne⟩⟩
 ·exact Fea.lift (G':=(·∈S.gd++[S.s p])) I.lin I.pm I.fea hpv hp h1 h2 h3 low ti (fun x hx=>by simp[hx]) (fun x hx=>.rfl) (.inl (by simp))
 ·exact Fea.lift (N':=(·∈S.nl++[S.s p])) I.lin I.pm I.fea hpv hp h1 h2 h3 low ti (fun x hx=>.rfl) (fun x hx=>by simp[hx]) (.inr (by simp))
theorem MI.move(I:MI w m v S)(hp:p<m)(hq:q<w)(hn:S.h q∉S.nl)(h0:S.t p w=0)(hz:S.t p q≠0):MI w m v { M3 S p q with nl:=S.nl++[S.s p] }/\Kept m p S (M3 S p q):=by
 have hpv:=jS I.shp hp hq I.lin.pos hz;have sh:=exch_shp (c:=q) I.shp hp;refine⟨⟨⟨sh.ls,sh.row,sh.hd,sh.sd⟩,I.lin.piv hpv hp hq,I.pm.piv hpv hp hq,?_⟩,⟨rfl,rfl,rfl,fun i hi ne _=>hpv.si i hi ne⟩⟩;exact Fea.move (N':=(·∈S.nl++[S.s p])) I.lin I.pm I.fea hpv hp hq hn h0 (fun x hx=>.rfl) (fun x hx=>by simp[hx]) (.inr (by simp))
theorem MI.guard(I:MI w m v S)(hp:p<m)(h0:0<=S.t p w):MI w m v { S with gd:=S.gd++[S.s p] }:=by
 refine⟨⟨I.shp.ls,I.shp.row,I.shp.hd,I.shp.sd⟩,I.lin,I.pm,?_⟩;have e:(fun x=>x∈S.gd++[S.s p])=fun x=>x∈S.gd\/x=S.s p:=by funext x;simp
 show Fea w m (fun x=>x∈S.gd++[S.s p]) _ _ _ _;rw[e];exact Fea.guard I.fea I.pm hp h0
theorem MI.nail(I:MI w m v S)(hp:p<m)(h0:S.t p w=0)(hz:∀j,j<w->S.h j∉S.nl->S.t p j=0):MI w m v { S with nl:=S.nl++[S.s p] }:=by
 refine⟨⟨I.shp.ls,I.shp.row,I.shp.hd,I.shp.sd⟩,I.lin,I.pm,?_⟩;have e:(fun x=>x∈S.nl++[S.s p])=fun x=>x∈S.nl\/x=S.s p:=by funext x;simp
 show Fea w m _ (fun x=>x∈S.nl++[S.s p]) _ _ _;rw[e];exact Fea.nail I.fea I.pm hp h0 hz
theorem MI.turn(I:MI w m v S)(hp:p<m)(ng:S.s p∉S.gd)(nn:S.s p∉S.nl)(nt:S.s p∉S.tn):MI w m v (trn S p):=by
 obtain⟨t1,t2⟩:=trn_t I.shp hp;refine⟨trn_shp I.shp hp,?_,I.pm,Fea.turn I.fea I.pm hp ng nn t2⟩;have e:vt v (trn S p).tn=tv (vt v S.tn) (S.s p):=by
  have:(trn S p).tn=S.tn++[S.s p]:=by show(if _ then _ else _)=_;rw[yH nt]
  rw[this];funext q x;unfold vt tv;by_cases h:q=S.s p
  ·subst h;simp[nt]
  ·simp[h]
 rw[e];exact Lin.turn I.lin I.pm hp t1 t2
theorem no_chain(hp:p<m)(f:Nat->Sh)(h:∀n,MI w m v (f n)/\(∃r q e,Bl w m p (·∈(f n).gd) (·∈(f n).nl) r q e (toSt (f n)) (toSt (f (n+1))))/\Kept m p (f n) (f (n+1)))(np:(f 0).s p∉(f 0).gd):False:=by
 have hk:∀n,Kept m p (f 0) (f n):=fun n=>by
  induction n with
  |zero=>exact Kept.refl
  |succ n ih=>exact ih.trans (h n).2.2
 have hb:∀n,∃r q e,Bl w m p (·∈(f 0).gd) (·∈(f 0).nl) r q e (toSt (f n)) (toSt (f (n+1))):=fun n=>by
  have:=(h n).2.1;rw[(hk n).gd,(hk n).nl]at this;exact this
 let r:=fun n=>Classical.choose (hb n)
 have hr:=fun n=>Classical.choose_spec (hb n)
 let q:=fun n=>Classical.choose (hr n)
 have hq:=fun n=>Classical.choose_spec (hr n)
 let e:=fun n=>Classical.choose (hq n)
 have he:=fun n=>Classical.choose_spec (hq n)
 refine Run.ends (w:=w) (m:=m) (p:=p) (v:=vt v (f 0).tn) (G:=(·∈(f 0).gd)) (N:=(·∈(f 0).nl)) (S:=fun n=>toSt (f n)) (r:=r) (c:=q) (e:=e) ⟨fun n=>?_,fun n=>(h n).1.pm,fun n=>?_,fun n=>?_,hp,np⟩
 ·have:=(h n).1.lin;rw[(hk n).tn]at this;exact this
 ·have:=(h n).1.fea;rw[(hk n).gd,(hk n).nl]at this;exact this
 ·exact he n
theorem MI.bound(I:MI w m v S){M B:Nat}(hM:1<=M)(hv:∀q x,x<w+1->(v q x).natAbs<=M)(hb:fct (w+1)*M^(w+1)<B):S.d.natAbs<B/\∀i,i<m->∀j,j<w+1->(S.t i j).natAbs<B:=by
 have:=I.lin.bound hM (M:=M) fun q x hx=>by
  unfold vt;split
  ·rw[Int.natAbs_neg];exact hv q x hx
  ·exact hv q x hx
 exact⟨yM this.1 hb,fun i hi j hj=>yM (this.2 i hi j hj) hb⟩
end
theorem t0:∀n:Nat,bF n (fun i j=>if j=i then 1 else 0)=1
 |0=>rfl
 |n+1=>by
  show MX (n+1) _=1;rw[sum_one (k:=0) oM fun k hk ne=>by
   show sg k*(if 0=k then 1 else 0)*_=0;rw[yH fun z=>ne z.symm,yP,yQ]]
  have:bF n (gg (fun i j=>if j=i then(1:Int) else 0) 0)=1:=by
   rw[de (B:=fun i j=>if j=i then(1:Int) else 0) fun i j _ _=>?_]
   ·exact t0 n
   ·unfold gg skip;simp
  rw[this];rfl
def v0(w:Nat)(L:List (List Int)):Nat->Nat->Int:=fun q x=>if q<w then(if x=q then 1 else 0) else gI (L.getD (q-w) []) x
noncomputable def openS(w:Nat)(L:List (List Int))(k:Nat):Sh:=⟨1,L,List.range w,(List.range L.length).map (w+·),List.range k,[],[]⟩
theorem open_MI{w nr:Nat}(hL:∀l∈L,l.length=w+1)(hz:∀i,i<nr->gI (L.getD i []) w=0):MI w L.length (v0 w L) (openS w L (w+nr)):=by
 have hh:∀j,j<w->(openS w L (w+nr)).h j=j:=fun j hj=>by show(List.range w).getD j 0=j;simp[zD,hj]
 have hs:∀i,i<L.length->(openS w L (w+nr)).s i=w+i:=fun i hi=>by show((List.range L.length).map (w+·)).getD i 0=w+i;simp[zD,hi]
 have hv:vt (v0 w L) (openS w L (w+nr)).tn=v0 w L:=by funext q x;unfold vt;exact yH (by show q∉[];simp)
 have hb:∀k,k<w+1->∀x,x<w+1->aJ w (v0 w L) (openS w L (w+nr)).h k x=if x=k then 1 else 0:=fun k hk x hx=>by
  unfold aJ;by_cases e:k=w
  ·rw[yI e,e];rfl
  ·rw[yH e,hh k oM];unfold v0;rw[yI oM]
 refine⟨⟨rfl,hL,by simp[openS],by simp[openS]⟩,?_,?_,?_⟩
 ·rw[hv]
  refine⟨Int.one_pos,fun i hi x hx=>?_,1,rfl,?_⟩
  ·rw[hs i hi,sum_one (k:=x) hx fun k hk ne=>by rw[hb k hk x hx,yH fun z=>ne z.symm,yP],hb x hx x hx,yI rfl]
   unfold v0;rw[yH oM,show w+i-w=i by lia];show 1*gI (L.getD i []) x=gI (L.getD i []) x*1;lia
  ·rw[de (B:=fun i j=>if j=i then 1 else 0) fun i j hi hj=>hb i hi j hj,t0];rfl
 ·refine⟨fun j hj=>by rw[hh j hj];lia,fun i hi=>by rw[hs i hi];lia,fun j k hj hk e=>by rw[hh j hj,hh k hk]at e;exact e,fun j k hj hk e=>by rw[hs j hj,hs k hk]at e;lia,fun j i hj hi e=>by rw[hh j hj,hs i hi]at e;lia,fun q hq=>?_⟩
  by_cases h:q<w
  ·exact .inr ⟨q,h,hh q h⟩
  ·exact .inl ⟨q-w,by lia,by rw[hs _ oM];lia⟩
 ·refine⟨fun i hi hg=>?_,fun i hi hn=>?_,fun j hj=>.inl ?_⟩
  ·rw[hs i hi]at hg
   have:w+i<w+nr:=List.mem_range.mp hg;show 0<=gI (L.getD i []) w;rw[hz i oM];decide
  ·exact absurd (show _ ∈ ([]:List Nat) from hn) (by simp)
  ·rw[hh j hj];exact List.mem_range.mpr oM
theorem open_s{w k i:Nat}(hi:i<L.length):(openS w L k).s i=w+i:=by show((List.range L.length).map (w+·)).getD i 0=w+i;simp[zD,hi]
def Qt(w:Nat)(v:Nat->Nat->Int)(Y:Nat->Int)(e:Int)(q:Nat):Int:=(MX w fun x=>v q x*Y x)+v q w*e
section
variable{w m p:Nat}{v:Nat->Nat->Int}{S:Sh}
theorem oo{Y:Nat->Int}{e:Int}{q:Nat}:Qt w (vt v S.tn) Y e q=if q∈S.tn then-Qt w v Y e q else Qt w v Y e q:=by
 unfold Qt vt;by_cases h:q∈S.tn
 ·simp only[yI h]
  rw[sum_congr (g:=fun x=>(-1)*(v q x*Y x)) fun x _=>by grind,sum_mul];grind
 ·simp only[yH h]
theorem MI.line(I:MI w m v S)(hp:p<m)(Y:Nat->Int)(e:Int):S.d*Qt w (vt v S.tn) Y e (S.s p)=(MX w fun j=>S.t p j*Qt w (vt v S.tn) Y e (S.h j))+S.t p w*e:=by
 have h:=I.lin.lin p hp;have hb:∀x,x<w+1->S.d*vt v S.tn (S.s p) x=(MX w fun k=>S.t p k*vt v S.tn (S.h k) x)+S.t p w*(if x=w then 1 else 0):=fun x hx=>by
  rw[h x hx];show MX w _+S.t p w*aJ w (vt v S.tn) S.h w x=_;have e1:aJ w (vt v S.tn) S.h w x=if x=w then 1 else 0:=by unfold aJ;rw[yI rfl];rfl
  rw[e1];congr 1;exact sum_congr fun k hk=>by unfold aJ;rw[yH oM]
 unfold Qt;rw[Int.mul_add,<- sum_mul];have e1:(MX w fun x=>S.d*(vt v S.tn (S.s p) x*Y x))=MX w fun j=>S.t p j*MX w fun x=>vt v S.tn (S.h j) x*Y x:=by
  rw[sum_congr (g:=fun x=>MX w fun k=>S.t p k*(vt v S.tn (S.h k) x*Y x)) fun x hx=>by
   rw[<- Int.mul_assoc,hb x oM,yH oM,yP,Int.add_zero,Int.mul_comm,<- sum_mul];exact sum_congr fun k _=>by grind,yk]
  exact sum_congr fun j _=>by rw[sum_mul]
 have e2:S.d*(vt v S.tn (S.s p) w*e)=(MX w fun j=>S.t p j*(vt v S.tn (S.h j) w*e))+S.t p w*e:=by
  rw[<- Int.mul_assoc,hb w oM,yI rfl,Int.mul_one,Int.add_mul];congr 1;rw[Int.mul_comm,<- sum_mul];exact sum_congr fun k _=>by grind
 rw[e1,e2,sum_congr (f:=fun j=>S.t p j*((MX w fun x=>vt v S.tn (S.h j) x*Y x)+vt v S.tn (S.h j) w*e)) (g:=fun j=>S.t p j*(MX w fun x=>vt v S.tn (S.h j) x*Y x)+S.t p j*(vt v S.tn (S.h j) w*e)) fun j _=>by rw[Int.mul_add],sum_add];lia
theorem uB{n:Nat}{f:Nat->Int}(h:∀i,i<n->f i<=0):MX n f<=0:=by
 induction n with
 |zero=>exact Int.le_refl 0
 |succ n ih=>have:=ih fun i hi=>h i oM;have:=h n oM;simp only[MX];lia
theorem MI.dual(I:MI w m v S)(hp:p<m)(hr:∀j,j<w->S.h j∉S.nl->¬0<S.t p j)(tn:∀q∈S.tn,q∈S.nl\/q=S.s p){Y:Nat->Int}{e:Int}(hg:∀j,j<w->S.h j∉S.nl->0<=Qt w v Y e (S.h j))(hn:∀j,j<w->S.h j∈S.nl->Qt w v Y e (S.h j)=0) :
  S.d*(if S.s p∈S.tn then-Qt w v Y e (S.s p) else Qt w v Y e (S.s p))<=S.t p w*e:=by
 rw[<- oo,I.line hp Y e];have:(MX w fun j=>S.t p j*Qt w (vt v S.tn) Y e (S.h j))<=0:=uB fun j hj=>by
  by_cases h:S.h j∈S.nl
  ·rw[oo,hn j hj h];split<;>lia
  ·have ht:S.h j∉S.tn:=fun z=>by
    rcases tn _ z with y|y
    ·exact h y
    ·exact I.pm.hs j p hj hp y
   rw[oo,yH ht];have a:=hr j hj h;have b:=hg j hj h;exact Int.mul_nonpos_of_nonpos_of_nonneg oM b
 lia
theorem MI.vert(I:MI w m v S)(hv:∀q,q<w->∀x,x<w+1->v q x=if x=q then 1 else 0)(tw:∀q∈S.tn,w<=q){c:Nat}(hc:c<w+1){X:Nat->Int}(h1:∀i,i<m->S.s i<w->X (S.s i)=S.t i c)(h2:∀j,j<w->S.h j<w->X (S.h j)=if j=c then S.d else 0) :
  (∀i,i<m->Qt w v X (if c=w then S.d else 0) (S.s i)=if S.s i∈S.tn then-S.t i c else S.t i c)/\∀j,j<w->Qt w v X (if c=w then S.d else 0) (S.h j)=if j=c then(if S.h j∈S.tn then-S.d else S.d) else 0:=by
 have hv':∀q,q<w->∀x,x<w+1->vt v S.tn q x=if x=q then 1 else 0:=fun q hq x hx=>by
  unfold vt;rw[yH fun z=>by have:=tw q z;lia];exact hv q hq x hx
 obtain⟨a,b⟩:=I.lin.func hv' hc h1 h2 fun q hq=>I.pm.cov q oM
 refine⟨fun i hi=>?_,fun j hj=>?_⟩
 ·have e:Qt w (vt v S.tn) X (if c=w then S.d else 0) (S.s i)=S.t i c:=a i hi
  rw[oo]at e;split at e
  ·rename_i h;rw[yI h];lia
  ·rename_i h;rw[yH h];exact e
 ·have e:Qt w (vt v S.tn) X (if c=w then S.d else 0) (S.h j)=if j=c then S.d else 0:=b j hj
  rw[oo]at e;by_cases h:j=c
  ·rw[yI h]at e ⊢
   split at e
   ·rename_i h;rw[yI h];lia
   ·rename_i h;rw[yH h];exact e
  ·rw[yH h]at e ⊢
   split at e
   ·lia
   ·exact e
end
end SX
namespace R
open PySem PySem.Spec L2
open DD (pyOk)
section
variable{ks:List Fn}{sl:Sl}{st:aa}
@[simp] theorem MN:ev ks .n sl st=some (.non,st):=rfl
@[simp] theorem MP{x:Bool}:ev ks (.b x) sl st=some (.bl x,st):=rfl
@[simp] theorem sR{x:Int}:ev ks (.i x) sl st=some (.int x,st):=rfl
@[simp] theorem IB{x:Str}:ev ks (.s x) sl st=some (.str x,st):=rfl
@[simp] theorem MO{x:Str}{c:AV}:ev ks (.g x c) sl st=some (c,st):=rfl
@[simp] theorem mM{k:Nat}:ev ks (.v k) sl st=aV k sl st:=rfl
@[simp] theorem jY{v:AV}:aV 0 (some v::sl) st=some (v,st):=rfl
@[simp] theorem jX{k:Nat}{x:Option AV}:aV (k+1) (x::sl) st=aV k sl st:=rfl
@[simp] theorem GI{o:Operator}{a b:Ex}:ev ks (.bin o a b) sl st=(ev ks a sl st).bind fun p=>(ev ks b sl p.2).bind fun q=>(aQ o q.2 p.1 q.1).map fun z=>(z,q.2):=rfl
@[simp] theorem LR{o:CmpOp}{a b:Ex}:ev ks (.cmp o a b) sl st=(ev ks a sl st).bind fun p=>(ev ks b sl p.2).bind fun q=>(mI o q.2 p.1 q.1).map fun z=>(z,q.2):=rfl
@[simp] theorem L9{o:UnaryOp}{a:Ex}:ev ks (.un o a) sl st=(ev ks a sl st).bind fun p=>(lD o p.2 p.1).map fun z=>(z,p.2):=rfl
def Ld(x:AV)(st:aa):Option (AV×aa):=match x with
 |.bl b=>some (.bl !b,st)
 |_=>none
def Gq(x:AV)(st:aa)(r:Option (AV×aa)):Option (AV×aa):=match x with
 |.bl b=>if b=true then r else some (.bl false,st)
 |_=>none
def E4(x:AV)(st:aa)(r:Option (AV×aa)):Option (AV×aa):=match x with
 |.bl b=>if b=true then some (.bl true,st) else r
 |_=>none
@[simp] theorem LZ{b:Bool}:Ld (.bl b) st=some (.bl !b,st):=rfl
@[simp] theorem L8{b:Bool}{r:Option (AV×aa)}:Gq (.bl b) st r=if b=true then r else some (.bl false,st):=rfl
@[simp] theorem LY{b:Bool}{r:Option (AV×aa)}:E4 (.bl b) st r=if b=true then some (.bl true,st) else r:=rfl
@[simp] theorem Mg{a b:Ex}:ev ks (.an a b) sl st=(ev ks a sl st).bind fun p=>Gq p.1 p.2 (ev ks b sl p.2):=by
 show BC (ev ks a) (ev ks b) sl st=_;unfold BC Gq;congr 1;funext p;cases p.1<;>first|rfl|skip
 rename_i x;cases x<;>rfl
@[simp] theorem Ma{a b:Ex}:ev ks (.or a b) sl st=(ev ks a sl st).bind fun p=>E4 p.1 p.2 (ev ks b sl p.2):=by
 show By (ev ks a) (ev ks b) sl st=_;unfold By E4;congr 1;funext p;cases p.1<;>first|rfl|skip
 rename_i x;cases x<;>rfl
@[simp] theorem AS{t:Tx}{a b:Ex}:ev ks (.ife t a b) sl st=(tv ks t sl st).bind fun p=>if p.1=true then ev ks a sl p.2 else ev ks b sl p.2:=rfl
@[simp] theorem uj{a b:Ex}:ev ks (.ix a b) sl st=(ev ks a sl st).bind fun p=>(ev ks b sl p.2).bind fun q=>(aP q.2 p.1 q.1).map fun z=>(z,q.2):=rfl
@[simp] theorem ms{p:Bool}{j:Nat}{es:Exs}:ev ks (.ca p j es) sl st=(d8 ks es sl st).bind fun q=>dN p (kf ks j) q.1 q.2:=rfl
@[simp] theorem uY{f:Fn}:dN true f=pm f:=rfl
@[simp] theorem p6{f:Fn}:dN false f=f:=rfl
@[simp] theorem mE{f:Fn}:kf (f::ks) 0=f:=rfl
@[simp] theorem mD{f:Fn}{j:Nat}:kf (f::ks) (j+1)=kf ks j:=rfl
@[simp] theorem fc:d8 ks .nil sl st=some ([],st):=rfl
@[simp] theorem dX{e:Ex}{es:Exs}:d8 ks (.cons e es) sl st=(ev ks e sl st).bind fun p=>(d8 ks es sl p.2).bind fun q=>some (p.1::q.1,q.2):=rfl
@[simp] theorem Jz{es:Exs}:ev ks (.tu es) sl st=(d8 ks es sl st).bind fun p=>if Nat.ble p.1.length 1000=true then some (.tup p.1,p.2) else none:=rfl
@[simp] theorem jj{x:Nx}:ev ks (.nw false x) sl st=(i7 ks x sl st).bind fun p=>if rfs p.1=true then some (.fz p.1,p.2) else none:=rfl
@[simp] theorem Do{x:Nx}:ev ks (.nw true x) sl st=(i7 ks x sl st).bind fun p=>some (.ref p.2.length,p.2++[.lst p.1]):=rfl
@[simp] theorem Md{c m:Str}{j:Nat}{o:Ex}{es:Exs}:ev ks (.me c m j o es) sl st=(ev ks o sl st).bind fun p=>(jl p.2 c p.1).bind fun fs=>if(fs.lookup m).isNone=true then(d8 ks es sl p.2).bind fun q=>kf ks j (p.1::q.1) q.2 else none:=rfl
@[simp] theorem Mb{c:Str}{j:Nat}{es:Exs}:ev ks (.ne c j es) sl st=xP c (kf ks j) (d8 ks es) sl st:=rfl
@[simp] theorem Me{c f:Str}{o:Ex}:ev ks (.fd c f o) sl st=(ev ks o sl st).bind fun p=>(jl p.2 c p.1).bind fun fs=>(fs.lookup f).map fun v=>(v,p.2):=rfl
@[simp] theorem Dp{b:Bi}{es:Exs}:ev ks (.bi b es) sl st=(d8 ks es sl st).bind fun p=>og b p.1 p.2:=rfl
@[simp] theorem Lr:og .len=cj eU:=rfl
@[simp] theorem xK:og .sum=cj oH:=rfl
@[simp] theorem Lv:og .abs=cj sB:=rfl
@[simp] theorem Lp:og .min=cj oQ:=rfl
@[simp] theorem Lq:og .max=cj oR:=rfl
@[simp] theorem Lu:og .int=cj rk:=rfl
@[simp] theorem Mc{m:Mi}{o:Ex}{es:Exs}:ev ks (.mt m o es) sl st=md (qO m) (qN m) (ev ks o) (d8 ks es) sl st:=rfl
@[simp] theorem Mf:ev ks .dn sl st=some (.ref st.length,st++[.dK []]):=rfl
@[simp] theorem LQ{a:Ex}:ev ks (.mnd a) sl st=(ev ks a sl st).bind fun p=>cj nh [p.1] p.2:=by
 show(fx (ev ks a) fb sl st).bind _=_;unfold fx fb;cases ev ks a sl st<;>rfl
@[simp] theorem LP{a k:Ex}:ev ks (.mnk a k) sl st=qg (ev ks a) (ev ks k) sl st:=rfl
@[simp] theorem Mx{es:Exs}:i7 ks (.li es) sl st=(d8 ks es sl st).bind fun p=>if cA p.1.length=true then some p else none:=rfl
@[simp] theorem vd{a b:Ex}:i7 ks (.cat a b) sl st=qK (ev ks a) (ev ks b) sl st:=rfl
@[simp] theorem Hq{es:Exs}{b:Ex}:i7 ks (.rep es b) sl st=ve (d8 ks es) (ev ks b) sl st:=rfl
@[simp] theorem Mw{a:Ex}{l h:Ox}:i7 ks (.sl a l h) sl st=lI (ev ks a) (rL ks l) (rL ks h) sl st:=rfl
@[simp] theorem L4{a:Ex}:i7 ks (.lof a) sl st=oP (ev ks a) sl st:=rfl
@[simp] theorem L3{a:Ex}:i7 ks (.lr1 a) sl st=vg (ev ks a) sl st:=rfl
@[simp] theorem L1{a b:Ex}:i7 ks (.lr2 a b) sl st=vf (ev ks a) (ev ks b) sl st:=rfl
@[simp] theorem Fe{k:Nat}{it:Ix}{t:Tg}{c:Cx'}{e:Ex}:i7 ks (.lc k it t c e) sl st=(dO ks it sl st).bind fun p=>if cA p.1.MW.length=true then gH p.1.gd (b8 ks t) (i8 ks c) (ev ks e) (sl++List.replicate k none) p.1.MW p.2 else none:=rfl
@[simp] theorem Mv:rL ks .no sl st=some (none,st):=rfl
@[simp] theorem Mu{e:Ex}:rL ks (.so e) sl st=lF (ev ks e) sl st:=rfl
@[simp] theorem MG:i8 ks .no sl st=some (true,st):=rfl
@[simp] theorem ME{t:Tx}:i8 ks (.so t) sl st=tv ks t sl st:=rfl
@[simp] theorem MQ{a:Ex}:dO ks (.e a) sl st=(ev ks a sl st).bind fun p=>(ny p.2 p.1).map fun iv=>(iv,p.2):=rfl
@[simp] theorem MA{a:Ex}:dO ks (.r1 a) sl st=xh (ev ks a) sl st:=rfl
@[simp] theorem Mz{a b:Ex}:dO ks (.r2 a b) sl st=Bj (ev ks a) (ev ks b) sl st:=rfl
@[simp] theorem My{a b:Ex}:dO ks (.zi a b) sl st=iZ (ev ks a) (ev ks b) sl st:=rfl
@[simp] theorem Kg{a:Ex}:dO ks (.en a) sl st=(ev ks a sl st).bind fun p=>(iy p.2 p.1).map fun iv=>(⟨eN 0 iv.MW,iv.gd⟩,p.2):=rfl
@[simp] theorem MB{a b:Ex}:dO ks (.es a b) sl st=vB (ev ks a) (ev ks b) sl st:=rfl
@[simp] theorem Au{k:Nat}{x:AV}:b8 ks (.nm k) x sl st=some (sl.set k (some x),st):=rfl
@[simp] theorem MC{n:Nat}{ts:Tgs}{x:AV}:b8 ks (.tu n ts) x sl st=xn n (jn ks ts) x sl st:=rfl
@[simp] theorem MD{a b:Ex}{x:AV}:b8 ks (.su a b) x sl st=(ev ks a sl st).bind fun p=>(ev ks b sl p.2).bind fun q=>(jL q.2 p.1 q.1 x).map fun st'=>(sl,st'):=rfl
@[simp] theorem Li{xs:List AV}:jn ks .nil xs sl st=FT xs sl st:=rfl
@[simp] theorem KD{t:Tg}{ts:Tgs}{xs:List AV}:jn ks (.cons t ts) xs sl st=FX (b8 ks t) (jn ks ts) xs sl st:=rfl
@[simp] theorem Mh{e:Ex}:tv ks (.va e) sl st=(ev ks e sl st).bind fun p=>(eR p.2 p.1).map fun b=>(b,p.2):=rfl
@[simp] theorem uw{o:CmpOp}{a b:Ex}:tv ks (.cmp o a b) sl st=(ev ks a sl st).bind fun p=>(ev ks b sl p.2).bind fun q=>(bh o q.2 p.1 q.1).map fun b=>(b,q.2):=rfl
@[simp] theorem Ml{t:Tx}:tv ks (.no t) sl st=(tv ks t sl st).bind fun p=>some (!p.1,p.2):=rfl
@[simp] theorem Mm{t u:Tx}:tv ks (.an t u) sl st=(tv ks t sl st).bind fun p=>if p.1=true then tv ks u sl p.2 else some (false,p.2):=rfl
@[simp] theorem Mj{t u:Tx}:tv ks (.or t u) sl st=(tv ks t sl st).bind fun p=>if p.1=true then some (true,p.2) else tv ks u sl p.2:=rfl
@[simp] theorem LO:ah ks .nil sl st=some (.nx sl st):=rfl
def iq(o:Out)(k:Sl->aa->Option Out):Option Out:=match o with
 |.nx sl st=>k sl st
 |o=>some o
@[simp] theorem wL{k:Sl->aa->Option Out}:iq (.nx sl st) k=k sl st:=rfl
@[simp] theorem wK{v:AV}{k:Sl->aa->Option Out}:iq (.rt v st) k=some (.rt v st):=rfl
@[simp] theorem Lc{k:Sl->aa->Option Out}:iq (.bk sl st) k=some (.bk sl st):=rfl
@[simp] theorem Lb{k:Sl->aa->Option Out}:iq (.ct sl st) k=some (.ct sl st):=rfl
@[simp] theorem kh{s:Sx}{ss:M6}:ah ks (.cons s ss) sl st=(cS ks s sl st).bind fun o=>iq o (ah ks ss):=by
 show(cS ks s sl st).bind _=(cS ks s sl st).bind _;congr 1
@[simp] theorem yt{e:Ex}:cS ks (.ex e) sl st=(ev ks e sl st).bind fun p=>some (.nx sl p.2):=rfl
@[simp] theorem fR{e:Ex}{t:Tg}:cS ks (.as e t) sl st=(ev ks e sl st).bind fun p=>(b8 ks t p.1 sl p.2).bind fun q=>some (.nx q.1 q.2):=rfl
@[simp] theorem GR{o:Operator}{a b e:Ex}:cS ks (.aus o a b e) sl st=uH o (ev ks a) (ev ks b) (ev ks e) sl st:=rfl
@[simp] theorem Mn{c f:Str}{o e:Ex}:cS ks (.fl c f o e) sl st=wm c f (ev ks o) (ev ks e) sl st:=rfl
@[simp] theorem qz{e:Ex}:cS ks (.rt e) sl st=(ev ks e sl st).bind fun p=>some (.rt p.1 p.2):=rfl
@[simp] theorem iP{t:Tx}{a b:M6}:cS ks (.iff t a b) sl st=(tv ks t sl st).bind fun p=>if p.1=true then ah ks a sl p.2 else ah ks b sl p.2:=rfl
@[simp] theorem km{it:Ix}{t:Tg}{b:M6}:cS ks (.fo it t b) sl st=(dO ks it sl st).bind fun p=>di p.1.gd (b8 ks t) (ah ks b) p.1.MW sl p.2:=rfl
@[simp] theorem LU{a:Ex}{t:Tg}{b:M6}:cS ks (.fd a t b) sl st=uF (ev ks a) (b8 ks t) (ah ks b) sl st:=rfl
@[simp] theorem JT{t:Tx}{b:M6}:cS ks (.wh t b) sl st=lE (tv ks t) (ah ks b) sl st:=rfl
@[simp] theorem K6:cS ks .dead sl st=none:=rfl
def aw(o:Out):Option (AV×aa):=match o with
 |.rt v st=>some (v,st)
 |.nx _ st=>some (.non,st)
 |_=>none
@[simp] theorem Lk{v:AV}:aw (.rt v st)=some (v,st):=rfl
@[simp] theorem Ll:aw (.nx sl st)=some (.non,st):=rfl
theorem aA{n:Nat}{b:M6}{args:List AV}:R.run n (ah ks b) args st=(ah ks b (args.map some++List.replicate (n-args.length) none) st).bind aw:=by
 unfold R.run;congr 1
end
@[simp] theorem LV:rfs []=true:=rfl
@[simp] theorem LX{x:AV}{xs:List AV}:rfs (x::xs)=(rf x&&rfs xs):=by simp only[rfs]
@[simp] theorem Mr{i:Int}:rf (.int i)=true:=rfl
@[simp] theorem Mt{i:Bool}:rf (.bl i)=true:=rfl
@[simp] theorem Mp{i:Str}:rf (.str i)=true:=rfl
@[simp] theorem Mq:rf .non=true:=rfl
@[simp] theorem Ms{xs:List AV}:rf (.fz xs)=true:=rfl
@[simp] theorem Mo{xs:List AV}:rf (.tup xs)=rfs xs:=by simp only[rf]
section
variable{st:aa}{a b:Int}
theorem Bo:kb st (.int a) (.int b)=some (decide (a=b)):=by
 show(if pyOk (.int a) (.int b)=true then some (PyData.eqv (.int a) (.int b)) else none)=_;rw[yI (by simp[pyOk,PyData.canLay0,PyData.depth])];congr 1
@[simp] theorem MM:bh .Eq st (.int a) (.int b)=some (decide (a=b)):=Bo
@[simp] theorem Ku:bh .NotEq st (.int a) (.int b)=some (!decide (a=b)):=by show((kb st (.int a) (.int b)).map fun x=>!x)=_;rw[Bo];rfl
@[simp] theorem MH:bh .Lt st (.int a) (.int b)=some (decide (a<b)):=rfl
@[simp] theorem MJ:bh .LtE st (.int a) (.int b)=some (decide (a<=b)):=rfl
@[simp] theorem MK:bh .Gt st (.int a) (.int b)=some (decide (b<a)):=rfl
@[simp] theorem ML:bh .GtE st (.int a) (.int b)=some (decide (b<=a)):=rfl
@[simp] theorem MR{o:CmpOp}{x y:AV}:mI o st x y=(bh o st x y).map .bl:=rfl
@[simp] theorem L5:bh .Is st .non .non=some true:=rfl
@[simp] theorem L6:bh .Is st (.int a) .non=some false:=rfl
@[simp] theorem Ln:bh .IsNot st .non .non=some false:=rfl
@[simp] theorem Lo:bh .IsNot st (.int a) .non=some true:=rfl
@[simp] theorem L7:aQ .Add st (.int a) (.int b)=some (.int (a+b)):=rfl
@[simp] theorem Iq:aQ .Sub st (.int a) (.int b)=some (.int (a-b)):=rfl
theorem aZ(h:cE a b=true):aQ .Mult st (.int a) (.int b)=some (.int (a*b)):=by
 show(if cE a b=true then _ else _:Option Int).map _=_;rw[yI h];rfl
theorem lu(h:dR b=true):aQ .FloorDiv st (.int a) (.int b)=some (.int (tX a b)):=by
 show(if dR b=true then _ else _:Option Int).map _=_;rw[yI h];rfl
theorem ib(h:b≠0):aQ .Mod st (.int a) (.int b)=some (.int (pH a b)):=by
 show(if b=0 then _ else _:Option Int).map _=_;rw[yH h];rfl
@[simp] theorem LS:lD .USub st (.int a)=some (.int (-a)):=rfl
theorem cm{x y:Int}(h1:x.natAbs<2^9000)(h2:y.natAbs<2^9000):cE x y=true:=by
 have lg:∀z:Nat,z<2^9000->Nat.ble z.log2 1000000=true:=fun z hz=>by
  by_cases h0:z=0
  ·subst h0;rfl
  ·exact yL (z5 (yZ ((Nat.log2_lt h0).mpr hz)) oM)
 unfold cE;rw[lg _ h1,lg _ h2,Bool.and_true,Bool.or_true]
theorem rQ{y:Int}(h0:y≠0)(h2:y.natAbs<2^9000):dR y=true:=by
 unfold dR;have:Nat.ble y.natAbs.log2 8999=true:=yL (by have:=(Nat.log2_lt (n:=y.natAbs) oM).mpr h2;lia);rw[this];simp[h0]
end
open SX (Sh gI)
noncomputable def iL(l:List Int):List AV:=l.map .int
abbrev Is(x:Int):Option AV:=some (.int x)
abbrev Rs(x:Nat):Option AV:=some (.ref x)
abbrev Zs(x:List AV):Option AV:=some (.fz x)
abbrev Ls(x:List Int):Option AV:=some (.fz (iL x))
noncomputable def nL(l:List Nat):List AV:=l.map fun q=>.int ((q:Nat):Int)
def kL(l:List Nat):List (aT×AV):=l.map fun q=>(.inl ((q:Nat):Int),.bl true)
def cV(d:Int)(a b c g n u:Nat):List (Str×AV):=[("below",.int d),("lines",.ref a),("heads",.ref b),("sides",.ref c),("guarded",.ref g),("nailed",.ref n),("turned",.ref u)]
section
variable{d:Int}{a b c g n u:Nat}
@[simp] theorem Kb:(cV d a b c g n u).lookup ("below":Str)=some (AV.int d):=rfl
@[simp] theorem J9:(cV d a b c g n u).lookup ("lines":Str)=some (AV.ref a):=rfl
@[simp] theorem Ka:(cV d a b c g n u).lookup ("heads":Str)=some (AV.ref b):=rfl
@[simp] theorem J8:(cV d a b c g n u).lookup ("sides":Str)=some (AV.ref c):=rfl
@[simp] theorem Hx:(cV d a b c g n u).lookup ("guarded":Str)=some (AV.ref g):=rfl
@[simp] theorem IW:(cV d a b c g n u).lookup ("nailed":Str)=some (AV.ref n):=rfl
@[simp] theorem IV:(cV d a b c g n u).lookup ("turned":Str)=some (AV.ref u):=rfl
@[simp] theorem Ai:(cV d a b c g n u).lookup ("loose_columns":Str)=none:=rfl
@[simp] theorem xZ:(cV d a b c g n u).lookup ("raising_column":Str)=none:=rfl
@[simp] theorem xY:(cV d a b c g n u).lookup ("tightest_place":Str)=none:=rfl
@[simp] theorem Dm:(cV d a b c g n u).lookup ("is_tighter":Str)=none:=rfl
@[simp] theorem C1:(cV d a b c g n u).lookup ("is_up_first":Str)=none:=rfl
@[simp] theorem GD:(cV d a b c g n u).lookup ("exchange":Str)=none:=rfl
@[simp] theorem KC:(cV d a b c g n u).lookup ("lift":Str)=none:=rfl
@[simp] theorem GE:(cV d a b c g n u).lookup ("drive_up":Str)=none:=rfl
@[simp] theorem Ah:(cV d a b c g n u).lookup ("moving_column":Str)=none:=rfl
@[simp] theorem J7:(cV d a b c g n u).lookup ("guard":Str)=none:=rfl
@[simp] theorem KB:(cV d a b c g n u).lookup ("nail":Str)=none:=rfl
@[simp] theorem Fv:(cV d a b c g n u).lookup ("turn_line":Str)=none:=rfl
end
def RowR(st:aa)(x:AV)(l:List Int):Prop:=x=.fz (iL l)\/∃r,x=.ref r/\(st[r]?=some (.lst (iL l))\/st[r]?=some (.al (.fz (iL l))))
structure Rep(st:aa)(k a b c g n u:Nat)(rows:List AV)(S:Sh):Prop where
 hk:st[k]?=some (.ins "Sheet" (cV S.d a b c g n u))
 ha:st[a]?=some (.lst rows)
 hb:st[b]?=some (.lst (nL S.hd))
 hc:st[c]?=some (.lst (nL S.sd))
 hg:st[g]?=some (.dK (kL S.gd))
 hn:st[n]?=some (.dK (kL S.nl))
 hu:st[u]?=some (.dK (kL S.tn))
 len:rows.length=S.ls.length
 row:∀i x,rows[i]?=some x->RowR st x (SX.row S i)
 ab:a≠b
 ac:a≠c
 bc:b≠c
 gn:g≠n
 gu:g≠u
 nu:n≠u
 ra:∀(i r:Nat),rows[i]?=some (.ref r)->r≠a/\r≠b/\r≠c
section
variable{st:aa}{x:AV}{xs:List AV}{l:List Int}{i:Int}
theorem RowR.ls(h:RowR st x l):bO st x=some (iL l):=by
 rcases h with rfl|⟨r,rfl,h|h⟩
 ·rfl
 ·unfold bO dr;simp only[h]
 ·unfold bO dr;simp only[h]
theorem cP(h:bO st x=some xs):aP st x (.int i)=gf xs i:=by
 have hd:mH st x (.int i)=none:=by
  unfold mH;have h1:ja st x=none:=by
   cases x<;>first|rfl|skip
   rename_i k;unfold bO dr at h;unfold ja;dsimp only at h ⊢;cases e:st[k]? with
   |none=>rfl
   | some c=>cases c <;> first | rfl | (rw [e] at h;simp only [e] at h;cases h)
  have h2:lU st x=none:=by
   cases x<;>first|rfl|skip
   rename_i k;unfold bO dr at h;unfold lU;dsimp only at h ⊢;cases e:st[k]? with
   |none=>rfl
   | some c=>cases c <;> first | rfl | (rw [e] at h;simp only [e] at h;cases h)
  rw[h1,h2]
 unfold aP;rw[hd];dsimp only;rw[h]
theorem cF{α:Type}{xs:List α}{j:Nat}:gf xs ((j:Nat):Int)=xs[j]?:=by
 unfold gf lM;rw[yI oM];by_cases h:j<xs.length
 ·rw[yI oM];simp
 ·rw[yH oM,List.getElem?_eq_none oM];rfl
theorem o8{α:Type}{xs:List α}{n:Nat}(h:xs.length=n+1):gf xs (-1)=xs[n]?:=by
 unfold gf lM;rw[yH oM,yI oM,h,bind_some];congr 1;lia
theorem ce{j:Nat}(h:j<l.length):(iL l)[j]?=some (.int (gI l j)):=by
 unfold iL gI;simp[h,zD]
theorem gj{l:List Nat}{j:Nat}(h:j<l.length):(nL l)[j]?=some (.int ((l.getD j 0:Nat):Int)):=by
 unfold nL;simp[h,zD]
theorem bK{k:Nat}(h:st[k]?=some (.lst xs)):bO st (.ref k)=some xs:=by unfold bO dr;simp only[h]
theorem tM{g:Nat}{l:List Nat}{q:Nat}(h:st[g]?=some (.dK (kL l))):rp st (.int q) (.ref g)=some (decide (q∈l)):=by
 unfold rp mH ja;simp only[h,jP,map_some];congr 1;unfold mr kL;rw[Option.isSome_map,List.find?_map,Option.isSome_map,Bool.eq_iff_iff,List.isSome_find?,List.any_eq_true];simp[Int.ofNat_inj]
end
noncomputable def kn(rows:List AV)(i:Nat):AV:=rows.getD i .non
section
variable{st:aa}{k a b c g n u w m:Nat}{rows:List AV}{S:Sh}{i j:Nat}
theorem Rep.ins(R:Rep st k a b c g n u rows S):jl st "Sheet" (.ref k)=some (cV S.d a b c g n u):=by
 unfold jl;simp only[R.hk];rfl
theorem Rep.rx(R:Rep st k a b c g n u rows S)(P:SX.M5 w m S)(hi:i<m):rows[i]?=some (kn rows i):=by
 have:i<rows.length:=by rw[R.len,P.ls];exact hi
 unfold kn;rw[zD,zF this];rfl
theorem Rep.line(R:Rep st k a b c g n u rows S)(P:SX.M5 w m S)(hi:i<m):aP st (.ref a) (.int (i:Int))=some (kn rows i):=by
 rw[cP (bK R.ha),cF];exact R.rx P hi
theorem Rep.rowl(R:Rep st k a b c g n u rows S)(P:SX.M5 w m S)(hi:i<m):bO st (kn rows i)=some (iL (SX.row S i)):=(R.row i _ (R.rx P hi)).ls
theorem Rep.cell(R:Rep st k a b c g n u rows S)(P:SX.M5 w m S)(hi:i<m)(hj:j<w+1):aP st (kn rows i) (.int (j:Int))=some (.int (S.t i j)):=by
 rw[cP (R.rowl P hi),cF,ce (by rw[P.rl hi];exact hj)];rfl
theorem Rep.last(R:Rep st k a b c g n u rows S)(P:SX.M5 w m S)(hi:i<m):aP st (kn rows i) (.int (-1))=some (.int (S.t i w)):=by
 rw[cP (R.rowl P hi),o8 (n:=w) (by unfold iL;rw[zH];exact P.rl hi),ce (by rw[P.rl hi];lia)];rfl
theorem Rep.side(R:Rep st k a b c g n u rows S)(P:SX.M5 w m S)(hi:i<m):aP st (.ref c) (.int (i:Int))=some (.int (S.s i:Int)):=by
 rw[cP (bK R.hc),cF,gj (by rw[P.sd];exact hi)];rfl
theorem Rep.head(R:Rep st k a b c g n u rows S)(P:SX.M5 w m S)(hj:j<w):aP st (.ref b) (.int (j:Int))=some (.int (S.h j:Int)):=by
 rw[cP (bK R.hb),cF,gj (by rw[P.hd];exact hj)];rfl
theorem Rep.ing(R:Rep st k a b c g n u rows S){q:Nat}:bh .In st (.int q) (.ref g)=some (decide (q∈S.gd)):=tM R.hg
theorem Rep.nin(R:Rep st k a b c g n u rows S){q:Nat}:bh .NotIn st (.int q) (.ref n)=some (!decide (q∈S.nl)):=by show(rp st _ _).map _=_;rw[tM R.hn];rfl
end
theorem gq{α:Type}{em:α->AV}{B:α->Bool}{F:α->AV}(hg:cp gd st=true):∀{xs:List α},(∀x∈xs,∃sl1,g (em x) sl st=some (sl1,st)/\t sl1 st=some (B x,st)/\(B x=true->f sl1 st=some (F x,st)))->gH gd g t f sl (xs.map em) st=some ((xs.filter B).map F,st)
 |[],_=>by show(if cp gd st=true then _ else _)=_;rw[yI hg];rfl
 |x::xs,h=>by
  obtain⟨sl1,h1,h2,h3⟩:=h x z7;have ih:=gq hg (xs:=xs) fun y hy=>h y (zQ _ hy)
  show(if cp gd st=true then(g (em x) sl st).bind _ else none)=_;rw[yI hg,h1,bind_some];dsimp only;rw[h2,bind_some];cases hB:B x with
  |true=>rw[yI rfl];dsimp only;rw[h3 hB,bind_some];dsimp only;rw[ih,List.filter_cons,hB];rfl
  |false=>rw[yH (by simp)];dsimp only;rw[ih,List.filter_cons,hB];rfl
theorem ii:∀{xs:List AV},(∀x∈xs,rf x=true)->rfs xs=true
 |[],_=>rfl
 |x::xs,h=>by simp only[rfs,zC];exact⟨h x z7,ii fun y hy=>h y (zQ _ hy)⟩
theorem yx:rfs (iL l)=true:=ii fun x hx=>by obtain⟨i,_,rfl⟩:=yD.mp hx;rfl
theorem my:rfs (nL l)=true:=ii fun x hx=>by obtain⟨i,_,rfl⟩:=yD.mp hx;rfl
mutual
theorem xN:∀(x:AV),cU x x=true
 |.non=>rfl
 |.bl _=>by simp[cU]
 |.int _=>by simp[cU]
 |.str _=>by simp[cU]
 |.ref _=>by simp[cU]
 |.tup a=>by simp only[cU];exact jd a
 |.fz a=>by simp only[cU];exact jd a
theorem jd:∀(xs:List AV),fY xs xs=true
 |[]=>rfl
 |x::xs=>by simp only[fY,xN x,jd xs,Bool.and_self]
end
theorem gw{k:Nat}(h:st[k]?=some (.lst xs)):cp [(k,.lst xs)] st=true:=by
 simp only[cp,h,vJ,jd,Bool.and_self]
theorem Ia:eN 0 (nL l)=l.zipIdx.map fun z=>.tup [.int ((z.2:Nat):Int),.int ((z.1:Nat):Int)]:=by
 unfold eN nL;rw[List.zipIdx_map,List.map_map];rfl
@[simp] theorem K2:iO st (.tup xs)=some xs:=rfl
@[simp] theorem Lg:ny st (.fz xs)=some ⟨xs,[]⟩:=rfl
@[simp] theorem FI:iy st (.fz xs)=some ⟨xs,[]⟩:=rfl
@[simp] theorem fU:bO st (.fz xs)=some xs:=rfl
theorem jy{k:Nat}(h:st[k]?=some (.lst xs)):iy st (.ref k)=some ⟨xs,[(k,.lst xs)]⟩:=by
 unfold iy dr;simp only[h]
theorem oT{k:Nat}(h:st[k]?=some (.lst xs)):ny st (.ref k)=some ⟨xs,[(k,.lst xs)]⟩:=by
 have:iO st (.ref k)=none:=by unfold iO dr;simp only[h]
 unfold ny;dsimp only;rw[this];exact jy h
@[simp] theorem fN:cp [] st=true:=rfl
theorem tL:k4 (nL l)=some (l.map fun q=>((q:Nat):Int)):=by
 unfold k4 nL;exact d7 (f:=fun x=>match x with|.int i=>some i|_=>none) (i:=fun q:Nat=>AV.int q) (g:=fun q=>((q:Nat):Int)) (fun _=>rfl) l
noncomputable def oN:Option Nat->AV
 |none=>.non
 |some c=>.int (c:Int)
noncomputable def bW(S:Sh):List Nat:=(S.hd.zipIdx.filter fun z=>!decide (z.1∈S.nl)).map (·.2)
theorem iR{w m:Nat}(P:SX.M5 w m S){j:Nat}:j∈bW S ↔ j<w/\S.h j∉S.nl:=by
 unfold bW;simp only[yD,List.mem_filter,Prod.exists];constructor
 ·rintro⟨q,i,⟨h1,h2⟩,rfl⟩
  have h3:=List.mem_zipIdx' h1;have hi:i<S.hd.length:=h3.1;refine⟨by rw[<- P.hd];exact hi,?_⟩;have:S.h i=q:=by
   show S.hd.getD i 0=q;rw[zD,zF hi,h3.2];rfl
  rw[this];simpa using h2
 ·rintro⟨h1,h2⟩
  have hi:j<S.hd.length:=by rw[P.hd];exact h1
  refine⟨S.h j,j,⟨?_,by simpa using h2⟩,rfl⟩;have e:S.h j=S.hd[j]:=by
   show S.hd.getD j 0=_;rw[zD,zF hi];rfl
  rw[e,List.mem_zipIdx_iff_getElem?];exact zF hi
theorem cg{n:Nat}(h:n<=1000):cA n=true:=yL oM
theorem Gp{key:Nat->Nat}:∃o:Option Nat,pb ((l.map fun q=>((q:Nat):Int)).zip (l.map fun q=>((key q:Nat):Int)))=oN o/\(o=none->l=[])/\∀c,o=some c->c∈l/\∀j∈l,key c<=key j:=by
 cases l with
 |nil=>exact⟨none,rfl,fun _=>rfl,fun c h=>nomatch h⟩
 |cons x l =>
  have hz:((x::l).map fun q=>((q:Nat):Int)).zip ((x::l).map fun q=>((key q:Nat):Int))=(x::l).map fun q=>(((q:Nat):Int),((key q:Nat):Int)):=by
   generalize x::l=ys
   induction ys with
   |nil=>rfl
   |cons y ys ih=>simp only[zO,List.zip_cons_cons,ih]
  rw[hz];obtain⟨i,κ,h1,h2⟩:=lA (l.map fun q=>(((q:Nat):Int),((key q:Nat):Int))) (x:Int) (key x:Int);rw[<- zO (f:=fun q:Nat=>(((q:Nat):Int),((key q:Nat):Int)))]at h1 h2;rw[zR]at h1;obtain⟨c,hc,e⟩:=zE.mp h1;injection e with e1 e2;refine⟨some c,?_,(fun h=>nomatch h),fun c' h=>?_⟩
  ·show AV.int _=AV.int _
   rw[e1]
  ·cases h
   refine⟨zW hc,fun j hj=>?_⟩;obtain⟨t,ht⟩:=z9 hj
   have:=(h2 t ((j:Int),(key j:Int)) (by rw[zR,ht];rfl)).1
   rw[<- e2]at this;have:((key c:Nat):Int)<=((key j:Nat):Int):=this;lia
theorem Fq{l:List Nat}{key:EF}{sl:Sl}{st:aa}{f:Nat->Nat}(h:∀q∈l,key (sl++[Is ((q:Nat):Int)]) st=some (.int ((f q:Nat):Int),st)):bH (wZ key sl st) (l.map fun q=>((q:Nat):Int))=some (l.map fun q=>((f q:Nat):Int)):=by
 induction l with
 |nil=>rfl
 |cons x l ih =>
  have h1:wZ key sl st (x:Int)=some ((f x:Nat):Int):=by unfold wZ;rw[h x z7]
  simp only[zO,bH,h1,ih fun q hq=>h q (zQ _ hq),bind_some,map_some]
def fk(gd:Gd)(g:GF)(s:SF)(xs:List AV):Out->Option Out
 |.nx sl st=>di gd g s xs sl st
 |.ct sl st=>di gd g s xs sl st
 |.bk sl st=>some (.nx sl st)
 |.rt v st=>some (.rt v st)
theorem xu(hg:cp gd st=true)(h1:g x sl st=some p)(h2:s p.1 p.2=some o):di gd g s (x::xs) sl st=fk gd g s xs o:=by
 show(if cp gd st=true then(g x sl st).bind _ else none)=_;rw[yI hg,h1,bind_some,h2,bind_some];cases o<;>rfl
theorem k6{gd:Gd}{g:GF}{s:SF}{I:Nat->Sl->aa->Prop}{Post:AV->aa->Prop}{xs:List AV}(hg:∀i sl st,i<=xs.length->I i sl st->cp gd st=true)
  (h:∀i x sl st,xs[i]?=some x->I i sl st->∃p o,g x sl st=some p/\s p.1 p.2=some o/\((∃sl2 st2,o=.nx sl2 st2/\I (i+1) sl2 st2)\/∃v st2,o=.rt v st2/\Post v st2)) :
  ∀{sl:Sl}{st:aa},I 0 sl st->(∃sl' st',di gd g s xs sl st=some (.nx sl' st')/\I xs.length sl' st')\/∃v st',di gd g s xs sl st=some (.rt v st')/\Post v st':=by
 have go:∀(r:Nat)(j:Nat){sl:Sl}{st:aa},j+r=xs.length->I j sl st->(∃sl' st',di gd g s (xs.drop j) sl st=some (.nx sl' st')/\I xs.length sl' st')\/∃v st',di gd g s (xs.drop j) sl st=some (.rt v st')/\Post v st':=fun r=>by
  induction r with
  |zero =>
   intro j sl st hj hI;left;rw[List.drop_of_length_le oM];refine⟨sl,st,?_,by rw[show xs.length=j by lia];exact hI⟩;show(if cp gd st=true then _ else _)=_;rw[yI (hg j sl st oM hI)]
  |succ r ih =>
   intro j sl st hj hI;have hl:j<xs.length:=by lia
   obtain⟨p,o,h1,h2,h3⟩:=h j xs[j] sl st (zF hl) hI;rw[List.drop_eq_getElem_cons hl];have e:=xu (xs:=xs.drop (j+1)) (hg j sl st oM hI) h1 h2;rw[e];rcases h3 with⟨sl2,st2,rfl,h3⟩|⟨v,st2,rfl,h3⟩
   ·exact ih (j+1) oM h3
   ·exact .inr ⟨v,st2,rfl,h3⟩
 intro sl st h0
 have:=go xs.length 0 oM h0
 rw[List.drop_zero]at this;exact this
theorem eJ{gd:Gd}{g:GF}{s:SF}{I:Nat->Sl->aa->Prop}{xs:List AV}(hg:∀i sl st,i<=xs.length->I i sl st->cp gd st=true)
  (h:∀i x sl st,xs[i]?=some x->I i sl st->∃p sl2 st2,g x sl st=some p/\s p.1 p.2=some (.nx sl2 st2)/\I (i+1) sl2 st2) {sl:Sl}{st:aa} (h0:I 0 sl st):∃sl' st',di gd g s xs sl st=some (.nx sl' st')/\I xs.length sl' st':=by
 rcases k6 (Post:=fun _ _=>False) hg (fun i x sl st hx hI=>by
  obtain⟨p,sl2,st2,a,b,c⟩:=h i x sl st hx hI;exact⟨p,_,a,b,.inl ⟨sl2,st2,rfl,c⟩⟩) h0 with h|⟨_,_,_,h⟩
 ·exact h
 ·exact h.elim
theorem nY{i:Nat}(h:(eN 0 xs)[i]?=some y):∃x,xs[i]?=some x/\y=.tup [.int ((i:Nat):Int),x]:=by
 unfold eN at h;rw[zR]at h;obtain⟨z,h1,rfl⟩:=zE.mp h;rw[List.getElem?_zipIdx]at h1;obtain⟨x,h2,rfl⟩:=zE.mp h1;exact⟨x,h2,by simp⟩
theorem ld:(eN 0 xs).length=xs.length:=by unfold eN;simp
section
variable{st:aa}{k a b c g n u w m:Nat}{rows:List AV}{S:Sh}{i j q:Nat}{x:AV}{l:List Int}{e e':MT}
theorem au(h:q≠j):(st.set q e')[j]?=st[j]?:=by rw[yX];simp[h]
theorem fW(h:st[q]?=some e):(st.set q e')[q]?=some e':=by
 rw[yX];simp[(zB.mp h).1]
theorem ga(h:st[j]?=some e):(st++ys)[j]?=some e:=by
 rw[zN (zB.mp h).1];exact h
theorem gl:(st++[e])[st.length]?=some e:=by simp
theorem bB(h1:st[i]?=some e)(h2:st[j]?=some e')(h:e≠e'):i≠j:=fun z=>h (by rw[z,h2]at h1;injection h1 with h1;exact h1.symm)
theorem RowR.set(h:RowR st x l)(hq:∀r,x=.ref r->q≠r):RowR (st.set q e') x l:=by
 rcases h with h|⟨r,h1,h2⟩
 ·exact .inl h
 ·exact .inr ⟨r,h1,by rw[au (hq r h1)];exact h2⟩
theorem RowR.app(h:RowR st x l):RowR (st++ys) x l:=by
 rcases h with h|⟨r,h1,h2|h2⟩
 ·exact .inl h
 ·exact .inr ⟨r,h1,.inl (ga h2)⟩
 ·exact .inr ⟨r,h1,.inr (ga h2)⟩
theorem Rep.app(R:Rep st k a b c g n u rows S):Rep (st++ys) k a b c g n u rows S :=
 ⟨ga R.hk,ga R.ha,ga R.hb,ga R.hc,ga R.hg,ga R.hn,ga R.hu,R.len,fun i x h=>(R.row i x h).app,R.ab,R.ac,R.bc,R.gn,R.gu,R.nu,R.ra⟩
theorem Rep.rowk(R:Rep st k a b c g n u rows S){r:Nat}(h:rows[i]?=some (.ref r)):r≠k/\r≠g/\r≠n/\r≠u:=by
 have hr:=R.row i _ h;rcases hr with h|⟨r',h1,h2⟩
 ·cases h
 ·cases h1
  rcases h2 with h2|h2
  ·exact⟨bB h2 R.hk (fun z=>nomatch z),bB h2 R.hg (fun z=>nomatch z),bB h2 R.hn (fun z=>nomatch z),bB h2 R.hu (fun z=>nomatch z)⟩
  ·exact⟨bB h2 R.hk (fun z=>nomatch z),bB h2 R.hg (fun z=>nomatch z),bB h2 R.hn (fun z=>nomatch z),bB h2 R.hu (fun z=>nomatch z)⟩
theorem Rep.fields{a':Nat}(R:Rep st k a b c g n u rows S)(ha:st[a']?=some (.lst rows'))(hb:S'.hd=S.hd)(hc:S'.sd=S.sd)(hg:S'.gd=S.gd)(hn:S'.nl=S.nl)(hu:S'.tn=S.tn)(len:rows'.length=S'.ls.length)
  (row:∀i x,rows'[i]?=some x->RowR st x (SX.row S' i)) (ab:a'≠b) (ac:a'≠c) (ra:∀(i r:Nat),rows'[i]?=some (.ref r)->r≠a'/\r≠b/\r≠c):Rep (st.set k (.ins "Sheet" (cV S'.d a' b c g n u))) k a' b c g n u rows' S':=by
 have na:k≠a':=bB R.hk ha (fun z=>nomatch z);refine⟨fW R.hk,by rw[au na];exact ha,?_,?_,?_,?_,?_,len,fun i x h=>(row i x h).set fun r e=>?_,ab,ac,R.bc,R.gn,R.gu,R.nu,ra⟩
 ·rw[au (bB R.hk R.hb (fun z=>nomatch z)),hb];exact R.hb
 ·rw[au (bB R.hk R.hc (fun z=>nomatch z)),hc];exact R.hc
 ·rw[au (bB R.hk R.hg (fun z=>nomatch z)),hg];exact R.hg
 ·rw[au (bB R.hk R.hn (fun z=>nomatch z)),hn];exact R.hn
 ·rw[au (bB R.hk R.hu (fun z=>nomatch z)),hu];exact R.hu
 ·subst e
  rcases row i _ h with z|⟨r',h1,h2⟩
  ·cases z
  ·cases h1
   rcases h2 with h2|h2
   ·exact bB R.hk h2 (fun z=>nomatch z)
   ·exact bB R.hk h2 (fun z=>nomatch z)
theorem Rep.heads(R:Rep st k a b c g n u rows S):Rep (st.set b (.lst (nL hd'))) k a b c g n u rows { S with hd:=hd' } :=
 ⟨by rw[au (bB R.hb R.hk (fun z=>nomatch z))];exact R.hk,by rw[au (Ne.symm R.ab)];exact R.ha,fW R.hb,by rw[au R.bc];exact R.hc,by rw[au (bB R.hb R.hg (fun z=>nomatch z))];exact R.hg,by rw[au (bB R.hb R.hn (fun z=>nomatch z))];exact R.hn,
  by rw[au (bB R.hb R.hu (fun z=>nomatch z))];exact R.hu,R.len,fun i x h=>(R.row i x h).set fun r e=>Ne.symm (R.ra i r (by rw[<- e];exact h)).2.1,R.ab,R.ac,R.bc,R.gn,R.gu,R.nu,R.ra⟩
theorem Rep.sides(R:Rep st k a b c g n u rows S):Rep (st.set c (.lst (nL sd'))) k a b c g n u rows { S with sd:=sd' } :=
 ⟨by rw[au (bB R.hc R.hk (fun z=>nomatch z))];exact R.hk,by rw[au (Ne.symm R.ac)];exact R.ha,by rw[au (Ne.symm R.bc)];exact R.hb,fW R.hc,by rw[au (bB R.hc R.hg (fun z=>nomatch z))];exact R.hg,by rw[au (bB R.hc R.hn (fun z=>nomatch z))];exact R.hn,
  by rw[au (bB R.hc R.hu (fun z=>nomatch z))];exact R.hu,R.len,fun i x h=>(R.row i x h).set fun r e=>Ne.symm (R.ra i r (by rw[<- e];exact h)).2.2,R.ab,R.ac,R.bc,R.gn,R.gu,R.nu,R.ra⟩
theorem Rep.guard(R:Rep st k a b c g n u rows S):Rep (st.set g (.dK (kL gd'))) k a b c g n u rows { S with gd:=gd' } :=
 ⟨by rw[au (bB R.hg R.hk (fun z=>nomatch z))];exact R.hk,by rw[au (bB R.hg R.ha (fun z=>nomatch z))];exact R.ha,by rw[au (bB R.hg R.hb (fun z=>nomatch z))];exact R.hb,by rw[au (bB R.hg R.hc (fun z=>nomatch z))];exact R.hc,fW R.hg,by rw[au R.gn];exact R.hn,by rw[au R.gu];exact R.hu,
  R.len,fun i x h=>(R.row i x h).set fun r e=>Ne.symm (R.rowk (i:=i) (by rw[<- e];exact h)).2.1,R.ab,R.ac,R.bc,R.gn,R.gu,R.nu,R.ra⟩
theorem Rep.nail(R:Rep st k a b c g n u rows S):Rep (st.set n (.dK (kL nl'))) k a b c g n u rows { S with nl:=nl' } :=
 ⟨by rw[au (bB R.hn R.hk (fun z=>nomatch z))];exact R.hk,by rw[au (bB R.hn R.ha (fun z=>nomatch z))];exact R.ha,by rw[au (bB R.hn R.hb (fun z=>nomatch z))];exact R.hb,by rw[au (bB R.hn R.hc (fun z=>nomatch z))];exact R.hc,by rw[au (Ne.symm R.gn)];exact R.hg,fW R.hn,by rw[au R.nu];exact R.hu,
  R.len,fun i x h=>(R.row i x h).set fun r e=>Ne.symm (R.rowk (i:=i) (by rw[<- e];exact h)).2.2.1,R.ab,R.ac,R.bc,R.gn,R.gu,R.nu,R.ra⟩
theorem Rep.turned(R:Rep st k a b c g n u rows S):Rep (st.set u (.dK (kL tn'))) k a b c g n u rows { S with tn:=tn' } :=
 ⟨by rw[au (bB R.hu R.hk (fun z=>nomatch z))];exact R.hk,by rw[au (bB R.hu R.ha (fun z=>nomatch z))];exact R.ha,by rw[au (bB R.hu R.hb (fun z=>nomatch z))];exact R.hb,by rw[au (bB R.hu R.hc (fun z=>nomatch z))];exact R.hc,by rw[au (Ne.symm R.gu)];exact R.hg,by rw[au (Ne.symm R.nu)];exact R.hn,fW R.hu,
  R.len,fun i x h=>(R.row i x h).set fun r e=>Ne.symm (R.rowk (i:=i) (by rw[<- e];exact h)).2.2.2,R.ab,R.ac,R.bc,R.gn,R.gu,R.nu,R.ra⟩
theorem tx{p i:Nat}:SX.row { S with ls:=S.ls.set p l } i=if i=p/\p<S.ls.length then l else SX.row S i:=by
 unfold SX.row;simp only[zD,yX];by_cases h:i=p
 ·subst h
  by_cases h2:i<S.ls.length
  ·simp[h2]
  ·simp[h2]
 ·rw[yH fun z=>h z.symm,yH fun z=>h z.1]
theorem Rep.rowset{p:Nat}(R:Rep st k a b c g n u rows S)(hx:RowR st x l)(hr:∀r,x=.ref r->r≠a/\r≠b/\r≠c):Rep (st.set a (.lst (rows.set p x))) k a b c g n u (rows.set p x) { S with ls:=S.ls.set p l }:=by
 have hs:∀i y,(rows.set p x)[i]?=some y->(i=p/\p<rows.length/\y=x)\/(i≠p/\rows[i]?=some y):=fun i y h=>by
  rw[yX]at h;by_cases e:p=i
  ·rw[yI e]at h
   split at h
   ·cases h;exact .inl ⟨e.symm,by assumption,rfl⟩
   ·cases h
  ·rw[yH e]at h;exact .inr ⟨fun z=>e z.symm,h⟩
 refine⟨by rw[au (bB R.ha R.hk (fun z=>nomatch z))];exact R.hk,fW R.ha,by rw[au R.ab];exact R.hb,by rw[au R.ac];exact R.hc,by rw[au (bB R.ha R.hg (fun z=>nomatch z))];exact R.hg,by rw[au (bB R.ha R.hn (fun z=>nomatch z))];exact R.hn,
  by rw[au (bB R.ha R.hu (fun z=>nomatch z))];exact R.hu,by simp[R.len],fun i y h=>?_,R.ab,R.ac,R.bc,R.gn,R.gu,R.nu,fun i r h=>?_⟩
 ·rw[tx]
  rcases hs i y h with⟨h1,h2,rfl⟩|⟨h1,h2⟩
  ·rw[yI ⟨h1,by rw[<- R.len];exact h2⟩];exact hx.set fun r e=>Ne.symm (hr r e).1
  ·rw[yH fun z=>h1 z.1];exact(R.row i y h2).set fun r e=>Ne.symm (R.ra i r (by rw[<- e];exact h2)).1
 ·rcases hs i _ h with⟨h1,h2,h3⟩|⟨h1,h2⟩
  ·exact hr r h3.symm
  ·exact R.ra i r h2
theorem Rep.cellset{p r:Nat}(R:Rep st k a b c g n u rows S)(hp:rows[p]?=some (.ref r))(ho:∀i,i≠p->rows[i]?≠some (.ref r)):Rep (st.set r (.lst (iL l))) k a b c g n u rows { S with ls:=S.ls.set p l }:=by
 obtain⟨n1,n2,n3⟩:=R.ra p r hp;obtain⟨n4,n5,n6,n7⟩:=R.rowk hp;have hlt:p<S.ls.length:=by rw[<- R.len];exact(zB.mp hp).1
 refine⟨by rw[au n4];exact R.hk,by rw[au n1];exact R.ha,by rw[au n2];exact R.hb,by rw[au n3];exact R.hc,by rw[au n5];exact R.hg,by rw[au n6];exact R.hn,by rw[au n7];exact R.hu,by simp[R.len],fun i y h=>?_,R.ab,R.ac,R.bc,R.gn,R.gu,R.nu,R.ra⟩;rw[tx];by_cases e:i=p
 ·subst e
  rw[yI ⟨rfl,hlt⟩];rw[hp]at h;cases h;rcases R.row i _ hp with z|⟨r',h1,h2⟩
  ·cases z
  ·cases h1
   rcases h2 with h2|h2
   ·exact .inr ⟨r,rfl,.inl (fW h2)⟩
   ·exact .inr ⟨r,rfl,.inl (fW h2)⟩
 ·rw[yH fun z=>e z.1]
  exact(R.row i y h).set fun r' e' z=>ho i e (by rw[z,<- e'];exact h)
theorem Rep.freeze{r:Nat}(R:Rep st k a b c g n u rows S)(hp:rows[i]?=some (.ref r))(hr:st[r]?=some (.lst (iL l))):Rep (st.set r (.al (.fz (iL l)))) k a b c g n u rows S:=by
 obtain⟨n1,n2,n3⟩:=R.ra i r hp;obtain⟨n4,n5,n6,n7⟩:=R.rowk hp;refine⟨by rw[au n4];exact R.hk,by rw[au n1];exact R.ha,by rw[au n2];exact R.hb,by rw[au n3];exact R.hc,by rw[au n5];exact R.hg,by rw[au n6];exact R.hn,by rw[au n7];exact R.hu,R.len,fun j y h=>?_,R.ab,R.ac,R.bc,R.gn,R.gu,R.nu,R.ra⟩;rcases R.row j y h with z|⟨r',h1,h2⟩
 ·exact .inl z
 ·by_cases e:r=r'
  ·subst e
   refine .inr ⟨r,h1,.inr ?_⟩;rw[fW hr];rcases h2 with h2|h2
   ·rw[hr]at h2;injection h2 with h2;injection h2 with h2;rw[h2]
   ·rw[hr]at h2;cases h2
  ·exact .inr ⟨r',h1,by rw[au e];exact h2⟩
theorem RowR.it(h:RowR st x l):∃gd,ny st x=some ⟨iL l,gd⟩/\cp gd st=true:=by
 rcases h with rfl|⟨r,rfl,h|h⟩
 ·exact⟨[],rfl,rfl⟩
 ·exact⟨_,oT h,gw h⟩
 ·refine⟨[],?_,rfl⟩
  have:iO st (.ref r)=none:=by unfold iO dr;simp only[h]
  unfold ny;dsimp only;rw[this];unfold iy dr;simp only[h]
end
theorem wV{gd:Gd}{g:GF}{t:TF}{f:EF}{sl:Sl}{J:Nat->aa->Prop}{F:Nat->AV}{xs:List AV}(hg:∀i st,i<=xs.length->J i st->cp gd st=true)
  (h:∀i x st,xs[i]?=some x->J i st->∃sl1 st1,g x sl st=some (sl1,st)/\t sl1 st=some (true,st)/\f sl1 st=some (F i,st1)/\J (i+1) st1) {st:aa} (h0:J 0 st):∃st',gH gd g t f sl xs st=some ((List.range xs.length).map F,st')/\J xs.length st':=by
 have go:∀(r j:Nat){st:aa},j+r=xs.length->J j st->∃st',gH gd g t f sl (xs.drop j) st=some ((List.range' j r).map F,st')/\J xs.length st':=fun r=>by
  induction r with
  |zero =>
   intro j st hj hJ;rw[List.drop_of_length_le oM];refine⟨st,?_,by rw[show xs.length=j by lia];exact hJ⟩;show(if cp gd st=true then _ else _)=_;rw[yI (hg j st oM hJ)];rfl
  |succ r ih =>
   intro j st hj hJ;have hl:j<xs.length:=by lia
   obtain⟨sl1,st1,h1,h2,h3,h4⟩:=h j xs[j] st (zF hl) hJ;obtain⟨st',e,hJ'⟩:=ih (j+1) oM h4;refine⟨st',?_,hJ'⟩;rw[List.drop_eq_getElem_cons hl];show(if cp gd st=true then(g xs[j] sl st).bind _ else none)=_;rw[yI (hg j st oM hJ),h1,bind_some];dsimp only;rw[h2,bind_some,yI rfl];dsimp only;rw[h3,bind_some];dsimp only;rw[e];rfl
 obtain⟨st',e,hJ⟩:=go xs.length 0 oM h0;rw[List.drop_zero]at e;rw[<- List.range_eq_range']at e;exact⟨st',e,hJ⟩
@[simp] theorem gJ:(iL l).length=l.length:=by unfold iL;simp
@[simp] theorem qJ:(nL l).length=l.length:=by unfold nL;simp
@[simp] theorem dy:rfs (iL l)=true:=yx
theorem ff{q:Nat}{x:Int}:(iL l).set q (.int x)=iL (l.set q x):=by unfold iL;rw[List.map_set]
theorem wO{q x:Nat}:(nL l).set q (.int (x:Int))=nL (l.set q x):=by unfold nL;rw[List.map_set]
theorem wX{α:Type}{em:α->AV}{F:α->Int}{xs:List α}(hg:cp gd st=true)(h:∀x∈xs,∃sl1,g (em x) sl st=some (sl1,st)/\t sl1 st=some (true,st)/\f sl1 st=some (.int (F x),st)):gH gd g t f sl (xs.map em) st=some (iL (xs.map F),st):=by
 rw[gq (B:=fun _=>true) (F:=fun x=>.int (F x)) hg fun x hx=>by obtain⟨s,a,b,c⟩:=h x hx;exact⟨s,a,b,fun _=>c⟩];unfold iL;rw[List.map_map,List.filter_eq_self.mpr fun _ _=>rfl];rfl
theorem jO(hg:cp gd st=true)(h:∀x∈l,∃sl1,g (.int x) sl st=some (sl1,st)/\t sl1 st=some (true,st)/\f sl1 st=some (.int (F x),st)):gH gd g t f sl (iL l) st=some (iL (l.map F),st):=wX hg h
theorem db{k q:Nat}(h:st[k]?=some (.lst xs))(hq:q<xs.length):jL st (.ref k) (.int (q:Int)) x=some (st.set k (.lst (xs.set q x))):=by
 unfold jL;simp only[h];have:lM xs.length (q:Int)=some q:=by unfold lM;rw[yI oM,yI oM];simp
 rw[this];rfl
theorem oS{k q:Nat}(h:st[k]?=some (.dK (kL l)))(hl:l.length<=1000):jL st (.ref k) (.int (q:Int)) (.bl true)=some (st.set k (.dK (kL (if q∈l then l else l++[q])))):=by
 unfold jL;simp only[h,jP,bind_some];rw[yI (cg (by unfold kL;rw[zH];exact hl))];congr 2;unfold mz kL;by_cases hq:q∈l
 ·rw[yI hq,yI (by simp only[List.any_map,List.any_eq_true];exact⟨q,hq,by simp⟩),List.map_map]
  congr 1;refine List.map_congr_left fun x hx=>?_
  show(if _ then _ else _)=_;split
  ·rfl
  ·rfl
 ·rw[yH hq,yH (by
   simp only[List.any_map,List.any_eq_true,Function.comp];rintro⟨x,hx,e⟩;have:x=q:=by have:((x:Nat):Int)=((q:Nat):Int):=(by simpa using e);lia
   exact hq (this▸hx)),List.map_append]
  rfl
theorem ae(h:cS ks s sl st=some (.nx sl' st'))(h2:(ah ks ss sl' st').bind aw=r):(ah ks (.cons s ss) sl st).bind aw=r:=by
 rw[kh,h,bind_some,wL];exact h2
theorem ar(h:cS ks s sl st=some (.nx sl' st'))(h2:ah ks ss sl' st'=r):ah ks (.cons s ss) sl st=r:=by
 rw[kh,h,bind_some,wL];exact h2
theorem c4(h:cS ks s sl st=some (.rt v st')):(ah ks (.cons s ss) sl st).bind aw=some (v,st'):=by
 rw[kh,h,bind_some,wK];rfl
theorem b9(h:rfs args=true)(h1:fn args []=some (v,st'))(h2:d6 st' v=some t):pm fn args st=some (t,st):=by
 unfold pm;rw[yI h,h1,bind_some];dsimp only;rw[h2];rfl
section
variable{d:Int}{a b c g n u:Nat}
theorem zm{d':Int}:iQ "below" (.int d') (cV d a b c g n u)=cV d' a b c g n u:=rfl
theorem zl{a':Nat}:iQ "lines" (.ref a') (cV d a b c g n u)=cV d a' b c g n u:=rfl
theorem g8{k:Nat}(h1:ev ks e sl st=some (v,st'))(h2:ev ks o sl st'=some (.ref k,st'))(h3:jl st' cn (.ref k)=some fs)(h4:Nat.ble fs.length 900=true):cS ks (.fl cn f o e) sl st=some (.nx sl (st'.set k (.ins cn (iQ f v fs)))):=by
 show wm cn f (ev ks o) (ev ks e) sl st=_;unfold wm;rw[h1,bind_some];dsimp only;rw[h2,bind_some];dsimp only;rw[h3,bind_some,yI h4]
end
theorem sP{α:Type}{t:TF}{s:SF}{I:α->Sl->aa->Prop}{Q:α->α->Prop}{Post:Out->Prop}{a0:α}(hno:∀f:Nat->α,f 0=a0->(∀n,Q (f n) (f (n+1)))->False)
  (h:∀x sl st,I x sl st->(∃o,c7 t s 1 sl st=some o/\Post o)\/∃x' sl' st',Q x x'/\I x' sl' st'/\∀n o,c7 t s n sl' st'=some o->c7 t s (n+1) sl st=some o) {sl:Sl}{st:aa} (h0:I a0 sl st):∃o,lE t s sl st=some o/\Post o:=by
 apply Classical.byContradiction;intro hc
 let Bad:α×Sl×aa->Prop:=fun z=>I z.1 z.2.1 z.2.2/\¬∃n o,c7 t s n z.2.1 z.2.2=some o/\Post o
 have hb0:Bad (a0,sl,st):=⟨h0,fun⟨n,o,h1,h2⟩=>hc ⟨o,mQ h1,h2⟩⟩;have nx:∀z:{ z // Bad z },∃z':{ z // Bad z },Q z.1.1 z'.1.1:=fun hq0=>by
  obtain⟨z,hz⟩:=hq0;rcases h z.1 z.2.1 z.2.2 hz.1 with⟨o,h1,h2⟩|⟨x',sl',st',h1,h2,h3⟩
  ·exact absurd ⟨1,o,h1,h2⟩ hz.2
  ·exact⟨⟨(x',sl',st'),h2,fun⟨n,o,h4,h5⟩=>hz.2 ⟨n+1,o,h3 n o h4,h5⟩⟩,h1⟩
 let f:Nat->{ z // Bad z }:=fun n=>Nat.rec ⟨_,hb0⟩ (fun _ z=>Classical.choose (nx z)) n
 exact hno (fun n=>(f n).1.1) rfl fun n=>Classical.choose_spec (nx (f n))
theorem kR(h:t sl st=some (false,st')):c7 t s 1 sl st=some (.nx sl st'):=by
 show(t sl st).bind _=_;rw[h,bind_some,yH (by simp)]
theorem qp(h:t sl st=some (true,st'))(h2:s sl st'=some (.rt v st2)):c7 t s 1 sl st=some (.rt v st2):=by
 show(t sl st).bind _=_;rw[h,bind_some,yI rfl];dsimp only;rw[h2];rfl
theorem oz{n:Nat}(h:t sl st=some (true,st'))(h2:s sl st'=some (.nx sl2 st2))(h3:c7 t s n sl2 st2=some o):c7 t s (n+1) sl st=some o:=by
 show(t sl st).bind _=_;rw[h,bind_some,yI rfl];dsimp only;rw[h2];exact h3
theorem qo(h:cS ks s sl st=some (.rt v st')):ah ks (.cons s ss) sl st=some (.rt v st'):=by
 rw[kh,h,bind_some,wK]
theorem DX{ks:List Fn}{T:Tx}{B rest:M6}{sl:Sl}{st:aa}{Post:Out->Prop}{Q:AV×aa->Prop}(h:∃o,lE (tv ks T) (ah ks B) sl st=some o/\Post o)(h2:∀o,Post o->∃r,(iq o (ah ks rest)).bind aw=some r/\Q r):∃r,(ah ks (.cons (.wh T B) rest) sl st).bind aw=some r/\Q r:=by
 obtain⟨o,e,hp⟩:=h;obtain⟨r,e2,hq⟩:=h2 o hp;refine⟨r,?_,hq⟩;rw[kh,JT,e,bind_some];exact e2
theorem ag{ks:List Fn}{s:Sx}{ss:M6}{sl sl':Sl}{st st':aa}{Q:AV×aa->Prop}(h:cS ks s sl st=some (.nx sl' st'))(h2:∃r,(ah ks ss sl' st').bind aw=some r/\Q r):∃r,(ah ks (.cons s ss) sl st).bind aw=some r/\Q r:=by
 obtain⟨r,e,q⟩:=h2;exact⟨r,ae h e,q⟩
def aB(L:List (List Int)):List AV:=L.map fun l=>.fz (iL l)
@[simp] theorem KF:(aB L).length=L.length:=by unfold aB;simp
@[simp] theorem Lj:rfs (aB L)=true:=ii fun x hx=>by obtain⟨l,_,rfl⟩:=yD.mp hx;rfl
theorem xj:iL a++iL b=iL (a++b):=by unfold iL;rw[List.map_append]
theorem FO{x:Int}:[AV.int x]=iL [x]:=rfl
theorem vq{α:Type}{em:α->AV}{F:α->List Int}{xs:List α}(hg:cp gd st=true)(h:∀x∈xs,∃sl1,g (em x) sl st=some (sl1,st)/\t sl1 st=some (true,st)/\f sl1 st=some (.fz (iL (F x)),st)):gH gd g t f sl (xs.map em) st=some (aB (xs.map F),st):=by
 rw[gq (B:=fun _=>true) (F:=fun x=>.fz (iL (F x))) hg fun x hx=>by obtain⟨s,a,b,c⟩:=h x hx;exact⟨s,a,b,fun _=>c⟩];unfold aB;rw[List.map_map,List.filter_eq_self.mpr fun _ _=>rfl];rfl
theorem jG(h1:ev ks a sl st=some (x,s1))(h2:ev ks b sl s1=some (y,s2))(h3:bO s2 x=some (iL l))(h4:bO s2 y=some (iL l'))(hl:l.length+l'.length<=1000):i7 ks (.cat a b) sl st=some (iL (l++l'),s2):=by
 rw[vd];unfold qK;rw[h1,bind_some];dsimp only;rw[h2,bind_some];dsimp only;rw[h3,bind_some,h4,bind_some,yI (cg (by simpa using hl)),xj]
theorem mT{n:Nat}:cX 0 n=nL (List.range n):=by unfold cX nL;simp
theorem GS{w n:Nat}:cX (w:Int) n=nL ((List.range n).map (w+·)):=by unfold cX nL;simp[List.map_map,Function.comp_def]
theorem B8{n:Nat}:bH (cK n st) (iL l)=some (iL l):=d7 (f:=cK n st) (i:=AV.int) (g:=AV.int) (fun x=>by cases n<;>rfl) l
theorem oJ{k:Nat}(h:st[k]?=some (.lst (iL l))):d6 st (.ref k)=some (.fz (iL l)):=by
 show cK 6 st (.ref k)=_;unfold cK;simp only[h,B8,map_some]
theorem DY{k:Nat}(h:st[k]?=some (.al t)):d6 st (.ref k)=some t:=by
 show cK 6 st (.ref k)=_;unfold cK;simp only[h]
theorem kr{fn:Fn}{rest:List AV}{st st':aa}{x v t:AV}{l:List Int}(hx:RowR st x l)(h0:rfs rest=true)(hm:bH (d6 st) rest=some rest)(hf:∀s,nT s rest=some (rest,s))(e1:fn (.fz (iL l)::rest) []=some (v,st'))(e2:d6 st' v=some t)(ht:flat t=false) :
  ∃st1,pm fn (x::rest) st=some (t,st1)/\(st1=st\/∃r,x=.ref r/\st[r]?=some (.lst (iL l))/\st1=st.set r (.al (.fz (iL l)))):=by
 have aw:∀r st1,x=.ref r->d6 st (.ref r)=some (.fz (iL l))->pF st (.ref r)=some (.fz (iL l),st1)->pm fn (x::rest) st=some (t,st1):=fun r st1 ex h1 h2=>by
  subst ex;have m:bH (d6 st) (.ref r::rest)=some (.fz (iL l)::rest):=by simp only[bH,h1,hm];rfl
  have f:nT st (.ref r::rest)=some (.fz (iL l)::rest,st1):=by simp only[nT,h2,bind_some,hf];rfl
  unfold pm;rw[yH (by simp[rf]),m,bind_some,e1,bind_some];dsimp only;rw[e2,bind_some,yH (by rw[ht];simp),f,bind_some];dsimp only;rw[e1,bind_some];dsimp only;rw[e2];rfl
 rcases hx with rfl|⟨r,rfl,h|h⟩
 ·exact⟨st,b9 (by simp[h0]) e1 e2,.inl rfl⟩
 ·exact⟨_,aw r (st.set r (.al (.fz (iL l)))) rfl (oJ h) (by unfold pF;simp[rf,h]),.inr ⟨r,rfl,h,rfl⟩⟩
 ·exact⟨_,aw r st rfl (DY h) (by unfold pF;simp[rf,h]),.inl rfl⟩
theorem fy:(st++[x]).set st.length y=st++[y]:=by simp
end R
namespace LW
open PySem L2 R
noncomputable def top(i:Nat):Stmt:=PySem.Challenge.pw_telltight_k26_whole_a_given_more.main.body.getD i (.Pass ⟨0,0,0,0⟩)
def Ig(s:Stmt):List Stmt:=match s with
 |.ClassDef _ _ _ b _ _ _ _ _ _ _=>b
 |_=>[]
def gk(i j:Nat):Stmt:=(Ig (top i)).getD j (.Pass ⟨0,0,0,0⟩)
noncomputable def gs:List (Str×AV):=[]
noncomputable def cl:List (Str×List Str):=[("Sheet",["below","guarded","heads","lines","nailed","sides","turned"])]
noncomputable abbrev B(_:FH):Type:=M6
local macro_rules | `(tactic| walk_at "tr")=>`(tactic| (refine (?f:FH.tr ?h false [] gs cl=some ?m->B ?h) ?p;(case p=>unfold FH.tr;rw [FR];(conv in dE _=>whnf);simp [-Option.map_map,↓FR,gs,cl,sO,mP,JC,JE,JB,JD,uS,uE,uT,uG,KR,KU,oC,j5,uO,uC,uo,AW,uI,KK,uR,uZ,KN,uL,AX,KM,yg,yh,KJ,KI,uK,Dy,KH,uv,ut,KQ,KP,Ji,Jh,uX,m2,m3,at_,lk,rZ,E9,hB,Ac,uM,uN,uP,Gk,Fi,K0,d9,zv,rh,FP];rfl);exact fun _=>?m))
@[simp] def nK:FH:=⟨.f "_law_mix" 2,"_law_mix",top 40,["_law_cell","_law_turn","_law_number"],[],3,[],[],[]⟩
noncomputable def jW:B nK:=by walk_at "tr"
@[simp] def kF:FH:=⟨.f "_law_draws" 3,"_law_draws",top 41,["_law_script","_law_turn","_law_many","_law_cells","_law_lefts","_law_found","_law_k","_law_at","_law_number"],[0],6,[],["_law_mix"],[2200136377,2208136528,2216136152,2288088264]⟩
noncomputable def iK:B kF:=by walk_at "tr"
@[simp] def nJ:FH:=⟨.f "_law_pop" 1,"_law_pop",top 42,["_law_draws_here"],[],3,[],[],[]⟩
noncomputable def jV:B nJ:=by walk_at "tr"
@[simp] def lT:FH:=⟨.f "_law_bits" 1,"_law_bits",top 46,["_law_group"],[],3,[],[],[]⟩
noncomputable def ma:B lT:=by walk_at "tr"
@[simp] def kE:FH:=⟨.f "_law_table" 2,"_law_table",top 47,["_law_n","_law_draws_here","_law_table_here","_law_k","_law_number","_law_mask","_law_most","_law_times","_law_pair","_law_four"],[2,3],6,[],["_law_pop","_law_bits"],[2520192398,2528176382,2568144350]⟩
noncomputable def f9:B kE:=by walk_at "tr"
@[simp] def kD:FH:=⟨.f "_law_terms" 2,"_law_terms",top 48,["_law_n","_law_draws_here","_law_whole","_law_number","_law_a","_law_b","_law_c"],[2],6,[],["_law_pop"],[2632144350]⟩
noncomputable def f7:B kD:=by walk_at "tr"
@[simp] def j8:FH:=⟨.f "_law_row_of" 2,"_law_row_of",top 43,["_law_n","_law_terms_here","_law_row_here","_law_group","_law_number"],[],3,[],[],[2336160528]⟩
noncomputable def fq:B j8:=by walk_at "tr"
@[simp] def nG:FH:=⟨.f "_law_row" 2,"_law_row",top 49,["_law_n","_law_draws_here","_law_number","_law_row_here","_law_k","_law_more","_law_times"],[2,5,6],9,[],["_law_pop","_law_terms","_law_row_of"],[2712144350,2728128334,2744128334,2768320606,2776336542]⟩
noncomputable def ic:B nG:=by walk_at "tr"
@[simp] def kC:FH:=⟨.f "_law_value" 2,"_law_value",top 45,["_law_row_here","_law_table_here"],[],3,[],[],[]⟩
noncomputable def iJ:B kC:=by walk_at "tr"
@[simp] def j9:FH:=⟨.f "_law_givens" 3,"_law_givens",top 50,["_law_n","_law_draws_here","_law_table_here","_law_givens_here","_law_k","_law_row_here","_law_number","_law_sign","_law_due"],[2,7,8],12,[],["_law_pop","_law_row","_law_value"],[2808184200,2816392598,2824192462,2832176382,2896272478]⟩
noncomputable def fu:B j9:=by walk_at "tr"
@[simp] def iX:FH:=⟨.f "_law_question" 1,"_law_question",top 51,["_law_script","_law_draws_here","_law_n","_law_table_here","_law_givens_here"],[1,2,4,9,7],15,[],["_law_draws","_law_pop","_law_table","_law_givens","_law_row"],[2928176430,2936304510,2944176462,2952184614,2960440710]⟩
noncomputable def d5:B iX:=by walk_at "tr"
@[simp] def j7:FH:=⟨.f "_law_saying" 3,"_law_saying",top 52,["_law_n","_law_draws_here","_law_table_here","_law_row_here","_law_number","_law_due"],[7,2,8],12,[],["_law_row","_law_pop","_law_value"],[2976160430,2984144350]⟩
noncomputable def fm:B j7:=by walk_at "tr"
@[simp] def lS:FH:=⟨.f "all_names" 1,"all_names",top 1,["n"],[],3,[],[],[]⟩
noncomputable def l8:B lS:=by walk_at "tr"
@[simp] def gK:FH:=⟨.f "pairs_with_known" 3,"pairs_with_known",top 7,["n","i","j","both"],[12],6,[],["all_names"],[]⟩
noncomputable def gO:B gK:=by walk_at "tr"
@[simp] def tS:FH:=⟨.f "rules" 1,"rules",top 8,["n","found","i","j"],[13],9,[],["pairs_with_known"],[168096344]⟩
noncomputable def uc:B tS:=by walk_at "tr"
@[simp] def jz:FH:=⟨.f "row_of_terms" 2,"row_of_terms",top 2,["n","terms","row","group","number"],[12],6,[],["all_names"],[40080224]⟩
noncomputable def jH:B jz:=by walk_at "tr"
@[simp] def nE:FH:=⟨.f "rest_row" 3,"rest_row",top 3,["n","a","b"],[15],9,[],["row_of_terms"],[]⟩
noncomputable def oi:B nE:=by walk_at "tr"
@[simp] def kB:FH:=⟨.f "shared_row" 4,"shared_row",top 4,["n","a","b","c"],[15],9,[],["row_of_terms"],[]⟩
noncomputable def kM:B kB:=by walk_at "tr"
@[simp] def nD:FH:=⟨.f "rule_row" 2,"rule_row",top 9,["n","rule","one"],[12,16,17],12,[],["all_names","rest_row","shared_row"],[]⟩
noncomputable def oh:B nD:=by walk_at "tr"
@[simp] def lO:FH:=⟨.f "rule_rows" 1,"rule_rows",top 10,["n"],[14,18],15,[],["rules","rule_row"],[]⟩
noncomputable def lX:B lO:=by walk_at "tr"
@[simp] def iG:FH:=⟨.k "Sheet" 3,"Sheet.__init__",gk 13 0,["self","width","lines"],[],3,[],[],[368168408,376168312,384168472]⟩
noncomputable def fH:B iG:=by walk_at "tr"
@[simp] def ka:FH:=⟨.m "Sheet" "guard" 2,"Sheet.guard",gk 13 1,["self","quantity"],[],3,[],[],[]⟩
noncomputable def gU:B ka:=by walk_at "tr"
@[simp] def iU:FH:=⟨.f "opening_sheet" 3,"opening_sheet",top 25,["n","givens","goal","lines","guarded","sheet","quantity"],[19,12,20,21],18,[],["rule_rows","all_names","Sheet","guard"],[1360096376,1360104177,1376144313,1384136409]⟩
noncomputable def fZ:B iU:=by walk_at "tr"
@[simp] def g6:FH:=⟨.m "Sheet" "turn_line" 2,"Sheet.turn_line",gk 13 3,["self","place"],[],3,[],[],[]⟩
noncomputable def eZ:B g6:=by walk_at "tr"
@[simp] def fM:FH:=⟨.m "Sheet" "loose_columns" 1,"Sheet.loose_columns",gk 13 5,["self"],[],3,[],[],[]⟩
noncomputable def dI:B fM:=by walk_at "tr"
@[simp] def fi:FH:=⟨.m "Sheet" "raising_column" 2,"Sheet.raising_column",gk 13 6,["self","place","line","found"],[24],6,[⟨81,30,81,63⟩],["loose_columns"],[]⟩
noncomputable def dk:B fi:=by walk_at "tr"
@[simp] def gN:FH:=⟨.m "Sheet" "is_tighter" 4,"Sheet.is_tighter",gk 13 8,["self","one","other","column","ahead","behind"],[],3,[],[],[]⟩
noncomputable def eC:B gN:=by walk_at "tr"
@[simp] def fg:FH:=⟨.m "Sheet" "tightest_place" 2,"Sheet.tightest_place",gk 13 9,["self","column","best","place","line"],[26],6,[],["is_tighter"],[]⟩
noncomputable def dj:B fg:=by walk_at "tr"
@[simp] def gh:FH:=⟨.m "Sheet" "is_up_first" 4,"Sheet.is_up_first",gk 13 10,["self","place","tight","column","up"],[],3,[],[],[]⟩
noncomputable def dZ:B gh:=by walk_at "tr"
@[simp] def jC:FH:=⟨.f "changed_line" 5,"changed_line",top 12,["line","pivot_line","column","sign","below","pivot","factor","changed"],[],3,[],[],[312112808]⟩
noncomputable def dG:B jC:=by walk_at "tr"
@[simp] def iD:FH:=⟨.m "Sheet" "exchange" 3,"Sheet.exchange",gk 13 4,["self","place","column","sign","pivot_line","below","freed"],[29],6,[],["changed_line"],[536168776,544224496]⟩
noncomputable def fF:B iD:=by walk_at "tr"
@[simp] def kI:FH:=⟨.m "Sheet" "lift" 2,"Sheet.lift",gk 13 11,["self","place","column","tight"],[25,27,28,30],9,[],["raising_column","tightest_place","is_up_first","exchange"],[]⟩
noncomputable def eB:B kI:=by walk_at "tr"
@[simp] def fL:FH:=⟨.m "Sheet" "moving_column" 2,"Sheet.moving_column",gk 13 7,["self","place","line"],[24],6,[],["loose_columns"],[]⟩
noncomputable def dH:B fL:=by walk_at "tr"
@[simp] def kG:FH:=⟨.m "Sheet" "nail" 2,"Sheet.nail",gk 13 2,["self","quantity"],[],3,[],[],[]⟩
noncomputable def iM:B kG:=by walk_at "tr"
@[simp] def lQ:FH:=⟨.f "keep_just" 2,"keep_just",top 26,["sheet","place","quantity","column"],[23,31,32,30,33],12,[],["turn_line","lift","moving_column","exchange","nail"],[]⟩
noncomputable def jo:B lQ:=by walk_at "tr"
@[simp] def jB:FH:=⟨.f "keep_no_less" 2,"keep_no_less",top 27,["sheet","place","quantity"],[31,21],12,[],["lift","guard"],[]⟩
noncomputable def eK:B jB:=by walk_at "tr"
@[simp] def nF:FH:=⟨.f "names_in" 2,"names_in",top 15,["n","group"],[],3,[],[],[]⟩
noncomputable def oj:B nF:=by walk_at "tr"
@[simp] def lP:FH:=⟨.f "pair_rule" 3,"pair_rule",top 16,["one","other","known"],[],3,[],[],[]⟩
noncomputable def lY:B lP:=by walk_at "tr"
@[simp] def iT:FH:=⟨.f "rules_of_name" 3,"rules_of_name",top 17,["n","k","known","used","j"],[36,37],6,[],["names_in","pair_rule"],[1048088104]⟩
noncomputable def jf:B iT:=by walk_at "tr"
@[simp] def iS:FH:=⟨.f "rules_of_rest" 3,"rules_of_rest",top 18,["n","a","b","used","known","k"],[36,38],9,[],["names_in","rules_of_name"],[1104088104]⟩
noncomputable def je:B iS:=by walk_at "tr"
@[simp] def lR:FH:=⟨.f "how_often" 2,"how_often",top 19,["n","used"],[14],12,[],["rules"],[]⟩
noncomputable def lZ:B lR:=by walk_at "tr"
@[simp] def gX:FH:=⟨.f "weights_by_line" 3,"weights_by_line",top 28,["n","sheet","place","taken","column","quantity","weights","group","often","rule","count"],[12,39,40],15,[],["all_names","rules_of_rest","how_often"],[1584096440,1616032340,1632112288]⟩
noncomputable def eV:B gX:=by walk_at "tr"
@[simp] def iC:FH:=⟨.f "common_divisor" 1,"common_divisor",top 21,["numbers","divisor","number","other","left"],[],3,[],[],[]⟩
noncomputable def dS:B iC:=by walk_at "tr"
@[simp] def gZ:FH:=⟨.f "in_lowest_terms" 1,"in_lowest_terms",top 22,["numbers","divisor"],[42],6,[],["common_divisor"],[]⟩
noncomputable def dz:B gZ:=by walk_at "tr"
@[simp] def iF:FH:=⟨.m "Sheet" "drive_up" 2,"Sheet.drive_up",gk 13 12,["self","place","column","tight"],[25,27,30],9,[],["raising_column","tightest_place","exchange"],[]⟩
noncomputable def fG:B iF:=by walk_at "tr"
@[simp] def gY:FH:=⟨.f "lowest_fraction" 2,"lowest_fraction",top 23,["top","bottom","numbers"],[43],9,[],["in_lowest_terms"],[]⟩
noncomputable def eY:B gY:=by walk_at "tr"
@[simp] def gM:FH:=⟨.f "groups_in_column" 3,"groups_in_column",top 29,["n","sheet","column","found","place","quantity"],[12],6,[],["all_names"],[1696096240]⟩
noncomputable def eA:B gM:=by walk_at "tr"
@[simp] def jA:FH:=⟨.f "lowest_table" 2,"lowest_table",top 24,["numbers","below","found"],[43],9,[],["in_lowest_terms"],[1336224361]⟩
noncomputable def gy:B jA:=by walk_at "tr"
@[simp] def iA:FH:=⟨.f "table_of_sheet" 2,"table_of_sheet",top 30,["n","sheet"],[46,47],12,[],["groups_in_column","lowest_table"],[1744192438]⟩
noncomputable def fD:B iA:=by walk_at "tr"
@[simp] def iB:FH:=⟨.f "least_of_sheet" 3,"least_of_sheet",top 32,["n","sheet","place","least","weights"],[45,41,43,48],18,[],["lowest_fraction","weights_by_line","in_lowest_terms","table_of_sheet"],[1808240502,1808240625,1816224422]⟩
noncomputable def fE:B iB:=by walk_at "tr"
@[simp] def lN:FH:=⟨.f "way_along" 3,"way_along",top 31,["n","sheet","column","way"],[46,43],9,[],["groups_in_column","in_lowest_terms"],[1760080358]⟩
noncomputable def gD:B lN:=by walk_at "tr"
@[simp] def rq:FH:=⟨.f "answer" 3,"answer",top 33,["n","givens","goal","sheet","last","place","given","kept","column"],[22,34,35,41,43,44,49,48,50],21,[],["opening_sheet","keep_just","keep_no_less","weights_by_line","in_lowest_terms","drive_up","least_of_sheet","table_of_sheet","way_along"],[1832096342,1856120310,1856504718,1872360622,1896120366,1904184382,1904392614]⟩
noncomputable def mJ:B rq:=by walk_at "tr"
@[simp] def iW:FH:=⟨.f "_law_value_of" 1,"_law_value_of",top 53,["_law_found"],[],3,[],[],[]⟩
noncomputable def df:B iW:=by walk_at "tr"
@[simp] def iz:FH:=⟨.f "upward_sayings" 1,"upward_sayings",top 35,["saying","row","number","upward"],[],3,[],[],[1944104264]⟩
noncomputable def fC:B iz:=by walk_at "tr"
@[simp] def tR:FH:=⟨.f "value" 2,"value",top 5,["row","table"],[],3,[],[],[]⟩
noncomputable def o7:B tR:=by walk_at "tr"
@[simp] def j6:FH:=⟨.f "table_along" 4,"table_along",top 36,["table","way","row","number","below","above","fall","steps"],[54,47],12,[],["value","lowest_table"],[]⟩
noncomputable def fj:B j6:=by walk_at "tr"
@[simp] def iV:FH:=⟨.f "follow_upward" 4,"follow_upward",top 37,["n","givens","row","number","found"],[51,55],24,[],["answer","table_along"],[]⟩
noncomputable def d4:B iV:=by walk_at "tr"
@[simp] def pD:FH:=⟨.f "follows" 3,"follows",top 38,["n","givens","saying","papers","row","sign","number","told"],[53,56],27,[],["upward_sayings","follow_upward"],[2104104120]⟩
noncomputable def jg:B pD:=by walk_at "tr"
@[simp] def Bk:FH:=⟨.f "law" 1,"law",top 54,["_law_script","_law_n","_law_table_here","_law_givens_here","_law_goal","_law_draws_here","_law_saying_here","_law_found","_law_more","_law_told","_law_numbers","_law_below"],[10,11,51,52,57,8],30,[],["_law_question","_law_saying","answer","_law_value_of","follows","_law_value"],[3064608822,3080184614,3096360657]⟩
noncomputable def qd:B Bk:=by walk_at "tr"
def e_law:FE:=⟨Bk,qd⟩
def pre:List FE:=[⟨nK,jW⟩,⟨kF,iK⟩,⟨nJ,jV⟩,⟨lT,ma⟩,⟨kE,f9⟩,⟨kD,f7⟩,⟨j8,fq⟩,⟨nG,ic⟩,⟨kC,iJ⟩,⟨j9,fu⟩,⟨iX,d5⟩,⟨j7,fm⟩,⟨lS,l8⟩,⟨gK,gO⟩,⟨tS,uc⟩,⟨jz,jH⟩,⟨nE,oi⟩,⟨kB,kM⟩,⟨nD,oh⟩,⟨lO,lX⟩,⟨iG,fH⟩,⟨ka,gU⟩,⟨iU,fZ⟩,⟨g6,eZ⟩,⟨fM,dI⟩,⟨fi,dk⟩,⟨gN,eC⟩,⟨fg,dj⟩,⟨gh,dZ⟩,⟨jC,dG⟩,⟨iD,fF⟩,⟨kI,eB⟩,⟨fL,dH⟩,⟨kG,iM⟩,⟨lQ,jo⟩,⟨jB,eK⟩,⟨nF,oj⟩,⟨lP,lY⟩,⟨iT,jf⟩,⟨iS,je⟩,⟨lR,lZ⟩,⟨gX,eV⟩,⟨iC,dS⟩,⟨gZ,dz⟩,⟨iF,fG⟩,⟨gY,eY⟩,⟨gM,eA⟩,⟨jA,gy⟩,⟨iA,fD⟩,⟨iB,fE⟩,⟨lN,gD⟩,⟨rq,mJ⟩,⟨iW,df⟩,⟨iz,fC⟩,⟨tR,o7⟩,⟨j6,fj⟩,⟨iV,d4⟩,⟨pD,jg⟩]
theorem Dg:oa gs cl [] pre=pre.map fun e=>some e.b:=by kernel_rfl
theorem Dh:e_law.chk gs cl pre=some e_law.b:=by kernel_rfl
instance:MV:=⟨[(117,⟨81,30,81,63⟩,("Sheet.raising_column":Str)++".<locals>."++"<lambda>")]⟩
def cZ:Fn:=run 3 (ah [] jW)
def eF:Fn:=run 9 (ah [cZ] iK)
def ai:Fn:=run 1 (ah [] jV)
def bA:Fn:=run 1 (ah [] ma)
def dL:Fn:=run 10 (ah [ai,bA] f9)
def bj:Fn:=run 7 (ah [ai] f7)
def aW:Fn:=run 5 (ah [] fq)
def ba:Fn:=run 7 (ah [ai,bj,aW] ic)
def aO:Fn:=run 2 (ah [] iJ)
def c8:Fn:=run 9 (ah [ai,ba,aO] fu)
def dg:Fn:=run 5 (ah [eF,ai,dL,c8,ba] d5)
def dW:Fn:=run 6 (ah [ba,ai,aO] fm)
def ao:Fn:=run 1 (ah [] l8)
def gT:Fn:=run 4 (ah [ao] gO)
def pf:Fn:=run 4 (ah [gT] uc)
def gA:Fn:=run 5 (ah [ao] jH)
def ow:Fn:=run 3 (ah [gA] oi)
def kP:Fn:=run 4 (ah [gA] kM)
def ou:Fn:=run 3 (ah [ao,ow,kP] oh)
def aN:Fn:=run 1 (ah [pf,ou] lX)
def aE:Fn:=run 3 (ah [] fH)
def aL:Fn:=run 2 (ah [] gU)
def bR:Fn:=run 7 (ah [aN,ao,aE,aL] fZ)
def cH:Fn:=run 2 (ah [] eZ)
def cq:Fn:=run 1 (ah [] dI)
def aG:Fn:=run 4 (ah [cq] dk)
def cw:Fn:=run 6 (ah [] eC)
def aF:Fn:=run 5 (ah [cw] dj)
def aS:Fn:=run 5 (ah [] dZ)
def bN:Fn:=run 8 (ah [] dG)
def aI:Fn:=run 7 (ah [bN] fF)
def cG:Fn:=run 4 (ah [aG,aF,aS,aI] eB)
def bS:Fn:=run 3 (ah [cq] dH)
def dM:Fn:=run 2 (ah [] iM)
def cC:Fn:=run 4 (ah [cH,cG,bS,aI,dM] jo)
def bM:Fn:=run 3 (ah [cG,aL] eK)
def j4:Fn:=run 2 (ah [] oj)
def mn:Fn:=run 3 (ah [] lY)
def jh:Fn:=run 5 (ah [j4,mn] jf)
def cT:Fn:=run 6 (ah [j4,jh] je)
def dY:Fn:=run 2 (ah [pf] lZ)
def aK:Fn:=run 11 (ah [ao,cT,dY] eV)
def cM:Fn:=run 5 (ah [] dS)
def aj:Fn:=run 2 (ah [cM] dz)
def bJ:Fn:=run 4 (ah [aG,aF,aI] fG)
def cW:Fn:=run 3 (ah [aj] eY)
def cR:Fn:=run 6 (ah [ao] eA)
def bL:Fn:=run 3 (ah [aj] gy)
def aR:Fn:=run 2 (ah [cR,bL] fD)
def bI:Fn:=run 5 (ah [cW,aK,aj,aR] fE)
def cB:Fn:=run 4 (ah [cR,aj] gD)
def eE:Fn:=run 9 (ah [bR,cC,bM,aK,aj,bJ,bI,aR,cB] mJ)
def bw:Fn:=run 1 (ah [] df)
def aY:Fn:=run 4 (ah [] fC)
def gz:Fn:=run 2 (ah [] o7)
def dU:Fn:=run 8 (ah [gz,bL] fj)
def bu:Fn:=run 5 (ah [eE,dU] d4)
def eD:Fn:=run 8 (ah [aY,bu] jg)
def ox:Fn:=run 12 (ah [dg,dW,eE,bw,eD,aO] qd)
def Fs:List Fn:=[cZ,eF,ai,bA,dL,bj,aW,ba,aO,c8,dg,dW,ao,gT,pf,gA,ow,kP,ou,aN,aE,aL,bR,cH,cq,aG,cw,aF,aS,bN,aI,cG,bS,dM,cC,bM,j4,mn,jh,cT,dY,aK,cM,aj,bJ,cW,cR,bL,aR,bI,cB,eE,bw,aY,gz,dU,bu,eD]
theorem HS:i6 [] pre=Fs:=xw (by(repeat refine⟨rfl,?_⟩);trivial)
theorem Hz:e_law.fn (i6 [] pre)=ox:=by rw[HS];rfl
def Je:Fn:=ox
open PySem.Spec
open SX (Sh M5)
def Bd(w m:Nat)(S:Sh):Prop:=S.d.natAbs<2^9000/\∀i,i<m->∀j,j<w+1->(S.t i j).natAbs<2^9000
section
variable{st:aa}{k a b c g n u w m:Nat}{rows:List AV}{S:Sh}
theorem HF(R:Rep st k a b c g n u rows S)(P:M5 w m S)(B:Bd w m S){i r q:Nat}(hi:i<m)(hr:r<m)(hq:q<w) :
  cw [.ref k,.int i,.int r,.int q] st=some (.bl (decide (S.t i w*- S.t r q<S.t r w*- S.t i q)||(decide (S.t i w*- S.t r q=S.t r w*- S.t i q)&&decide (S.s i<S.s r))),st):=by
 have m1:cE (S.t i w) (- S.t r q)=true:=cm (B.2 i hi w oM) (by rw [Int.natAbs_neg];exact B.2 r hr q oM);have m2:cE (S.t r w) (- S.t i q)=true:=cm (B.2 r hr w oM) (by rw [Int.natAbs_neg];exact B.2 i hi q oM);simp [cw,aA,eC,R.ins,R.line P hi,R.line P hr,R.last P hi,R.last P hr,R.cell P hi (show q < w + 1 by lia),R.cell P hr (show q < w + 1 by lia),aZ m1,aZ m2,R.side P hi,R.side P hr];by_cases h1:S.t i w * -S.t r q < S.t r w * -S.t i q <;> by_cases h2:S.t i w * -S.t r q=S.t r w * -S.t i q <;> simp [h1,h2]
theorem AT(R:Rep st k a b c g n u rows S)(P:M5 w m S)(B:Bd w m S){i r q:Nat}(hi:i<m)(hr:r<m)(hq:q<w) :
  aS [.ref k,.int i,.int r,.int q] st=some (.bl (decide (S.t i w*S.t r q<=S.t r w*S.t i q)),st):=by
 have m1:cE (S.t i w) (S.t r q)=true:=cm (B.2 i hi w oM) (B.2 r hr q oM);have m2:cE (S.t r w) (S.t i q)=true:=cm (B.2 r hr w oM) (B.2 i hi q oM);simp [aS,aA,dZ,R.ins,R.line P hi,R.line P hr,R.last P hi,R.last P hr,R.cell P hi (show q < w + 1 by lia),R.cell P hr (show q < w + 1 by lia),aZ m1,aZ m2]
theorem tH(R:Rep st k a b c g n u rows S)(P:M5 w m S)(hw:w<=100):cq [.ref k] st=some (.fz (nL (bW S)),st):=by
 have he:nL (bW S)=(S.hd.zipIdx.filter fun z=>!decide (z.1∈S.nl)).map fun z=>(AV.int ((z.2:Nat):Int)):=by unfold nL bW;rw[List.map_map];rfl
 have hf:=my (l:=bW S);rw [he] at hf ⊢;simp [cq,aA,dI,R.ins,jy R.hb,Ia,cg (show S.hd.length <= 1000 by rw [P.hd];lia)];rw [gq (B:=fun z=>!decide (z.1 ∈ S.nl)) (F:=fun z=>.int ((z.2:Nat):Int)) (gw R.hb) fun z _=>⟨_,rfl,by simp [R.ins,R.nin],fun _=>rfl⟩];simp [hf]
theorem qD(R:Rep st k a b c g n u rows S)(P:M5 w m S)(hw:w<=100){p:Nat}(hp:p<m):∃o,aG [.ref k,.int p] st=some (oN o,st)/\SX.Rais w S p o:=by
 have ll:(bW S).length<=1000:=by
  unfold bW;rw[zH]
  have:=List.length_filter_le (fun z:Nat×Nat=>!decide (z.1∈S.nl)) S.hd.zipIdx
  rw[List.length_zipIdx,P.hd]at this;lia
 obtain⟨o,ho,h1,h2⟩:=Gp (l:=(bW S).filter fun j=>decide (0<S.t p j)) (key:=S.h);have inl:∀j,j∈(bW S).filter (fun j=>decide (0<S.t p j)) ↔ (j<w/\S.h j∉S.nl)/\0<S.t p j:=fun j=>by rw[List.mem_filter,iR P];simp
 refine⟨o,?_,fun e j hj hn ht=>?_,fun q e=>?_⟩
 ·simp[aG,aA,dk,R.ins,R.line P hp,tH R P hw,nL,cg ll]
  rw [gq (B:=fun j=>decide (0 < S.t p j)) (F:=fun j:Nat=>.int (j:Int)) fN fun j hj=>⟨_,rfl,by simp [R.cell P hp (show j < w + 1 by have:=(iR P).mp hj;lia)],fun _=>rfl⟩];have hf:rfs (((bW S).filter fun j=>decide (0 < S.t p j)).map fun j:Nat=>(AV.int (j:Int)))=true:=my;have hi:=tL (l:=(bW S).filter fun j=>decide (0 < S.t p j));unfold nL at hi;simp [hf,qg,lsI,hi];rw [Fq (f:=S.h) fun q hq=>by simp [R.ins,R.head P ((inl q).mp hq).1.1]];simp [ho]
 ·have:=h1 e
  have hm:=(inl j).mpr ⟨⟨hj,hn⟩,ht⟩;rw[this]at hm;cases hm
 ·obtain⟨m1,m2⟩:=h2 q e
  have:=(inl q).mp m1
  exact⟨this.1.1,this.1.2,this.2,fun j hj hn ht=>m2 j ((inl j).mpr ⟨⟨hj,hn⟩,ht⟩)⟩
theorem sV(R:Rep st k a b c g n u rows S)(P:M5 w m S)(B:Bd w m S){q:Nat}(hq:q<w):∃o,aF [.ref k,.int q] st=some (oN o,st)/\SX.MZ S w q m o:=by
 have rl:rows.length=m:=by rw[R.len,P.ls]
 obtain⟨sl',st',e,rfl,o,x,y,rfl,T⟩:=eJ (gd:=[(a,.lst rows)]) (g:=b8 [cw] (.tu 2 (.cons (.nm 3) (.cons (.nm 4) .nil)))) (s:=ah [cw] (.cons (.iff (.an (.cmp .Lt (.ix (.v 4) (.v 1)) (.i 0)) (.cmp .In (.ix (.fd "Sheet" "sides" (.v 0)) (.v 3)) (.fd "Sheet" "guarded" (.v 0))))
   (.cons (.iff (.or (.cmp .Is (.v 2) .n) (.va (.me "Sheet" "is_tighter" 0 (.v 0) (.cons (.v 3) (.cons (.v 2) (.cons (.v 1) .nil)))))) (.cons (.as (.v 3) (.nm 2)) .nil) .nil) .nil) .nil) .nil))
  (I:=fun i sl s=>s=st/\∃o x y,sl=[Rs k,Is q,some (oN o),x,y]/\SX.MZ S w q i o) (xs:=eN 0 rows) (fun i sl s _ hI=>by rw[hI.1];exact gw R.ha)
  (fun i y sl s hy hI=>by
   obtain⟨rfl,o,x1,x2,rfl,T⟩:=hI;obtain⟨x,hx,rfl⟩:=nY hy;have hi:i<m:=by rw[<- rl];exact(zB.mp hx).1
   have ex:x=kn rows i:=by have:=R.rx P hi;rw[hx]at this;injection this
   subst ex;refine⟨_,[Rs k,Is q,some (oN (if S.t i q<0/\S.s i∈S.gd then(match o with|none=>some i|some r=>if S.t i w*- S.t r q<S.t r w*- S.t i q\/(S.t i w*- S.t r q=S.t r w*- S.t i q/\S.s i<S.s r) then some i else some r) else o)),Is i,some (kn rows i)],s,rfl,?_,rfl,_,_,_,rfl,?_⟩
   ·by_cases h1:S.t i q<0
    ·by_cases h2:S.s i∈S.gd
     ·cases o with
      | none=>simp [R.cell P hi (show q < w + 1 by lia),h1,R.side P hi,R.ins,R.ing,h2,oN]
      |some r =>
       have hr:=(T.2 r rfl).1
       have:=HF R P B hi (show r < m by lia) hq
       simp [R.cell P hi (show q < w + 1 by lia),h1,R.side P hi,R.ins,R.ing,h2,oN,this,eR,bO,dr];split <;> rfl
     ·simp [R.cell P hi (show q < w + 1 by lia),h1,R.side P hi,R.ins,R.ing,h2]
    ·simp [R.cell P hi (show q < w + 1 by lia),h1]
   ·by_cases h1:S.t i q<0/\S.s i∈S.gd
    ·rw[yI h1]
     cases o with
     |none=>exact SX.tt_first h1.1 h1.2 T
     |some r =>
      dsimp only;split
      ·rename_i h2;exact SX.tt_new h1.1 h1.2 h2 T
      ·rename_i h2;exact SX.tt_old h1.1 h2 T
    ·rw[yH h1];exact SX.tt_skip h1 T) (sl:=[Rs k,Is q,some .non,none,none]) (st:=st) ⟨rfl,none,none,none,rfl,SX.tt_zero⟩
 rw[ld,rl]at T;refine⟨o,?_,T⟩;simp[aF,aA,dj,R.ins,jy R.ha];rw[e];simp
end
open SX (gI chLine pvl sgn)
theorem qk:((iL l).zip (iL P)).map (fun z=>AV.tup [z.1,z.2])=(l.zip P).map fun z=>.tup [.int z.1,.int z.2]:=by
 unfold iL;rw[List.zip_map,List.map_map];rfl
section
variable{l P:List Int}{q w:Nat}{sg d:Int}
theorem nR{M:Nat}(h:∀x∈l,x.natAbs<M)(hM:0<M)(j:Nat):(gI l j).natAbs<M:=by
 unfold gI;rw[zD];cases e:l[j]? with
 |none=>exact hM
 |some x=>exact h x (zW e)
theorem Kr(hl:l.length=w+1)(hP:P.length=w+1)(hq:q<w+1)(hw:w<=100)(bl:∀x∈l,x.natAbs<2^9000)(bP:∀x∈P,x.natAbs<2^9000)(hd:d≠0)(bd:d.natAbs<2^9000)(bs:sg.natAbs<2^9000) :
  ∃v st',bN [.fz (iL l),.fz (iL P),.int q,.int sg,.int d] []=some (v,st')/\d6 st' v=some (.fz (iL (chLine l P q sg d))):=by
 have hM:(0:Nat)<2^9000:=Nat.two_pow_pos _;have x1:∀st:aa,aP st (.fz (iL P)) (.int (q:Int))=some (.int (gI P q)):=fun st=>by rw[cP fU,cF,ce oM]
 have x2:∀st:aa,aP st (.fz (iL l)) (.int (q:Int))=some (.int (gI l q)):=fun st=>by rw[cP fU,cF,ce oM]
 have bp:=nR bP hM q;have bf:=nR bl hM q;have dv:=rQ hd bd;unfold chLine;by_cases h1:gI l q=0
 ·by_cases h2:gI P q=d
  ·refine⟨.fz (iL l),[],?_,by rw[yI h1,yI h2];rfl⟩
   simp[bN,aA,dG,x1,x2,h1,h2]
  ·refine⟨.fz (iL (l.map fun x=>SX.fdvS (x*gI P q) d)),[],?_,by rw[yI h1,yH h2];rfl⟩
   simp [bN,aA,dG,x1,x2,h1,h2,cg (show l.length <= 1000 by lia)];rw [jO (F:=fun x=>SX.fdvS (x * gI P q) d) fN fun x hx=>⟨_,rfl,rfl,by simp [aZ (cm (bl x hx) bp),lu dv];rfl⟩];simp
 ·refine⟨.ref 0,[.lst (iL (((l.zip P).map fun z=>SX.fdvS (z.1*gI P q-gI l q*z.2) d).set q (sg*gI l q)))],?_,by rw[yH h1];exact oJ rfl⟩
  have ml:=cm bs bf;have hz:((l.zip P).length)<=1000:=by rw[List.length_zip];lia
  simp[bN,aA,dG,x1,x2,h1,iZ,qk];rw[yI (cg oM),wX (F:=fun z=>SX.fdvS (z.1*gI P q-gI l q*z.2) d) fN fun z hz=>⟨_,rfl,rfl,by
   have:=List.of_mem_zip hz
   simp[aZ (cm (bl _ this.1) bp),aZ (cm bf (bP _ this.2)),lu dv];rfl⟩]
  simp[aZ ml];rw[db (xs:=iL ((l.zip P).map fun z=>SX.fdvS (z.1*gI P q-gI l q*z.2) d)) rfl (by simp;lia),ff];simp
theorem Ie(hx:RowR st x l)(hl:l.length=w+1)(hP:P.length=w+1)(hq:q<w+1)(hw:w<=100)(bl:∀x∈l,x.natAbs<2^9000)(bP:∀x∈P,x.natAbs<2^9000)(hd:d≠0)(bd:d.natAbs<2^9000)(bs:sg.natAbs<2^9000) :
  ∃st1,pm bN [x,.fz (iL P),.int q,.int sg,.int d] st=some (.fz (iL (chLine l P q sg d)),st1)/\(st1=st\/∃r,x=.ref r/\st[r]?=some (.lst (iL l))/\st1=st.set r (.al (.fz (iL l)))):=by
 obtain⟨v,st',e1,e2⟩:=Kr hl hP hq hw bl bP hd bd bs;exact kr (rest:=[.fz (iL P),.int q,.int sg,.int d]) hx (by simp) rfl (fun s=>by simp[nT,pF,rf]) e1 e2 (by simp[flat])
end
section
variable{st:aa}{k a b c g n u w m:Nat}{rows:List AV}{S:Sh}
theorem Bd.row(B:Bd w m S)(P:M5 w m S){i:Nat}(hi:i<m):∀x∈SX.row S i,x.natAbs<2^9000:=fun x hx=>by
 obtain⟨j,hj⟩:=z9 hx;have hl:=(zB.mp hj).1;rw[P.rl hi]at hl
 have:=B.2 i hi j hl
 have e:S.t i j=x:=by show(SX.row S i).getD j 0=x;rw[zD,hj];rfl
 rw[e]at this;exact this
theorem nX(R:Rep st k a b c g n u rows S)(P:M5 w m S)(B:Bd w m S)(hd:S.d≠0)(hw:w<=100)(hm:m<=1000){p q:Nat}(hp:p<m)(hq:q<w) :
  ∃st' a' rows',aI [.ref k,.int p,.int q] st=some (.non,st')/\Rep st' k a' b c g n u rows' (SX.M3 S p q):=by
 have rl:rows.length=m:=by rw[R.len,P.ls]
 obtain⟨sg,hsg⟩:∃x,x=sgn (S.t p q):=⟨_,rfl⟩;obtain⟨pl,hpl⟩:∃x,x=pvl S p q:=⟨_,rfl⟩;have hpl':pl=(SX.row S p).map fun x=>sg*x:=by rw[hpl,hsg];rfl
 have lp:pl.length=w+1:=by rw[hpl',zH];exact P.rl hp
 have sa:sg.natAbs=1:=by rw[hsg];unfold sgn;split<;>rfl
 have bs:sg.natAbs<2^9000:=by rw[sa];exact Nat.one_lt_two_pow oM
 have bP:∀x∈pl,x.natAbs<2^9000:=fun x hx=>by
  rw[hpl']at hx;obtain⟨y,hy,rfl⟩:=yD.mp hx;rw[xA,sa,Nat.one_mul];exact B.row P hp y hy
 have s1:∃st1,gH [(a,.lst rows)] (b8 [bN] (.nm 7)) (i8 [bN] .no) (ev [bN] (.ca true 0 (.cons (.v 7) (.cons (.v 4) (.cons (.v 2) (.cons (.v 3) (.cons (.v 5) .nil))))))) [Rs k,Is p,Is q,Is sg,Ls pl,Is S.d,none,none] rows st
   = some ((List.range rows.length).map fun i=>.fz (iL (chLine (SX.row S i) pl q sg S.d)),st1)/\Rep st1 k a b c g n u rows S:=by
  refine wV (J:=fun _ s=>Rep s k a b c g n u rows S) (fun _ s _ R'=>gw R'.ha) (fun i x s hx R'=>?_) R;have hi:i<m:=by rw[<- rl];exact(zB.mp hx).1
  obtain ⟨s1,e1,h1⟩:=Ie (R'.row i x hx) (P.rl hi) lp (show q < w + 1 by lia) hw (B.row P hi) bP hd B.1 bs;refine ⟨_,s1,rfl,rfl,by simp [e1],?_⟩;rcases h1 with rfl | ⟨r,rfl,h2,rfl⟩
  ·exact R'
  ·exact R'.freeze hx h2
 obtain⟨st1,e1,R1⟩:=s1;obtain⟨rows2,hr2⟩:∃x,x=(List.range rows.length).map fun i=>AV.fz (iL (chLine (SX.row S i) pl q sg S.d)):=⟨_,rfl⟩
 rw[<- hr2]at e1;have fz2:∀i x,rows2[i]?=some x->i<m/\x=.fz (iL (chLine (SX.row S i) pl q sg S.d)):=fun i x h=>by
  rw[hr2,zR]at h;obtain⟨j,h1,rfl⟩:=zE.mp h;have hl:=(zB.mp h1).1;rw[List.length_range]at hl;rw[List.getElem?_range hl]at h1;cases h1;exact⟨by lia,rfl⟩
 have l2:rows2.length=m:=by rw[hr2,zH,List.length_range,rl]
 have lt:∀{s:aa}{i:Nat}{x:MT},s[i]?=some x->i<s.length:=fun h=>(zB.mp h).1
 -- the new lines
 have R2:Rep ((st1++[MT.lst rows2]).set k (.ins "Sheet" (cV S.d st1.length b c g n u))) k st1.length b c g n u rows2 { S with ls:=S.ls.map fun l=>chLine l pl q sg S.d }:=by
  refine Rep.fields (S':={ S with ls:=S.ls.map fun l=>chLine l pl q sg S.d }) (R1.app (ys:=[MT.lst rows2])) gl rfl rfl rfl rfl rfl (by simp[l2,P.ls]) (fun i x h=>?_) (Nat.ne_of_gt (lt R1.hb)) (Nat.ne_of_gt (lt R1.hc)) fun i r h=>?_
  ·obtain⟨hi,rfl⟩:=fz2 i x h
   left;unfold SX.row;simp [zD,zF (show i < S.ls.length by rw [P.ls];exact hi)]
  ·have:=(fz2 i _ h).2;cases this
 obtain⟨t2,ht2⟩:∃x,x=(st1++[MT.lst rows2]).set k (.ins "Sheet" (cV S.d st1.length b c g n u)):=⟨_,rfl⟩;rw[<- ht2]at R2;obtain⟨a',ha'⟩:∃x,x=st1.length:=⟨_,rfl⟩;rw[<- ha']at R2 ht2;have R3:=Rep.rowset (p:=p) (x:=.ref t2.length) (l:=pl.map fun x=>- x) (R2.app (ys:=[MT.lst (iL (pl.map fun x=>- x))])) (.inr ⟨t2.length,rfl,.inl gl⟩) fun r e=>by cases e;exact⟨Nat.ne_of_gt (lt R2.ha),Nat.ne_of_gt (lt R2.hb),Nat.ne_of_gt (lt R2.hc)⟩
 obtain⟨t3,ht3⟩:∃x,x=(t2++[MT.lst (iL (pl.map fun x=>- x))]).set a' (.lst (rows2.set p (.ref t2.length))):=⟨_,rfl⟩;rw[<- ht3]at R3;have g3:t3[t2.length]?=some (.lst (iL (pl.map fun x=>- x))):=by rw[ht3,au (zU (lt R2.ha))];exact gl
 have p3:(rows2.set p (.ref t2.length))[p]?=some (.ref t2.length):=by simp[l2,hp]
 have R4:=Rep.cellset (l:=(pl.map fun x=>- x).set q (sg*S.d)) R3 p3 fun i ne h=>by
  rw[yX,yH (fun z=>ne z.symm)]at h
  have:=(fz2 i _ h).2;cases this
 obtain⟨t4,ht4⟩:∃x,x=t3.set t2.length (.lst (iL ((pl.map fun x=>- x).set q (sg*S.d)))):=⟨_,rfl⟩;rw[<- ht4]at R4;have R5:=Rep.fields (S':={ d:=gI pl q,ls:=_,hd:=S.hd,sd:=S.sd,gd:=S.gd,nl:=S.nl,tn:=S.tn }) R4 R4.ha rfl rfl rfl rfl rfl R4.len R4.row R4.ab R4.ac R4.ra;obtain⟨t5,ht5⟩:∃x,x=t4.set k (.ins "Sheet" (cV (gI pl q) a' b c g n u)):=⟨_,rfl⟩;have R5:=ht5▸R5;have R6:=Rep.sides (sd':=S.sd.set p (S.h q)) R5;obtain⟨t6,ht6⟩:∃x,x=t5.set c (.lst (nL (S.sd.set p (S.h q)))):=⟨_,rfl⟩;rw[<- ht6]at R6;have R7:=Rep.heads (hd':=S.hd.set q (S.s p)) R6;obtain⟨t7,ht7⟩:∃x,x=t6.set b (.lst (nL (S.hd.set q (S.s p)))):=⟨_,rfl⟩;rw[<- ht7]at R7;refine⟨t7,a',rows2.set p (.ref t2.length),?_,?_⟩
 rotate_left
 ·have e:SX.M3 S p q={ d:=gI pl q,ls:=((S.ls.map fun l=>chLine l pl q sg S.d).set p (pl.map fun x=>- x)).set p ((pl.map fun x=>- x).set q (sg*S.d)),hd:=S.hd.set q (S.s p),sd:=S.sd.set p (S.h q),gd:=S.gd,nl:=S.nl,tn:=S.tn }:=by
   unfold SX.M3;rw[List.set_set,hpl,hsg]
  rw[e];exact R7
 rw[aI,aA];unfold fF;refine ae (sl':=[Rs k,Is p,Is q,Is sg,none,none,none]) (st':=st) ?_ ?_
 ·by_cases h:S.t p q<0
  ·simp [R.ins,R.line P hp,R.cell P hp (show q < w + 1 by lia),h,hsg,sgn]
  ·simp [R.ins,R.line P hp,R.cell P hp (show q < w + 1 by lia),h,hsg,sgn]
 refine ae (sl':=[Rs k,Is p,Is q,Is sg,Ls pl,none,none]) (st':=st) ?_ ?_
 ·obtain⟨gd,i1,i2⟩:=(R.row p _ (R.rx P hp)).it
  simp [R.ins,R.line P hp,i1,cg (show (SX.row S p).length <= 1000 by rw [P.rl hp];lia)];rw [jO (F:=fun x=>sg * x) i2 fun x hx=>⟨_,rfl,rfl,by simp [aZ (cm bs (B.row P hp x hx))]⟩];simp [hpl']
 refine ae (sl':=[Rs k,Is p,Is q,Is sg,Ls pl,Is S.d,none]) (st':=st) (by simp[R.ins]) ?_;refine ae (sl':=[Rs k,Is p,Is q,Is sg,Ls pl,Is S.d,none]) (st':=t2) ?_ ?_
 ·rw[g8 (v:=.ref a') (st':=st1++[.lst rows2]) (k:=k) (by simp[R.ins,oT R.ha,rl,cg hm,e1,ha']) (by simp) R1.app.ins rfl,zl,ht2]
 refine ae (sl':=[Rs k,Is p,Is q,Is sg,Ls pl,Is S.d,none]) (st':=t3) ?_ ?_
 ·simp [cg (show pl.length <= 1000 by lia)]
  rw [jO (F:=fun x=>- x) fN fun x hx=>⟨_,rfl,rfl,by simp⟩];simp [R2.app.ins,db (R2.app (ys:=[MT.lst (iL (pl.map fun x=>- x))])).ha (show p < rows2.length by lia),ht3]
 have P4:M5 w m { S with ls:=((S.ls.map fun l=>chLine l pl q sg S.d).set p (pl.map fun x=>- x)).set p ((pl.map fun x=>- x).set q (sg*S.d)) }:=by
  have:=SX.exch_shp (c:=q) P hp
  refine⟨by simp[P.ls],fun l hl=>this.row l ?_,P.hd,P.sd⟩;show l∈(S.ls.map fun l=>chLine l (pvl S p q) q (sgn (S.t p q)) S.d).set p _;rw[<- hpl,<- hsg];rw[List.set_set]at hl;exact hl
 have rx:kn (rows2.set p (.ref t2.length)) p=.ref t2.length:=by unfold kn;rw[zD,p3];rfl
 refine ae (sl':=[Rs k,Is p,Is q,Is sg,Ls pl,Is S.d,none]) (st':=t4) ?_ ?_
 ·have li:aP t3 (.ref a') (.int (p:Int))=some (.ref t2.length):=by rw[cP (bK R3.ha),cF];exact p3
  simp [aZ (cm bs B.1),R3.ins,li,db g3 (show q < (iL (pl.map fun x=>- x)).length by simp;lia),ff,ht4]
 refine ae (sl':=[Rs k,Is p,Is q,Is sg,Ls pl,Is S.d,none]) (st':=t5) ?_ ?_
 ·have xi:aP t4 (.fz (iL pl)) (.int (q:Int))=some (.int (gI pl q)):=by rw[cP fU,cF,ce oM]
  rw[g8 (v:=.int (gI pl q)) (st':=t4) (k:=k) (by simp[xi]) (by simp) R4.ins rfl,zm,ht5]
 have P5:M5 w m { S with d:=gI pl q,ls:=((S.ls.map fun l=>chLine l pl q sg S.d).set p (pl.map fun x=>- x)).set p ((pl.map fun x=>- x).set q (sg*S.d)) }:=⟨P4.ls,P4.row,P4.hd,P4.sd⟩;refine ae (sl':=[Rs k,Is p,Is q,Is sg,Ls pl,Is S.d,Is (S.s p:Int)]) (st':=t5) ?_ ?_
 ·have:=R5.side P5 hp
  simp[R5.ins,this];rfl
 refine ae (sl':=[Rs k,Is p,Is q,Is sg,Ls pl,Is S.d,Is (S.s p:Int)]) (st':=t6) ?_ ?_
 ·have:=R5.head P5 hq
  simp [R5.ins,this,db R5.hc (show p < (nL S.sd).length by simp [P.sd,hp]),ht6];rw [<- wO];rfl
 refine ae (sl':=[Rs k,Is p,Is q,Is sg,Ls pl,Is S.d,Is (S.s p:Int)]) (st':=t7) ?_ rfl;simp [R6.ins,db R6.hb (show q < (nL S.hd).length by simp [P.hd,hq]),ht7,wO]
end
open SX (MI Rais MZ Kept M3)
noncomputable def ins(l:List Nat)(q:Nat):List Nat:=if q∈l then l else l++[q]
section
variable{st:aa}{k a b c g n u w m:Nat}{rows:List AV}{S:Sh}{p q:Nat}
theorem tT(R:Rep st k a b c g n u rows S)(hl:S.gd.length<=1000):∃st',aL [.ref k,.int q] st=some (.non,st')/\Rep st' k a b c g n u rows { S with gd:=ins S.gd q }:=by
 refine⟨_,?_,R.guard⟩;simp[aL,aA,gU,R.ins,oS R.hg hl,ins]
theorem qH(R:Rep st k a b c g n u rows S)(hl:S.nl.length<=1000):∃st',dM [.ref k,.int q] st=some (.non,st')/\Rep st' k a b c g n u rows { S with nl:=ins S.nl q }:=by
 refine⟨_,?_,R.nail⟩;simp[dM,aA,iM,R.ins,oS R.hn hl,ins]
theorem Ds(R:Rep st k a b c g n u rows S)(P:M5 w m S)(hw:w<=100)(hp:p<m)(hl:S.tn.length<=1000):∃st' rows',cH [.ref k,.int p] st=some (.non,st')/\Rep st' k a b c g n u rows' (SX.trn S p):=by
 have R1:=Rep.rowset (p:=p) (x:=.fz (iL ((SX.row S p).map fun x=>- x))) (l:=(SX.row S p).map fun x=>- x) R (.inl rfl) fun r e=>nomatch e
 have R2:=Rep.turned (tn':=if S.s p∈S.tn then S.tn else S.tn++[S.s p]) R1;refine⟨_,_,?_,R2⟩;obtain⟨gd,i1,i2⟩:=(R.row p _ (R.rx P hp)).it;have P1:M5 w m { S with ls:=S.ls.set p ((SX.row S p).map fun x=>- x) }:=⟨(SX.trn_shp P hp).ls,(SX.trn_shp P hp).row,P.hd,P.sd⟩;rw[cH,aA];unfold eZ;refine ae (sl':=[Rs k,Is p]) (st':=st.set a (.lst (rows.set p (.fz (iL ((SX.row S p).map fun x=>- x)))))) ?_ ?_
 ·simp [R.ins,R.line P hp,i1,cg (show (SX.row S p).length <= 1000 by rw [P.rl hp];lia)]
  rw [jO (F:=fun x=>- x) i2 fun x hx=>⟨_,rfl,rfl,by simp⟩];simp [R.ins,db R.ha (show p < rows.length by rw [R.len,P.ls];exact hp)]
 ·have:=R1.side P1 hp
  simp[R1.ins,this];rw[oS R1.hu hl];rfl
theorem Hr(R:Rep st k a b c g n u rows S)(P:M5 w m S)(hw:w<=100)(hp:p<m):∃o:Option Nat,bS [.ref k,.int p] st=some (oN o,st)/\(o=none->∀j,j<w->S.h j∉S.nl->S.t p j=0)/\∀q,o=some q->q<w/\S.h q∉S.nl/\S.t p q≠0:=by
 have ll:(bW S).length<=1000:=by
  unfold bW;rw[zH]
  have:=List.length_filter_le (fun z:Nat×Nat=>!decide (z.1∈S.nl)) S.hd.zipIdx
  rw[List.length_zipIdx,P.hd]at this;lia
 have inl:∀j,j∈(bW S).filter (fun j=>!decide (S.t p j=0)) ↔ (j<w/\S.h j∉S.nl)/\S.t p j≠0:=fun j=>by rw[List.mem_filter,iR P];simp
 have hm:∃o:Option Nat,Ab (((bW S).filter fun j=>!decide (S.t p j=0)).map fun j=>((j:Nat):Int))=oN o/\(o=none->(bW S).filter (fun j=>!decide (S.t p j=0))=[])/\∀q,o=some q->q∈(bW S).filter fun j=>!decide (S.t p j=0):=by
  generalize (bW S).filter (fun j=>!decide (S.t p j=0))=l;cases l with
  |nil=>exact⟨none,rfl,fun _=>rfl,fun q h=>nomatch h⟩
  |cons x l =>
   have h:=(DD.minF (l.map fun j=>((j:Nat):Int)) (x:Int)).1;rw[<- zO (f:=fun j:Nat=>((j:Nat):Int))]at h;obtain⟨y,hy,e⟩:=yD.mp h;refine⟨some y,?_,(fun z=>nomatch z),fun q z=>by cases z;exact hy⟩;show AV.int _=AV.int _;rw[e]
 obtain⟨o,ho,h1,h2⟩:=hm;refine⟨o,?_,fun e j hj hn=>Classical.byContradiction fun ht=>?_,fun q e=>?_⟩
 ·simp[bS,aA,dH,R.ins,R.line P hp,tH R P hw,nL,cg ll]
  rw [gq (B:=fun j=>!decide (S.t p j=0)) (F:=fun j:Nat=>.int (j:Int)) fN fun j hj=>⟨_,rfl,by simp [R.cell P hp (show j < w + 1 by have:=(iR P).mp hj;lia)],fun _=>rfl⟩];have hf:rfs (((bW S).filter fun j=>!decide (S.t p j=0)).map fun j:Nat=>(AV.int (j:Int)))=true:=my;have hi:=tL (l:=(bW S).filter fun j=>!decide (S.t p j=0));unfold nL at hi;simp [hf,cj,nh,lsI,hi,ho]
 ·have hm:=(inl j).mpr ⟨⟨hj,hn⟩,ht⟩
  rw[h1 e]at hm;cases hm
 ·have:=(inl q).mp (h2 q e)
  exact⟨this.1.1,this.1.2,this.2⟩
end
section
variable{st:aa}{k a b c g n u w m:Nat}{rows:List AV}{S:Sh}{p:Nat}{v:Nat->Nat->Int}
structure Bnd(w m:Nat)(v:Nat->Nat->Int):Prop where
 ex:∃M:Nat,1<=M/\(∀q x,x<w+1->(v q x).natAbs<=M)/\SX.fct (w+1)*M^(w+1)<2^2500
 hw:w<=100
 hm:m<=1000
theorem Bnd.bd(H:Bnd w m v)(I:MI w m v S):Bd w m S:=by
 obtain⟨M,h1,h2,h3⟩:=H.ex;exact I.bound h1 h2 (Nat.lt_trans h3 (Nat.pow_lt_pow_right dC dC))
theorem Bnd.bd8(H:Bnd w m v)(I:MI w m v S):S.d.natAbs<2^8900/\∀i,i<m->∀j,j<w+1->(S.t i j).natAbs<2^8900:=by
 obtain⟨M,h1,h2,h3⟩:=H.ex;exact I.bound h1 h2 (Nat.lt_trans h3 (Nat.pow_lt_pow_right dC dC))
theorem Bnd.bd2(H:Bnd w m v)(I:MI w m v S):S.d.natAbs<2^2500/\∀i,i<m->∀j,j<w+1->(S.t i j).natAbs<2^2500:=by
 obtain⟨M,h1,h2,h3⟩:=H.ex;exact I.bound h1 h2 h3
def uh(w m:Nat)(v:Nat->Nat->Int)(k b c g n u p:Nat)(S0:Sh)(o:Out):Prop:=∃(S:Sh)(st':aa)(a':Nat)(rows':List AV),Rep st' k a' b c g n u rows' S/\Kept m p S0 S /\
 ((o=.rt (.bl true) st'/\MI w m v { S with gd:=S.gd++[S0.s p] }/\MI w m v { S with nl:=S.nl++[S0.s p] }) \/
  (o=.rt (.bl false) st'/\MI w m v S/\S.s p=S0.s p/\S.t p w<0/\∀j,j<w->S.h j∉S.nl->¬0<S.t p j) \/
  ∃sl,o=.nx sl st'/\MI w m v S/\S.s p=S0.s p/\0<=S0.t p w)
theorem wU(H:Bnd w m v)(R:Rep st k a b c g n u rows S0)(I:MI w m v S0)(hp:p<m)(ng:S0.s p∉S0.gd)(nn:S0.s p∉S0.nl) :
  ∃o,lE (tv [aG,aF,aS,aI] (.cmp .Lt (.ix (.ix (.fd "Sheet" "lines" (.v 0)) (.v 1)) (.un .USub (.i 1))) (.i 0)))
   (ah [aG,aF,aS,aI] (.cons (.as (.me "Sheet" "raising_column" 0 (.v 0) (.cons (.v 1) .nil)) (.nm 2))
    (.cons (.iff (.cmp .Is (.v 2) .n) (.cons (.rt (.b false)) .nil) .nil)
    (.cons (.as (.me "Sheet" "tightest_place" 1 (.v 0) (.cons (.v 2) .nil)) (.nm 3))
    (.cons (.iff (.or (.cmp .Is (.v 3) .n) (.va (.me "Sheet" "is_up_first" 2 (.v 0) (.cons (.v 1) (.cons (.v 3) (.cons (.v 2) .nil)))))) (.cons (.ex (.me "Sheet" "exchange" 3 (.v 0) (.cons (.v 1) (.cons (.v 2) .nil)))) (.cons (.rt (.b true)) .nil)) .nil)
    (.cons (.ex (.me "Sheet" "exchange" 3 (.v 0) (.cons (.v 3) (.cons (.v 2) .nil)))) .nil)))))) [Rs k,Is p,x,y] st=some o/\uh w m v k b c g n u p S0 o:=by
 refine sP (α:=Sh) (a0:=S0) (I:=fun S sl s=>(∃a' rows' x y,sl=[Rs k,Is p,x,y]/\Rep s k a' b c g n u rows' S)/\MI w m v S/\Kept m p S0 S/\S.s p=S0.s p/\(S0.t p w<0->S.t p w<0))
  (Q:=fun S T=>MI w m v S/\(∃r q e,SX.Bl w m p (·∈S.gd) (·∈S.nl) r q e (SX.toSt S) (SX.toSt T))/\Kept m p S T) (fun f h0 hf=>SX.no_chain hp f hf (by rw[h0];exact ng)) (fun S sl s hI=>?_) ⟨⟨a,rows,x,y,rfl,R⟩,I,Kept.refl,rfl,id⟩
 obtain⟨⟨a',rows',x,y,rfl,R⟩,I,K,sp,lw⟩:=hI;have B:=H.bd I;have P:=I.shp;have ng':S.s p∉S.gd:=by rw[sp,K.gd];exact ng
 have nn':S.s p∉S.nl:=by rw[sp,K.nl];exact nn
 have ht:tv [aG,aF,aS,aI] (.cmp .Lt (.ix (.ix (.fd "Sheet" "lines" (.v 0)) (.v 1)) (.un .USub (.i 1))) (.i 0)) [Rs k,Is p,x,y] s=some (decide (S.t p w<0),s):=by
  simp[R.ins,R.line P hp,R.last P hp]
 by_cases low:S.t p w<0
 ·rw[yW low]at ht
  obtain⟨o,e1,h1⟩:=qD R P H.hw hp;cases o with
  |none =>
   left;refine⟨_,qp (v:=.bl false) (st2:=s) ht ?_,S,s,a',rows',R,K,.inr (.inl ⟨rfl,I,sp,low,h1.1 rfl⟩)⟩;simp[R.ins,e1,oN]
  |some q =>
   obtain⟨q1,_,q3,_⟩:=h1.2 q rfl;obtain⟨o,e2,h2⟩:=sV R P B q1;have d0:S.d≠0:=by have:=I.lin.pos;lia
   have aw:(MZ S w q m none\/∃r,MZ S w q m (some r)/\S.t p w*S.t r q<=S.t r w*S.t p q)->o=none\/(∃r,o=some r/\S.t p w*S.t r q<=S.t r w*S.t p q)->∃o,c7 (tv [aG,aF,aS,aI] (.cmp .Lt (.ix (.ix (.fd "Sheet" "lines" (.v 0)) (.v 1)) (.un .USub (.i 1))) (.i 0)))
     (ah [aG,aF,aS,aI] (.cons (.as (.me "Sheet" "raising_column" 0 (.v 0) (.cons (.v 1) .nil)) (.nm 2))
    (.cons (.iff (.cmp .Is (.v 2) .n) (.cons (.rt (.b false)) .nil) .nil)
    (.cons (.as (.me "Sheet" "tightest_place" 1 (.v 0) (.cons (.v 2) .nil)) (.nm 3))
    (.cons (.iff (.or (.cmp .Is (.v 3) .n) (.va (.me "Sheet" "is_up_first" 2 (.v 0) (.cons (.v 1) (.cons (.v 3) (.cons (.v 2) .nil)))))) (.cons (.ex (.me "Sheet" "exchange" 3 (.v 0) (.cons (.v 1) (.cons (.v 2) .nil)))) (.cons (.rt (.b true)) .nil)) .nil)
    (.cons (.ex (.me "Sheet" "exchange" 3 (.v 0) (.cons (.v 3) (.cons (.v 2) .nil)))) .nil)))))) 1 [Rs k,Is p,x,y] s=some o/\uh w m v k b c g n u p S0 o:=fun hT ho=>by
    obtain⟨st',a2,rows2,e3,R2⟩:=nX R P B d0 H.hw H.hm hp q1;obtain⟨m1,m2,m3⟩:=I.up hp ng' nn' low h1 hT;refine⟨_,qp (v:=.bl true) (st2:=st') ht ?_,M3 S p q,st',a2,rows2,R2,K.trans m3,.inl ⟨rfl,by rw[<- sp];exact m1,by rw[<- sp];exact m2⟩⟩;rcases ho with rfl|⟨r,rfl,hu⟩
    ·simp[R.ins,e1,oN,e2,e3]
    ·have:=AT R P B hp (h2.2 r rfl).1 q1
     simp[R.ins,e1,oN,e2,e3,this,eR,bO,dr,hu]
   cases o with
   |none=>exact .inl (aw (.inl h2) (.inl rfl))
   |some r =>
    by_cases hu:S.t p w*S.t r q<=S.t r w*S.t p q
    ·exact .inl (aw (.inr ⟨r,h2,hu⟩) (.inr ⟨r,rfl,hu⟩))
    ·right
     have r1:=(h2.2 r rfl).1;obtain⟨st',a2,rows2,e3,R2⟩:=nX R P B d0 H.hw H.hm r1 q1;obtain⟨m1,m2,m3,m4⟩:=I.step hp ng' h1 h2;refine⟨M3 S r q,[Rs k,Is p,Is q,Is r],st',⟨I,⟨r,q,_,m2⟩,m3⟩,⟨⟨a2,rows2,_,_,rfl,R2⟩,m1,K.trans m3,m4.trans sp,fun _=>I.low hp ng' h1 h2 hu⟩,fun n o h=>oz ht ?_ h⟩
     have:=AT R P B hp r1 q1
     simp[R.ins,e1,oN,e2,e3,this,eR,bO,dr,hu]
 ·rw[yA low]at ht
  left;exact⟨_,kR ht,S,s,a',rows',R,K,.inr (.inr ⟨_,rfl,I,sp,by
   rcases yV (S0.t p w) 0 with z|z
   ·exact absurd (lw z) low
   ·exact z⟩)⟩
end
section
variable{st:aa}{k a b c g n u w m:Nat}{rows:List AV}{S:Sh}{p:Nat}{v:Nat->Nat->Int}
theorem wT(H:Bnd w m v)(R:Rep st k a b c g n u rows S0)(I:MI w m v S0)(hp:p<m)(ng:S0.s p∉S0.gd)(nn:S0.s p∉S0.nl) :
  ∃(S:Sh)(st':aa)(a':Nat)(rows':List AV)(bb:Bool),cG [.ref k,.int p] st=some (.bl bb,st')/\Rep st' k a' b c g n u rows' S/\Kept m p S0 S /\
   ((bb=true/\MI w m v { S with gd:=S.gd++[S0.s p] }/\(S0.t p w<0->MI w m v { S with nl:=S.nl++[S0.s p] })) \/
    (bb=false/\MI w m v S/\S.s p=S0.s p/\S.t p w<0/\∀j,j<w->S.h j∉S.nl->¬0<S.t p j)):=by
 by_cases low:S0.t p w<0
 ·obtain⟨o,e,S,st',a',rows',R',K,h⟩:=wU H R I hp ng nn (x:=none) (y:=none)
  rcases h with⟨rfl,h1,h2⟩|⟨rfl,h1,h2,h3,h4⟩|⟨sl,rfl,h1,h2,h3⟩
  ·refine⟨S,st',a',rows',true,?_,R',K,.inl ⟨rfl,h1,fun _=>h2⟩⟩
   simp[cG,aA,eB,e]
  ·refine⟨S,st',a',rows',false,?_,R',K,.inr ⟨rfl,h1,h2,h3,h4⟩⟩
   simp[cG,aA,eB,e]
  ·lia
 ·refine⟨S0,st,a,rows,true,?_,R,Kept.refl,.inl ⟨rfl,I.guard hp oM,fun z=>absurd z low⟩⟩
  have P:=I.shp;rw[cG,aA];unfold eB;refine ae (sl':=[Rs k,Is p,none,none]) (st':=st) (mQ (n:=1) (kR (by simp[R.ins,R.line P hp,R.last P hp,low]))) ?_;simp
theorem Db(H:Bnd w m v)(R:Rep st k a b c g n u rows S0)(I:MI w m v S0)(hp:p<m)(ng:S0.s p∉S0.gd) :
  ∃r,bJ [.ref k,.int p] st=some r/\∃(S:Sh)(a':Nat)(rows':List AV),Rep r.2 k a' b c g n u rows' S/\Kept m p S0 S/\MI w m v S/\S.s p=S0.s p /\
   ((r.1=.non/\Rais w S p none)\/∃q,r.1=.int ((q:Nat):Int)/\Rais w S p (some q)/\MZ S w q m none):=by
 rw[bJ];simp only[aA];unfold fG;obtain⟨o,e1,h1⟩:=qD R I.shp H.hw hp;refine ag (sl':=[Rs k,Is p,some (oN o),none]) (st':=st) (by simp[R.ins,e1]) ?_;refine DX (Post:=fun out=>∃(S:Sh)(a':Nat)(rows':List AV)(st':aa),Rep st' k a' b c g n u rows' S/\Kept m p S0 S/\MI w m v S/\S.s p=S0.s p /\
   ((∃sl,out=.nx sl st'/\Rais w S p none)\/∃q,out=.rt (.int ((q:Nat):Int)) st'/\Rais w S p (some q)/\MZ S w q m none))
  (sP (α:=Sh) (a0:=S0) (I:=fun S sl s=>(∃a' rows' x o,sl=[Rs k,Is p,some (oN o),x]/\Rep s k a' b c g n u rows' S/\Rais w S p o)/\MI w m v S/\Kept m p S0 S/\S.s p=S0.s p)
   (Q:=fun S T=>MI w m v S/\(∃r q e,SX.Bl w m p (·∈S.gd) (·∈S.nl) r q e (SX.toSt S) (SX.toSt T))/\Kept m p S T) (fun f h0 hf=>SX.no_chain hp f hf (by rw[h0];exact ng)) (fun S sl s hI=>?_) ⟨⟨a,rows,none,o,rfl,R,h1⟩,I,Kept.refl,rfl⟩) ?_
 ·obtain⟨⟨a',rows',x,o,rfl,R,h1⟩,I,K,sp⟩:=hI
  have B:=H.bd I;have P:=I.shp;have ng':S.s p∉S.gd:=by rw[sp,K.gd];exact ng
  cases o with
  |none =>
   left;exact⟨_,kR (st':=s) (by simp[oN]),S,a',rows',s,R,K,I,sp,.inl ⟨_,rfl,h1⟩⟩
  |some q =>
   obtain⟨q1,_,q3,_⟩:=h1.2 q rfl;obtain⟨o,e2,h2⟩:=sV R P B q1;cases o with
   |none =>
    left;refine⟨_,qp (v:=.int q) (st':=s) (st2:=s) (by simp[oN]) ?_,S,a',rows',s,R,K,I,sp,.inr ⟨q,rfl,h1,h2⟩⟩;simp[R.ins,oN,e2]
   |some r =>
    right;have d0:S.d≠0:=by have:=I.lin.pos;lia
    have r1:=(h2.2 r rfl).1;obtain⟨st',a2,rows2,e3,R2⟩:=nX R P B d0 H.hw H.hm r1 q1;obtain⟨m1,m2,m3,m4⟩:=I.step hp ng' h1 h2;obtain⟨o,e4,h4⟩:=qD R2 m1.shp H.hw hp;refine⟨M3 S r q,[Rs k,Is p,some (oN o),Is r],st',⟨I,⟨r,q,_,m2⟩,m3⟩,⟨⟨a2,rows2,_,o,rfl,R2,h4⟩,m1,K.trans m3,m4.trans sp⟩,fun n o' h=>oz (st':=s) (by simp[oN]) ?_ h⟩;simp[R.ins,oN,e2,e3,R2.ins,e4]
 ·rintro out ⟨S,a',rows',st',R',K,I',sp,⟨sl,rfl,h⟩|⟨q,rfl,h⟩⟩
  ·exact⟨(.non,st'),by simp,S,a',rows',R',K,I',sp,.inl ⟨rfl,h⟩⟩
  ·exact⟨(.int q,st'),by simp,S,a',rows',R',K,I',sp,.inr ⟨q,rfl,h⟩⟩
end
structure Kj(m p:Nat)(S T:Sh):Prop where
 tn:T.tn=S.tn\/T.tn=S.tn++[S.s p]
 si:∀i,i<m->i≠p->S.s i∉S.gd->T.s i=S.s i
section
variable{st:aa}{k a b c g n u w m:Nat}{rows:List AV}{S:Sh}{p:Nat}{v:Nat->Nat->Int}
theorem HC(H:Bnd w m v)(R:Rep st k a b c g n u rows S0)(I:MI w m v S0)(hp:p<m)(ng:S0.s p∉S0.gd)(nn:S0.s p∉S0.nl)(hl:S0.gd.length<=1000) :
  ∃(S:Sh)(st':aa)(a':Nat)(rows':List AV)(bb:Bool),bM [.ref k,.int p] st=some (.bl bb,st')/\Rep st' k a' b c g n u rows' S/\Kj m p S0 S/\S.tn=S0.tn/\S.nl=S0.nl/\MI w m v S /\
   ((bb=true/\S.gd=S0.gd++[S0.s p])\/(bb=false/\S.gd=S0.gd/\S.s p=S0.s p/\S.t p w<0/\∀j,j<w->S.h j∉S.nl->¬0<S.t p j)):=by
 have P:=I.shp;obtain⟨S,st1,a1,rows1,bb,e1,R1,K,h⟩:=wT H R I hp ng nn;rcases h with⟨rfl,h1,_⟩|⟨rfl,h1,h2⟩
 ·obtain⟨st2,e2,R2⟩:=tT (q:=S0.s p) R1 (by rw[K.gd];exact hl)
  have ei:ins S.gd (S0.s p)=S.gd++[S0.s p]:=yH (by rw[K.gd];exact ng);rw[ei]at R2;refine⟨{ S with gd:=S.gd++[S0.s p] },st2,a1,rows1,true,?_,R2,⟨.inl K.tn,K.si⟩,K.tn,K.nl,h1,.inl ⟨rfl,by rw[K.gd]⟩⟩;simp[bM,aA,eK,R.ins,R.side P hp,e1,eR,bO,dr,R1.ins,e2]
 ·refine⟨S,st1,a1,rows1,false,?_,R1,⟨.inl K.tn,K.si⟩,K.tn,K.nl,h1,.inr ⟨rfl,K.gd,h2⟩⟩
  simp[bM,aA,eK,R.ins,R.side P hp,e1,eR,bO,dr]
theorem HD(H:Bnd w m v)(R:Rep st k a b c g n u rows S0)(I:MI w m v S0)(hp:p<m)(ng:S0.s p∉S0.gd)(nn:S0.s p∉S0.nl)(nt:S0.s p∉S0.tn)(hl:S0.nl.length<=1000)(hl2:S0.tn.length<=1000) :
  ∃(S:Sh)(st':aa)(a':Nat)(rows':List AV)(bb:Bool),cC [.ref k,.int p] st=some (.bl bb,st')/\Rep st' k a' b c g n u rows' S/\Kj m p S0 S/\S.gd=S0.gd/\MI w m v S /\
   ((bb=true/\S.nl=S0.nl++[S0.s p])\/(bb=false/\S.nl=S0.nl/\S.s p=S0.s p/\S.t p w<0/\∀j,j<w->S.h j∉S.nl->¬0<S.t p j)):=by
 have P:=I.shp
 -- turned about,if need be
 have s1:∃(S1:Sh)(st1:aa)(rows1:List AV),cS [cH,cG,bS,aI,dM] (.iff (.cmp .Gt (.ix (.ix (.fd "Sheet" "lines" (.v 0)) (.v 1)) (.un .USub (.i 1))) (.i 0)) (.cons (.ex (.me "Sheet" "turn_line" 0 (.v 0) (.cons (.v 1) .nil))) .nil) .nil) [Rs k,Is p,Is (S0.s p:Int),none] st=some (.nx [Rs k,Is p,Is (S0.s p:Int),none] st1) /\
   Rep st1 k a b c g n u rows1 S1/\MI w m v S1/\S1.gd=S0.gd/\S1.nl=S0.nl/\(S1.tn=S0.tn\/S1.tn=S0.tn++[S0.s p])/\S1.sd=S0.sd/\S1.t p w<=0:=by
  by_cases h:0<S0.t p w
  ·obtain⟨st1,rows1,e1,R1⟩:=Ds R P H.hw hp hl2
   refine⟨SX.trn S0 p,st1,rows1,?_,R1,I.turn hp ng nn nt,rfl,rfl,.inr (yH nt),rfl,?_⟩
   ·simp[R.ins,R.line P hp,R.last P hp,h,e1]
   ·rw[(SX.trn_t P hp).1 w oM];lia
  ·refine⟨S0,st,rows,?_,R,I,rfl,rfl,.inl rfl,rfl,by lia⟩
   simp[R.ins,R.line P hp,R.last P hp,h]
 obtain⟨S1,st1,rows1,e1,R1,I1,g1,n1,t1,d1,low1⟩:=s1;have ss:∀i,S1.s i=S0.s i:=fun i=>by show S1.sd.getD i 0=S0.sd.getD i 0;rw[d1]
 have P1:=I1.shp;have nn1:S1.s p∉S1.nl:=by rw[ss,n1];exact nn
 have ng1:S1.s p∉S1.gd:=by rw[ss,g1];exact ng
 have kj:∀T:Sh,Kept m p S1 T->Kj m p S0 T:=fun T K=>⟨by rw[K.tn];exact t1,fun i hi ne h=>by rw[K.si i hi ne (by rw[ss,g1];exact h),ss]⟩
 have hd:∀{r:AV×aa},(ah [cH,cG,bS,aI,dM] (.cons (.iff (.cmp .Lt (.ix (.ix (.fd "Sheet" "lines" (.v 0)) (.v 1)) (.un .USub (.i 1))) (.i 0)) (.cons (.iff (.no (.va (.me "Sheet" "lift" 1 (.v 0) (.cons (.v 1) .nil)))) (.cons (.rt (.b false)) .nil) .nil) .nil)
   (.cons (.as (.me "Sheet" "moving_column" 2 (.v 0) (.cons (.v 1) .nil)) (.nm 3)) (.cons (.iff (.cmp .IsNot (.v 3) .n) (.cons (.ex (.me "Sheet" "exchange" 3 (.v 0) (.cons (.v 1) (.cons (.v 3) .nil)))) .nil) .nil) .nil)))
   (.cons (.ex (.me "Sheet" "nail" 4 (.v 0) (.cons (.v 2) .nil))) (.cons (.rt (.b true)) .nil))) [Rs k,Is p,Is (S0.s p:Int),none] st1).bind aw=some r->cC [.ref k,.int p] st=some r:=fun h=>by
  rw[cC,aA];unfold jo;exact ae (sl':=[Rs k,Is p,Is (S0.s p:Int),none]) (st':=st) (by simp[R.ins,R.side P hp]) (ae e1 h)
 by_cases low:S1.t p w<0
 ·obtain⟨S,st2,a2,rows2,bb,e2,R2,K,h⟩:=wT H R1 I1 hp ng1 nn1
  rcases h with⟨rfl,h1,h2⟩|⟨rfl,h1,h2⟩
  ·obtain⟨st3,e3,R3⟩:=qH (q:=S0.s p) R2 (by rw[K.nl,n1];exact hl)
   have ei:ins S.nl (S0.s p)=S.nl++[S0.s p]:=yH (by rw[K.nl,n1];exact nn);rw[ei]at R3;have h2:=h2 low;rw[ss]at h2;refine⟨{ S with nl:=S.nl++[S0.s p] },st3,a2,rows2,true,hd ?_,R3,⟨(kj S K).tn,(kj S K).si⟩,K.gd.trans g1,h2,.inl ⟨rfl,by rw[K.nl,n1]⟩⟩;simp[R1.ins,R1.line P1 hp,R1.last P1 hp,low,e2,eR,bO,dr,R2.ins,e3]
  ·refine⟨S,st2,a2,rows2,false,hd ?_,R2,kj S K,K.gd.trans g1,h1,.inr ⟨rfl,K.nl.trans n1,h2.1.trans (ss p),h2.2⟩⟩
   simp[R1.ins,R1.line P1 hp,R1.last P1 hp,low,e2,eR,bO,dr]
 ·have z0:S1.t p w=0:=by lia
  obtain⟨o,e2,h1,h2⟩:=Hr R1 P1 H.hw hp;cases o with
  |none =>
   obtain⟨st3,e3,R3⟩:=qH (q:=S0.s p) R1 (by rw[n1];exact hl);have ei:ins S1.nl (S0.s p)=S1.nl++[S0.s p]:=yH (by rw[n1];exact nn);rw[ei]at R3;have m1:=I1.nail hp z0 (h1 rfl);rw[ss]at m1;refine⟨{ S1 with nl:=S1.nl++[S0.s p] },st3,a,rows1,true,hd ?_,R3,⟨(kj S1 Kept.refl).tn,(kj S1 Kept.refl).si⟩,g1,m1,.inl ⟨rfl,by rw[n1]⟩⟩;simp[R1.ins,R1.line P1 hp,R1.last P1 hp,z0,e2,oN,e3]
  |some q =>
   obtain⟨q1,q2,q3⟩:=h2 q rfl;have d0:S1.d≠0:=by have:=I1.lin.pos;lia
   obtain⟨st2,a2,rows2,e4,R2⟩:=nX R1 P1 (H.bd I1) d0 H.hw H.hm hp q1;obtain⟨st3,e3,R3⟩:=qH (q:=S0.s p) R2 (by show S1.nl.length<=1000;rw[n1];exact hl);have ei:ins (M3 S1 p q).nl (S0.s p)=S1.nl++[S0.s p]:=yH (by show S0.s p∉S1.nl;rw[n1];exact nn);rw[ei]at R3;obtain⟨m1,K⟩:=I1.move hp q1 q2 z0 q3;rw[ss]at m1;refine⟨{ M3 S1 p q with nl:=S1.nl++[S0.s p] },st3,a2,rows2,true,hd ?_,R3,⟨(kj _ K).tn,(kj _ K).si⟩,g1,m1,.inl ⟨rfl,by rw[n1]⟩⟩;simp[R1.ins,R1.line P1 hp,R1.last P1 hp,z0,e2,oN,e4,R2.ins,e3]
end
open SX (openS)
structure Gv where
 row:List Int
 eq:Bool
 num:Int
def Gv.av(x:Gv):AV:=.tup [.fz (iL x.row),.str (if x.eq then "=" else ">"),.int x.num]
def ak(RR:List (List Int))(gv:List Gv)(goal:List Int):List (List Int):=RR.map (·++[0])++gv.map (fun x=>x.row++[-x.num])++[goal.map (fun x=>- x)++[0]]
section
variable{w:Nat}{L RR:List (List Int)}{gv:List Gv}{goal:List Int}
abbrev pJ:List (Str×AV):=[("below",.int 1)]
abbrev Gb:List (Str×AV):=[("below",.int 1),("lines",.ref 2)]
abbrev Ga:List (Str×AV):=[("below",.int 1),("lines",.ref 2),("heads",.ref 3)]
abbrev F9:List (Str×AV):=[("below",.int 1),("lines",.ref 2),("heads",.ref 3),("sides",.ref 4)]
abbrev F7:List (Str×AV):=[("below",.int 1),("lines",.ref 2),("heads",.ref 3),("sides",.ref 4),("guarded",.ref 5)]
abbrev F6:List (Str×AV):=[("below",.int 1),("lines",.ref 2),("heads",.ref 3),("sides",.ref 4),("guarded",.ref 5),("nailed",.ref 6)]
abbrev K5(w:Nat)(L:List (List Int)):aa:=[.lst (aB L),.ins "Sheet" (cV 1 2 3 4 5 6 7),.lst (aB L),.lst (nL (List.range w)),.lst (nL ((List.range L.length).map (w+·))),.dK [],.dK [],.dK []]
theorem FN(hw:w<=100)(hL:L.length<=400):aE [.ref 1,.int w,.ref 0] [.lst (aB L),.ins "Sheet" []]=some (.non,[.lst (aB L),.ins "Sheet" (cV 1 2 3 4 5 6 7),.lst (aB L),.lst (nL (List.range w)),.lst (nL ((List.range L.length).map (w+·))),.dK [],.dK [],.dK []]):=by
 have sm:pq (w:Int)=true:=by unfold pq;simp;lia
 have sm2:pq ((w:Int)+(L.length:Int))=true:=by unfold pq;simp;lia
 have l0:∀X:aa,bO (.lst (aB L)::X) (.ref 0)=some (aB L):=fun X=>bK rfl
 rw[aE,aA];unfold fH;refine ae (st':=[.lst (aB L),.ins "Sheet" pJ]) (g8 (v:=.int 1) (st':=[.lst (aB L),.ins "Sheet" []]) (k:=1) (fs:=[]) rfl rfl rfl rfl) ?_;refine ae (st':=[.lst (aB L),.ins "Sheet" Gb,.lst (aB L)]) (g8 (v:=.ref 2) (st':=[.lst (aB L),.ins "Sheet" pJ,.lst (aB L)]) (k:=1) (fs:=pJ) ?_ rfl rfl rfl) ?_
 ·have e:=vq (gd:=[(0,.lst (aB L))]) (g:=b8 [] (.nm 3)) (t:=i8 [] .no) (f:=ev [] (.nw false (.lof (.v 3)))) (sl:=[Rs 1,Is w,Rs 0,none]) (st:=[.lst (aB L),.ins "Sheet" pJ]) (em:=fun l=>.fz (iL l)) (F:=fun l=>l) (xs:=L) (gw rfl) fun l hl=>⟨_,rfl,rfl,by simp[oP]⟩
  rw [List.map_id'] at e;have e':gH [(0,.lst (aB L))] (b8 [] (.nm 3)) (i8 [] .no) (ev [] (.nw false (.lof (.v 3)))) [Rs 1,Is w,Rs 0,none] (aB L) [.lst (aB L),.ins "Sheet" pJ]=some (aB L,[.lst (aB L),.ins "Sheet" pJ]):=e;have i0:ny [.lst (aB L),.ins "Sheet" pJ] (.ref 0)=some ⟨aB L,[(0,.lst (aB L))]⟩:=oT rfl;show ev [] (.nw true (.lc 1 (.e (.v 2)) (.nm 3) .no (.nw false (.lof (.v 3))))) [Rs 1,Is w,Rs 0] [.lst (aB L),.ins "Sheet" pJ]=_;simp [-aB,i0,cg (show L.length <= 1000 by lia),e']
 refine ae (st':=[.lst (aB L),.ins "Sheet" Ga,.lst (aB L),.lst (nL (List.range w))]) (g8 (v:=.ref 3) (st':=[.lst (aB L),.ins "Sheet" Gb,.lst (aB L),.lst (nL (List.range w))]) (k:=1) (fs:=Gb) ?_ rfl rfl rfl) ?_
 ·simp[vg,sm,mT]
 refine ae (st':=[.lst (aB L),.ins "Sheet" F9,.lst (aB L),.lst (nL (List.range w)),.lst (nL ((List.range L.length).map (w+·)))]) (g8 (v:=.ref 4) (st':=[.lst (aB L),.ins "Sheet" Ga,.lst (aB L),.lst (nL (List.range w)),.lst (nL ((List.range L.length).map (w+·)))]) (k:=1) (fs:=Ga) ?_ rfl rfl rfl) ?_
 ·simp[vf,sm,sm2,cj,eU,l0]
  have e:((w:Int)+(L.length:Int)).toNat-w=L.length:=by lia
  rw[e,GS,yI oM];simp
 refine ae (st':=[.lst (aB L),.ins "Sheet" F7,.lst (aB L),.lst (nL (List.range w)),.lst (nL ((List.range L.length).map (w+·))),.dK []]) (g8 (v:=.ref 5) (st':=[.lst (aB L),.ins "Sheet" F9,.lst (aB L),.lst (nL (List.range w)),.lst (nL ((List.range L.length).map (w+·))),.dK []]) (k:=1) (fs:=F9) rfl rfl rfl rfl) ?_;refine ae (st':=[.lst (aB L),.ins "Sheet" F6,.lst (aB L),.lst (nL (List.range w)),.lst (nL ((List.range L.length).map (w+·))),.dK [],.dK []]) (g8 (v:=.ref 6) (st':=[.lst (aB L),.ins "Sheet" F7,.lst (aB L),.lst (nL (List.range w)),.lst (nL ((List.range L.length).map (w+·))),.dK [],.dK []]) (k:=1) (fs:=F7) rfl rfl rfl rfl) ?_;refine ae (st':=[.lst (aB L),.ins "Sheet" (cV 1 2 3 4 5 6 7),.lst (aB L),.lst (nL (List.range w)),.lst (nL ((List.range L.length).map (w+·))),.dK [],.dK [],.dK []]) (g8 (v:=.ref 7) (st':=[.lst (aB L),.ins "Sheet" F6,.lst (aB L),.lst (nL (List.range w)),.lst (nL ((List.range L.length).map (w+·))),.dK [],.dK [],.dK []]) (k:=1) (fs:=F6) rfl rfl rfl rfl) ?_;rfl
theorem HX{k:Nat}(h1:ev ks a sl st=some (.ref k,st))(h2:ev ks e sl st=some (y,st))(h3:st[k]?=some (.lst xs))(h4:bO st y=some ys)(hl:xs.length+ys.length<=1000):ev ks (.mt .ext a (.cons e .nil)) sl st=some (.non,st.set k (.lst (xs++ys))):=by
 simp[md,qO,qN,h1,qv,bK h3,h2,vn,ia,h3,h4,cg hl]
theorem Bx{k:Nat}(h1:ev ks a sl st=some (.ref k,st))(h2:ev ks e sl st=some (y,st))(h3:st[k]?=some (.lst xs))(hl:xs.length<=1000):ev ks (.mt .app a (.cons e .nil)) sl st=some (.non,st.set k (.lst (xs++[y]))):=by
 simp[md,qO,qN,h1,qv,bK h3,h2,qR,ia,h3,cg hl]
theorem E5{n:Int}(HR:∀st,pm aN [.int n] st=some (.fz (aB RR),st))(HA:∀st,pm ao [.int n] st=some (.int w,st))(hw:w<=15)(hR:RR.length<=100)(hr:∀l∈RR,l.length=w)(hg:gv.length<=100)(hgr:∀x∈gv,x.row.length=w)(hgo:goal.length=w) :
  ∃st',bR [.int n,.fz (gv.map Gv.av),.fz (iL goal)] []=some (.ref 1,st')/\Rep st' 1 2 3 4 5 6 7 (aB (ak RR gv goal)) (openS w (ak RR gv goal) (w+RR.length)):=by
 have hL:(ak RR gv goal).length=RR.length+gv.length+1:=by simp[ak];lia
 -- the loop that guards
 have R0:Rep [.lst (aB (ak RR gv goal)),.ins "Sheet" (cV 1 2 3 4 5 6 7),.lst (aB (ak RR gv goal)),.lst (nL (List.range w)),.lst (nL ((List.range (ak RR gv goal).length).map (w+·))),.dK [],.dK [],.dK []] 1 2 3 4 5 6 7 (aB (ak RR gv goal)) (openS w (ak RR gv goal) 0):=by
  refine⟨rfl,rfl,rfl,rfl,rfl,rfl,rfl,by simp[openS],fun i x h=>.inl ?_,by decide,by decide,by decide,by decide,by decide,by decide,fun i r h=>?_⟩
  ·unfold aB at h
   rw[zR]at h;obtain⟨l,h1,rfl⟩:=zE.mp h;show _=AV.fz (iL ((ak RR gv goal).getD i []));rw[zD,h1];rfl
  ·unfold aB at h
   rw[zR]at h;obtain⟨l,h1,h2⟩:=zE.mp h;cases h2
 obtain⟨sl',st',e,x,rfl,R'⟩:=eJ (gd:=[]) (g:=b8 [aN,ao,aE,aL] (.nm 6)) (s:=ah [aN,ao,aE,aL] (.cons (.ex (.me "Sheet" "guard" 3 (.v 5) (.cons (.v 6) .nil))) .nil))
  (I:=fun i sl s=>∃x,sl=[Is n,Zs (gv.map Gv.av),Ls goal,Rs 0,Is ((w:Int)+(RR.length:Int)),Rs 1,x]/\Rep s 1 2 3 4 5 6 7 (aB (ak RR gv goal)) (openS w (ak RR gv goal) i)) (xs:=cX 0 (w+RR.length)) (fun _ _ _ _ _=>rfl)
  (fun i y sl s hy hI=>by
   obtain⟨x,rfl,R⟩:=hI;rw[mT]at hy;have hi:i<w+RR.length:=by have:=(zB.mp hy).1;simpa using this
   have ey:y=.int ((i:Nat):Int):=by
    rw[gj (by simpa using hi)]at hy;injection hy with hy;rw[<- hy];simp[zD,hi]
   subst ey;obtain⟨s',e1,R1⟩:=tT (q:=i) R (by simp[openS];lia);refine⟨_,[Is n,Zs (gv.map Gv.av),Ls goal,Rs 0,Is ((w:Int)+(RR.length:Int)),Rs 1,Is ((i:Nat):Int)],s',rfl,?_,_,rfl,?_⟩
   ·simp[R.ins,e1]
   ·have:ins (List.range i) i=List.range (i+1):=by unfold ins;rw[yH (by simp),List.range_succ]
    have h2:{ openS w (ak RR gv goal) i with gd:=ins (openS w (ak RR gv goal) i).gd i }=openS w (ak RR gv goal) (i+1):=by show Sh.mk _ _ _ _ (ins (List.range i) i) _ _=_;rw[this];rfl
    rw[h2]at R1;exact R1) (sl:=[Is n,Zs (gv.map Gv.av),Ls goal,Rs 0,Is ((w:Int)+(RR.length:Int)),Rs 1,none]) (st:=_) ⟨none,rfl,R0⟩
 have ll:(cX 0 (w+RR.length)).length=w+RR.length:=by rw[mT];simp
 rw[ll]at R';refine⟨st',?_,R'⟩;rw[bR,aA];unfold fZ;refine ae (sl':=[Is n,Zs (gv.map Gv.av),Ls goal,Rs 0,none,none,none]) (st':=[.lst (aB (RR.map (·++[0])))]) ?_ ?_
 ·have lc:=vq (gd:=[]) (g:=b8 [aN,ao,aE,aL] (.nm 7)) (t:=i8 [aN,ao,aE,aL] .no) (f:=ev [aN,ao,aE,aL] (.nw false (.cat (.v 7) (.nw false (.li (.cons (.i 0) .nil))))))
   (sl:=[Is n,Zs (gv.map Gv.av),Ls goal,none,none,none,none,none]) (st:=[]) (em:=fun l=>.fz (iL l)) (F:=fun l=>l++[0]) (xs:=RR) rfl fun l hl=>⟨_,rfl,rfl,by
    rw[jj,jG (l:=l) (l':=[0]) (s1:=[]) (s2:=[]) (y:=.fz (iL [0])) rfl (by simp[cA,iL]) rfl rfl (by rw[hr l hl];simp;lia)];simp⟩
  have lc':gH [] (b8 [aN,ao,aE,aL] (.nm 7)) (i8 [aN,ao,aE,aL] .no) (ev [aN,ao,aE,aL] (.nw false (.cat (.v 7) (.nw false (.li (.cons (.i 0) .nil)))))) [Is n,Zs (gv.map Gv.av),Ls goal,none,none,none,none,none] (aB RR) []=some (aB (RR.map (·++[0])),[]):=lc;simp [HR,cg (show RR.length <= 1000 by lia),lc']
 have l0:∀(x:List AV)(X:aa),bO (.lst x::X) (.ref 0)=some x:=fun x X=>bK rfl
 refine ae (sl':=[Is n,Zs (gv.map Gv.av),Ls goal,Rs 0,Is ((w:Int)+(RR.length:Int)),none,none]) (st':=[.lst (aB (RR.map (·++[0])))]) (by simp[HA,cj,eU,l0]) ?_;refine ae (sl':=[Is n,Zs (gv.map Gv.av),Ls goal,Rs 0,Is ((w:Int)+(RR.length:Int)),none,none]) (st':=[.lst (aB (RR.map (·++[0]))++aB (gv.map fun x=>x.row++[-x.num]))]) ?_ ?_
 ·rw[yt,HX (k:=0) (xs:=aB (RR.map (·++[0]))) (ys:=aB (gv.map fun x=>x.row++[-x.num])) (y:=.fz (aB (gv.map fun x=>x.row++[-x.num]))) rfl ?_ rfl rfl (by simp;lia)]
  ·rfl
  ·have lc:=vq (gd:=[]) (g:=b8 [aN,ao,aE,aL] (.tu 3 (.cons (.nm 7) (.cons (.nm 8) (.cons (.nm 9) .nil))))) (t:=i8 [aN,ao,aE,aL] .no) (f:=ev [aN,ao,aE,aL] (.nw false (.cat (.nw false (.lof (.v 7))) (.nw false (.li (.cons (.un .USub (.v 9)) .nil))))))
    (sl:=[Is n,Zs (gv.map Gv.av),Ls goal,Rs 0,Is ((w:Int)+(RR.length:Int)),none,none,none,none,none]) (st:=[.lst (aB (RR.map (·++[0])))]) (em:=Gv.av) (F:=fun x=>x.row++[-x.num]) (xs:=gv) rfl fun x hx=>⟨_,rfl,rfl,by
     rw[jj,jG (l:=x.row) (l':=[-x.num]) (s1:=[.lst (aB (RR.map (·++[0])))]) (s2:=[.lst (aB (RR.map (·++[0])))]) (x:=.fz (iL x.row)) (y:=.fz (iL [-x.num])) (by simp[oP]) (by simp[cA,iL]) rfl rfl (by rw[hgr x hx];simp;lia)];simp⟩
   simp [cg (show gv.length <= 1000 by lia),lc]
 refine ae (sl':=[Is n,Zs (gv.map Gv.av),Ls goal,Rs 0,Is ((w:Int)+(RR.length:Int)),none,none]) (st':=[.lst (aB (ak RR gv goal))]) ?_ ?_
 ·rw[yt,Bx (k:=0) (xs:=aB (RR.map (·++[0]))++aB (gv.map fun x=>x.row++[-x.num])) (y:=.fz (iL (goal.map (fun x=>- x)++[0]))) rfl ?_ rfl (by simp;lia)]
  ·rw[bind_some]
   have:aB (RR.map (·++[0]))++aB (gv.map fun x=>x.row++[-x.num])++[AV.fz (iL (goal.map (fun x=>- x)++[0]))]=aB (ak RR gv goal):=by
    simp[ak,aB]
   show some (Out.nx _ [.lst (_++[_])])=_;rw[this]
  ·rw[jj,jG (l:=goal.map fun x=>- x) (l':=[0]) (s1:=[.lst (aB (RR.map (·++[0]))++aB (gv.map fun x=>x.row++[-x.num]))]) (s2:=[.lst (aB (RR.map (·++[0]))++aB (gv.map fun x=>x.row++[-x.num]))]) (x:=.fz (iL (goal.map fun x=>- x))) (y:=.fz (iL [0])) ?_ (by simp[cA,iL]) rfl rfl (by simp[hgo];lia)]
   ·simp
   ·simp [cg (show goal.length <= 1000 by lia)]
    rw[jO (F:=fun x=>- x) fN fun x hx=>⟨_,rfl,rfl,by simp⟩];simp
 refine ae (sl':=[Is n,Zs (gv.map Gv.av),Ls goal,Rs 0,Is ((w:Int)+(RR.length:Int)),Rs 1,none]) (st':=K5 w (ak RR gv goal)) ?_ ?_
 ·have:=FN (w:=w) (L:=ak RR gv goal) oM oM
  simp[xP,HA,this]
 ·refine ae (sl':=[Is n,Zs (gv.map Gv.av),Ls goal,Rs 0,Is ((w:Int)+(RR.length:Int)),Rs 1,x]) (st':=st') ?_ (by simp)
  have rb:fA ((w:Int)+(RR.length:Int))=true:=by
   unfold fA;refine yL ?_;have:((w:Int)+(RR.length:Int)).natAbs=w+RR.length:=by lia
   rw[this];by_cases h0:w+RR.length=0
   ·rw[h0];decide
   ·exact yZ ((Nat.log2_lt h0).mpr oM)
  simp[xh,rb];rw[show((w:Int)+(RR.length:Int)).toNat=w+RR.length by lia];exact e
end
noncomputable def gL(l:List Int):Nat:=l.foldl (fun g x=>Nat.gcd g x.natAbs) 0
def aq(l:List Int):List Int:=if gL l=0 then l else l.map fun x=>x/(gL l:Int)
theorem At{d o:Nat}:Nat.gcd o (d%o)=Nat.gcd d o:=by rw[Nat.gcd_comm,<- Nat.gcd_rec,Nat.gcd_comm]
theorem Lm:∀(o d:Nat)(y:Option AV),∃y',cS [] (.wh (.cmp .NotEq (.v 3) (.i 0)) (.cons (.as (.bin .Mod (.v 1) (.v 3)) (.nm 4)) (.cons (.as (.v 3) (.nm 1)) (.cons (.as (.v 4) (.nm 3)) .nil)))) [l,Is d,x,Is o,y] st=some (.nx [l,Is (Nat.gcd d o:Nat),x,Is 0,y'] st):=by
 intro o
 induction o using Nat.strongRecOn with
 |_ o ih =>
  intro d y;by_cases h:o=0
  ·subst h
   refine⟨y,?_⟩;rw[Nat.gcd_zero_right];exact mQ (n:=1) (kR (by simp))
  ·obtain⟨y',e⟩:=ih (d%o) (Nat.mod_lt _ oM) o (some (.int ((d%o:Nat):Int)))
   obtain⟨n,e'⟩:=wH e;refine⟨y',?_⟩;rw[At]at e';refine mQ (n:=n+1) (oz (st':=st) (by simp;lia) ?_ e');have h0:(o:Int)≠0:=by lia
   have hm:pH (d:Int) (o:Int)=((d%o:Nat):Int):=by unfold pH;rw[yI oM];simp
   simp[ib h0,hm]
theorem xq:gL (a++b)=b.foldl (fun g x=>Nat.gcd g x.natAbs) (gL a):=by unfold gL;rw[List.foldl_append]
theorem rH:∀b:List Int,b.foldl (fun g x=>Nat.gcd g x.natAbs) 1=1
 |[]=>rfl
 |x::b=>by rw[List.foldl_cons,Nat.gcd_one_left];exact rH b
theorem Ks:∃r,cM [.fz (iL l)] st=some (r,st)/\r=.int (gL l:Int):=by
 have hl:=k6 (gd:=[]) (g:=b8 [] (.nm 2)) (s:=ah [] (.cons (.as (.bi .abs (.cons (.v 2) .nil)) (.nm 3)) (.cons (.wh (.cmp .NotEq (.v 3) (.i 0)) (.cons (.as (.bin .Mod (.v 1) (.v 3)) (.nm 4)) (.cons (.as (.v 3) (.nm 1)) (.cons (.as (.v 4) (.nm 3)) .nil)))) (.cons (.iff (.cmp .Eq (.v 1) (.i 1)) (.cons (.rt (.i 1)) .nil) .nil) .nil))))
  (I:=fun i sl s=>s=st/\∃x y z,sl=[Ls l,Is (gL (l.take i):Nat),x,y,z]) (Post:=fun v s=>s=st/\v=.int (gL l:Nat)) (xs:=iL l) (fun _ _ _ _ _=>rfl)
  (fun i x sl s hx hI=>by
   obtain⟨rfl,x1,x2,x3,rfl⟩:=hI;have hi:i<l.length:=by have:=(zB.mp hx).1;simpa using this
   rw[ce hi]at hx;injection hx with hx;subst hx;have ht:l.take (i+1)=l.take i++[gI l i]:=by
    rw[List.take_succ,zF hi];unfold gI;rw[zD,zF hi];rfl
   have hg:gL (l.take (i+1))=Nat.gcd (gL (l.take i)) (gI l i).natAbs:=by rw[ht,xq];rfl
   obtain⟨y',e⟩:=Lm (l:=some (.fz (iL l))) (x:=some (.int (gI l i))) (st:=s) (gI l i).natAbs (gL (l.take i)) x3;rw[<- hg]at e;have ea:sB s [.int (gI l i)]=some (.int ((gI l i).natAbs:Nat)):=by
    show some (AV.int (if gI l i<0 then-gI l i else gI l i))=_;congr 2;split<;>lia
   have st1:cS [] (.as (.bi .abs (.cons (.v 2) .nil)) (.nm 3)) [Ls l,Is (gL (l.take i):Nat),Is (gI l i),x2,x3] s=some (.nx [Ls l,Is (gL (l.take i):Nat),Is (gI l i),Is ((gI l i).natAbs:Nat),x3] s):=by
    simp[cj,ea]
   by_cases h1:gL (l.take (i+1))=1
   ·refine⟨_,.rt (.int 1) s,rfl,ar st1 (ar e ?_),.inr ⟨_,s,rfl,rfl,?_⟩⟩
    ·simp[h1]
    ·have:gL l=1:=by
      have:l=l.take (i+1)++l.drop (i+1):=(List.take_append_drop _ _).symm;rw[this,xq,h1,rH]
     rw[this];rfl
   ·refine⟨_,.nx [Ls l,Is (gL (l.take (i+1)):Nat),Is (gI l i),Is 0,y'] s,rfl,ar st1 (ar e ?_),.inl ⟨_,s,rfl,rfl,_,_,_,rfl⟩⟩
    have:¬((gL (l.take (i+1)):Nat):Int)=1:=by lia
    simp[this]) (sl:=[Ls l,Is 0,none,none,none]) (st:=st) ⟨rfl,none,none,none,rfl⟩
 rcases hl with⟨sl',st',e,rfl,x,y,z,rfl⟩|⟨v,st',e,rfl,rfl⟩
 ·refine⟨_,?_,rfl⟩
  rw[gJ,List.take_length]at e;simp[cM,aA,dS,e]
 ·refine⟨_,?_,rfl⟩
  simp[cM,aA,dS,e]
theorem xp:∀x∈l,gL l ∣ x.natAbs:=by
 have go:∀(b:List Int)(g:Nat),(b.foldl (fun g x=>Nat.gcd g x.natAbs) g) ∣ g/\∀x∈b,(b.foldl (fun g x=>Nat.gcd g x.natAbs) g) ∣ x.natAbs:=fun b=>by
  induction b with
  |nil=>intro g;exact⟨Nat.dvd_refl g,fun x hx=>by cases hx⟩
  |cons y b ih =>
   intro g;obtain⟨h1,h2⟩:=ih (Nat.gcd g y.natAbs);refine⟨Nat.dvd_trans h1 (Nat.gcd_dvd_left _ _),fun x hx=>?_⟩;rcases zT.mp hx with rfl|hx
   ·exact Nat.dvd_trans h1 (Nat.gcd_dvd_right _ _)
   ·exact h2 x hx
 exact(go l 0).2
theorem HN{B:Nat}(hB:0<B)(h:∀x∈l,x.natAbs<B):gL l<B:=by
 by_cases hz:∃x∈l,x≠0
 ·obtain⟨x,hx,h0⟩:=hz
  exact yM (Nat.le_of_dvd oM (xp x hx)) (h x hx)
 ·have:∀(b:List Int),(∀x∈b,x=0)->b.foldl (fun g x=>Nat.gcd g x.natAbs) 0=0:=fun b=>by
   induction b with
   |nil=>intro _;rfl
   |cons y b ih=>intro hb;rw[List.foldl_cons,hb y z7];exact ih fun x hx=>hb x (zQ _ hx)
  have e:gL l=0:=this l fun x hx=>Classical.byContradiction fun z=>hz ⟨x,hx,z⟩
  lia
theorem p9(hl:l.length<=1000)(hb:∀x∈l,x.natAbs<2^9000):aj [.fz (iL l)] []=some (.fz (iL (aq l)),[]):=by
 obtain⟨r,e,rfl⟩:=Ks (l:=l) (st:=[]);have ep:∀st,pm cM [.fz (iL l)] st=some (.int (gL l:Int),st):=fun st=>b9 rfl e rfl
 unfold aq;by_cases h:gL l=0
 ·rw[yI h]
  simp[aj,aA,dz,ep,h,oP]
 ·rw[yH h]
  have h':¬((gL l:Nat):Int)=0:=by lia
  have dv:dR ((gL l:Nat):Int)=true:=rQ h' (by rw[Int.natAbs_natCast];exact HN (Nat.two_pow_pos _) hb);simp[aj,aA,dz,ep,h,cg hl];rw[jO (F:=fun x=>x/(gL l:Int)) fN fun x hx=>⟨_,rfl,rfl,by
   simp[lu dv];unfold tX;rw[yI oM]⟩]
  simp
theorem qT(hl:l.length<=1000)(hb:∀x∈l,x.natAbs<2^9000):pm aj [.fz (iL l)] st=some (.fz (iL (aq l)),st):=b9 rfl (p9 hl hb) rfl
theorem iu:(aq l).length=l.length:=by unfold aq;split<;>simp
theorem F3{a b:Int}(ha:a.natAbs<2^9000)(hb:b.natAbs<2^9000):pm cW [.int a,.int b] st=some (.tup [.int (gI (aq [a,b]) 0),.int (gI (aq [a,b]) 1)],st):=by
 have e:=qT (l:=[a,b]) (st:=[]) (by simp) (fun x hx=>by simp at hx;rcases hx with rfl|rfl<;>assumption);have h2:(aq [a,b]).length=2:=iu;have x0:aP [] (.fz (iL (aq [a,b]))) (.int 0)=some (.int (gI (aq [a,b]) 0)):=by
  have:=cP (st:=[]) (x:=.fz (iL (aq [a,b]))) (i:=((0:Nat):Int)) fU;rw[cF,ce oM]at this;exact this
 have x1:aP [] (.fz (iL (aq [a,b]))) (.int 1)=some (.int (gI (aq [a,b]) 1)):=by
  have:=cP (st:=[]) (x:=.fz (iL (aq [a,b]))) (i:=((1:Nat):Int)) fU;rw[cF,ce oM]at this;exact this
 refine b9 rfl (v:=.tup [.int (gI (aq [a,b]) 0),.int (gI (aq [a,b]) 1)]) (st':=[]) ?_ rfl;have e':pm aj [.fz [.int a,.int b]] []=some (.fz (iL (aq [a,b])),[]):=e;simp[cW,aA,eY,cA,e',x0,x1]
structure GX(S:Sh)(w cc k:Nat)(X:List Int):Prop where
 len:X.length=w
 at_:∀i,i<k->S.s i<w->gI X (S.s i)=S.t i cc
 no:∀q,q<w->(∀i,i<k->S.s i≠q)->gI X q=0
section
variable{st:aa}{k a b c g n u w m:Nat}{rows:List AV}{S:Sh}{v:Nat->Nat->Int}{nn:Int}
theorem A6{j:Nat}(h:ev ks e sl st=some (.int (j:Int),st))(hj:j<=1000):i7 ks (.rep (.cons (.i 0) .nil) e) sl st=some (iL (List.replicate j 0),st):=by
 rw[Hq];unfold ve;have h1:d8 ks (.cons (.i 0) .nil) sl st=some ([.int 0],st):=rfl;rw[h1,bind_some];dsimp only;rw[h,bind_some];dsimp only;have rb:fA (j:Int)=true:=by
  unfold fA;refine yL ?_;rw[Int.natAbs_natCast];by_cases h0:j=0
  ·rw[h0];decide
  ·exact yZ ((Nat.log2_lt h0).mpr (yM hj dC))
 rw[rb,cg (n:=[AV.int 0].length*((j:Int)).toNat) (by simp;lia),cg (n:=[AV.int 0].length) (by simp)];show some _=some _;congr 2;show(List.replicate j [AV.int 0]).flatten=iL (List.replicate j 0);unfold iL
 induction j with
 |zero=>rfl
 |succ j ih=>rw[List.replicate_succ,List.flatten_cons,List.replicate_succ,zO];simp
theorem xt{j q:Nat}:gI (List.replicate j 0) q=0:=by
 unfold gI;rw[zD,List.getElem?_replicate];split<;>rfl
theorem Bm(R:Rep st k a b c g n u rows S)(P:M5 w m S)(Q:SX.Pm w m S.h S.s)(HA:∀st,pm ao [.int nn] st=some (.int w,st))(hw:w<=100)(hm:m<=1000){cI:Int}{cc:Nat}
  (hx:∀{s:aa}{a:Nat}{rows:List AV},Rep s k a b c g n u rows S->∀i,i<m->aP s (kn rows i) (.int cI)=some (.int (S.t i cc))) :
  ∃X,cR [.int nn,.ref k,.int cI] st=some (.ref st.length,st++[.lst (iL X)])/\GX S w cc m X:=by
 have sl:S.sd.length=m:=P.sd;obtain⟨sl',st',e,X,x1,x2,rfl,rfl,hX⟩:=eJ (gd:=[(c,.lst (nL S.sd))]) (g:=b8 [ao] (.tu 2 (.cons (.nm 4) (.cons (.nm 5) .nil)))) (s:=ah [ao] (.cons (.iff (.cmp .Lt (.v 5) (.bi .len (.cons (.v 3) .nil))) (.cons (.as (.ix (.ix (.fd "Sheet" "lines" (.v 1)) (.v 4)) (.v 2)) (.su (.v 3) (.v 5))) .nil) .nil) .nil))
  (I:=fun i sl s=>∃X x1 x2,s=st++[.lst (iL X)]/\sl=[Is nn,Rs k,Is cI,Rs st.length,x1,x2]/\GX S w cc i X) (xs:=eN 0 (nL S.sd)) (fun i sl s _ hI=>by obtain⟨X,_,_,rfl,_⟩:=hI;exact gw (R.app (ys:=[_])).hc)
  (fun i y sl s hy hI=>by
   obtain⟨X,x1,x2,rfl,rfl,hX⟩:=hI;obtain⟨x,hx',rfl⟩:=nY hy;have hi:i<m:=by have:=(zB.mp hx').1;simpa [sl] using this
   have hs0:(nL S.sd)[i]?=some (.int ((S.s i:Nat):Int)):=gj oM;rw[hs0]at hx';injection hx' with hx';subst hx';have Ra:=R.app (ys:=[MT.lst (iL X)]);have ll:bO (st++[MT.lst (iL X)]) (.ref st.length)=some (iL X):=bK gl;by_cases h:S.s i<w
   ·refine⟨_,[Is nn,Rs k,Is cI,Rs st.length,Is i,Is (S.s i:Int)],st++[.lst (iL (X.set (S.s i) (S.t i cc)))],rfl,?_,X.set (S.s i) (S.t i cc),_,_,rfl,rfl,?_⟩
    ·have hs:=db (x:=.int (S.t i cc)) (gl (st:=st) (e:=MT.lst (iL X))) (show S.s i < (iL X).length by simp [hX.len,h])
     rw[ff,fy]at hs;have lt':S.s i<X.length:=by rw[hX.len];exact h
     simp[cj,eU,ll,lt',Ra.ins,Ra.line P hi,hx Ra i hi,hs]
    ·refine⟨by simp[hX.len],fun j hj hs=>?_,fun q hq hn=>?_⟩
     ·by_cases e:j=i
      ·subst e;rw[SX.gI_set_at (by rw[hX.len];exact h)]
      ·rw[SX.gI_set_ne (fun z=>e (Q.si j i oM hi z))];exact hX.at_ j oM hs
     ·rw[SX.gI_set_ne (fun z=>hn i oM z.symm)];exact hX.no q hq fun j hj=>hn j oM
   ·refine⟨_,[Is nn,Rs k,Is cI,Rs st.length,Is i,Is (S.s i:Int)],st++[.lst (iL X)],rfl,?_,X,_,_,rfl,rfl,?_⟩
    ·have lt':¬S.s i<X.length:=by rw[hX.len];exact h
     simp[cj,eU,ll,lt']
    ·refine⟨hX.len,fun j hj hs=>?_,fun q hq hn=>hX.no q hq fun j hj=>hn j oM⟩
     by_cases e:j=i
     ·subst e;exact absurd hs h
     ·exact hX.at_ j oM hs) (sl:=[Is nn,Rs k,Is cI,Rs st.length,none,none]) (st:=st++[.lst (iL (List.replicate w 0))]) ⟨_,none,none,rfl,rfl,by simp,fun i hi=>by lia,fun q _ _=>xt⟩
 rw[ld,qJ,sl]at hX;refine⟨X,?_,hX⟩;rw[cR,aA];unfold eA;refine ae (sl':=[Is nn,Rs k,Is cI,Rs st.length,none,none]) (st':=st++[.lst (iL (List.replicate w 0))]) ?_ ?_
 ·rw[fR,Do,A6 (j:=w) (by simp[HA]) oM];rfl
 refine ae (sl':=[Is nn,Rs k,Is cI,Rs st.length,x1,x2]) (st':=st++[.lst (iL X)]) ?_ (by simp);have Ra:=R.app (ys:=[MT.lst (iL (List.replicate w 0))]);simp[Ra.ins,jy Ra.hc];exact e
theorem tO{n:Nat}:(iL l).take n=iL (l.take n):=by unfold iL;rw[List.map_take]
theorem tP{n:Nat}:(iL l).drop n=iL (l.drop n):=by unfold iL;rw[List.map_drop]
theorem rX{n:Nat}(hl:l.length=n+1):cut (iL l) none (some (-1))=iL (l.take n):=by
 unfold cut;rw[gJ,hl,HT.sIx_none,List.drop_zero];have:HT.M7 (n+1) (n+1) (some (-1))=n:=by
  show(if(-1:Int)<0 then((-1:Int)+((n+1:Nat):Int)).toNat else min (-1:Int).toNat (n+1))=n;rw[yI dC];lia
 rw[this,Nat.sub_zero,tO]
theorem Df{w m:Nat}(hl:l.length=w+(m+1)):cut (iL l) (some (w:Int)) (some (-1))=iL ((l.drop w).take m):=by
 unfold cut;rw[gJ,hl,HT.sIx_nat];have:HT.M7 (w+(m+1)) (w+(m+1)) (some (-1))=w+m:=by
  show(if(-1:Int)<0 then((-1:Int)+((w+(m+1):Nat):Int)).toNat else min (-1:Int).toNat (w+(m+1)))=w+m;rw[yI dC];lia
 rw[this,Nat.min_eq_left oM,tP,tO,show w+m-w=m by lia]
theorem wQ{d:Int}(hl:X.length<=100)(hb:∀x∈X,x.natAbs<2^9000)(hd:d.natAbs<2^9000):bL [.fz (iL X),.int d] []=some (.tup [.fz (iL ((aq (X++[d])).take X.length)),.int (gI (aq (X++[d])) X.length)],[]):=by
 have ll:(aq (X++[d])).length=X.length+1:=by rw[iu];simp
 have e:=qT (l:=X++[d]) (st:=[]) (by simp;lia) fun x hx=>by
  rcases zZ.mp hx with h|h
  ·exact hb x h
  ·rw[zM.mp h];exact hd
 have xl:aP [] (.fz (iL (aq (X++[d])))) (.int (-1))=some (.int (gI (aq (X++[d])) X.length)):=by
  rw[cP fU,o8 (n:=X.length) (by simp[ll]),ce oM]
 rw[bL,aA];unfold gy;refine ae (sl':=[Ls X,Is d,Ls (aq (X++[d]))]) (st':=[]) ?_ ?_
 ·have c:=jG (ks:=[aj]) (a:=.v 0) (b:=.nw false (.li (.cons (.v 1) .nil))) (sl:=[Ls X,Is d,none]) (st:=[]) (s1:=[]) (s2:=[]) (x:=.fz (iL X)) (y:=.fz (iL [d])) (l:=X) (l':=[d]) rfl (by simp[cA,iL]) rfl rfl (by simp;lia)
  simp[-vd,c,e]
 ·simp[lI,lF,rX ll,xl]
theorem AZ(R:Rep st k a b c g n u rows S)(P:M5 w m S)(Q:SX.Pm w m S.h S.s)(B:Bd w m S)(HA:∀st,pm ao [.int nn] st=some (.int w,st))(hw:w<=100)(hm:m<=1000) :
  ∃X T st1,aR [.int nn,.ref k] st=some (.tup [.fz (iL T),.int (gI (aq (X++[S.d])) w)],st1)/\T=(aq (X++[S.d])).take w/\GX S w w m X/\Rep st1 k a b c g n u rows S:=by
 obtain⟨X,e,hX⟩:=Bm (cI:=-1) (cc:=w) R P Q HA hw hm fun R' i hi=>R'.last P hi
 have hb:∀x∈X,x.natAbs<2^9000:=fun x hx=>by
  obtain⟨q,hq⟩:=z9 hx;have hl:=(zB.mp hq).1;rw[hX.len]at hl;have eg:gI X q=x:=by unfold gI;rw[zD,hq];rfl
  by_cases h:∃i,i<m/\S.s i=q
  ·obtain⟨i,hi,rfl⟩:=h
   rw[<- eg,hX.at_ i hi hl];exact B.2 i hi w oM
  ·rw[<- eg,hX.no q hl fun i hi z=>h ⟨i,hi,z⟩];exact Nat.two_pow_pos _
 obtain⟨st1,e1,h1⟩:=kr (fn:=bL) (rest:=[.int S.d]) (x:=.ref st.length) (l:=X) (.inr ⟨_,rfl,.inl (gl (st:=st) (e:=.lst (iL X)))⟩) rfl rfl (fun s=>by simp[nT,pF]) (wQ (by rw[hX.len];lia) hb B.1) rfl (by simp[flat,nW]);refine⟨X,_,st1,?_,rfl,hX,?_⟩
 ·have Ra:=R.app (ys:=[MT.lst (iL X)])
  rw[hX.len]at e1;simp[aR,aA,fD,e,Ra.ins,e1]
 ·rcases h1 with rfl|⟨r,hr,_,rfl⟩
  ·exact R.app
  ·cases hr;rw[fy];exact R.app
theorem GH(R:Rep st k a b c g n u rows S)(P:M5 w m S)(Q:SX.Pm w m S.h S.s)(B:Bd w m S)(HA:∀st,pm ao [.int nn] st=some (.int w,st))(hw:w<=100)(hm:m<=1000){q:Nat}(hq:q<w) :
  ∃X st1,cB [.int nn,.ref k,.int q] st=some (.fz (iL (aq (if S.h q<w then X.set (S.h q) S.d else X))),st1)/\GX S w q m X:=by
 obtain⟨X,e,hX⟩:=Bm (cI:=q) (cc:=q) R P Q HA hw hm fun R' i hi=>R'.cell P hi oM
 have hb:∀x∈X,x.natAbs<2^9000:=fun x hx=>by
  obtain⟨j,hj⟩:=z9 hx;have hl:=(zB.mp hj).1;rw[hX.len]at hl;have eg:gI X j=x:=by unfold gI;rw[zD,hj];rfl
  by_cases h:∃i,i<m/\S.s i=j
  ·obtain⟨i,hi,rfl⟩:=h
   rw[<- eg,hX.at_ i hi hl];exact B.2 i hi q oM
  ·rw[<- eg,hX.no j hl fun i hi z=>h ⟨i,hi,z⟩];exact Nat.two_pow_pos _
 have Ra:=R.app (ys:=[MT.lst (iL X)]);have ll:bO (st++[MT.lst (iL X)]) (.ref st.length)=some (iL X):=bK gl;by_cases h:S.h q<w
 ·have hb2:∀x∈X.set (S.h q) S.d,x.natAbs<2^9000:=fun x hx=>by
   rcases List.mem_or_eq_of_mem_set hx with h|h
   ·exact hb x h
   ·rw[h];exact B.1
  obtain ⟨st1,e1,h1⟩:=kr (fn:=aj) (rest:=[]) (st:=st++[.lst (iL (X.set (S.h q) S.d))]) (x:=.ref st.length) (l:=X.set (S.h q) S.d) (.inr ⟨_,rfl,.inl gl⟩) rfl rfl (fun s=>rfl) (p9 (by simp [hX.len];lia) hb2) rfl (by simp [flat]);refine ⟨X,st1,?_,hX⟩;rw [yI h];have hs:=db (x:=.int S.d) (gl (st:=st) (e:=MT.lst (iL X))) (show S.h q < (iL X).length by simp [hX.len,h]);rw [ff,fy] at hs;have lt':S.h q < X.length:=by rw [hX.len];exact h
  simp[cB,aA,gD,e,Ra.ins,Ra.head P hq,cj,eU,ll,lt',hs,e1]
 ·obtain⟨st1,e1,h1⟩:=kr (fn:=aj) (rest:=[]) (st:=st++[.lst (iL X)]) (x:=.ref st.length) (l:=X) (.inr ⟨_,rfl,.inl gl⟩) rfl rfl (fun s=>rfl) (p9 (by simp[hX.len];lia) hb) rfl (by simp[flat])
  refine⟨X,st1,?_,hX⟩;rw[yH h];have lt':¬S.h q<X.length:=by rw[hX.len];exact h
  simp[cB,aA,gD,e,Ra.ins,Ra.head P hq,cj,eU,ll,lt',e1]
end
open SX (MX)
structure TK(S:Sh)(w m p:Nat)(T:List Int):Prop where
 len:T.length=w+m
 hd:∀j,j<w->gI T (S.h j)=if S.h j∈S.tn then S.t p j else-S.t p j
 sd:gI T (S.s p)=if S.s p∈S.tn then-S.d else S.d
 no:∀q,q<w+m->(∀j,j<w->S.h j≠q)->q≠S.s p->gI T q=0
def wt(T:List Int)(HO:Nat->List Int)(w j k:Nat):Int:=gI T (w+k)+MX j fun x=>gI T x*gI (HO (x+1)) k
section
variable{st:aa}{k a b c g n u w m p:Nat}{rows:List AV}{S:Sh}{nn:Int}{HO:Nat->List Int}
abbrev KW:List Fn:=[ao,cT,dY]
theorem oW{q x:Nat}{y:Int}(h:q<T.length):gI (T.set q y) x=if x=q then y else gI T x:=by
 by_cases e:x=q
 ·subst e;rw[yI rfl,SX.gI_set_at h]
 ·rw[yH e,SX.gI_set_ne e]
theorem BW(R:Rep st k a b c g n u rows S)(P:M5 w m S)(Q:SX.Pm w m S.h S.s)(hp:p<m)(nt:S.tn.Nodup)(ht:∀q∈S.tn,q<w+m)(hw:w<=100)(hm:m<=800){ss:M6}{r:AV×aa->Prop}
  (h:∀T x1 x2,TK S w m p T->∃z,(ah KW ss [Is nn,Rs k,Is p,Rs st.length,x1,x2,none,none,none,none,none] (st++[MT.lst (iL T)])).bind aw=some z/\r z) :
  ∃z,(ah KW (.cons (.as (.nw true (.rep (.cons (.i 0) .nil) (.bin .Add (.bi .len (.cons (.fd "Sheet" "heads" (.v 1)) .nil)) (.bi .len (.cons (.fd "Sheet" "sides" (.v 1)) .nil))))) (.nm 3))
   (.cons (.fo (.en (.fd "Sheet" "heads" (.v 1))) (.tu 2 (.cons (.nm 4) (.cons (.nm 5) .nil))) (.cons (.as (.un .USub (.ix (.ix (.fd "Sheet" "lines" (.v 1)) (.v 2)) (.v 4))) (.su (.v 3) (.v 5))) .nil))
   (.cons (.as (.fd "Sheet" "below" (.v 1)) (.su (.v 3) (.ix (.fd "Sheet" "sides" (.v 1)) (.v 2))))
   (.cons (.fd (.fd "Sheet" "turned" (.v 1)) (.nm 5) (.cons (.as (.un .USub (.ix (.v 3) (.v 5))) (.su (.v 3) (.v 5))) .nil)) ss)))) [Is nn,Rs k,Is p,none,none,none,none,none,none,none,none] st).bind aw=some z/\r z:=by
 have lh:bO st (.ref b)=some (nL S.hd):=bK R.hb;have lsd:bO st (.ref c)=some (nL S.sd):=bK R.hc;refine ag (sl':=[Is nn,Rs k,Is p,Rs st.length,none,none,none,none,none,none,none]) (st':=st++[MT.lst (iL (List.replicate (w+m) 0))]) ?_ ?_
 ·rw[fR,Do,A6 (j:=w+m) ?_ oM]
  ·rfl
  ·simp[R.ins,cj,eU,lh,lsd,P.hd,P.sd]
 -- the heads
 obtain⟨sl',st',e,T,x1,x2,rfl,rfl,hl,h1,h2⟩:=eJ (gd:=[(b,.lst (nL S.hd))]) (g:=b8 KW (.tu 2 (.cons (.nm 4) (.cons (.nm 5) .nil)))) (s:=ah KW (.cons (.as (.un .USub (.ix (.ix (.fd "Sheet" "lines" (.v 1)) (.v 2)) (.v 4))) (.su (.v 3) (.v 5))) .nil))
  (I:=fun i sl s=>∃T x1 x2,s=st++[MT.lst (iL T)]/\sl=[Is nn,Rs k,Is p,Rs st.length,x1,x2,none,none,none,none,none]/\T.length=w+m/\(∀j,j<i->gI T (S.h j)=- S.t p j)/\∀q,(∀j,j<i->S.h j≠q)->gI T q=0) (xs:=eN 0 (nL S.hd)) (fun i sl s _ hI=>by obtain⟨X,_,_,rfl,_⟩:=hI;exact gw (R.app (ys:=[_])).hb)
  (fun i y sl s hy hI=>by
   obtain⟨T,x1,x2,rfl,rfl,hl,h1,h2⟩:=hI;obtain⟨x,hx',rfl⟩:=nY hy;have hi:i<w:=by have:=(zB.mp hx').1;simpa [P.hd] using this
   have hs0:(nL S.hd)[i]?=some (.int ((S.h i:Nat):Int)):=gj (by rw [P.hd];exact hi);rw [hs0] at hx';injection hx' with hx';subst hx';have Ra:=R.app (ys:=[MT.lst (iL T)]);have hb:=Q.hl i hi;have hs:=db (x:=.int (- S.t p i)) (gl (st:=st) (e:=MT.lst (iL T))) (show S.h i < (iL T).length by simp [hl,hb]);rw [ff,fy] at hs;refine ⟨_,[Is nn,Rs k,Is p,Rs st.length,Is i,Is (S.h i:Int),none,none,none,none,none],st++[MT.lst (iL (T.set (S.h i) (- S.t p i)))],rfl,?_,T.set (S.h i) (- S.t p i),_,_,rfl,rfl,by simp [hl],fun j hj=>?_,fun q hq=>?_⟩
   ·simp [Ra.ins,Ra.line P hp,Ra.cell P hp (show i < w + 1 by lia),hs]
   ·rw[oW (by rw[hl];exact hb)]
    by_cases e:j=i
    ·subst e;rw[yI rfl]
    ·rw[yH fun z=>e (Q.hi j i oM hi z)];exact h1 j oM
   ·rw[oW (by rw[hl];exact hb),yH fun z=>hq i oM z.symm];exact h2 q fun j hj=>hq j oM) (sl:=[Is nn,Rs k,Is p,Rs st.length,none,none,none,none,none,none,none]) (st:=st++[MT.lst (iL (List.replicate (w+m) 0))]) ⟨_,none,none,rfl,rfl,by simp,fun j hj=>by lia,fun q _=>xt⟩
 rw[ld,qJ,P.hd]at h1 h2;refine ag (sl':=[Is nn,Rs k,Is p,Rs st.length,x1,x2,none,none,none,none,none]) (st':=st++[MT.lst (iL T)]) ?_ ?_
 ·have Ra:=R.app (ys:=[MT.lst (iL (List.replicate (w+m) 0))])
  simp[Ra.ins,jy Ra.hb];exact e
 have Ra:=R.app (ys:=[MT.lst (iL T)]);have sb:=Q.sl p hp;have hs:=db (x:=.int S.d) (gl (st:=st) (e:=MT.lst (iL T))) (show S.s p < (iL T).length by simp [hl,sb]);rw [ff,fy] at hs;refine ag (sl':=[Is nn,Rs k,Is p,Rs st.length,x1,x2,none,none,none,none,none]) (st':=st++[MT.lst (iL (T.set (S.s p) S.d))]) (by simp [Ra.ins,Ra.side P hp,hs]) ?_;have l2:(T.set (S.s p) S.d).length=w + m:=by simp [hl]
 obtain⟨T2,hT2⟩:∃x,x=T.set (S.s p) S.d:=⟨_,rfl⟩;rw[<- hT2]at l2 ⊢
 -- the turned
 have Ru:=(R.app (ys:=[MT.lst (iL T2)])).hu;have ult:u<st.length:=(zB.mp R.hu).1;obtain⟨sl',st',e,T3,x2,rfl,rfl,l3,h3⟩:=eJ (gd:=[]) (g:=b8 KW (.nm 5)) (s:=ah KW (.cons (.as (.un .USub (.ix (.v 3) (.v 5))) (.su (.v 3) (.v 5))) .nil))
  (I:=fun i sl s=>∃T3 x2,s=(st++[MT.lst (iL T3)]).set u (.wk (kL S.tn))/\sl=[Is nn,Rs k,Is p,Rs st.length,x1,x2,none,none,none,none,none]/\T3.length=w+m/\∀q,gI T3 q=if q∈S.tn.take i then-gI T2 q else gI T2 q) (xs:=nL S.tn) (fun _ _ _ _ _=>rfl)
  (fun i y sl s hy hI=>by
   obtain⟨T3,x2,rfl,rfl,l3,h3⟩:=hI;have hi:i<S.tn.length:=by have:=(zB.mp hy).1;simpa using this
   rw[gj hi]at hy;injection hy with hy;subst hy;obtain⟨q,hq⟩:∃q,q=S.tn.getD i 0:=⟨_,rfl⟩;rw[<- hq];have qi:S.tn[i]=q:=by rw[hq,zD,zF hi];rfl
   have qm:q∈S.tn:=by rw[<- qi];exact List.getElem_mem hi
   have ql:=ht q qm;have tk:S.tn.take (i+1)=S.tn.take i++[q]:=by rw[List.take_succ,zF hi,qi];rfl
   have qn:q∉S.tn.take i:=fun z=>by
    have:=nt.sublist (List.take_sublist (i+1) S.tn)
    rw[tk,List.nodup_append]at this;exact this.2.2 q z q (by simp) rfl
   have gc:((st++[MT.lst (iL T3)]).set u (.wk (kL S.tn)))[st.length]?=some (.lst (iL T3)):=by rw[au (zU ult)];exact gl
   have hs:=db (x:=.int (- gI T3 q)) gc (show q < (iL T3).length by simp [l3,ql]);have sc:((st++[MT.lst (iL T3)]).set u (.wk (kL S.tn))).set st.length (.lst (iL (T3.set q (- gI T3 q))))=(st++[MT.lst (iL (T3.set q (- gI T3 q)))]).set u (.wk (kL S.tn)):=by
    rw[List.set_comm _ _ (zU ult),fy]
   rw[ff,sc]at hs;have xi:aP ((st++[MT.lst (iL T3)]).set u (.wk (kL S.tn))) (.ref st.length) (.int (q:Int))=some (.int (gI T3 q)):=by rw[cP (bK gc),cF,ce oM]
   refine⟨_,[Is nn,Rs k,Is p,Rs st.length,x1,Is q,none,none,none,none,none],(st++[MT.lst (iL (T3.set q (- gI T3 q)))]).set u (.wk (kL S.tn)),rfl,?_,_,_,rfl,rfl,by simp[l3],fun x=>?_⟩
   ·simp[xi,hs]
   ·rw[oW oM,tk]
    by_cases e:x=q
    ·subst e;rw[yI rfl,yI (by simp),h3 x,yH qn]
    ·rw[yH e,h3 x];simp[e]) (sl:=[Is nn,Rs k,Is p,Rs st.length,x1,x2,none,none,none,none,none]) (st:=(st++[MT.lst (iL T2)]).set u (.wk (kL S.tn))) ⟨T2,x2,rfl,rfl,l2,fun q=>by simp⟩
 rw[qJ,List.take_length]at h3;refine ag (sl':=[Is nn,Rs k,Is p,Rs st.length,x1,x2,none,none,none,none,none]) (st':=st++[MT.lst (iL T3)]) ?_ (h T3 x1 x2 ?_)
 ·have Rb:=R.app (ys:=[MT.lst (iL T2)])
  have ky:(kL S.tn).map (fun q=>nk q.1)=nL S.tn:=by unfold kL nL;rw[List.map_map];rfl
  have f1:(((st++[MT.lst (iL T3)]).set u (.wk (kL S.tn))))[u]?=some (.wk (kL S.tn)):=fW (R.app (ys:=[MT.lst (iL T3)])).hu;have f2:((st++[MT.lst (iL T3)]).set u (.wk (kL S.tn))).set u (.dK (kL S.tn))=st++[MT.lst (iL T3)]:=by
   rw[List.set_set]
   have:=(R.app (ys:=[MT.lst (iL T3)])).hu
   obtain⟨hlt,hget⟩:=zB.mp this;rw[<- hget,List.set_getElem_self]
  simp[uF,Rb.ins,Rb.hu];rw[show(kL S.tn).map ((fun q=>nk q.1))=nL S.tn from ky]at *;rw[e];simp[AY,f1,f2]
 ·have e2:∀q,gI T2 q=if q=S.s p then S.d else gI T q:=fun q=>by rw[hT2,oW (by rw[hl];exact sb)]
  refine⟨l3,fun j hj=>?_,?_,fun q hq hn hns=>?_⟩
  ·rw[h3,e2,yH (Q.hs j p hj hp),h1 j hj];split<;>lia
  ·rw[h3,e2,yI rfl]
  ·rw[h3,e2,yH hns,h2 q hn];split<;>rfl
end
structure HOk(nn:Int)(w nr:Nat)(HO:Nat->List Int):Prop where
 ex:∀grp:Nat,1<=grp->grp<=w->∃rr,(∀st,pm cT [.int nn,.int grp,.int 0] st=some (rr,st))/\∀st,pm dY [.int nn,rr] st=some (.fz (iL (HO grp)),st)
 len:∀grp:Nat,1<=grp->grp<=w->(HO grp).length=nr
 bd:∀(grp:Nat),1<=grp->grp<=w->∀x∈HO grp,x.natAbs<=15
section
variable{st:aa}{k a b c g n u w m p nr:Nat}{rows:List AV}{S:Sh}{nn:Int}{HO:Nat->List Int}
theorem IA{r q:Nat}{x:Int}(h1:ev ks ea sl s=some (.ref r,s))(h2:ev ks eb sl s=some (.int (q:Int),s))(h3:ev ks ec sl s=some (.int x,s))(hr:s[r]?=some (.lst (iL l)))(hq:q<l.length):cS ks (.aus .Add ea eb ec) sl s=some (.nx sl (s.set r (.lst (iL (l.set q (gI l q+x)))))):=by
 rw[GR];unfold uH;rw[h1,bind_some];dsimp only;rw[h2,bind_some];dsimp only;rw[bK hr,bind_some,cF,ce hq,bind_some,h3,bind_some];dsimp only;have:vK .Add s (.int (gI l q)) (.int x)=some (.int (gI l q+x)):=rfl;rw[this,bind_some,db hr (by simp[hq]),ff,bind_some]
theorem AN(R:Rep st k a b c g n u rows S)(P:M5 w (m+1) S)(Q:SX.Pm w (m+1) S.h S.s)(hp:p<m+1)(nt:S.tn.Nodup)(ht:∀q∈S.tn,q<w+(m+1))(hw:w<=100)(hm:m+1<=800)(HA:∀st,pm ao [.int nn] st=some (.int w,st))(H:HOk nn w nr HO)(hnr:nr<=m) :
  ∃z,aK [.int nn,.ref k,.int p] st=some z/\∃T W,TK S w (m+1) p T/\W.length=m/\(∀x,x<m->gI W x=wt T HO w w x)/\z.1=.ref (st.length+1)/\z.2=st++[MT.lst (iL T)]++[MT.lst (iL W)]:=by
 rw[aK];simp only[aA];unfold eV;refine BW R P Q hp nt ht hw hm fun T x1 x2 hT=>?_
 have sT:(st++[MT.lst (iL T)])[st.length]?=some (.lst (iL T)):=gl;refine ag (sl':=[Is nn,Rs k,Is p,Rs st.length,x1,x2,Rs (st.length+1),none,none,none,none]) (st':=st++[MT.lst (iL T)]++[MT.lst (iL ((T.drop w).take m))]) ?_ ?_
 ·simp[lI,lF,HA,bK sT,Df hT.len]
 have ll:(st++[MT.lst (iL T)]).length=st.length+1:=by simp
 have sT2:∀W:List Int,(st++[MT.lst (iL T)]++[MT.lst (iL W)])[st.length]?=some (.lst (iL T)):=fun W=>ga sT
 have sW:∀W:List Int,(st++[MT.lst (iL T)]++[MT.lst (iL W)])[st.length+1]?=some (.lst (iL W)):=fun W=>by rw[<- ll];exact gl
 have sSet:∀W W':List Int,(st++[MT.lst (iL T)]++[MT.lst (iL W)]).set (st.length+1) (.lst (iL W'))=st++[MT.lst (iL T)]++[MT.lst (iL W')]:=fun W W'=>by rw[<- ll];exact fy
 have hW0:∀x,x<m->gI ((T.drop w).take m) x=wt T HO w 0 x:=fun x hx=>by
  unfold wt gI;rw[zD,List.getElem?_take_of_lt hx,List.getElem?_drop,zD];simp[MX]
 obtain⟨sl',st',e,W,y1,y2,y3,y4,rfl,rfl,hl,hW⟩:=eJ (gd:=[]) (g:=b8 KW (.nm 7)) (s:=ah KW (.cons (.as (.ix (.v 3) (.bin .Sub (.v 7) (.i 1))) (.nm 8)) (.cons (.iff (.cmp .NotEq (.v 8) (.i 0))
   (.cons (.fo (.en (.ca true 2 (.cons (.v 0) (.cons (.ca true 1 (.cons (.v 0) (.cons (.v 7) (.cons (.i 0) .nil)))) .nil)))) (.tu 2 (.cons (.nm 9) (.cons (.nm 10) .nil))) (.cons (.aus .Add (.v 6) (.v 9) (.bin .Mult (.v 8) (.v 10))) .nil)) .nil) .nil) .nil)))
  (I:=fun i sl s=>∃W y1 y2 y3 y4,s=st++[MT.lst (iL T)]++[MT.lst (iL W)]/\sl=[Is nn,Rs k,Is p,Rs st.length,x1,x2,Rs (st.length+1),y1,y2,y3,y4]/\W.length=m/\∀x,x<m->gI W x=wt T HO w i x) (xs:=cX 1 w) (fun _ _ _ _ _=>rfl)
  (fun i y sl s hy hI=>by
   obtain⟨W,y1,y2,y3,y4,rfl,rfl,hl,hW⟩:=hI;have hi:i<w:=by have:=(zB.mp hy).1;unfold cX at this;simpa using this
   have ey:y=.int (((i+1:Nat)):Int):=by
    unfold cX at hy;rw[zR,List.getElem?_range hi]at hy;injection hy with hy;rw[<- hy];show AV.int (1+(i:Int))=_;congr 1;lia
   subst ey;have xi:aP (st++[MT.lst (iL T)]++[MT.lst (iL W)]) (.ref st.length) (.int (i:Int))=some (.int (gI T i)):=by rw[cP (bK (sT2 W)),cF,ce (by rw[hT.len];lia)]
   have st1:cS KW (.as (.ix (.v 3) (.bin .Sub (.v 7) (.i 1))) (.nm 8)) [Is nn,Rs k,Is p,Rs st.length,x1,x2,Rs (st.length+1),Is ((i+1:Nat):Int),y2,y3,y4] (st++[MT.lst (iL T)]++[MT.lst (iL W)])=some (.nx [Is nn,Rs k,Is p,Rs st.length,x1,x2,Rs (st.length+1),Is ((i+1:Nat):Int),Is (gI T i),y3,y4] (st++[MT.lst (iL T)]++[MT.lst (iL W)])):=by
    have e0:((i+1:Nat):Int)-1=(i:Int):=by lia
    have hb:aQ .Sub (st++[MT.lst (iL T)]++[MT.lst (iL W)]) (.int ((i+1:Nat):Int)) (.int 1)=some (.int (i:Int)):=by rw[Iq,e0]
    simp only[fR,uj,GI,mM,sR,jY,jX,bind_some,hb,map_some,xi];rfl
   by_cases h0:gI T i=0
   ·refine⟨_,_,_,rfl,ar st1 ?_,W,Is ((i+1:Nat):Int),Is (gI T i),y3,y4,rfl,rfl,hl,fun x hx=>?_⟩
    ·simp[h0]
    ·rw[hW x hx];unfold wt;simp only[MX,h0];lia
   ·obtain⟨rr,r1,r2⟩:=H.ex (i+1) oM oM
    have hlen:=H.len (i+1) oM oM;obtain⟨sl',st',e,W',z3,z4,rfl,rfl,hl',hW'⟩:=eJ (gd:=[]) (g:=b8 KW (.tu 2 (.cons (.nm 9) (.cons (.nm 10) .nil)))) (s:=ah KW (.cons (.aus .Add (.v 6) (.v 9) (.bin .Mult (.v 8) (.v 10))) .nil))
     (I:=fun j sl s=>∃W' z3 z4,s=st++[MT.lst (iL T)]++[MT.lst (iL W')]/\sl=[Is nn,Rs k,Is p,Rs st.length,x1,x2,Rs (st.length+1),Is ((i+1:Nat):Int),Is (gI T i),z3,z4]/\W'.length=m/\∀x,x<m->gI W' x=gI W x+if x<j then gI T i*gI (HO (i+1)) x else 0) (xs:=eN 0 (iL (HO (i+1)))) (fun _ _ _ _ _=>rfl)
     (fun j y sl s hy hI=>by
      obtain⟨W',z3,z4,rfl,rfl,hl',hW'⟩:=hI;obtain⟨x,hx',rfl⟩:=nY hy;have hj:j<nr:=by have:=(zB.mp hx').1;simpa [hlen] using this
      rw[ce oM]at hx';injection hx' with hx';subst hx';have hc:(gI (HO (i+1)) j).natAbs<=15:=by
       refine H.bd (i+1) oM oM _ ?_;unfold gI;exact SX.getD_mem oM
      have mb:cE (gI T i) (gI (HO (i+1)) j)=true:=by
       unfold cE;have:Nat.ble (gI (HO (i+1)) j).natAbs.log2 62=true:=yL (by
        by_cases hz:(gI (HO (i+1)) j).natAbs=0
        ·rw[hz];decide
        ·exact yZ ((Nat.log2_lt hz).mpr (yM hc dC)))
       rw[this];simp
      refine⟨_,_,_,rfl,ar (IA (r:=st.length+1) (q:=j) (l:=W') (x:=gI T i*gI (HO (i+1)) j) rfl rfl (by simp[aZ mb]) (sW W') oM) rfl,W'.set j (gI W' j+gI T i*gI (HO (i+1)) j),_,_,sSet _ _,rfl,by simp[hl'],fun x hx=>?_⟩;rw[oW oM];by_cases e:x=j
      ·subst e;rw[yI rfl,hW' x hx,yH oM,yI oM];lia
      ·rw[yH e,hW' x hx]
       by_cases e2:x<j
       ·rw[yI e2,yI oM]
       ·rw[yH e2,yH oM]) (sl:=[Is nn,Rs k,Is p,Rs st.length,x1,x2,Rs (st.length+1),Is ((i+1:Nat):Int),Is (gI T i),y3,y4]) (st:=st++[MT.lst (iL T)]++[MT.lst (iL W)]) ⟨W,y3,y4,rfl,rfl,hl,fun x hx=>by simp⟩
    rw[ld,gJ,hlen]at hW';refine⟨_,_,_,rfl,ar st1 (ar (sl':=[Is nn,Rs k,Is p,Rs st.length,x1,x2,Rs (st.length+1),Is ((i+1:Nat):Int),Is (gI T i),z3,z4]) (st':=st++[MT.lst (iL T)]++[MT.lst (iL W')]) ?_ rfl),W',Is ((i+1:Nat):Int),Is (gI T i),z3,z4,rfl,rfl,hl',fun x hx=>?_⟩
    ·have r1':=r1 (st++[MT.lst (iL T)]++[MT.lst (iL W)])
     have r2':=r2 (st++[MT.lst (iL T)]++[MT.lst (iL W)]);simp only[iP,uw,mM,sR,jY,jX,bind_some,Ku,map_some,yA h0,Bool.not_false,ite_true];refine ar (sl':=[Is nn,Rs k,Is p,Rs st.length,x1,x2,Rs (st.length+1),Is ((i+1:Nat):Int),Is (gI T i),z3,z4]) (st':=st++[MT.lst (iL T)]++[MT.lst (iL W')]) ?_ rfl;rw[km,Kg];simp only[ms,dX,fc,mM,sR,jY,jX,bind_some,uY,mE,mD];rw[r1'];simp only[bind_some];rw[r2'];simp only[bind_some,FI,map_some];exact e
    ·rw[hW' x hx,hW x hx]
     unfold wt;simp only[MX];by_cases e:x<nr
     ·rw[yI e];lia
     ·rw[yH e]
      have:gI (HO (i+1)) x=0:=by unfold gI;rw[zD,List.getElem?_eq_none oM];rfl
      rw[this,yP];lia) (sl:=[Is nn,Rs k,Is p,Rs st.length,x1,x2,Rs (st.length+1),none,none,none,none]) (st:=st++[MT.lst (iL T)]++[MT.lst (iL ((T.drop w).take m))]) ⟨_,none,none,none,none,rfl,rfl,by simp[hT.len],hW0⟩
 have rl:(cX 1 w).length=w:=by unfold cX;simp
 rw[rl]at hW;refine⟨(.ref (st.length+1),st++[MT.lst (iL T)]++[MT.lst (iL W)]),?_,T,W,hT,hl,hW,rfl,rfl⟩;refine ae (sl':=[Is nn,Rs k,Is p,Rs st.length,x1,x2,Rs (st.length+1),y1,y2,y3,y4]) (st':=st++[MT.lst (iL T)]++[MT.lst (iL W)]) ?_ (by simp);have rb1:fA 1=true:=by decide
 have rb2:fA ((w:Int)+1)=true:=by
  unfold fA;refine yL ?_;rw[show((w:Int)+1).natAbs=w+1 by lia];exact yZ ((Nat.log2_lt oM).mpr oM)
 rw[km];have ei:dO KW (.r2 (.i 1) (.bin .Add (.ca true 0 (.cons (.v 0) .nil)) (.i 1))) [Is nn,Rs k,Is p,Rs st.length,x1,x2,Rs (st.length+1),none,none,none,none] (st++[MT.lst (iL T)]++[MT.lst (iL ((T.drop w).take m))])=some (⟨cX 1 w,[]⟩,st++[MT.lst (iL T)]++[MT.lst (iL ((T.drop w).take m))]):=by
  have e2:((w:Int)+1-1).toNat=w:=by lia
  simp[-List.append_assoc,Bj,HA,rb1,rb2]
 rw[ei,bind_some];exact e
end
section
variable{st:aa}{k a b c g n u w m p nr:Nat}{rows:List AV}{S:Sh}{nn:Int}{HO:Nat->List Int}{v:Nat->Nat->Int}
theorem TK.bd(hT:TK S w m p T)(hp:p<m)(Q:SX.Pm w m S.h S.s)(B:S.d.natAbs<2^8900/\∀i,i<m->∀j,j<w+1->(S.t i j).natAbs<2^8900)(q:Nat):(gI T q).natAbs<2^8900:=by
 by_cases hq:q<w+m
 ·by_cases h1:∃j,j<w/\S.h j=q
  ·obtain⟨j,hj,rfl⟩:=h1
   rw[hT.hd j hj]
   have:=B.2 p hp j oM
   split
   ·exact this
   ·rw[Int.natAbs_neg];exact this
  ·by_cases h2:q=S.s p
   ·rw[h2,hT.sd]
    split
    ·rw[Int.natAbs_neg];exact B.1
    ·exact B.1
   ·rw[hT.no q hq (fun j hj z=>h1 ⟨j,hj,z⟩) h2];exact Nat.two_pow_pos _
 ·have:gI T q=0:=by unfold gI;rw[zD,List.getElem?_eq_none (by rw[hT.len];lia)];rfl
  rw[this];exact Nat.two_pow_pos _
theorem AO(hb:∀q,(gI T q).natAbs<2^8900)(H:HOk nn w nr HO)(hw:w<=15)(x:Nat):(wt T HO w w x).natAbs<2^9000:=by
 unfold wt;have h1:=SX.abs_sum (n:=w) (f:=fun y=>gI T y*gI (HO (y+1)) x) (M:=2^8900*15) fun i hi=>by
  rw[xA];refine Nat.mul_le_mul (yZ (hb i)) ?_;unfold gI;rw[zD];cases e:(HO (i+1))[x]? with
  |none=>simp
  |some z=>exact H.bd (i+1) oM oM z (zW e)
 have h2:=hb (w+x);have h3:=Int.natAbs_add_le (gI T (w+x)) (MX w fun y=>gI T y*gI (HO (y+1)) x);have h4:w*(2^8900*15)<=15*(2^8900*15):=Nat.mul_le_mul_right _ hw;have h5:(2:Nat)^9000=2^8900*2^100:=by rw[<- Nat.pow_add]
 have h6:(2:Nat)^100=1267650600228229401496703205376:=by decide
 rw[h5,h6];generalize (2:Nat)^8900=B at *;lia
theorem Aj(R:Rep st k a b c g n u rows S)(I:MI w (m+1) v S)(Hb:Bnd w (m+1) v)(hp:p<m+1)(nt:S.tn.Nodup)(ht:∀q∈S.tn,q<w+(m+1))(hw:w<=15)(hm:m+1<=400)(HA:∀st,pm ao [.int nn] st=some (.int w,st))(H:HOk nn w nr HO)(hnr:nr<=m) :
  ∃z,bI [.int nn,.ref k,.int p] st=some z/\∃X T W,GX S w w (m+1) X/\TK S w (m+1) p T/\W.length=m/\(∀x,x<m->gI W x=wt T HO w w x) /\
   z.1=.tup [.str "least",.tup [.int (gI (aq [- S.t p w,S.d]) 0),.int (gI (aq [- S.t p w,S.d]) 1)],.tup [.fz (iL ((aq (X++[S.d])).take w)),.int (gI (aq (X++[S.d])) w)],.int (gI (aq (W++[S.d])) m),.fz (iL ((aq (W++[S.d])).take m))]:=by
 have P:=I.shp;have B:=Hb.bd I;obtain⟨z,e1,T,W,hT,hl,hW,hz1,hz2⟩:=AN R P I.pm hp nt ht oM oM HA H hnr;obtain⟨z1,z2⟩:=z;dsimp only at hz1 hz2;subst hz1;subst hz2;have R2:=(R.app (ys:=[MT.lst (iL T)])).app (ys:=[MT.lst (iL W)]);have wb:∀x∈W++[S.d],x.natAbs<2^9000:=fun x hx=>by
  rcases zZ.mp hx with h|h
  ·obtain⟨j,hj⟩:=z9 h
   have hjl:=(zB.mp hj).1;have eg:gI W j=x:=by unfold gI;rw[zD,hj];rfl
   rw[<- eg,hW j oM];exact AO (hT.bd hp I.pm (Hb.bd8 I)) H hw j
  ·rw[zM.mp h];exact B.1
 have e2:=qT (l:=W++[S.d]) (st:=st++[MT.lst (iL T)]++[MT.lst (iL W)]) (by simp[hl];lia) wb;obtain⟨X,T',st3,e3,rfl,hX,R3⟩:=AZ R2 P I.pm B HA oM oM;have fr:=F3 (a:=- S.t p w) (b:=S.d) (st:=st) (by rw[Int.natAbs_neg];exact B.2 p hp w oM) B.1;refine⟨(_,st3),?_,X,T,W,hX,hT,hl,hW,rfl⟩;have ll:(aq (W++[S.d])).length=m+1:=by rw[iu];simp[hl]
 rw[bI,aA];unfold fE;refine ae (sl':=[Is nn,Rs k,Is p,some (.tup [.int (gI (aq [- S.t p w,S.d]) 0),.int (gI (aq [- S.t p w,S.d]) 1)]),none]) (st':=st) (by simp[R.ins,R.line P hp,R.last P hp,fr]) ?_;refine ae (sl':=[Is nn,Rs k,Is p,some (.tup [.int (gI (aq [- S.t p w,S.d]) 0),.int (gI (aq [- S.t p w,S.d]) 1)]),Ls (aq (W++[S.d]))]) (st':=st++[MT.lst (iL T)]++[MT.lst (iL W)]) ?_ ?_
 ·have gW:(st++[MT.lst (iL T)]++[MT.lst (iL W)])[st.length+1]?=some (.lst (iL W)):=by
   have:(st++[MT.lst (iL T)]).length=st.length+1:=by simp
   rw[<- this];exact gl
  have c:=jG (ks:=[cW,aK,aj,aR]) (a:=.ca false 1 (.cons (.v 0) (.cons (.v 1) (.cons (.v 2) .nil)))) (b:=.nw false (.li (.cons (.fd "Sheet" "below" (.v 1)) .nil)))
   (sl:=[Is nn,Rs k,Is p,some (.tup [.int (gI (aq [- S.t p w,S.d]) 0),.int (gI (aq [- S.t p w,S.d]) 1)]),none]) (st:=st) (s1:=st++[MT.lst (iL T)]++[MT.lst (iL W)]) (s2:=st++[MT.lst (iL T)]++[MT.lst (iL W)]) (x:=.ref (st.length+1)) (y:=.fz [AV.int S.d]) (l:=W) (l':=[S.d])
   (by simp only[ms,dX,fc,mM,jY,jX,bind_some,p6,mE,mD];exact e1) (by simp[-List.append_assoc,cA,R2.ins]) (bK gW) rfl (by simp[hl];lia)
  simp only[fR,ms,dX,fc,jj,c,bind_some,dy,ite_true,uY,mE,mD,e2,Au];rfl
 ·have xl:aP st3 (.fz (iL (aq (W++[S.d])))) (.int (-1))=some (.int (gI (aq (W++[S.d])) m)):=by rw[cP fU,o8 (n:=m) (by simp[ll]),ce oM]
  simp[-List.append_assoc,e3,lI,lF,rX ll,xl]
end
open SX (Qt v0)
def val(w:Nat)(r:List Int)(Y:Nat->Int):Int:=MX w fun x=>gI r x*Y x
structure Kp(w:Nat)(RR:List (List Int))(gv:List Gv)(Y:Nat->Int)(e:Int):Prop where
 rule:∀r∈RR,0<=val w r Y
 eq:∀z∈gv,z.eq=true->val w z.row Y=z.num*e
 ge:∀z∈gv,z.eq=false->z.num*e<=val w z.row Y
structure TbS(w:Nat)(RR:List (List Int))(gv:List Gv)(X:List Int)(D:Int):Prop where
 len:X.length=w
 pos:0<D
 bd:(∀x∈X,x.natAbs<2^2500)/\D.natAbs<2^2500
 kp:Kp w RR gv (gI X) D
def qj(w:Nat)(RR:List (List Int))(gv:List Gv)(goal:List Int)(t:AV):Prop :=
 ((∃W,t=.tup [.str "never",.fz (iL W)])/\∀Y e,0<e->¬Kp w RR gv Y e) \/
 (∃T d X D K W,t=.tup [.str "least",.tup [.int (gI (aq [T,d]) 0),.int (gI (aq [T,d]) 1)],.tup [.fz (iL X),.int D],.int K,.fz (iL W)]/\0<d/\(T.natAbs<2^2500/\d.natAbs<2^2500)/\(TbS w RR gv X D/\val w goal (gI X)*d=T*D)/\∀Y e,0<e->Kp w RR gv Y e->T*e<=val w goal Y*d) \/
 ∃X D Z,t=.tup [.str "endless",.tup [.fz (iL X),.int D],.fz (iL Z)]/\TbS w RR gv X D/\(Z.length=w/\∀x∈Z,x.natAbs<2^2500)/\Kp w RR gv (gI Z) 0/\val w goal (gI Z)<0
section
variable{w:Nat}{RR:List (List Int)}{gv:List Gv}{goal:List Int}{Y Y':Nat->Int}{e e' g T d:Int}
theorem g7{r:List Int}(h:∀x,x<w->Y x=g*Y' x):val w r Y=g*val w r Y':=by
 unfold val;rw[<- SX.sum_mul];exact SX.sum_congr fun x hx=>by rw[h x hx];grind
theorem Kp.div(hg:0<g)(he:e=g*e')(h:∀x,x<w->Y x=g*Y' x)(K:Kp w RR gv Y e):Kp w RR gv Y' e':=by
 refine⟨fun r hr=>?_,fun z hz he2=>?_,fun z hz he2=>?_⟩
 ·have:=K.rule r hr
  rw[g7 h]at this;exact Int.le_of_mul_le_mul_left (by rw[yP];exact this) hg
 ·have:=K.eq z hz he2
  rw[g7 h,he]at this;exact Int.eq_of_mul_eq_mul_left oM (this.trans (by grind))
 ·have:=K.ge z hz he2
  rw[g7 h,he]at this;exact Int.le_of_mul_le_mul_left (Int.le_trans (by rw[show g*(z.num*e')=z.num*(g*e') by grind];exact Int.le_refl _) this) hg
theorem vo(l:List Int):∃g:Int,0<g/\∀i,gI l i=g*gI (aq l) i:=by
 by_cases h:gL l=0
 ·exact⟨1,by decide,fun i=>by unfold aq;rw[yI h,Int.one_mul]⟩
 ·refine⟨(gL l:Int),by lia,fun i=>?_⟩
  unfold aq;rw[yH h];unfold gI;rw[zD,zD,zR];cases e:l[i]? with
  |none=>simp
  |some x =>
   have:=xp x (zW e)
   exact(Int.mul_ediv_cancel' (Int.dvd_natAbs.mp (Int.natCast_dvd_natCast.mpr this))).symm
theorem qU{l:List Int}{M:Nat}(hM:0<M)(h:∀x∈l,x.natAbs<M)(i:Nat):(gI (aq l) i).natAbs<M:=by
 obtain⟨g,hg,e⟩:=vo l;have h1:=nR h hM i;rw[e i,xA]at h1;exact yM (Nat.le_mul_of_pos_left _ oM) h1
theorem kt{l:List Int}{P:Int->Prop}(h:∀i,i<l.length->P (gI l i)):∀x∈l,P x:=fun x hx=>by
 obtain⟨i,hi⟩:=z9 hx
 have:=h i (zB.mp hi).1
 unfold gI at this;rw[zD,hi]at this;exact this
theorem oX{l:List Int}{w i:Nat}(h:i<w):gI (l.take w) i=gI l i:=by
 unfold gI;rw[zD,zD,List.getElem?_take_of_lt h]
theorem FW{l l':List Int}{i:Nat}(h:i<l.length):gI (l++l') i=gI l i:=by
 unfold gI;rw[zD,zD,zN h]
theorem FV{l:List Int}{d:Int}:gI (l++[d]) l.length=d:=by
 unfold gI;rw[zD];simp
theorem TbS.low{X:List Int}(hl:X.length=w)(hd:0<d)(hb:(∀x∈X,x.natAbs<2^9000)/\d.natAbs<2^9000)(K:Kp w RR gv (gI X) d):∃g,0<g/\d=g*gI (aq (X++[d])) w/\(∀r,val w r (gI X)=g*val w r (gI ((aq (X++[d])).take w))) /\
  ((aq (X++[d])).take w).length=w/\0<gI (aq (X++[d])) w/\Kp w RR gv (gI ((aq (X++[d])).take w)) (gI (aq (X++[d])) w):=by
 obtain⟨g,hg,e⟩:=vo (X++[d]);have ed:d=g*gI (aq (X++[d])) w:=by
  have:=e w
  rw[<- hl,FV]at this;rw[<- hl];exact this
 have ex:∀x,x<w->gI X x=g*gI ((aq (X++[d])).take w) x:=fun x hx=>by
  rw[oX hx,<- e x,FW oM]
 refine⟨g,hg,ed,fun r=>g7 ex,?_,?_,K.div hg ed ex⟩
 ·rw[List.length_take,iu,zV,hl];simp
 ·rcases Int.lt_trichotomy 0 (gI (aq (X++[d])) w) with h|h|h
  ·exact h
  ·rw[<- h]at ed;lia
  ·have:=Int.mul_neg_of_pos_of_neg hg h;lia
theorem TbS.of{X:List Int}(hl:X.length=w)(hd:0<d)(hb:(∀x∈X,x.natAbs<2^2500)/\d.natAbs<2^2500)(K:Kp w RR gv (gI X) d)(hv:val w goal (gI X)=T):TbS w RR gv ((aq (X++[d])).take w) (gI (aq (X++[d])) w)/\val w goal (gI ((aq (X++[d])).take w))*d=T*gI (aq (X++[d])) w:=by
 have big:(2:Nat)^2500<=2^9000:=Nat.pow_le_pow_right dC dC;obtain⟨g,hg,ed,ev,ll,hp,K'⟩:=TbS.low hl hd ⟨fun x hx=>zJ (hb.1 x hx) big,zJ hb.2 big⟩ K;have b2:=qU (l:=X++[d]) (Nat.two_pow_pos 2500) fun x hx=>by
  rcases zZ.mp hx with h|h
  ·exact hb.1 x h
  ·rw[zM.mp h];exact hb.2
 refine⟨⟨ll,hp,⟨kt fun i hi=>?_,b2 w⟩,K'⟩,?_⟩
 ·rw[oX oM];exact b2 i
 ·rw[<- hv,ev goal]
  generalize gI (aq (X++[d])) w=D at *;rw[ed];grind
end
structure AI(w nr:Nat)(gv:List Gv)(L:List (List Int))(i:Nat)(S:Sh):Prop where
 mi:MI w (nr+gv.length+1) (v0 w L) S
 un:∀x,nr+i<=x->x<nr+gv.length+1->S.s x=w+x
 g1:∀q∈S.gd,q<w+nr\/∃y z,y<i/\gv[y]?=some z/\z.eq=false/\q=w+nr+y
 g2:∀q,q<w+nr->q∈S.gd
 g3:∀y z,y<i->gv[y]?=some z->z.eq=false->w+nr+y∈S.gd
 n1:∀q∈S.nl,∃y z,y<i/\gv[y]?=some z/\z.eq=true/\q=w+nr+y
 n2:∀y z,y<i->gv[y]?=some z->z.eq=true->w+nr+y∈S.nl
 t1:∀q∈S.tn,q∈S.nl
 tn:S.tn.Nodup
 lg:S.gd.length<=w+nr+i
 ln:S.nl.length<=i
 lt:S.tn.length<=i
section
variable{w nr i:Nat}{RR:List (List Int)}{gv:List Gv}{goal:List Int}{S:Sh}{Y:Nat->Int}{e:Int}
theorem rD{c:Int}{x:Nat}(h:r.length=w):gI (r++[c]) x=if x<w then gI r x else if x=w then c else 0:=by
 unfold gI;simp only[zD];by_cases h1:x<w
 ·rw[yI h1,zN oM]
 ·rw[yH h1,z6 oM]
  by_cases h2:x=w
  ·rw[yI h2,h,h2];simp
  ·rw[yH h2,List.getElem?_eq_none (by simp;lia)];rfl
theorem eM{c:Int}{j:Nat}(hj:L[j]?=some (r++[c]))(hr:r.length=w):Qt w (v0 w L) Y e (w+j)=val w r Y+c*e:=by
 have hv:∀x,v0 w L (w+j) x=gI (r++[c]) x:=fun x=>by
  unfold v0;rw[yH oM,show w+j-w=j by lia,zD,hj];rfl
 unfold Qt val;rw[hv,rD hr,yH oM,yI rfl];congr 1;exact SX.sum_congr fun x hx=>by rw[hv,rD hr,yI hx]
theorem Gr{q:Nat}(hq:q<w):Qt w (v0 w L) Y e q=Y q:=by
 have hv:∀x,v0 w L q x=if x=q then 1 else 0:=fun x=>by unfold v0;rw[yI hq]
 unfold Qt;rw[SX.sum_one hq fun x _ ne=>by rw[hv,yH ne,yQ],hv,yI rfl,hv,yH oM];lia
theorem sG(hi:i<RR.length):(ak RR gv goal)[i]?=some (RR[i]++[0]):=by
 unfold ak;rw[yN,zN (by simpa using hi)];simp[hi]
theorem jI(hz:gv[i]?=some z):(ak RR gv goal)[RR.length+i]?=some (z.row++[- z.num]):=by
 have hi:=(zB.mp hz).1;unfold ak;rw[yN,z6 (by simp),zN (by simp;exact hi)];simp[hz]
theorem xV:(ak RR gv goal)[RR.length+gv.length]?=some (goal.map (fun x=>- x)++[0]):=by
 unfold ak;rw[z6 (by simp)];simp
theorem vO:(ak RR gv goal).length=RR.length+gv.length+1:=by simp[ak];lia
theorem oB:val w (goal.map fun x=>- x) Y=- val w goal Y:=by
 unfold val;have:∀x,gI (goal.map fun x=>- x) x=- gI goal x:=fun x=>by
  unfold gI;rw[zD,zD,zR];cases goal[x]?<;>rfl
 rw[SX.sum_congr (g:=fun x=>(-1)*(gI goal x*Y x)) fun x _=>by rw[this];grind,SX.sum_mul];lia
structure Sz(w:Nat)(RR:List (List Int))(gv:List Gv)(goal:List Int):Prop where
 r:∀l∈RR,l.length=w
 g:∀z∈gv,z.row.length=w
 o:goal.length=w
 hg:∀Y:Nat->Int,(∀r∈RR,0<=val w r Y)->∀x,x<w->0<=Y x
theorem AI.of(Z:Sz w RR gv goal)(A:AI w RR.length gv (ak RR gv goal) i S)(F:Kp w RR gv Y e):(∀q∈S.gd,0<=Qt w (v0 w (ak RR gv goal)) Y e q)/\∀q∈S.nl,Qt w (v0 w (ak RR gv goal)) Y e q=0:=by
 refine⟨fun q hq=>?_,fun q hq=>?_⟩
 ·rcases A.g1 q hq with h|⟨y,z,h1,h2,h3,rfl⟩
  ·by_cases hw:q<w
   ·rw[Gr hw];exact Z.hg Y F.rule q hw
   ·have hi:q-w<RR.length:=by lia
    have:=eM (Y:=Y) (e:=e) (sG (gv:=gv) (goal:=goal) hi) (Z.r _ (List.getElem_mem hi))
    rw[show w+(q-w)=q by lia]at this;rw[this,yQ,Int.add_zero];exact F.rule _ (List.getElem_mem hi)
  ·have hm:=zW h2
   rw[Nat.add_assoc,eM (jI h2) (Z.g z hm)]
   have:=F.ge z hm h3
   have e1:- z.num*e=- (z.num*e):=by grind
   lia
 ·obtain⟨y,z,h1,h2,h3,rfl⟩:=A.n1 q hq
  have hm:=zW h2;rw[Nat.add_assoc,eM (jI h2) (Z.g z hm)]
  have:=F.eq z hm h3
  have e1:- z.num*e=- (z.num*e):=by grind
  lia
theorem AI.to(Z:Sz w RR gv goal)(A:AI w RR.length gv (ak RR gv goal) gv.length S)(h1:∀q∈S.gd,0<=Qt w (v0 w (ak RR gv goal)) Y e q)(h2:∀q∈S.nl,Qt w (v0 w (ak RR gv goal)) Y e q=0):Kp w RR gv Y e:=by
 refine⟨fun r hr=>?_,fun z hz he=>?_,fun z hz he=>?_⟩
 ·obtain⟨i,hi⟩:=z9 hr
  have hl:=(zB.mp hi).1;have er:RR[i]=r:=(zB.mp hi).2
  have:=h1 (w+i) (A.g2 _ oM)
  rw[eM (sG hl) (Z.r _ (List.getElem_mem hl)),yQ,Int.add_zero,er]at this;exact this
 ·obtain⟨y,hy⟩:=z9 hz
  have hl:=(zB.mp hy).1
  have:=h2 _ (A.n2 y z hl hy he)
  rw[Nat.add_assoc,eM (jI hy) (Z.g z hz)]at this;have e1:- z.num*e=- (z.num*e):=by grind
  lia
 ·obtain⟨y,hy⟩:=z9 hz
  have hl:=(zB.mp hy).1
  have:=h1 _ (A.g3 y z hl hy he)
  rw[Nat.add_assoc,eM (jI hy) (Z.g z hz)]at this;have e1:- z.num*e=- (z.num*e):=by grind
  lia
theorem BO:∀q,q<w->∀x,x<w+1->v0 w L q x=if x=q then 1 else 0:=fun q hq x _=>by unfold v0;rw[yI hq]
theorem AI.vert(Z:Sz w RR gv goal)(A:AI w RR.length gv (ak RR gv goal) gv.length S){c:Nat}(hc:c<w+1)(hcn:c<w->S.h c∉S.nl){X:Nat->Int}(h1:∀i,i<RR.length+gv.length+1->S.s i<w->X (S.s i)=S.t i c)(h2:∀j,j<w->S.h j<w->X (S.h j)=if j=c then S.d else 0)
  (hpos:∀i,i<RR.length+gv.length+1->S.s i∈S.gd->0<=S.t i c):Kp w RR gv X (if c=w then S.d else 0)/\val w goal X=- S.t (RR.length+gv.length) c:=by
 have I:=A.mi;have tw:∀q∈S.tn,w<=q:=fun q hq=>by obtain⟨y,z,_,_,_,rfl⟩:=A.n1 q (A.t1 q hq);lia
 obtain⟨v1,v2⟩:=I.vert BO tw hc h1 h2;have dis:∀q∈S.gd,q∉S.tn:=fun q hg ht=>by
  obtain⟨y,z,y1,y2,y3,y4⟩:=A.n1 q (A.t1 q ht);rcases A.g1 q hg with h|⟨y',z',h1,h2,h3,h4⟩
  ·lia
  ·have:y=y':=by lia
   subst this;rw[y2]at h2;cases h2;rw[y3]at h3;cases h3
 have hd:=I.lin.pos;refine⟨A.to Z (fun q hq=>?_) (fun q hq=>?_),?_⟩
 ·have hlt:q<w+(RR.length+gv.length+1):=by
   rcases A.g1 q hq with h|⟨y,z,_,h2,_,rfl⟩
   ·lia
   ·have:=(zB.mp h2).1;lia
  rcases I.pm.cov q hlt with⟨i,hi,rfl⟩|⟨j,hj,rfl⟩
  ·rw[v1 i hi,yH (dis _ hq)];exact hpos i hi hq
  ·rw[v2 j hj,yH (dis _ hq)];split<;>lia
 ·have hlt:q<w+(RR.length+gv.length+1):=by
   obtain⟨y,z,_,h2,_,rfl⟩:=A.n1 q hq
   have:=(zB.mp h2).1;lia
  rcases I.pm.cov q hlt with⟨i,hi,rfl⟩|⟨j,hj,rfl⟩
  ·obtain⟨n1,n2⟩:=I.fea.n i hi hq
   have:S.t i c=0:=by
    by_cases h:c=w
    ·rw[h];exact n1
    ·exact n2 c oM (hcn oM)
   rw[v1 i hi,this];split<;>rfl
  ·rw[v2 j hj,yH fun z=>hcn oM (by rw[<- z];exact hq)]
 ·have hs:=A.un (RR.length+gv.length) oM oM
  have h3:=v1 (RR.length+gv.length) oM;rw[hs]at h3;have hnt:w+(RR.length+gv.length)∉S.tn:=fun z=>by
   obtain⟨y,z',y1,_,_,y4⟩:=A.n1 _ (A.t1 _ z);lia
  rw[yH hnt,eM xV (by rw[zH];exact Z.o),oB,yQ,Int.add_zero]at h3;lia
end
section
variable{w:Nat}{RR:List (List Int)}{gv:List Gv}{goal:List Int}{nn:Int}{HO:Nat->List Int}
theorem Da{n0:Nat}{i:Nat}(h:(eN n0 xs)[i]?=some y):∃x,xs[i]?=some x/\y=.tup [.int ((n0+i:Nat):Int),x]:=by
 unfold eN at h;rw[zR]at h;obtain⟨z,h1,rfl⟩:=zE.mp h;rw[List.getElem?_zipIdx]at h1;obtain⟨x,h2,rfl⟩:=zE.mp h1;exact⟨x,h2,rfl⟩
theorem H0:bh .Eq s (.str "=") (.str "=")=some true:=by kernel_rfl
theorem HK:bh .Eq s (.str ">") (.str "=")=some false:=by kernel_rfl
structure Qu(nn:Int)(w:Nat)(RR:List (List Int))(HO:Nat->List Int)(gv:List Gv)(goal:List Int):Prop where
 HR:∀st,pm aN [.int nn] st=some (.fz (aB RR),st)
 HA:∀st,pm ao [.int nn] st=some (.int w,st)
 H:HOk nn w RR.length HO
 Z:Sz w RR gv goal
 hw:w<=15
 hR:RR.length<=100
 hg:gv.length<=100
 B:Bnd w (RR.length+gv.length+1) (v0 w (ak RR gv goal))
theorem tF(q:Qu nn w RR HO gv goal){k a b c g n u p:Nat}(R:Rep st k a b c g n u rows S)(I:MI w (RR.length+gv.length+1) (v0 w (ak RR gv goal)) S)(hp:p<RR.length+gv.length+1)(nt:S.tn.Nodup)(ht:∀x∈S.tn,x<w+(RR.length+gv.length+1)) :
  ∃st1 W st2,aK [.int nn,.ref k,.int p] st=some (.ref (st.length+1),st1)/\pm aj [.ref (st.length+1)] st1=some (.fz (iL W),st2):=by
 obtain⟨z,e1,T,W,hT,hl,hW,hz1,hz2⟩:=AN R I.shp I.pm hp nt ht (by have:=q.hw;lia) (by have:=q.hg;have:=q.hR;lia) q.HA q.H oM;obtain⟨z1,z2⟩:=z;dsimp only at hz1 hz2;subst hz1;subst hz2;have gW:(st++[MT.lst (iL T)]++[MT.lst (iL W)])[st.length+1]?=some (.lst (iL W)):=by
  have:(st++[MT.lst (iL T)]).length=st.length+1:=by simp
  rw[<- this];exact gl
 have wb:∀x∈W,x.natAbs<2^9000:=fun x hx=>by
  obtain⟨j,hj⟩:=z9 hx;have hjl:=(zB.mp hj).1;have eg:gI W j=x:=by unfold gI;rw[zD,hj];rfl
  rw[<- eg,hW j oM];exact AO (hT.bd hp I.pm (q.B.bd8 I)) q.H q.hw j
 obtain⟨st2,e2,_⟩:=kr (fn:=aj) (rest:=[]) (st:=st++[MT.lst (iL T)]++[MT.lst (iL W)]) (x:=.ref (st.length+1)) (l:=W) (.inr ⟨_,rfl,.inl gW⟩) rfl rfl (fun s=>rfl) (p9 (by have:=q.hg;have:=q.hR;lia) wb) rfl (by simp[flat]);exact⟨_,_,st2,e1,e2⟩
theorem AJ(q:Qu nn w RR HO gv goal):∃z,eE [.int nn,.fz (gv.map Gv.av),.fz (iL goal)] []=some z/\∃t,d6 z.2 z.1=some t/\qj w RR gv goal t:=by
 have Z:=q.Z;obtain⟨m,hm⟩:∃m,m=RR.length+gv.length:=⟨_,rfl⟩;have hLl:(ak RR gv goal).length=m+1:=by rw[vO,hm]
 obtain⟨L,hL⟩:∃L,L=ak RR gv goal:=⟨_,rfl⟩;obtain⟨st1,e1,R1⟩:=E5 (gv:=gv) (goal:=goal) q.HR q.HA q.hw q.hR Z.r q.hg Z.g Z.o;have A0:AI w RR.length gv (ak RR gv goal) 0 (SX.openS w (ak RR gv goal) (w+RR.length)):=by
  have hLen:∀l∈ak RR gv goal,l.length=w+1:=fun l hl=>by
   unfold ak at hl;simp only[zZ,yD,zM]at hl;rcases hl with(⟨r,hr,rfl⟩|⟨z,hz,rfl⟩)|rfl
   ·simp[Z.r r hr]
   ·simp[Z.g z hz]
   ·simp[Z.o]
  have hI:=SX.open_MI (w:=w) (nr:=RR.length) (L:=ak RR gv goal) hLen fun i hi=>by
   rw[zD,sG hi];show gI (RR[i]++[0]) w=0;rw[rD (Z.r _ (List.getElem_mem hi)),yH oM,yI rfl]
  rw[vO]at hI;refine⟨hI,fun x _ hx=>SX.open_s (by rw[vO];exact hx),fun x hx=>.inl (List.mem_range.mp hx),fun x hx=>List.mem_range.mpr hx,fun y z h=>by lia,fun x hx=>?_,fun y z h=>by lia,fun x hx=>?_,List.nodup_nil,by simp[SX.openS],zP 0,zP 0⟩
  ·exact absurd (show x ∈ ([]:List Nat) from hx) (by simp)
  ·exact absurd (show x ∈ ([]:List Nat) from hx) (by simp)
 have sm:=q.hg;have sm2:=q.hR;have sm3:=q.hw;rw[eE];simp only[aA];unfold mJ;refine ag (sl':=[Is nn,Zs (gv.map Gv.av),Ls goal,Rs 1,none,none,none,none,none]) (st':=st1) (by simp[e1]) ?_;have l2:bO st1 (.ref 2)=some (aB (ak RR gv goal)):=bK R1.ha;refine ag (sl':=[Is nn,Zs (gv.map Gv.av),Ls goal,Rs 1,Is (m:Int),none,none,none,none]) (st':=st1) (by simp[R1.ins,cj,eU,l2,hLl]) ?_
 -- the givens
 have loop:=k6 (gd:=[]) (g:=b8 [bR,cC,bM,aK,aj,bJ,bI,aR,cB] (.tu 2 (.cons (.nm 5) (.cons (.nm 6) .nil))))
  (s:=ah [bR,cC,bM,aK,aj,bJ,bI,aR,cB] (.cons (.as (.ife (.cmp .Eq (.ix (.v 6) (.i 1)) (.s "=")) (.ca false 1 (.cons (.v 3) (.cons (.v 5) .nil))) (.ca false 2 (.cons (.v 3) (.cons (.v 5) .nil)))) (.nm 7))
   (.cons (.iff (.no (.va (.v 7))) (.cons (.rt (.tu (.cons (.s "never") (.cons (.ca true 4 (.cons (.ca false 3 (.cons (.v 0) (.cons (.v 3) (.cons (.v 5) .nil)))) .nil)) .nil)))) .nil) .nil) .nil)))
  (I:=fun i sl s=>∃a rows S x5 x6 x7,sl=[Is nn,Zs (gv.map Gv.av),Ls goal,Rs 1,Is (m:Int),x5,x6,x7,none]/\Rep s 1 a 3 4 5 6 7 rows S/\AI w RR.length gv (ak RR gv goal) i S)
  (Post:=fun v s=>∃t,d6 s v=some t/\qj w RR gv goal t) (xs:=eN RR.length (gv.map Gv.av)) (fun _ _ _ _ _=>rfl)
  (fun i y sl s hy hI=>by
   obtain⟨a,rows,S,x5,x6,x7,rfl,R,A⟩:=hI;obtain⟨x,hx,rfl⟩:=Da hy;rw[zR]at hx;obtain⟨z,hz,rfl⟩:=zE.mp hx;have hzm:=zW hz;have hi:=(zB.mp hz).1;have hp:RR.length+i<RR.length+gv.length+1:=by lia
   have I:=A.mi;have sp:S.s (RR.length+i)=w+RR.length+i:=by rw[A.un _ (zP _) hp];lia
   have ng:S.s (RR.length+i)∉S.gd:=fun h=>by
    rcases A.g1 _ h with h|⟨y,_,h,_,_,h2⟩<;>lia
   have nn':S.s (RR.length+i)∉S.nl:=fun h=>by obtain⟨y,_,h,_,_,h2⟩:=A.n1 _ h;lia
   have nt:S.s (RR.length+i)∉S.tn:=fun h=>nn' (A.t1 _ h)
   have unk:∀T:Sh,Kj (RR.length+gv.length+1) (RR.length+i) S T->∀x,RR.length+(i+1)<=x->x<RR.length+gv.length+1->T.s x=w+x:=fun T K x h1 h2=>by
    have e:=A.un x oM h2;rw[K.si x h2 oM (by rw[e];intro h;rcases A.g1 _ h with h|⟨y,_,h,_,_,h2⟩<;>lia),e]
   have lst:∀x∈S.nl,x<w+(RR.length+gv.length+1):=fun x hx=>by
    obtain⟨y,_,h,_,_,h2⟩:=A.n1 _ hx;lia
   -- no table
   have nev:∀(T:Sh),MI w (RR.length+gv.length+1) (v0 w (ak RR gv goal)) T->T.gd=S.gd->T.nl=S.nl->(∀x∈T.tn,x∈T.nl\/x=T.s (RR.length+i))->T.s (RR.length+i)=S.s (RR.length+i)->T.t (RR.length+i) w<0->(∀j,j<w->T.h j∉T.nl->¬0<T.t (RR.length+i) j)->(z.eq=false->T.s (RR.length+i)∉T.tn)->∀Y e,0<e->¬Kp w RR gv Y e:=fun T I' hg hn ht hs low hr hzt Y e he F=>by
    obtain⟨f1,f2⟩:=A.of Z F;have d:=I'.dual hp hr ht (Y:=Y) (e:=e) (fun j hj h=>by
     rcases I'.fea.f j hj with h1|h1
     ·rw[show(T.h j∈T.gd)=(T.h j∈S.gd) by rw[hg]]at h1;exact f1 _ h1
     ·exact absurd h1 h) (fun j hj h=>by rw[hn]at h;exact f2 _ h)
    have neg:=Int.mul_neg_of_neg_of_pos low he;have qe:=eM (Y:=Y) (e:=e) (jI (RR:=RR) (goal:=goal) hz) (Z.g z hzm);have e1:- z.num*e=- (z.num*e):=by grind
    rw[hs,sp,Nat.add_assoc,qe]at d;cases hze:z.eq with
    |true =>
     have:=F.eq z hzm hze
     rw[show val w z.row Y+- z.num*e=0 by lia]at d;split at d<;>lia
    |false =>
     have h3:=F.ge z hzm hze;have h4:=hzt hze;rw[hs,sp,Nat.add_assoc]at h4;rw[yH h4]at d
     have:=Int.mul_nonneg (Int.le_of_lt I'.lin.pos) (show 0 <= val w z.row Y + - z.num * e by lia)
     lia
   cases hze:z.eq with
   |true =>
    obtain⟨T,s2,a2,rows2,bb,e2,R2,K,hg,I2,hb⟩:=HD q.B R I hp ng nn' nt (by have:=A.ln;lia) (by have:=A.lt;lia);have tnd:T.tn.Nodup:=by
     rcases K.tn with h|h
     ·rw[h];exact A.tn
     ·rw[h]
      rw[List.nodup_append];exact⟨A.tn,by simp,fun x hx y hy e=>nt (by rw[<- zM.mp hy,<- e];exact hx)⟩
    have es:cS [bR,cC,bM,aK,aj,bJ,bI,aR,cB] (.as (.ife (.cmp .Eq (.ix (.v 6) (.i 1)) (.s "=")) (.ca false 1 (.cons (.v 3) (.cons (.v 5) .nil))) (.ca false 2 (.cons (.v 3) (.cons (.v 5) .nil)))) (.nm 7)) [Is nn,Zs (gv.map Gv.av),Ls goal,Rs 1,Is (m:Int),Is ((RR.length+i:Nat):Int),some z.av,x7,none] s
      = some (.nx [Is nn,Zs (gv.map Gv.av),Ls goal,Rs 1,Is (m:Int),Is ((RR.length+i:Nat):Int),some z.av,some (.bl bb),none] s2):=by
     have xi:aP s z.av (.int 1)=some (.str "="):=by
      have:z.av=.tup [.fz (iL z.row),.str "=",.int z.num]:=by unfold Gv.av;rw[hze];rfl
      rw[this];rfl
     simp only[fR,AS,uw,uj,mM,sR,IB,jY,jX,bind_some,xi,map_some,H0,ite_true,ms,dX,fc,p6,mE,mD,e2,Au];rfl
    rcases hb with⟨rfl,hn⟩|⟨rfl,hn,hs,low,hr⟩
    ·refine⟨_,.nx [Is nn,Zs (gv.map Gv.av),Ls goal,Rs 1,Is (m:Int),Is ((RR.length+i:Nat):Int),some z.av,some (.bl true),none] s2,rfl,ar es ?_,.inl ⟨_,s2,rfl,a2,rows2,T,_,_,_,rfl,R2,⟨I2,unk T K,fun x hx=>?_,fun x hx=>by rw[hg];exact A.g2 x hx,fun y z' hy h1 h2=>?_,fun x hx=>?_,fun y z' hy h1 h2=>?_,fun x hx=>?_,tnd,?_,?_,?_⟩⟩⟩
     ·simp[eR,bO,dr]
     ·rw[hg]at hx
      rcases A.g1 x hx with h|⟨y,z',h1,h2⟩
      ·exact .inl h
      ·exact .inr ⟨y,z',by lia,h2⟩
     ·rw[hg]
      by_cases e:y=i
      ·subst e;rw[hz]at h1;cases h1;rw[hze]at h2;cases h2
      ·exact A.g3 y z' oM h1 h2
     ·rw[hn,zZ,zM]at hx
      rcases hx with hx|hx
      ·obtain⟨y,z',h1,h2⟩:=A.n1 x hx;exact⟨y,z',by lia,h2⟩
      ·exact⟨i,z,by lia,hz,hze,by rw[hx,sp]⟩
     ·rw[hn,zZ,zM]
      by_cases e:y=i
      ·subst e;exact .inr (by rw[sp])
      ·exact .inl (A.n2 y z' oM h1 h2)
     ·rw[hn,zZ,zM]
      rcases K.tn with h|h
      ·rw[h]at hx;exact .inl (A.t1 x hx)
      ·rw[h,zZ,zM]at hx
       exact hx.imp (A.t1 x) id
     ·rw[hg];have:=A.lg;lia
     ·rw[hn,zV];have:=A.ln;simp;lia
     ·rcases K.tn with h|h
      ·rw[h];have:=A.lt;lia
      ·rw[h,zV];have:=A.lt;simp;lia
    ·have tq:∀x∈T.tn,x∈T.nl\/x=T.s (RR.length+i):=fun x hx=>by
      rw[hn,hs];rcases K.tn with h|h
      ·rw[h]at hx;exact .inl (A.t1 x hx)
      ·rw[h,zZ,zM]at hx
       exact hx.imp (A.t1 x) id
     obtain⟨s3,W,s4,e3,e4⟩:=tF q R2 I2 hp tnd fun x hx=>by
      rcases tq x hx with h|h
      ·rw[hn]at h;exact lst x h
      ·rw[h,hs,sp];lia
     refine⟨_,.rt (.tup [.str "never",.fz (iL W)]) s4,rfl,ar es ?_,.inr ⟨_,s4,rfl,_,rfl,.inl ⟨⟨W,rfl⟩,nev T I2 hg hn tq hs low hr (fun h=>by rw[hze]at h;cases h)⟩⟩⟩;rw[Int.natCast_add]at e3;simp[eR,bO,dr,e3,e4]
   |false =>
    obtain⟨T,s2,a2,rows2,bb,e2,R2,K,ht,hn,I2,hb⟩:=HC q.B R I hp ng nn' (by have:=A.lg;lia);have es:cS [bR,cC,bM,aK,aj,bJ,bI,aR,cB] (.as (.ife (.cmp .Eq (.ix (.v 6) (.i 1)) (.s "=")) (.ca false 1 (.cons (.v 3) (.cons (.v 5) .nil))) (.ca false 2 (.cons (.v 3) (.cons (.v 5) .nil)))) (.nm 7)) [Is nn,Zs (gv.map Gv.av),Ls goal,Rs 1,Is (m:Int),Is ((RR.length+i:Nat):Int),some z.av,x7,none] s
      = some (.nx [Is nn,Zs (gv.map Gv.av),Ls goal,Rs 1,Is (m:Int),Is ((RR.length+i:Nat):Int),some z.av,some (.bl bb),none] s2):=by
     have xi:aP s z.av (.int 1)=some (.str ">"):=by
      have:z.av=.tup [.fz (iL z.row),.str ">",.int z.num]:=by unfold Gv.av;rw[hze];rfl
      rw[this];rfl
     simp only[fR,AS,uw,uj,mM,sR,IB,jY,jX,bind_some,xi,map_some,HK,yB,ite_false,ms,dX,fc,p6,mE,mD,e2,Au];rfl
    rcases hb with⟨rfl,hg⟩|⟨rfl,hg,hs,low,hr⟩
    ·refine⟨_,.nx [Is nn,Zs (gv.map Gv.av),Ls goal,Rs 1,Is (m:Int),Is ((RR.length+i:Nat):Int),some z.av,some (.bl true),none] s2,rfl,ar es ?_,.inl ⟨_,s2,rfl,a2,rows2,T,_,_,_,rfl,R2,⟨I2,unk T K,fun x hx=>?_,fun x hx=>by rw[hg];exact zL _ (A.g2 x hx),fun y z' hy h1 h2=>?_,fun x hx=>?_,fun y z' hy h1 h2=>?_,fun x hx=>by rw[ht]at hx;rw[hn];exact A.t1 x hx,by rw[ht];exact A.tn,?_,by rw[hn];have:=A.ln;lia,by rw[ht];have:=A.lt;lia⟩⟩⟩
     ·simp[eR,bO,dr]
     ·rw[hg,zZ,zM]at hx
      rcases hx with hx|hx
      ·rcases A.g1 x hx with h|⟨y,z',h1,h2⟩
       ·exact .inl h
       ·exact .inr ⟨y,z',by lia,h2⟩
      ·exact .inr ⟨i,z,by lia,hz,hze,by rw[hx,sp]⟩
     ·rw[hg,zZ,zM]
      by_cases e:y=i
      ·subst e;exact .inr (by rw[sp])
      ·exact .inl (A.g3 y z' oM h1 h2)
     ·rw[hn]at hx
      obtain⟨y,z',h1,h2⟩:=A.n1 x hx;exact⟨y,z',by lia,h2⟩
     ·rw[hn]
      by_cases e:y=i
      ·subst e;rw[hz]at h1;cases h1;rw[hze]at h2;cases h2
      ·exact A.n2 y z' oM h1 h2
     ·rw[hg,zV];have:=A.lg;simp;lia
    ·have tq:∀x∈T.tn,x∈T.nl\/x=T.s (RR.length+i):=fun x hx=>.inl (by rw[ht]at hx;rw[hn];exact A.t1 x hx)
     obtain⟨s3,W,s4,e3,e4⟩:=tF q R2 I2 hp (by rw[ht];exact A.tn) fun x hx=>by rw[ht]at hx;exact lst x (A.t1 x hx)
     refine⟨_,.rt (.tup [.str "never",.fz (iL W)]) s4,rfl,ar es ?_,.inr ⟨_,s4,rfl,_,rfl,.inl ⟨⟨W,rfl⟩,nev T I2 hg hn tq hs low hr (fun _=>by rw[ht,hs];exact nt)⟩⟩⟩;rw[Int.natCast_add]at e3;simp[eR,bO,dr,e3,e4]) (sl:=[Is nn,Zs (gv.map Gv.av),Ls goal,Rs 1,Is (m:Int),none,none,none,none]) (st:=st1) ⟨2,_,_,none,none,none,rfl,R1,A0⟩
 have ei:dO [bR,cC,bM,aK,aj,bJ,bI,aR,cB] (.es (.v 1) (.bin .Sub (.v 4) (.bi .len (.cons (.v 1) .nil)))) [Is nn,Zs (gv.map Gv.av),Ls goal,Rs 1,Is (m:Int),none,none,none,none] st1=some (⟨eN RR.length (gv.map Gv.av),[]⟩,st1):=by
  have h1:(m:Int)-(gv.length:Int)=(RR.length:Int):=by lia
  have h2:Nat.ble RR.length 1000000=true:=yL oM;simp[vB,cj,eU,h1];lia
 rcases loop with⟨sl',st2,e2,a,rows,S,x5,x6,x7,rfl,R,A⟩|⟨v,st2,e2,t,ht,hA⟩
 ·rw[show(eN RR.length (gv.map Gv.av)).length=gv.length by unfold eN;simp]at A
  refine ag (sl':=[Is nn,Zs (gv.map Gv.av),Ls goal,Rs 1,Is (m:Int),x5,x6,x7,none]) (st':=st2) (by rw[km,ei,bind_some];exact e2) ?_;have hp:m<RR.length+gv.length+1:=by lia
  have spg:S.s m=w+m:=A.un m oM hp;have ng:S.s m∉S.gd:=fun h=>by rcases A.g1 _ h with h|⟨y,_,h,_,_,h2⟩<;>lia
  obtain⟨r,e3,S2,a3,rows3,R3,K,I3,sp3,h3⟩:=Db q.B R A.mi hp ng;have A3:AI w RR.length gv (ak RR gv goal) gv.length S2:=by
   refine⟨I3,fun x h1 h2=>?_,by rw[K.gd];exact A.g1,by rw[K.gd];exact A.g2,by rw[K.gd];exact A.g3,by rw[K.nl];exact A.n1,by rw[K.nl];exact A.n2,by rw[K.tn,K.nl];exact A.t1,by rw[K.tn];exact A.tn,by rw[K.gd];exact A.lg,by rw[K.nl];exact A.ln,by rw[K.tn];exact A.lt⟩;have:x=m:=by lia
   subst this;rw[sp3,spg]
  have P3:=I3.shp;have lst:∀x∈S2.tn,x<w+(RR.length+gv.length+1):=fun x hx=>by
   obtain⟨y,_,h,_,_,h2⟩:=A3.n1 _ (A3.t1 x hx);lia
  obtain⟨r1,r2⟩:=r;dsimp only at R3 h3
  -- the table
  have tb:∀X,GX S2 w w (RR.length+gv.length+1) X->Kp w RR gv (gI X) S2.d/\val w goal (gI X)=- S2.t m w:=fun X hX=>by
   have:=A3.vert Z (c:=w) oM (fun h=>by lia) (X:=gI X) hX.at_ (fun j hj h=>by
    rw[yH oM];exact hX.no _ h fun i hi=>Ne.symm (I3.pm.hs j i hj hi)) (fun i hi hg=>I3.fea.g i hi hg)
   rw[yI rfl,<- hm]at this;exact this
  rcases h3 with⟨rfl,hr⟩|⟨qq,rfl,hr,htn⟩
  ·refine ag (sl':=[Is nn,Zs (gv.map Gv.av),Ls goal,Rs 1,Is (m:Int),x5,x6,x7,some .non]) (st':=r2) (by simp[R.ins,e3]) ?_
   obtain⟨z,e4,X,T,W,hX,hT,hl,hW,hz⟩:=Aj (m:=RR.length+gv.length) (p:=m) R3 I3 q.B oM A3.tn lst q.hw oM q.HA q.H oM;obtain⟨z1,z2⟩:=z;dsimp only at hz;have gb:∀x∈X,x.natAbs<2^2500:=kt fun i hi=>by
    rw[hX.len]at hi;by_cases h:∃y,y<RR.length+gv.length+1/\S2.s y=i
    ·obtain⟨y,hy,rfl⟩:=h
     rw[hX.at_ y hy hi];exact(q.B.bd2 I3).2 y hy w oM
    ·rw[hX.no i hi fun y hy z=>h ⟨y,hy,z⟩];exact Nat.two_pow_pos _
   refine⟨(z1,z2),by simp[e4],z1,by rw[hz];rfl,.inr (.inl ⟨- S2.t m w,S2.d,_,_,_,_,hz,I3.lin.pos,⟨by rw[Int.natAbs_neg];exact(q.B.bd2 I3).2 m oM w oM,(q.B.bd2 I3).1⟩,TbS.of hX.len I3.lin.pos ⟨gb,(q.B.bd2 I3).1⟩ (tb X hX).1 (tb X hX).2,fun Y e he F=>?_⟩)⟩;obtain⟨f1,f2⟩:=A3.of Z F;have d:=I3.dual hp (hr.1 rfl) (fun x hx=>.inl (A3.t1 x hx)) (Y:=Y) (e:=e) (fun j hj h=>by
    rcases I3.fea.f j hj with h1|h1
    ·exact f1 _ h1
    ·exact absurd h1 h) (fun j hj h=>f2 _ h)
   have hnt:S2.s m∉S2.tn:=fun z=>by
    obtain⟨y,_,h,_,_,h2⟩:=A3.n1 _ (A3.t1 _ z);rw[sp3,spg]at h2;lia
   rw[yH hnt,sp3,spg,hm,eM xV (by rw[zH];exact Z.o),oB,yQ,Int.add_zero,<- hm]at d;have e5:S2.d*- val w goal Y=- (val w goal Y*S2.d):=by grind
   have e6:- S2.t m w*e=- (S2.t m w*e):=by grind
   lia
  ·refine ag (sl':=[Is nn,Zs (gv.map Gv.av),Ls goal,Rs 1,Is (m:Int),x5,x6,x7,Is (qq:Int)]) (st':=r2) (by simp[R.ins,e3]) ?_
   obtain⟨q1,q2,q3,_⟩:=hr.2 qq rfl;obtain⟨X,T,st4,e4,eT,hX,R4⟩:=AZ R3 P3 I3.pm (q.B.bd I3) q.HA oM oM;subst eT;have gb:∀c,c<w+1->∀X,GX S2 w c (RR.length+gv.length+1) X->∀x∈X,x.natAbs<2^2500:=fun c hc X hX=>kt fun i hi=>by
    rw[hX.len]at hi;by_cases h:∃y,y<RR.length+gv.length+1/\S2.s y=i
    ·obtain⟨y,hy,rfl⟩:=h
     rw[hX.at_ y hy hi];exact(q.B.bd2 I3).2 y hy c hc
    ·rw[hX.no i hi fun y hy z=>h ⟨y,hy,z⟩];exact Nat.two_pow_pos _
   obtain⟨X2,st5,e5,hX2⟩:=GH R4 P3 I3.pm (q.B.bd I3) q.HA oM oM q1;obtain⟨V,hV⟩:∃V,V=if S2.h qq<w then X2.set (S2.h qq) S2.d else X2:=⟨_,rfl⟩
   rw[<- hV]at e5;have hVl:V.length=w:=by rw[hV];split<;>simp[hX2.len]
   have hVb:∀x∈V,x.natAbs<2^2500:=fun x hx=>by
    rw[hV]at hx;split at hx
    ·rcases List.mem_or_eq_of_mem_set hx with h|h
     ·exact gb qq oM X2 hX2 x h
     ·rw[h];exact(q.B.bd2 I3).1
    ·exact gb qq oM X2 hX2 x hx
   have hVx:∀x,x<w->gI V x=if x=S2.h qq then S2.d else gI X2 x:=fun x hx=>by
    rw[hV];by_cases h:S2.h qq<w
    ·rw[yI h,oW (by rw[hX2.len];exact h)]
    ·rw[yH h,yH oM]
   obtain⟨g',hg',eg⟩:=vo V;refine⟨(.tup [.str "endless",.tup [.fz (iL ((aq (X++[S2.d])).take w)),.int (gI (aq (X++[S2.d])) w)],.fz (iL (aq V))],st5),by simp[e4,e5],_,rfl,.inr (.inr ⟨_,_,_,rfl,(TbS.of hX.len I3.lin.pos ⟨gb w oM X hX,(q.B.bd2 I3).1⟩ (tb X hX).1 (tb X hX).2).1,⟨by rw[iu,hVl],kt fun i _=>qU (Nat.two_pow_pos _) hVb i⟩,?_⟩)⟩
   have:=A3.vert Z (c:=qq) oM (fun _=>q2) (X:=fun x=>if x=S2.h qq then S2.d else gI X2 x) (fun i hi hs=>by
    rw[yH (Ne.symm (I3.pm.hs qq i q1 hi))];exact hX2.at_ i hi hs) (fun j hj h=>by
    by_cases e:j=qq
    ·subst e;rw[yI rfl,yI rfl]
    ·rw[yH fun z=>e (I3.pm.hi j qq hj q1 z),yH e]
     exact hX2.no _ h fun i hi=>Ne.symm (I3.pm.hs j i hj hi)) (fun i hi hg=>by have:=htn.1 rfl i hi hg;lia)
   rw[yH oM,<- hm]at this;have ew:∀x,x<w->(if x=S2.h qq then S2.d else gI X2 x)=g'*gI (aq V) x:=fun x hx=>by rw[<- eg,hVx x hx]
   refine⟨this.1.div hg' (by rw[yP]) ew,?_⟩;have e2:=this.2;rw[g7 ew]at e2;have:g'*val w goal (gI (aq V))<0:=by rw[e2];lia
   rcases yV (val w goal (gI (aq V))) 0 with h|h
   ·exact h
   ·have:=Int.mul_nonneg (Int.le_of_lt hg') h;lia
 ·refine⟨(v,st2),?_,t,ht,hA⟩
  refine c4 ?_;rw[km,ei,bind_some];exact e2
end
noncomputable def RR2:List (List Int):=[[0,-1,1],[-1,0,1],[1,1,-1]]
noncomputable def Ju:Nat->List Int
 |1=>[1,0,1]
 |2=>[0,1,1]
 |_=>[1,1,1]
noncomputable def RR3:List (List Int):=[[0,0,0,0,0,-1,1],[0,0,0,0,-1,0,1],[0,0,-1,0,0,0,1],[1,1,-1,0,0,0,0],[0,0,0,-1,1,1,-1],[1,0,0,1,-1,0,0],[0,-1,1,0,0,1,-1],[0,1,0,1,0,-1,0],[-1,0,1,0,1,0,-1]]
noncomputable def Jt:Nat->List Int
 |1=>[1,0,0,1,0,0,1,0,0]
 |2=>[0,1,0,1,0,0,0,0,1]
 |3=>[1,1,0,1,0,0,1,0,1]
 |4=>[0,0,1,0,0,1,0,0,1]
 |5=>[1,0,1,1,0,0,1,0,1]
 |6=>[0,1,1,1,0,0,1,0,1]
 |_=>[1,1,1,1,0,0,1,0,1]
noncomputable def mk(w p m:Nat):List Int:=(List.range w).map fun i=>if p.testBit i then 1 else if m.testBit i then -1 else 0
def RR4:List (List Int):=[(16384,8192),(16384,4096),(16384,1024),(16384,64),(3,4),(48,72),(768,1152),(12288,18432),(9,16),(36,66),(2304,4224),(9216,16896),(129,256),(516,1026),(2064,4104),(8256,16416),(10,32),(20,65),(2560,8320),(5120,16640),(130,512),(260,1025),(2080,8200),(4160,16400),(136,2048),(272,4097),(544,8194),(1088,16388)].map fun z:Nat×Nat=>mk 15 z.1 z.2
def Js(g:Nat):List Int:=mk 28 ([33297,8519698,8552979,134349060,134382101,142737942,142770711,136318984,136348185,142745626,142770715,142754060,142770717,142770718,142770719].getD (g-1) 0) 0
theorem dB(hr:rfs args=true)(h:((fn args []).bind fun p=>d6 p.2 p.1)=some t):pm fn args st=some (t,st):=by
 obtain⟨p,h1,h2⟩:=zA h;exact b9 hr h1 h2
def Lh(nn:Int)(w nr:Nat)(HO:Nat->List Int):Bool:=(List.range w).all fun g=>(match (cT [.int nn,.int ((g+1:Nat):Int),.int 0] []).bind fun p=>d6 p.2 p.1 with
 |some rr=>rf rr&&(match (dY [.int nn,rr] []).bind fun p=>d6 p.2 p.1 with
  |some x=>cU x (.fz (iL (HO (g+1))))
  |none=>false)
 |none=>false)&&((HO (g+1)).length==nr&&(HO (g+1)).all fun x=>Nat.ble x.natAbs 15)
theorem qc{nn:Int}{w nr:Nat}{HO:Nat->List Int}(h:Lh nn w nr HO=true):HOk nn w nr HO:=by
 have at_:∀grp:Nat,1<=grp->grp<=w->(∃rr,(∀st,pm cT [.int nn,.int grp,.int 0] st=some (rr,st))/\∀st,pm dY [.int nn,rr] st=some (.fz (iL (HO grp)),st))/\(HO grp).length=nr/\∀x∈HO grp,x.natAbs<=15:=fun grp h1 h2=>by
  obtain⟨g,rfl⟩:∃g,grp=g+1:=⟨grp-1,by lia⟩;have h:=yR.mp h g (List.mem_range.mpr oM);simp only[zC]at h;obtain⟨h3,h4,h5⟩:=h;refine⟨?_,yK h4,fun x hx=>zS (yR.mp h5 x hx)⟩;split at h3
  ·rename_i rr e1
   simp only[zC]at h3;obtain⟨h6,h7⟩:=h3;split at h7
   ·rename_i x e2
    rw[t9 h7]at e2;exact⟨rr,fun st=>dB rfl e1,fun st=>dB (by simp[rfs,rf,h6]) e2⟩
   ·cases h7
  ·cases h3
 exact⟨fun grp h1 h2=>(at_ grp h1 h2).1,fun grp h1 h2=>(at_ grp h1 h2).2.1,fun grp h1 h2=>(at_ grp h1 h2).2.2⟩
theorem LL:∀st,pm ao [.int 2] st=some (.int ((3:Nat):Int),st):=fun st=>dB rfl (by kernel_rfl)
theorem LK:∀st,pm ao [.int 3] st=some (.int ((7:Nat):Int),st):=fun st=>dB rfl (by kernel_rfl)
theorem LJ:∀st,pm ao [.int 4] st=some (.int ((15:Nat):Int),st):=fun st=>dB rfl (by kernel_rfl)
theorem LC:∀st,pm aN [.int 2] st=some (.fz (aB RR2),st):=fun st=>dB rfl (by kernel_rfl)
theorem LB:∀st,pm aN [.int 3] st=some (.fz (aB RR3),st):=fun st=>dB rfl (by kernel_rfl)
theorem LA:∀st,pm aN [.int 4] st=some (.fz (aB RR4),st):=fun st=>dB rfl (by kernel_rfl)
theorem LH:HOk 2 3 RR2.length Ju:=qc (by kernel_rfl)
theorem LG:HOk 3 7 RR3.length Jt:=qc (by kernel_rfl)
theorem LF:HOk 4 15 RR4.length Js:=qc (by kernel_rfl)
noncomputable def RR1:List (List Int):=[[1]]
noncomputable def Jv:Nat->List Int:=fun _=>[1]
theorem LM:∀st,pm ao [.int 1] st=some (.int ((1:Nat):Int),st):=fun st=>dB rfl (by kernel_rfl)
theorem LD:∀st,pm aN [.int 1] st=some (.fz (aB RR1),st):=fun st=>dB rfl (by kernel_rfl)
theorem LI:HOk 1 1 RR1.length Jv:=qc (by kernel_rfl)
noncomputable def M0:Nat:=2^120
theorem Gj{w:Nat}(hw:w<=15)(hR:RR.length<=100)(hg:gv.length<=100)(h1:∀l∈RR,∀x∈l,x.natAbs<=M0)(h2:∀z∈gv,(∀x∈z.row,x.natAbs<=M0)/\z.num.natAbs<=M0)(h3:∀x∈goal,x.natAbs<=M0):Bnd w (RR.length+gv.length+1) (v0 w (ak RR gv goal)):=by
 refine⟨⟨M0,Nat.one_le_two_pow,fun q x hx=>?_,?_⟩,by lia,by lia⟩
 ·have hM:1<=M0:=Nat.one_le_two_pow
  unfold v0;split
  ·split<;>simp[hM]
  ·unfold gI
   rw[zD,zD];cases e:(ak RR gv goal)[q-w]? with
   |none=>simp
   |some l =>
    have hl:=zW e;simp only[Option.getD_some];cases e2:l[x]? with
    |none=>simp
    |some y =>
     have hy:=zW e2;simp only[Option.getD_some];unfold ak at hl;simp only[zZ,yD,zM]at hl;rcases hl with(⟨r,hr,rfl⟩|⟨z,hz,rfl⟩)|rfl
     ·rcases zZ.mp hy with h|h
      ·exact h1 r hr y h
      ·rw[zM.mp h];simp
     ·rcases zZ.mp hy with h|h
      ·exact(h2 z hz).1 y h
      ·rw[zM.mp h,Int.natAbs_neg];exact(h2 z hz).2
     ·rcases zZ.mp hy with h|h
      ·obtain⟨u,hu,rfl⟩:=yD.mp h
       rw[Int.natAbs_neg];exact h3 u hu
      ·rw[zM.mp h];simp
 ·have f:SX.fct (w+1)<=2^45:=by
   have:w=0\/w=1\/w=2\/w=3\/w=4\/w=5\/w=6\/w=7\/w=8\/w=9\/w=10\/w=11\/w=12\/w=13\/w=14\/w=15:=by lia
   rcases this with rfl|rfl|rfl|rfl|rfl|rfl|rfl|rfl|rfl|rfl|rfl|rfl|rfl|rfl|rfl|rfl<;>decide
  have p:M0^(w+1)<=2^1920:=by
   unfold M0;rw[<- Nat.pow_mul];exact Nat.pow_le_pow_right dC oM
  refine yM (Nat.mul_le_mul f p) ?_;rw[<- Nat.pow_add];exact Nat.pow_lt_pow_right dC dC
def jN(cs:List Int)(RR:List (List Int))(x:Nat):Int:=((cs.zip RR).map fun z=>z.1*gI z.2 x).sum
theorem tI{w:Nat}{Y:Nat->Int}:∀(cs:List Int)(RR:List (List Int)),MX w (fun x=>jN cs RR x*Y x)=((cs.zip RR).map fun z=>z.1*val w z.2 Y).sum
 |[],_=>by simp[jN];exact SX.sum_zero fun _ _=>rfl
 |_::_,[]=>by simp[jN];exact SX.sum_zero fun _ _=>rfl
 |c::cs,r::RR=>by
  rw[List.zip_cons_cons,zO,List.sum_cons,<- tI cs RR];unfold val;rw[<- SX.sum_mul,<- SX.sum_add];refine SX.sum_congr fun x _=>?_
  show jN (c::cs) (r::RR) x*Y x=_;have:jN (c::cs) (r::RR) x=c*gI r x+jN cs RR x:=by simp[jN]
  rw[this];grind
theorem Fw{w:Nat}{Y:Nat->Int}{cs:List Int}{RR:List (List Int)}(hc:∀c∈cs,0<=c)(h:∀r∈RR,0<=val w r Y):0<=((cs.zip RR).map fun z=>z.1*val w z.2 Y).sum:=by
 have:∀l:List (Int×List Int),(∀z∈l,0<=z.1/\0<=val w z.2 Y)->0<=(l.map fun z=>z.1*val w z.2 Y).sum:=fun l=>by
  induction l with
  |nil=>intro _;simp
  |cons z l ih =>
   intro h;rw[zO,List.sum_cons];have h1:=Int.mul_nonneg (h z z7).1 (h z z7).2;have h2:=ih fun y hy=>h y (zQ _ hy)
   lia
 exact this _ fun z hz=>⟨hc _ (List.of_mem_zip hz).1,h _ (List.of_mem_zip hz).2⟩
def IT(w:Nat)(RR:List (List Int))(HO:Nat->List Int):Bool:=(List.range w).all fun g=>(HO (g+1)).all (fun c=>decide (0<=c))&&(List.range w).all fun x=>jN (HO (g+1)) RR x==if x=g then 1 else 0
theorem u8{w:Nat}{RR:List (List Int)}{HO:Nat->List Int}(hb:IT w RR HO=true):∀Y:Nat->Int,(∀r∈RR,0<=val w r Y)->∀x,x<w->0<=Y x:=fun Y h g hg=>by
 have hb:=yR.mp hb g (List.mem_range.mpr hg);rw[zC]at hb;have hc:∀c∈HO (g+1),0<=c:=fun c hc=>of_decide_eq_true (yR.mp hb.1 c hc)
 have hx:∀x,x<w->jN (HO (g+1)) RR x=if x=g then 1 else 0:=fun x hx=>yK (yR.mp hb.2 x (List.mem_range.mpr hx))
 have e:=tI (w:=w) (Y:=Y) (HO (g+1)) RR;rw[SX.sum_one hg fun x h1 h2=>by rw[hx x h1,yH h2,yQ],hx g hg,yI rfl,Int.one_mul]at e;rw[e];exact Fw hc h
def jv(n:Nat):Prop:=n=1\/n=2\/n=3\/n=4
def ud(n:Nat):List (List Int):=if n=1 then RR1 else if n=2 then RR2 else if n=3 then RR3 else RR4
def Jr(n:Nat):Nat->List Int:=if n=1 then Jv else if n=2 then Ju else if n=3 then Jt else Js
theorem Ee{n:Nat}{gv:List Gv}{goal:List Int}(hn:jv n)(hg:gv.length<=100)(h2:∀z∈gv,z.row.length=2^n-1/\(∀x∈z.row,x.natAbs<=M0)/\z.num.natAbs<=M0)(h3:goal.length=2^n-1/\∀x∈goal,x.natAbs<=M0):Qu n (2^n-1) (ud n) (Jr n) gv goal:=by
 have h1:∀l∈ud n,l.length=2^n-1/\∀x∈l,x.natAbs<=1:=by rcases hn with rfl|rfl|rfl|rfl<;>decide +kernel
 have hR:(ud n).length<=100:=by rcases hn with rfl|rfl|rfl|rfl<;>decide
 have hw:2^n-1<=15:=by rcases hn with rfl|rfl|rfl|rfl<;>decide
 have hM:1<=M0:=Nat.one_le_two_pow;have hb:IT (2^n-1) (ud n) (Jr n)=true:=by rcases hn with rfl|rfl|rfl|rfl<;>kernel_rfl
 have B:=Gj hw hR hg (fun l hl x hx=>z5 ((h1 l hl).2 x hx) hM) (fun z hz=>(h2 z hz).2) h3.2;have Z:Sz (2^n-1) (ud n) gv goal:=⟨fun l hl=>(h1 l hl).1,fun z hz=>(h2 z hz).1,h3.1,u8 hb⟩;rcases hn with rfl|rfl|rfl|rfl
 ·exact⟨LD,LM,LI,Z,hw,hR,hg,B⟩
 ·exact⟨LC,LL,LH,Z,hw,hR,hg,B⟩
 ·exact⟨LB,LK,LG,Z,hw,hR,hg,B⟩
 ·exact⟨LA,LJ,LF,Z,hw,hR,hg,B⟩
theorem sA{nn:Int}{w:Nat}{RR:List (List Int)}{HO:Nat->List Int}{gv:List Gv}{goal:List Int}(q:Qu nn w RR HO gv goal):∃t,(∀st,pm eE [.int nn,.fz (gv.map Gv.av),.fz (iL goal)] st=some (t,st))/\qj w RR gv goal t:=by
 obtain⟨z,e,t,h,A⟩:=AJ q;exact⟨t,fun st=>b9 rfl e h,A⟩
theorem kU{a b:Int}(h:a.natAbs<2^62):cE a b=true:=by
 unfold cE;have:Nat.ble a.natAbs.log2 62=true:=yL (by
  by_cases hz:a.natAbs=0
  ·rw[hz];decide
  ·exact yZ ((Nat.log2_lt hz).mpr h))
 rw[this];simp
theorem p8{a b:Int}(h:b.natAbs<2^62):cE a b=true:=by
 unfold cE;have:Nat.ble b.natAbs.log2 62=true:=yL (by
  by_cases hz:b.natAbs=0
  ·rw[hz];decide
  ·exact yZ ((Nat.log2_lt hz).mpr h))
 rw[this];simp
theorem k9{a b:Int}(h:0<b):pH a b=a%b:=yI h
theorem Bn{a b:Int}(h:0<b):tX a b=a/b:=yI h
theorem ni{a b:Int}(h:0<b):0<=a%b/\a%b<b:=⟨Int.emod_nonneg _ oM,Int.emod_lt_of_pos _ h⟩
theorem Hs{c:Int}{k:Nat}(hk:k<=1000):∃m:Int,pm cZ [.int c,.int k] st=some (.int m,st)/\0<=m/\m<2147483629:=by
 have hkk:((k:Int)*(k:Int)).natAbs<2^62:=by
  rw[xA,Int.natAbs_natCast];have:k*k<=1000*1000:=Nat.mul_le_mul hk hk;exact yM this dC
 obtain⟨x,hx⟩:∃x,x=(c%2147483647+(k:Int)*(k:Int)*7919+104729)*48271%2147483647:=⟨_,rfl⟩;have xr:=ni (a:=(c%2147483647+(k:Int)*(k:Int)*7919+104729)*48271) (b:=2147483647) dC;rw[<- hx]at xr;have xs:x.natAbs<2^62:=by have:(2:Nat)^62=4611686018427387904:=dC;lia
 refine⟨(x*x+69621*(k:Int))%2147483629,b9 rfl (v:=.int ((x*x+69621*(k:Int))%2147483629)) (st':=[]) ?_ rfl,(ni dC).1,(ni dC).2⟩;have m1:cE (k:Int) (k:Int)=true:=kU (by rw[Int.natAbs_natCast];exact yM hk dC);have m2:cE ((k:Int)*(k:Int)) 7919=true:=p8 dC;have m3:cE (c%2147483647+(k:Int)*(k:Int)*7919+104729) 48271=true:=p8 dC;have m4:cE x x=true:=kU xs;have m5:cE 69621 (k:Int)=true:=kU dC;rw[cZ,aA];unfold jW;refine ae (sl':=[Is c,Is (k:Int),Is x]) (st':=[]) ?_ ?_
 ·simp [ib (show (2147483647:Int) ≠ 0 by decide),k9 (show (0:Int) < 2147483647 by decide),aZ m1,aZ m2,aZ m3,<- hx]
 ·simp [ib (show (2147483629:Int) ≠ 0 by decide),k9 (show (0:Int) < 2147483629 by decide),aZ m4,aZ m5]
theorem uW:aQ .Pow st (.int 10) (.int 18)=some (.int 1000000000000000000):=by kernel_rfl
theorem Dc(hn:ns.length<=63):∃A B D,eF [.fz (iL ns),.int 1,.int 400] []=some (.ref 2,[A,B,MT.lst (iL D)])/\D.length=400/\∀x∈D,0<=x/\x<2147483587:=by
 obtain⟨C,hC⟩:∃C,C=ns++[1]:=⟨_,rfl⟩;have lC:C.length=ns.length+1:=by rw[hC];simp
 obtain⟨sl',st',e,lf,fd,y6,y7,y8,rfl,rfl,h1,h2,h3⟩:=eJ (gd:=[]) (g:=b8 [cZ] (.nm 6)) (s:=ah [cZ] (.cons (.as (.bin .Mod (.v 6) (.bi .len (.cons (.v 3) .nil))) (.nm 7))
 (.cons (.as (.ca true 0 (.cons (.ix (.v 3) (.v 7)) (.cons (.v 6) .nil))) (.nm 8))
 (.cons (.as (.bin .Mod (.bin .Add (.bin .Mult (.v 8) (.v 8)) (.bin .Mult (.i 7) (.v 6))) (.i 2147483587)) (.nm 8))
 (.cons (.iff (.an (.cmp .GtE (.ix (.v 3) (.v 7)) (.bin .Pow (.i 10) (.i 18))) (.cmp .Gt (.ix (.v 4) (.v 7)) (.i 0)))
 (.cons (.as (.bin .Mod (.ix (.v 4) (.v 7)) (.i 2147483587)) (.nm 8))
 (.cons (.as (.bin .FloorDiv (.ix (.v 4) (.v 7)) (.i 2147483587)) (.su (.v 4) (.v 7)))
 .nil))
 .nil)
 (.cons (.ex (.mt .app (.v 5) (.cons (.v 8) .nil)))
 .nil))))))
  (I:=fun i sl s=>∃lf fd y6 y7 y8,s=[MT.lst (iL lf),MT.lst (iL fd)]/\sl=[Ls ns,Is 1,Is 400,Ls C,Rs 0,Rs 1,y6,y7,y8]/\lf.length=C.length/\fd.length=i/\∀x∈fd,0<=x/\x<2147483587) (xs:=cX 0 401) (fun _ _ _ _ _=>rfl)
  (fun i y sl s hy hI=>by
   obtain⟨lf,fd,y6,y7,y8,rfl,rfl,h1,h2,h3⟩:=hI;rw[mT]at hy;have hi:i<401:=by have:=(zB.mp hy).1;simpa using this
   have ey:y=.int ((i:Nat):Int):=by
    rw[gj (by simpa using hi)]at hy;injection hy with hy;rw[<- hy];simp[zD,hi]
   subst ey;obtain⟨q,hq⟩:∃q,q=i%C.length:=⟨_,rfl⟩;have ql:q<C.length:=by rw[hq];exact Nat.mod_lt _ oM
   obtain⟨m,em,m0,m1⟩:=Hs (c:=gI C q) (k:=i) oM (st:=[MT.lst (iL lf),MT.lst (iL fd)]);have xC:aP [MT.lst (iL lf),MT.lst (iL fd)] (.fz (iL C)) (.int (q:Int))=some (.int (gI C q)):=by rw[cP fU,cF,ce ql]
   have xL:aP [MT.lst (iL lf),MT.lst (iL fd)] (.ref 0) (.int (q:Int))=some (.int (gI lf q)):=by rw[cP (bK rfl),cF,ce oM]
   have mm:cE m m=true:=kU (by have:(2:Nat)^62=4611686018427387904:=dC;lia);have m7:cE 7 (i:Int)=true:=kU dC;have am:pH ((i:Nat):Int) ((C.length:Nat):Int)=((q:Nat):Int):=by rw[k9 oM,hq];simp
   have P0:(0:Int)<2147483587:=by decide
   -- the number
   have app:∀(lf':List Int)(x:Int)(z8:Option AV),cS [cZ] (.ex (.mt .app (.v 5) (.cons (.v 8) .nil))) [Ls ns,Is 1,Is 400,Ls C,Rs 0,Rs 1,Is (i:Int),Is (q:Int),Is x] [MT.lst (iL lf'),MT.lst (iL fd)]=some (.nx [Ls ns,Is 1,Is 400,Ls C,Rs 0,Rs 1,Is (i:Int),Is (q:Int),Is x] [MT.lst (iL lf'),MT.lst (iL (fd++[x]))]):=fun lf' x _=>by
    rw[yt,Bx (k:=1) (xs:=iL fd) (y:=.int x) rfl rfl rfl (by simp;lia),FO,xj];rfl
   by_cases hc:1000000000000000000<=gI C q/\0<gI lf q
   ·refine⟨_,[Ls ns,Is 1,Is 400,Ls C,Rs 0,Rs 1,Is (i:Int),Is (q:Int),Is (gI lf q%2147483587)],[MT.lst (iL (lf.set q (gI lf q/2147483587))),MT.lst (iL (fd++[gI lf q%2147483587]))],rfl,?_,_,_,_,_,_,rfl,rfl,by simp[h1],by simp[h2],fun x hx=>?_⟩
    ·refine ar (sl':=[Ls ns,Is 1,Is 400,Ls C,Rs 0,Rs 1,Is (i:Int),Is (q:Int),y8]) (st':=[MT.lst (iL lf),MT.lst (iL fd)]) ?_ ?_
     ·simp [cj,eU,ib (show ((C.length:Nat):Int) ≠ 0 by lia),am]
     refine ar (sl':=[Ls ns,Is 1,Is 400,Ls C,Rs 0,Rs 1,Is (i:Int),Is (q:Int),Is m]) (st':=[MT.lst (iL lf),MT.lst (iL fd)]) (by simp[xC,em]) ?_;refine ar (sl':=[Ls ns,Is 1,Is 400,Ls C,Rs 0,Rs 1,Is (i:Int),Is (q:Int),Is ((m*m+7*(i:Int))%2147483587)]) (st':=[MT.lst (iL lf),MT.lst (iL fd)]) ?_ ?_
     ·simp [aZ mm,aZ m7,ib (show (2147483587:Int) ≠ 0 by decide),k9 P0]
     refine ar (sl':=[Ls ns,Is 1,Is 400,Ls C,Rs 0,Rs 1,Is (i:Int),Is (q:Int),Is (gI lf q%2147483587)]) (st':=[MT.lst (iL (lf.set q (gI lf q/2147483587))),MT.lst (iL fd)]) ?_ (ar (app _ _ none) rfl);have dv:dR 2147483587=true:=by decide
     have hs:=db (st:=[MT.lst (iL lf),MT.lst (iL fd)]) (k:=0) (q:=q) (xs:=iL lf) (x:=.int (gI lf q / 2147483587)) rfl (by simp;lia);rw [ff] at hs;simp [xC,xL,uW,hc.1,hc.2,ib (show (2147483587:Int) ≠ 0 by decide),k9 P0,lu dv,Bn P0,hs]
    ·rcases zZ.mp hx with h|h
     ·exact h3 x h
     ·rw[zM.mp h];exact ni P0
   ·refine⟨_,[Ls ns,Is 1,Is 400,Ls C,Rs 0,Rs 1,Is (i:Int),Is (q:Int),Is ((m*m+7*(i:Int))%2147483587)],[MT.lst (iL lf),MT.lst (iL (fd++[(m*m+7*(i:Int))%2147483587]))],rfl,?_,_,_,_,_,_,rfl,rfl,h1,by simp[h2],fun x hx=>?_⟩
    ·refine ar (sl':=[Ls ns,Is 1,Is 400,Ls C,Rs 0,Rs 1,Is (i:Int),Is (q:Int),y8]) (st':=[MT.lst (iL lf),MT.lst (iL fd)]) ?_ ?_
     ·simp [cj,eU,ib (show ((C.length:Nat):Int) ≠ 0 by lia),am]
     refine ar (sl':=[Ls ns,Is 1,Is 400,Ls C,Rs 0,Rs 1,Is (i:Int),Is (q:Int),Is m]) (st':=[MT.lst (iL lf),MT.lst (iL fd)]) (by simp[xC,em]) ?_;refine ar (sl':=[Ls ns,Is 1,Is 400,Ls C,Rs 0,Rs 1,Is (i:Int),Is (q:Int),Is ((m*m+7*(i:Int))%2147483587)]) (st':=[MT.lst (iL lf),MT.lst (iL fd)]) ?_ ?_
     ·simp [aZ mm,aZ m7,ib (show (2147483587:Int) ≠ 0 by decide),k9 P0]
     refine ar (sl':=[Ls ns,Is 1,Is 400,Ls C,Rs 0,Rs 1,Is (i:Int),Is (q:Int),Is ((m*m+7*(i:Int))%2147483587)]) (st':=[MT.lst (iL lf),MT.lst (iL fd)]) ?_ (ar (app _ _ none) rfl);by_cases hc1:1000000000000000000<=gI C q
     ·have hc2:¬0<gI lf q:=fun z=>hc ⟨hc1,z⟩
      simp[xC,xL,uW,hc1,hc2]
     ·simp[xC,uW,hc1]
    ·rcases zZ.mp hx with h|h
     ·exact h3 x h
     ·rw[zM.mp h];exact ni P0) (sl:=[Ls ns,Is 1,Is 400,Ls C,Rs 0,Rs 1,none,none,none]) (st:=[MT.lst (iL (C.map fun x=>x/100000)),MT.lst (iL [])]) ⟨_,[],none,none,none,rfl,rfl,by simp,rfl,by simp⟩
 have rl:(cX 0 401).length=401:=by decide
 rw[rl]at h2;refine⟨MT.lst (iL lf),MT.lst (iL fd),fd.drop 1,?_,by simp[h2],fun x hx=>h3 x (List.mem_of_mem_drop hx)⟩;rw[eF,aA];unfold iK;refine ae (sl':=[Ls ns,Is 1,Is 400,Ls C,none,none,none,none,none]) (st':=[]) ?_ ?_
 ·have cu:cut (iL ns) none (some 63)=iL ns:=by
   unfold cut;have:HT.M7 (iL ns).length (iL ns).length (some 63)=(iL ns).length:=by
    rw[show(63:Int)=((63:Nat):Int) from rfl,HT.sIx_nat,gJ];lia
   rw[this,HT.sIx_none,List.drop_zero,Nat.sub_zero,List.take_length]
  have c:=jG (ks:=[cZ]) (a:=.nw false (.sl (.v 0) .no (.so (.i 63)))) (b:=.nw false (.li (.cons (.v 1) .nil))) (sl:=[Ls ns,Is 1,Is 400,none,none,none,none,none,none]) (st:=[]) (s1:=[]) (s2:=[]) (x:=.fz (iL ns)) (y:=.fz [AV.int 1]) (l:=ns) (l':=[1]) (by simp[lI,lF,cu]) (by simp[cA]) rfl rfl (by simp;lia);simp[-vd,c,hC]
 refine ae (sl':=[Ls ns,Is 1,Is 400,Ls C,Rs 0,none,none,none,none]) (st':=[MT.lst (iL (C.map fun x=>x/100000))]) ?_ ?_
 ·have dv:dR 100000=true:=by decide
  simp [cg (show C.length <= 1000 by lia)];rw [jO (F:=fun x=>x / 100000) fN fun x hx=>⟨_,rfl,rfl,by simp [lu dv,Bn (show (0:Int) < 100000 by decide)]⟩];simp
 refine ae (sl':=[Ls ns,Is 1,Is 400,Ls C,Rs 0,Rs 1,none,none,none]) (st':=[MT.lst (iL (C.map fun x=>x/100000)),MT.lst (iL [])]) (by simp[cA,iL]) ?_;refine ae (sl':=[Ls ns,Is 1,Is 400,Ls C,Rs 0,Rs 1,y6,y7,y8]) (st':=[MT.lst (iL lf),MT.lst (iL fd)]) ?_ ?_
 ·have rb:fA 401=true:=by decide
  have:dO [cZ] (.r1 (.bin .Add (.v 1) (.v 2))) [Ls ns,Is 1,Is 400,Ls C,Rs 0,Rs 1,none,none,none] [MT.lst (iL (C.map fun x=>x/100000)),MT.lst (iL [])]=some (⟨cX 0 401,[]⟩,[MT.lst (iL (C.map fun x=>x/100000)),MT.lst (iL [])]):=by
   simp[xh,rb]
  rw[km,this,bind_some];exact e
 ·have cu:cut (iL fd) (some 1) none=iL (fd.drop 1):=by
   unfold cut;rw[HT.sIx_none,show(1:Int)=((1:Nat):Int) from rfl,HT.sIx_nat,gJ,h2,tP];rw[List.take_of_length_le (by simp[h2])];rfl
  have l1:bO [MT.lst (iL lf),MT.lst (iL fd)] (.ref 1)=some (iL fd):=bK rfl;simp[lI,lF,l1,cu]
theorem p5{r:Nat}{x:Int}(h:st[r]?=some (.lst (iL (D++[x])))):ai [.ref r] st=some (.int x,st.set r (.lst (iL D))):=by
 have hp:∀l:List Int,bH (cJ 8 st) (iL l)=some (l.map PyData.int):=fun l=>d7 (f:=cJ 8 st) (i:=AV.int) (g:=PyData.int) (fun _=>rfl) l
 have hl:∀l:List Int,PyData.canLayAll0 (l.map PyData.int)=true:=fun l=>by
  induction l with
  |nil=>rfl
  |cons a l ih=>simp only[zO,PyData.canLayAll0,PyData.canLay0,ih,Bool.and_self]
 have c:bh .Eq st (.ref r) (.fz [])=some false:=by
  show kb st (.ref r) (.fz [])=_;unfold kb;have p1:cJ 9 st (.ref r)=some (.list ((D++[x]).map PyData.int)):=by
   unfold cJ;simp only[h,hp,map_some]
  have p2:cJ 9 st (.fz [])=some (.list []):=rfl;rw[p1,p2,bind_some,bind_some,yI ?_]
  ·rw[List.map_append]
   cases D.map PyData.int<;>rfl
  ·have h1:(PyData.list ((D++[x]).map PyData.int)).canLay0=true:=by unfold PyData.canLay0;exact hl _
   have h2:(PyData.list []).canLay0=true:=rfl;have h3:min (PyData.list ((D++[x]).map PyData.int)).depth (PyData.list []).depth<=50:=z5 (Nat.min_le_right _ _) dC;unfold DD.pyOk;rw[h1,h2,yW h3];rfl
 have e1:(iL (D++[x]))[D.length]?=some (.int x):=by unfold iL;simp
 have e2:(iL (D++[x])).dropLast=iL D:=by unfold iL;simp
 simp[ai,aA,jV,cA,c,md,qO,qN,qv,bK h,vm,ia,h,e1,e2];exact(zB.mp e1).2
section
variable{ks:List Fn}{sl:Sl}{st:aa}{ss:M6}{P:AV×aa->Prop}
theorem cD{s:Sx}{v:AV}{st':aa}(h:cS ks s sl st=some (.rt v st'))(hp:P (v,st')):∃r,(ah ks (.cons s ss) sl st).bind aw=some r/\P r:=⟨_,c4 h,hp⟩
theorem mR{α:Type}{em:α->AV}{it:Ix}{t:Tg}{b:M6}{xs:List α}{gd:Gd}{st0:aa}(I:Nat->Sl->aa->Prop)(hi:dO ks it sl st=some (⟨xs.map em,gd⟩,st0))(hg:∀i sl st,I i sl st->cp gd st=true)(h0:I 0 sl st0)
  (h:∀i x sl st,xs[i]?=some x->I i sl st->∃p sl2 st2,b8 ks t (em x) sl st=some p/\ah ks b p.1 p.2=some (.nx sl2 st2)/\I (i+1) sl2 st2)
  (hr:∀sl' st',I xs.length sl' st'->∃r,(ah ks ss sl' st').bind aw=some r/\P r):∃r,(ah ks (.cons (.fo it t b) ss) sl st).bind aw=some r/\P r:=by
 obtain⟨sl',st',e,hI⟩:=eJ (gd:=gd) (g:=b8 ks t) (s:=ah ks b) (I:=I) (xs:=xs.map em) (fun i sl st _ hI=>hg i sl st hI) (fun i y sl st hy hI=>by
  rw[zR]at hy;obtain⟨x,hx,rfl⟩:=zE.mp hy;exact h i x sl st hx hI) h0
 rw[zH]at hI;obtain⟨r,e2,hp⟩:=hr sl' st' hI;exact⟨r,ae (by rw[km,hi,bind_some];exact e) e2,hp⟩
end
theorem DG{f:AV->AV->Option AV}{h:Nat->Nat->Nat} (t:∀x:Nat,x<16->∀y:Nat,y<16->(match f (.int x) (.int y) with
  |some (.int b)=>decide (b=(h x y:Int))
  |_=>false)=true) {x y:Nat} (hx:x<16) (hy:y<16):f (.int (x:Int)) (.int (y:Int))=some (.int (h x y:Int)):=by
 have t:=t x hx y hy;split at t
 ·rename_i b e
  rw[of_decide_eq_true t]at e;exact e
 ·cases t
section
variable{st:aa}{os:List Nat}{n g k j:Nat}{D:List Int}
theorem u6{x y:Nat}(hx:x<16)(hy:y<16):aQ .BitOr st (.int (x:Int)) (.int (y:Int))=some (.int ((x ||| y:Nat):Int)):=by
 show aQ .BitOr [] (.int (x:Int)) (.int (y:Int))=_;exact DG (f:=aQ .BitOr []) (h:=fun x y=>x ||| y) (by decide +kernel) hx hy
theorem kS{ks:List Fn}{a:Ex}{sl:Sl}{n:Nat}(h:ev ks a sl st=some (.int (n:Int),st))(hn:n<=1000):dO ks (.r1 a) sl st=some (⟨(List.range n).map fun q:Nat=>AV.int (q:Int),[]⟩,st):=by
 show(ev ks a sl st).bind _=_;rw[h,bind_some];dsimp only;have:fA (n:Int)=true:=by
  unfold fA;refine yL ?_;rw[Int.natAbs_natCast];by_cases hz:n=0
  ·subst hz;decide
  ·exact yZ ((Nat.log2_lt hz).mpr (yM hn dC))
 rw[yI this,Int.toNat_natCast,mT];rfl
theorem qf{ks:List Fn}{a e:Ex}{sl:Sl}{y:AV}{xs:List AV}{k:Nat}(h1:ev ks a sl st=some (.ref k,st))(h2:ev ks e sl st=some (y,st))(h3:st[k]?=some (.lst xs))(hl:xs.length<=1000):cS ks (.ex (.mt .app a (.cons e .nil))) sl st=some (.nx sl (st.set k (.lst (xs++[y])))):=by
 simp[md,qO,qN,h1,qv,bK h3,h2,qR,ia,h3,cg hl]
theorem qV{α:Type}{ks:List Fn}{k:Nat}{it:Ix}{t:Tg}{c:Cx'}{e:Ex}{sl:Sl}{gd:Gd}{em:α->AV}{B:α->Bool}{F:α->AV}{xs:List α}(hi:dO ks it sl st=some (⟨xs.map em,gd⟩,st))(hg:cp gd st=true)(hz:xs.length<=1000)
  (h:∀x∈xs,∃sl1,b8 ks t (em x) (sl++List.replicate k none) st=some (sl1,st)/\i8 ks c sl1 st=some (B x,st)/\(B x=true->ev ks e sl1 st=some (F x,st))):i7 ks (.lc k it t c e) sl st=some ((xs.filter B).map F,st):=by
 rw[Fe,hi,bind_some];dsimp only;rw[yI (cg (by rw[zH];exact hz))];exact gq hg h
theorem mN{b:Bool}:eR st (.bl b)=some b:=rfl
theorem Ft{m:Nat}{l:List Int}:bH (cJ (m+1) st) (iL l)=some (l.map PyData.int):=d7 (f:=cJ (m+1) st) (i:=AV.int) (g:=PyData.int) (fun _=>rfl) l
theorem fV(h:D≠[]):∃D' x,D=D'++[x]:=⟨D.dropLast,D.getLast h,(List.dropLast_concat_getLast h).symm⟩
end
section
variable{st:aa}{os:List Nat}{n g k j:Nat}{A B O:MT}{D T:List Int}
def okD(D:List Int):Prop:=∀x∈D,0<=x/\x<2147483587
theorem okD.at{D:List Int}{x:Int}(h:okD (D++[x])):0<=x/\okD D:=⟨(h x (by simp)).1,fun y hy=>h y (by simp[hy])⟩
theorem Ht{a b:Int}:∃c:Int,cj oQ [.int a,.int b] st=some (.int c,st)/\(c=a\/c=b):=by
 have:cj oQ [.int a,.int b] st=some (.int (if b<a then b else a),st):=rfl;exact⟨_,this,by split<;>simp⟩
theorem re{i:Nat}(hi:i<T.length):aP st (.fz (iL T)) (.int (i:Int))=some (.int (SX.gI T i)):=by rw[cP fU,cF,ce hi]
theorem DS{c:Int}(h:c.natAbs<=100):c.natAbs<2^62:=yM h dC
theorem iH{z c:Int}(hc:dR c=true)(h0:0<c):aQ .FloorDiv st (.int z) (.int c)=some (.int (z/c)):=by rw[lu hc];exact congrArg (fun q=>some (AV.int q)) (yI h0)
theorem dq{z c:Int}(h0:0<c):aQ .Mod st (.int z) (.int c)=some (.int (z%c)):=by rw[ib oM];exact congrArg (fun q=>some (AV.int q)) (yI h0)
theorem Kv{x y:Nat}:aQ .BitAnd st (.int (x:Int)) (.int (y:Int))=some (.int ((x &&& y:Nat):Int)):=by
 show some (AV.int (Builtin.bitAnd (x:Int) (y:Int)))=_;rfl
theorem vp{l:List Int}:cj eU [.fz (iL l)] st=some (.int ((l.length:Nat):Int),st):=by
 show some (AV.int ((iL l).length:Int),st)=_;rw[gJ]
theorem lx{l:List AV}{i:Int}(h0:0<=i)(h1:i<l.length):∃x∈l,aP st (.fz l) (.int i)=some x:=by
 obtain⟨q,rfl⟩:∃q:Nat,i=(q:Int):=⟨i.toNat,by lia⟩;have hq:q<l.length:=by lia
 refine⟨l[q],List.getElem_mem hq,?_⟩;rw[cP fU,cF,zF hq]
end
section
variable{st:aa}{n k:Nat}{A B:MT}{D T:List Int}{R:aa}
theorem jk{x:Int}:ai [.ref 2] (A::B::.lst (iL (D++[x]))::R)=some (.int x,A::B::.lst (iL D)::R):=p5 (st:=A::B::.lst (iL (D++[x]))::R) (r:=2) rfl
theorem jx{P:Int->Prop}{ks:List Fn}{k:Nat}{it:Ix}{t:Tg}{e:Ex}{sl:Sl}{N:Nat}(hi:dO ks it sl st=some (⟨(List.range N).map fun q:Nat=>AV.int (q:Int),[]⟩,st))(hz:N<=1000)(h:∀q,q<N->∃sl1 v,P v/\b8 ks t (.int (q:Int)) (sl++List.replicate k none) st=some (sl1,st)/\ev ks e sl1 st=some (.int v,st)):∃L:List Int,(L.length=N/\∀x∈L,P x)/\ev ks (.nw false (.lc k it t .no e)) sl st=some (.fz (iL L),st):=by
 have hc:∀q,∃v:Int,q<N->P v/\∃sl1,b8 ks t (.int (q:Int)) (sl++List.replicate k none) st=some (sl1,st)/\ev ks e sl1 st=some (.int v,st):=fun q=>by
  by_cases hq:q<N
  ·obtain⟨sl1,v,h0,h1,h2⟩:=h q hq;exact⟨v,fun _=>⟨h0,sl1,h1,h2⟩⟩
  ·exact⟨0,fun z=>absurd z hq⟩
 obtain⟨f,hf⟩:=Classical.axiomOfChoice hc;refine⟨(List.range N).map f,⟨by simp,fun x hx=>?_⟩,?_⟩
 ·obtain⟨q,hq,rfl⟩:=yD.mp hx
  exact(hf q (List.mem_range.mp hq)).1
 have e:=qV (c:=.no) (B:=fun _=>true) (F:=fun q:Nat=>AV.int (f q)) hi rfl (by simpa using hz) fun q hq=>by
  obtain⟨_,sl1,h1,h2⟩:=hf q (List.mem_range.mp hq);exact⟨sl1,h1,rfl,fun _=>h2⟩
 rw[List.filter_eq_self.mpr (fun _ _=>rfl)]at e;have:(List.range N).map (fun q=>AV.int (f q))=iL ((List.range N).map f):=by unfold iL;rw[List.map_map];rfl
 rw[this]at e;rw[jj,e,bind_some,yI dy]
theorem wW{f:Int->Int}{ks:List Fn}{it:Ix}{e:Ex}{sl:Sl}{s:Nat}{N:Nat}(hi:∀st,dO ks it sl st=some (⟨(List.range N).map fun q:Nat=>AV.int (q:Int),[]⟩,st))(hz:N<=1000)(hs:sl.length=s)(h:∀q D x,0<=x->x<2147483587->ev ks e (sl++[Is (q:Int)]) (A::B::.lst (iL (D++[x]))::R)=some (.int (f x),A::B::.lst (iL D)::R))(hD:N<=D.length)(hd:okD D) :
  ∃D' L,ev ks (.nw false (.lc 1 it (.nm s) .no e)) sl (A::B::.lst (iL D)::R)=some (.fz (iL L),A::B::.lst (iL D')::R)/\okD D'/\D.length=D'.length+N/\L.length=N/\∀x∈L,∃y,0<=y/\y<2147483587/\x=f y:=by
 have gm:∀(q:Nat)(st:aa),b8 ks (.nm s) (.int (q:Int)) (sl++[none]) st=some (sl++[Is (q:Int)],st):=fun q st=>by
  show some ((sl++[none]).set s (some (.int (q:Int))),st)=_;rw[<- hs,List.set_append_right _ _ (zP _),Nat.sub_self];rfl
 obtain⟨st',e1,j1,j2⟩:=wV (gd:=[]) (g:=b8 ks (.nm s)) (t:=i8 ks .no) (f:=ev ks e) (sl:=sl++[none]) (xs:=(List.range N).map fun q:Nat=>AV.int (q:Int))
  (J:=fun i st=>i<=N/\st=A::B::.lst (iL (D.take (D.length-i)))::R) (F:=fun i=>.int (f (SX.gI D (D.length-1-i)))) (fun _ _ _ _=>rfl) (fun i x st hx hq0=>by
   obtain⟨hi1,hst⟩:=hq0;rw[zR]at hx;obtain⟨q,hq,rfl⟩:=zE.mp hx;have hi2:i<N:=by have:=(zB.mp hq).1;simpa using this
   subst hst;have hl:D.length-1-i<D.length:=by lia
   have e2:D.take (D.length-i)=D.take (D.length-(i+1))++[SX.gI D (D.length-1-i)]:=by
    rw[show D.length-i=(D.length-1-i)+1 by lia,List.take_add_one,show D.length-(i+1)=D.length-1-i by lia,zF hl];congr 2;simp[SX.gI,zD,zF hl]
   have hm:SX.gI D (D.length-1-i)∈D:=by
    unfold SX.gI;rw[zD,zF hl];exact List.getElem_mem hl
   refine⟨_,_,gm q _,rfl,?_,by lia,rfl⟩;rw[e2];exact h q _ _ (hd _ hm).1 (hd _ hm).2) (st:=A::B::.lst (iL D)::R) ⟨Nat.zero_le _,by rw[Nat.sub_zero,List.take_length]⟩
 rw[zH,List.length_range]at e1 j1 j2;refine⟨D.take (D.length-N),(List.range N).map fun i=>f (SX.gI D (D.length-1-i)),?_,fun x hx=>hd x (List.mem_of_mem_take hx),by rw[List.length_take];lia,by simp,fun x hx=>?_⟩
 ·rw[jj,Fe,hi,bind_some]
  dsimp only;rw[yI (cg (by simpa using hz))];show((gH [] _ _ _ (sl++[none]) _ _).bind _)=_;rw[e1,bind_some,j2];dsimp only;have:(List.range N).map (fun i=>AV.int (f (SX.gI D (D.length-1-i))))=iL ((List.range N).map fun i=>f (SX.gI D (D.length-1-i))):=by unfold iL;rw[List.map_map];rfl
  rw[this,yI dy]
 ·obtain⟨i,hi,rfl⟩:=yD.mp hx
  have hi:=List.mem_range.mp hi;have hl:D.length-1-i<D.length:=by lia
  have hm:SX.gI D (D.length-1-i)∈D:=by
   unfold SX.gI;rw[zD,zF hl];exact List.getElem_mem hl
  exact⟨_,(hd _ hm).1,(hd _ hm).2,rfl⟩
end
section
variable{st:aa}
theorem Bh{l:List Int}:lsI st (.fz (iL l))=some l:=by
 unfold lsI;rw[fU,bind_some];unfold k4;rw[show iL l=l.map AV.int from rfl,d7 (i:=AV.int) (g:=id) (fun _=>rfl),List.map_id]
theorem om:∀l:List Gv,rfs (l.map Gv.av)=true:=fun l=>ii fun x hx=>by
 obtain⟨z,_,rfl⟩:=yD.mp hx;simp[Gv.av,rf,rfs,dy]
variable{w:Nat}{RR:List (List Int)}{gv:List Gv}{X Y Z:Nat->Int}{e:Int}{goal:List Int}
theorem jr{r:List Int}:val w r (fun x=>X x+Z x)=val w r X+val w r Z:=by
 unfold val;rw[<- SX.sum_add];exact SX.sum_congr fun x _=>by grind
theorem Kp.add(h:Kp w RR gv X e)(h0:Kp w RR gv Z 0):Kp w RR gv (fun x=>X x+Z x) e:=by
 refine⟨fun r hr=>?_,fun z hz he=>?_,fun z hz he=>?_⟩
 ·have:=h.rule r hr;have:=h0.rule r hr;rw[jr];lia
 ·have h1:=h.eq z hz he;have h2:=h0.eq z hz he;rw[jr];rw[yP]at h2;lia
 ·have h1:=h.ge z hz he;have h2:=h0.ge z hz he;rw[jr];rw[yP]at h2;lia
theorem qr{T d:Int}(hd:0<d)(hX:Kp w RR gv X d/\val w goal X=T)(h:∀Y e,0<e->Kp w RR gv Y e->T*e<=val w goal Y*d)(hZ:Kp w RR gv Z 0):0<=val w goal Z:=by
 have:=h _ d hd (hX.1.add hZ)
 rw[jr,hX.2]at this
 have:=Int.le_of_mul_le_mul_right this hd
 lia
theorem wR{T d:Int}(hd:0<d):∃q:Int,0<q/\T=gI (aq [T,d]) 0*q/\d=gI (aq [T,d]) 1*q/\0<gI (aq [T,d]) 1:=by
 have hg:gL [T,d]=Nat.gcd T.natAbs d.natAbs:=by
  show Nat.gcd (Nat.gcd 0 T.natAbs) d.natAbs=_;rw[Nat.gcd_zero_left]
 have hp:0<Nat.gcd T.natAbs d.natAbs:=Nat.gcd_pos_of_pos_right _ oM;have e:aq [T,d]=[T/(Nat.gcd T.natAbs d.natAbs:Int),d/(Nat.gcd T.natAbs d.natAbs:Int)]:=by
  unfold aq;rw[yH (by rw[hg];lia),hg];rfl
 have d1:((Nat.gcd T.natAbs d.natAbs:Nat):Int) ∣ T:=Int.dvd_natAbs.mp (Int.natCast_dvd_natCast.mpr (Nat.gcd_dvd_left _ _));have d2:((Nat.gcd T.natAbs d.natAbs:Nat):Int) ∣ d:=Int.dvd_natAbs.mp (Int.natCast_dvd_natCast.mpr (Nat.gcd_dvd_right _ _));rw[e];refine⟨(Nat.gcd T.natAbs d.natAbs:Nat),by lia,(Int.ediv_mul_cancel d1).symm,(Int.ediv_mul_cancel d2).symm,?_⟩;show 0<d / _;have h2:=Int.ediv_mul_cancel d2;rcases Int.lt_trichotomy 0 (d/((Nat.gcd T.natAbs d.natAbs:Nat):Int)) with h|h|h
 ·exact h
 ·rw[<- h]at h2;lia
 ·have:=Int.mul_neg_of_neg_of_pos h (show (0:Int) < ((Nat.gcd T.natAbs d.natAbs:Nat):Int) by lia);lia
theorem mZ{a b:Int}{m n:Nat}(ha:a.natAbs<2^m)(hb:b.natAbs<2^n):(a*b).natAbs<2^(m+n):=by
 rw[xA,Nat.pow_add];exact Nat.mul_lt_mul'' ha hb
theorem wN{a b:Int}{m:Nat}(ha:a.natAbs<2^m)(hb:b.natAbs<2^m):(a+b).natAbs<2^(m+1):=by
 rw[Nat.pow_succ];generalize 2^m=q at *;lia
theorem J5{a b:Int}{m n:Nat}(ha:a.natAbs<2^m)(hb:b.natAbs<2^n)(hm:m<=1000000)(hn:n<=1000000):cE a b=true:=by
 have lg:∀(z m:Nat),z<2^m->m<=1000000->Nat.ble z.log2 1000000=true:=fun z m hz hm=>by
  by_cases h0:z=0
  ·subst h0;rfl
  ·exact yL (z5 (yZ ((Nat.log2_lt h0).mpr hz)) hm)
 unfold cE;rw[lg _ _ ha hm,lg _ _ hb hn,Bool.and_true,Bool.or_true]
theorem p7{a b q:Int}{m:Nat}(h:b=a*q)(hq:0<q)(hb:b.natAbs<2^m):a.natAbs<2^m:=by
 refine yM ?_ hb;rw[h,xA];exact Nat.le_mul_of_pos_right _ oM
end
section
variable{nn:Int}{st:aa}{w:Nat}{RR:List (List Int)}{HO:Nat->List Int}{gv:List Gv}{r X Z goal:List Int}{Y:Nat->Int}{e D num:Int}
theorem DQ(n:Nat)(f:Nat->Int):MX (n+1) f=f 0+MX n fun i=>f (i+1):=by
 induction n with
 |zero=>simp[MX]
 |succ n ih=>rw[MX,ih,MX];lia
theorem sZ:∀(r X:List Int),r.length=X.length->((r.zip X).map fun z=>z.1*z.2).sum=MX r.length fun x=>gI r x*gI X x
 |[],_,_=>rfl
 |x::r,[],h=>by simp at h
 |x::r,y::X,h=>by
  rw[List.zip_cons_cons,zO,List.sum_cons,sZ r X (by simpa using h),yY,DQ];rfl
theorem sQ(hr:r.length=w)(hX:X.length=w)(hw:w<=15)(br:∀x∈r,x.natAbs<2^9000)(bX:∀x∈X,x.natAbs<2^9000):pm gz [.fz (iL r),.fz (iL X)] st=some (.int (val w r (gI X)),st):=by
 have e:=qV (st:=[]) (ks:=[]) (k:=2) (it:=.zi (.v 0) (.v 1)) (t:=.tu 2 (.cons (.nm 2) (.cons (.nm 3) .nil))) (c:=.no) (e:=.bin .Mult (.v 2) (.v 3)) (sl:=[Ls r,Ls X]) (gd:=[]) (em:=fun z:Int×Int=>AV.tup [.int z.1,.int z.2]) (xs:=r.zip X) (B:=fun _=>true) (F:=fun z=>AV.int (z.1*z.2)) (by
  rw[<- qk];rfl) rfl (by rw[List.length_zip];lia) fun z hz=>by
   have:=List.of_mem_zip hz
   exact⟨[Ls r,Ls X,Is z.1,Is z.2],rfl,rfl,fun _=>by simp[aZ (cm (br _ this.1) (bX _ this.2))]⟩
 rw[List.filter_eq_self.mpr (fun _ _=>rfl),show(r.zip X).map (fun z=>AV.int (z.1*z.2))=iL ((r.zip X).map fun z=>z.1*z.2) by unfold iL;rw[List.map_map];rfl]at e;have e2:ev [] (.nw false (.lc 2 (.zi (.v 0) (.v 1)) (.tu 2 (.cons (.nm 2) (.cons (.nm 3) .nil))) .no (.bin .Mult (.v 2) (.v 3)))) [Ls r,Ls X] []=some (.fz (iL ((r.zip X).map fun z=>z.1*z.2)),[]):=by
  rw[jj,e,bind_some,yI dy]
 refine b9 (by simp[rfs,rf,dy]) (v:=.int (val w r (gI X))) (st':=[]) ?_ rfl;rw[gz,aA];show(ah [] o7 [Ls r,Ls X] []).bind aw=_;refine c4 ?_;simp only[qz,Dp,dX,fc,e2,bind_some,xK,cj,oH,Bh,map_some];rw[sZ r X oM,hr];rfl
theorem mL{M N:Nat}(hr:r.length=w)(hX:X.length=w)(hw:w<=15)(br:∀x∈r,x.natAbs<2^M)(bX:∀x∈X,x.natAbs<2^N):(val w r (gI X)).natAbs<2^(M+N+4):=by
 have h:=SX.abs_sum (n:=w) (f:=fun x=>gI r x*gI X x) (M:=2^(M+N)) fun i hi=>by
  rw[xA,Nat.pow_add];exact Nat.mul_le_mul (yZ (nR br (Nat.two_pow_pos _) i)) (yZ (nR bX (Nat.two_pow_pos _) i))
 have h2:w*2^(M+N)<=15*2^(M+N):=Nat.mul_le_mul_right _ hw;have hp:=Nat.two_pow_pos (M+N);unfold val;rw[Nat.pow_add _ (M+N)];generalize 2^(M+N)=B at *;lia
theorem Kp.scale{c:Int}(hc:0<=c)(h:Kp w RR gv Y 0):Kp w RR gv (fun x=>c*Y x) 0:=by
 have e:∀r,val w r (fun x=>c*Y x)=c*val w r Y:=fun r=>g7 fun _ _=>rfl
 refine⟨fun r hr=>?_,fun z hz he=>?_,fun z hz he=>?_⟩
 ·rw[e];exact Int.mul_nonneg hc (h.rule r hr)
 ·rw[e,h.eq z hz he,yP,yP]
 ·rw[e,yP]
  have:=h.ge z hz he
  rw[yP]at this;exact Int.mul_nonneg hc this
theorem dP{x:Int}{M:Nat}(h:x.natAbs<2^M)(hM:M<=9000):x.natAbs<2^9000:=zJ h (Nat.pow_le_pow_right dC hM)
theorem Hv{a b:Int}:cj oR [.int a,.int b] st=some (.int (max a b),st):=by
 have:cj oR [.int a,.int b] st=some (.int (if b > a then b else a),st):=rfl;rw[this];congr 3;split<;>lia
structure xS(w:Nat)(RR:List (List Int))(gv:List Gv)(X:List Int)(D:Int):Prop where
 len:X.length=w
 pos:0<D
 bd:(∀x∈X,x.natAbs<2^9000)/\D.natAbs<2^9000
 kp:Kp w RR gv (gI X) D
theorem TbS.f(h:TbS w RR gv X D):xS w RR gv X D:=⟨h.len,h.pos,⟨fun x hx=>dP (h.bd.1 x hx) dC,dP h.bd.2 dC⟩,h.kp⟩
theorem Dk(hw:w<=15)(hr:r.length=w)(br:∀x∈r,x.natAbs<2^121)(bn:num.natAbs<2^121)(T:TbS w RR gv X D)(hZ:Z.length=w/\∀x∈Z,x.natAbs<2^2500)(KZ:Kp w RR gv (gI Z) 0)(hn:val w r (gI Z)<0) :
  ∃V E,(∀st,pm dU [.tup [.fz (iL X),.int D],.fz (iL Z),.fz (iL r),.int num] st=some (.tup [.fz (iL V),.int E],st))/\xS w RR gv V E/\val w r (gI V)<num*E:=by
 obtain⟨hl,hD,⟨bX,bD⟩,KX⟩:=T;obtain⟨Zl,bZ⟩:=hZ;have bx:=mL hr hl hw br bX;have bz:=mL hr Zl hw br bZ;have vx:=fun st=>sQ (st:=st) hr hl hw (fun x h=>dP (br x h) dC) (fun x h=>dP (bX x h) dC)
 have vz:=fun st=>sQ (st:=st) hr Zl hw (fun x h=>dP (br x h) dC) (fun x h=>dP (bZ x h) dC)
 generalize hvx:val w r (gI X)=ax at *;generalize hvz:val w r (gI Z)=az at *;obtain⟨ab,hab⟩:∃ab,ab=ax-num*D:=⟨_,rfl⟩;obtain⟨fl,hfl⟩:∃fl,fl=- az*D:=⟨_,rfl⟩;have m1:cE num D=true:=cm (dP bn dC) (dP bD dC);have m2:cE (- az) D=true:=cm (by rw[Int.natAbs_neg];exact dP bz dC) (dP bD dC);have f0:0<fl:=by rw[hfl];exact Int.mul_pos oM hD
 have bfl:fl.natAbs<2^5125:=by
  have:=mZ (a:=- az) (b:=D) (by rw[Int.natAbs_neg];exact bz) bD
  rw[hfl];exact this
 have bab:ab.natAbs<2^2627:=by
  have h1:=mZ bn bD;have h2:ax.natAbs<2^2626:=zJ bx (Nat.pow_le_pow_right dC dC);have h3:(- (num*D)).natAbs<2^2626:=by rw[Int.natAbs_neg];exact zJ h1 (Nat.pow_le_pow_right dC dC)
  have:=wN h2 h3
  rw[hab,Int.sub_eq_add_neg];exact this
 obtain⟨s,hs⟩:∃s,s=max 0 (ab/fl+1):=⟨_,rfl⟩;have s0:0<=s:=by rw[hs];lia
 have bs:s.natAbs<2^2629:=by
  have h1:(ab/fl).natAbs<=ab.natAbs+1:=by
   have:=Int.natAbs_ediv_le_natAbs ab fl
   lia
  have h2:(2:Nat)^2629=2^2627*4:=by rw[show(4:Nat)=2^2 from rfl,<- Nat.pow_add]
  have h3:=Nat.two_pow_pos 2627;rw[hs,h2];generalize (2:Nat)^2627=B at *;lia
 have bsD:=mZ bs bD;have m3:cE s D=true:=cm (dP bs dC) (dP bD dC);have dv:dR fl=true:=rQ oM (dP bfl dC);obtain⟨V,hV⟩:∃V,V=(X.zip Z).map fun z=>z.1+s*D*z.2:=⟨_,rfl⟩
 have lV:V.length=w:=by rw[hV,zH,List.length_zip];lia
 have bV:∀x∈V,x.natAbs<2^9000:=fun x hx=>by
  rw [hV] at hx;obtain ⟨z,hz,rfl⟩:=yD.mp hx;obtain ⟨z1,z2⟩:=List.of_mem_zip hz;have h1:=mZ bsD (bZ _ z2);have h2:=wN (zJ (bX _ z1) (Nat.pow_le_pow_right dC (show 2500 <= 2629 + 2500 + 2500 by decide))) h1;exact dP h2 dC
 have gV:∀x,x<w->gI V x=gI X x+s*D*gI Z x:=fun x hx=>by rw[hV,SX.gI_zip oM oM]
 have KV:Kp w RR gv (gI V) D:=by
  have h:=KX.add (KZ.scale (Int.mul_nonneg s0 (Int.le_of_lt hD)));exact h.div (g:=1) dC oM fun x hx=>by rw[gV x hx,Int.one_mul]
 have vV:val w r (gI V)<num*D:=by
  have e1:val w r (gI V)=ax+s*D*az:=by
   rw[<- hvx,<- hvz];unfold val;rw[<- SX.sum_mul,<- SX.sum_add];exact SX.sum_congr fun x hx=>by rw[gV x hx];grind
  have h1:=Int.lt_ediv_add_one_mul_self ab f0;have h2:(ab/fl+1)*fl<=s*fl:=Int.mul_le_mul_of_nonneg_right (by rw[hs];lia) (Int.le_of_lt f0);have e2:s*D*az=- (s*fl):=by rw[hfl];grind
  lia
 obtain⟨g,hg,ed,ev',ll,hp,K'⟩:=TbS.low lV hD ⟨bV,dP bD dC⟩ KV;have b2:=qU (l:=V++[D]) (Nat.two_pow_pos 9000) fun x hx=>by
  rcases zZ.mp hx with h|h
  ·exact bV x h
  ·rw[zM.mp h];exact dP bD dC
 refine⟨(aq (V++[D])).take w,gI (aq (V++[D])) w,fun st=>?_,⟨ll,hp,⟨kt fun i hi=>?_,b2 w⟩,K'⟩,?_⟩
 ·have lt:=wQ (X:=V) (d:=D) oM bV (dP bD dC)
  rw[lV]at lt;have lt:pm bL [.fz (iL V),.int D] []=some (.tup [.fz (iL ((aq (V++[D])).take w)),.int (gI (aq (V++[D])) w)],[]):=b9 (by simp[rfs,rf,dy]) lt rfl;refine b9 (by simp[rfs,rf,dy]) (v:=.tup [.fz (iL ((aq (V++[D])).take w)),.int (gI (aq (V++[D])) w)]) (st':=[]) ?_ rfl;have i0:aP [] (.tup [.fz (iL X),.int D]) (.int 0)=some (.fz (iL X)):=rfl;have i1:aP [] (.tup [.fz (iL X),.int D]) (.int 1)=some (.int D):=rfl;rw[dU,aA];show(ah [gz,bL] fj [some (.tup [.fz (iL X),.int D]),Ls Z,Ls r,Is num,none,none,none,none] []).bind aw=_;unfold fj;refine ae (sl':=[some (.tup [.fz (iL X),.int D]),Ls Z,Ls r,Is num,Is D,none,none,none]) (st':=[]) (by simp[i1]) ?_;refine ae (sl':=[some (.tup [.fz (iL X),.int D]),Ls Z,Ls r,Is num,Is D,Is ab,none,none]) (st':=[]) (by simp[i0,vx,aZ m1,hab]) ?_;refine ae (sl':=[some (.tup [.fz (iL X),.int D]),Ls Z,Ls r,Is num,Is D,Is ab,Is fl,none]) (st':=[]) (by simp[vz,aZ m2,hfl,lD]) ?_;refine ae (sl':=[some (.tup [.fz (iL X),.int D]),Ls Z,Ls r,Is num,Is D,Is ab,Is fl,Is s]) (st':=[]) (by simp[iH dv f0,Hv,<- hs]) (c4 ?_);have e:=qV (st:=[]) (ks:=[gz,bL]) (k:=2) (it:=.zi (.ix (.v 0) (.i 0)) (.v 1)) (t:=.tu 2 (.cons (.nm 8) (.cons (.nm 9) .nil))) (c:=.no) (e:=.bin .Add (.v 8) (.bin .Mult (.bin .Mult (.v 7) (.v 4)) (.v 9))) (sl:=[some (.tup [.fz (iL X),.int D]),Ls Z,Ls r,Is num,Is D,Is ab,Is fl,Is s]) (gd:=[]) (em:=fun z:Int×Int=>AV.tup [.int z.1,.int z.2]) (xs:=X.zip Z) (B:=fun _=>true) (F:=fun z=>AV.int (z.1+s*D*z.2)) (by
   rw[<- qk];rfl) rfl (by rw[List.length_zip];lia) fun z hz=>by
    have:=List.of_mem_zip hz
    exact⟨[some (.tup [.fz (iL X),.int D]),Ls Z,Ls r,Is num,Is D,Is ab,Is fl,Is s,Is z.1,Is z.2],rfl,rfl,fun _=>by simp[aZ m3,aZ (cm (dP bsD dC) (dP (bZ _ this.2) dC))]⟩
  rw[List.filter_eq_self.mpr (fun _ _=>rfl),show(X.zip Z).map (fun z=>AV.int (z.1+s*D*z.2))=iL V by rw[hV];unfold iL;rw[List.map_map];rfl]at e;have e2:ev [gz,bL] (.nw false (.lc 2 (.zi (.ix (.v 0) (.i 0)) (.v 1)) (.tu 2 (.cons (.nm 8) (.cons (.nm 9) .nil))) .no (.bin .Add (.v 8) (.bin .Mult (.bin .Mult (.v 7) (.v 4)) (.v 9))))) [some (.tup [.fz (iL X),.int D]),Ls Z,Ls r,Is num,Is D,Is ab,Is fl,Is s] []=some (.fz (iL V),[]):=by
   rw[jj,e,bind_some,yI dy]
  simp only[qz,ms,dX,fc,e2,mM,jY,jX,bind_some,map_some,uY,mE,mD,lt]
 ·rw[oX oM];exact b2 i
 ·rw[ev' r]at vV
  generalize (aq (V++[D])).take w=V' at *;generalize gI (aq (V++[D])) w=E at *;rw[ed]at vV;exact Int.lt_of_mul_lt_mul_left (a:=g) (by rw[show g*(num*E)=num*(g*E) by grind];exact vV) (Int.le_of_lt hg)
end
section
variable{nn:Int}{st:aa}{w:Nat}{RR:List (List Int)}{HO:Nat->List Int}{gv:List Gv}{r X Z goal:List Int}{Y:Nat->Int}{e D num:Int}{z:Gv}
inductive Pp where
 |nv (W:List Int)
 |by_ (K:Int) (W:List Int)
def Pp.av:Pp->AV
 |.nv W=>.tup [.str "never",.fz (iL W)]
 |.by_ K W=>.tup [.str "by",.int K,.fz (iL W)]
theorem He{n:Nat}(p:Pp):cK (n+1) st p.av=some p.av:=by cases p<;>(cases n<;>rfl)
theorem Hf{k:Nat}{ps:List Pp}(h:st[k]?=some (.lst (ps.map Pp.av))):d6 st (.tup [.bl true,.ref k])=some (.tup [.bl true,.fz (ps.map Pp.av)]):=by
 have e:bH (cK 4 st) (ps.map Pp.av)=some (ps.map Pp.av):=d7 (f:=cK 4 st) (i:=Pp.av) (g:=Pp.av) (fun p=>He p) ps;show(bH (cK 5 st) [.bl true,.ref k]).map AV.tup=_;have e2:cK 5 st (.ref k)=some (.fz (ps.map Pp.av)):=by
  show(match st[k]? with
  |some (.lst xs)=>(bH (cK 4 st) xs).map AV.fz
  |some (.al t)=>some t
  |_=>none)=_
  rw[h];simp only[e,map_some]
 simp only[bH,e2,show cK 5 st (.bl true)=some (.bl true) from rfl,bind_some,map_some]
def FU(w:Nat)(RR:List (List Int))(gv:List Gv)(r:List Int)(num:Int)(t:AV):Prop :=
 (∃p:Pp,t=.tup [.bl true,p.av]/\∀Y e,0<e->Kp w RR gv Y e->num*e<=val w r Y) \/
 ∃V E,t=.tup [.bl false,.tup [.fz (iL V),.int E]]/\xS w RR gv V E/\val w r (gI V)<num*E
theorem Km(q:Qu nn w RR HO gv r)(br:∀x∈r,x.natAbs<2^121)(bn:num.natAbs<2^121):∃t,(∀st,pm bu [.int nn,.fz (gv.map Gv.av),.fz (iL r),.int num] st=some (t,st))/\FU w RR gv r num t:=by
 obtain⟨t,ea,A⟩:=sA q;have ea:=ea [];have key:∃r',bu [.int nn,.fz (gv.map Gv.av),.fz (iL r),.int num] []=some r'/\∃t,d6 r'.2 r'.1=some t/\FU w RR gv r num t:=by
  rw[bu,aA];show ∃r',(ah [eE,dU] d4 [Is nn,Zs (gv.map Gv.av),Ls r,Is num,none] []).bind aw=some r'/\_;unfold d4;refine ag (sl':=[Is nn,Zs (gv.map Gv.av),Ls r,Is num,some t]) (st':=[]) (by simp[ea]) ?_;rcases A with⟨⟨W,rfl⟩,h⟩|⟨T,d,X,D,K,W,rfl,hd,⟨bT,bd⟩,⟨TX,vX⟩,h⟩|⟨X,D,Z,rfl,TX,hZ,KZ,vZ⟩
  ·refine cD (v:=.tup [.bl true,.tup [.str "never",.fz (iL W)]]) (st':=[]) ?_ ⟨_,rfl,.inl ⟨.nv W,rfl,fun Y e he K=>absurd K (h Y e he)⟩⟩
   have i0:aP [] (.tup [.str "never",.fz (iL W)]) (.int 0)=some (.str "never"):=rfl;have eq:bh .Eq [] (.str "never") (.str "never")=some true:=by kernel_rfl
   simp[i0,eq,iq]
  ·obtain⟨c,hc,e1,e2,hq⟩:=wR (T:=T) hd
   have bp:=p7 e1 hc bT;have bq:=p7 e2 hc bd;generalize gI (aq [T,d]) 0=p at *;generalize gI (aq [T,d]) 1=q' at *;obtain⟨u,hu⟩:∃u,u=AV.tup [.str "least",.tup [.int p,.int q'],.tup [.fz (iL X),.int D],.int K,.fz (iL W)]:=⟨_,rfl⟩;have i0:aP [] u (.int 0)=some (.str "least"):=by rw[hu];rfl
   have i1:aP [] u (.int 1)=some (.tup [.int p,.int q']):=by rw[hu];rfl
   have i2:aP [] u (.int 2)=some (.tup [.fz (iL X),.int D]):=by rw[hu];rfl
   have i3:aP [] u (.int 3)=some (.int K):=by rw[hu];rfl
   have i4:aP [] u (.int 4)=some (.fz (iL W)):=by rw[hu];rfl
   have j0:aP [] (.tup [.int p,.int q']) (.int 0)=some (.int p):=rfl;have j1:aP [] (.tup [.int p,.int q']) (.int 1)=some (.int q'):=rfl;have q1:bh .Eq [] (.str "least") (.str "never")=some false:=by kernel_rfl
   have q2:bh .Eq [] (.str "least") (.str "endless")=some false:=by kernel_rfl
   have mm:aQ .Mult [] (.int num) (.int q')=some (.int (num*q')):=aZ (cm (dP bn dC) (dP bq dC));rw[<- hu];refine ag (sl':=[Is nn,Zs (gv.map Gv.av),Ls r,Is num,some u]) (st':=[]) (by simp[i0,q1]) ?_;refine ag (sl':=[Is nn,Zs (gv.map Gv.av),Ls r,Is num,some u]) (st':=[]) (by simp[i0,q2]) ?_;by_cases hl:p<num*q'
   ·refine cD (v:=.tup [.bl false,.tup [.fz (iL X),.int D]]) (st':=[]) (by simp[i1,i2,j0,j1,mm,hl,iq]) ⟨_,rfl,.inr ⟨X,D,rfl,TX.f,?_⟩⟩
    rw[e1,e2]at vX;have v2:val w r (gI X)*q'=p*D:=Int.eq_of_mul_eq_mul_right (a:=c) oM (by rw[show val w r (gI X)*q'*c=val w r (gI X)*(q'*c) by grind,vX];grind);have h2:p*D<num*q'*D:=Int.mul_lt_mul_of_pos_right hl TX.pos;exact Int.lt_of_mul_lt_mul_right (a:=q') (by rw[v2,show num*D*q'=num*q'*D by grind];exact h2) (Int.le_of_lt hq)
   ·refine ag (sl':=[Is nn,Zs (gv.map Gv.av),Ls r,Is num,some u]) (st':=[]) (by simp[i1,j0,j1,mm,hl]) ?_
    refine cD (v:=.tup [.bl true,.tup [.str "by",.int K,.fz (iL W)]]) (st':=[]) (by simp[i3,i4]) ⟨_,rfl,.inl ⟨.by_ K W,rfl,fun Y e he KY=>?_⟩⟩;have h3:=h Y e he KY;rw[e1,e2]at h3;have h4:p*e<=val w r Y*q':=Int.le_of_mul_le_mul_right (a:=c) (by rw[show p*e*c=p*c*e by grind,show val w r Y*q'*c=val w r Y*(q'*c) by grind];exact h3) hc;have h5:num*q'*e<=p*e:=Int.mul_le_mul_of_nonneg_right oM (Int.le_of_lt he);exact Int.le_of_mul_le_mul_right (a:=q') (by rw[show num*e*q'=num*q'*e by grind];lia) hq
  ·obtain⟨V,E,ev',TV,vV⟩:=Dk (num:=num) q.hw q.Z.o br bn TX hZ KZ vZ
   have ev':=ev' [];obtain⟨u,hu⟩:∃u,u=AV.tup [.str "endless",.tup [.fz (iL X),.int D],.fz (iL Z)]:=⟨_,rfl⟩;have i0:aP [] u (.int 0)=some (.str "endless"):=by rw[hu];rfl
   have i1:aP [] u (.int 1)=some (.tup [.fz (iL X),.int D]):=by rw[hu];rfl
   have i2:aP [] u (.int 2)=some (.fz (iL Z)):=by rw[hu];rfl
   have q1:bh .Eq [] (.str "endless") (.str "never")=some false:=by kernel_rfl
   have q2:bh .Eq [] (.str "endless") (.str "endless")=some true:=by kernel_rfl
   rw[<- hu];refine ag (sl':=[Is nn,Zs (gv.map Gv.av),Ls r,Is num,some u]) (st':=[]) (by simp[i0,q1]) ?_;refine cD (v:=.tup [.bl false,.tup [.fz (iL V),.int E]]) (st':=[]) (by simp[i0,i1,i2,q2,ev',iq]) ⟨_,rfl,.inr ⟨V,E,rfl,TV,vV⟩⟩
 obtain⟨r',e1,t,e2,F⟩:=key;exact⟨t,fun st=>b9 (by simp[rfs,rf,dy,om]) e1 e2,F⟩
noncomputable def mX(l:List Int):List Int:=l.map fun x=>- x
def il(z:Gv):List Gv:=⟨z.row,false,z.num⟩::if z.eq=true then [⟨mX z.row,false,- z.num⟩] else []
theorem JA(hl:z.row.length<=1000):pm aY [z.av] st=some (.fz ((il z).map Gv.av),st):=by
 obtain⟨r,b,num⟩:=z;have hl:r.length<=1000:=hl;have i0:∀st,aP st (Gv.av ⟨r,b,num⟩) (.int 0)=some (.fz (iL r)):=fun _=>rfl
 have i1:∀st,aP st (Gv.av ⟨r,b,num⟩) (.int 1)=some (.str (if b=true then "=" else ">")):=fun _=>rfl
 have i2:∀st,aP st (Gv.av ⟨r,b,num⟩) (.int 2)=some (.int num):=fun _=>rfl
 have eq:∀st,bh .Eq st (.str (if b=true then "=" else ">")) (.str "=")=some b:=fun st=>by cases b<;>kernel_rfl
 obtain⟨u,hu⟩:∃u,u=Gv.av ⟨r,b,num⟩:=⟨_,rfl⟩;have ru:rf u=true:=by rw[hu];simp[Gv.av,rf,rfs,dy]
 rw[<- hu]at i0 i1 i2 ⊢;have key:∃st',aY [u] []=some (.ref 0,st')/\st'[0]?=some (.lst ((il ⟨r,b,num⟩).map Gv.av)):=by
  rw[aY,aA];unfold fC;have e0:∀{x y},(ah [] x [some u,Ls r,Is num,Rs 0] [.lst [Gv.av ⟨r,false,num⟩]]).bind aw=some y->(ah [] (.cons (.as (.ix (.v 0) (.i 0)) (.nm 1)) (.cons (.as (.ix (.v 0) (.i 2)) (.nm 2)) (.cons (.as (.nw true (.li (.cons (.tu (.cons (.v 1) (.cons (.s ">") (.cons (.v 2) .nil)))) .nil))) (.nm 3)) x))) [some u,none,none,none] []).bind aw=some y:=fun {x y} h=>by
   refine ae (sl':=[some u,Ls r,none,none]) (st':=[]) (by simp[i0]) ?_;refine ae (sl':=[some u,Ls r,Is num,none]) (st':=[]) (by simp[i2]) ?_;exact ae (sl':=[some u,Ls r,Is num,Rs 0]) (st':=[.lst [Gv.av ⟨r,false,num⟩]]) (by simp[cA];rfl) h
  cases b with
  |false =>
   refine⟨[.lst [Gv.av ⟨r,false,num⟩]],e0 (ae (sl':=[some u,Ls r,Is num,Rs 0]) (st':=[.lst [Gv.av ⟨r,false,num⟩]]) (by
    have eq:=eq [.lst [Gv.av ⟨r,false,num⟩]];have i1:=i1 [.lst [Gv.av ⟨r,false,num⟩]];generalize AV.str (if false=true then "=" else ">")=s at eq i1;simp[i1,eq]) (c4 rfl)),rfl⟩
  |true =>
   refine⟨[.lst [Gv.av ⟨r,false,num⟩,Gv.av ⟨mX r,false,- num⟩]],e0 (ae (sl':=[some u,Ls r,Is num,Rs 0]) (st':=[.lst [Gv.av ⟨r,false,num⟩,Gv.av ⟨mX r,false,- num⟩]]) ?_ (c4 rfl)),rfl⟩;have eq:=eq [.lst [Gv.av ⟨r,false,num⟩]];have i1:=i1 [.lst [Gv.av ⟨r,false,num⟩]];have e:=qV (st:=[.lst [Gv.av ⟨r,false,num⟩]]) (ks:=[]) (k:=1) (it:=.e (.v 1)) (t:=.nm 4) (c:=.no) (e:=.un .USub (.v 4)) (sl:=[some u,Ls r,Is num,Rs 0]) (gd:=[]) (em:=AV.int) (xs:=r) (B:=fun _=>true) (F:=fun x=>AV.int (- x)) rfl rfl hl fun x hx=>⟨[some u,Ls r,Is num,Rs 0,Is x],rfl,rfl,fun _=>rfl⟩
   rw[List.filter_eq_self.mpr (fun _ _=>rfl),show r.map (fun x=>AV.int (- x))=iL (mX r) by unfold iL mX;rw[List.map_map];rfl]at e;have e2:ev [] (.nw false (.lc 1 (.e (.v 1)) (.nm 4) .no (.un .USub (.v 4)))) [some u,Ls r,Is num,Rs 0] [.lst [Gv.av ⟨r,false,num⟩]]=some (.fz (iL (mX r)),[.lst [Gv.av ⟨r,false,num⟩]]):=by
    rw[jj,e,bind_some,yI dy]
   have ap:=qf (ks:=[]) (a:=.v 3) (e:=.tu (.cons (.nw false (.lc 1 (.e (.v 1)) (.nm 4) .no (.un .USub (.v 4)))) (.cons (.s ">") (.cons (.un .USub (.v 2)) .nil)))) (y:=Gv.av ⟨mX r,false,- num⟩) (k:=0) (xs:=[Gv.av ⟨r,false,num⟩]) (sl:=[some u,Ls r,Is num,Rs 0]) (st:=[.lst [Gv.av ⟨r,false,num⟩]]) rfl (by
    simp only[Jz,dX,fc,e2,bind_some,map_some];rfl) rfl (by simp)
   generalize AV.str (if true=true then "=" else ">")=s at eq i1;have tt:tv [] (.cmp .Eq (.ix (.v 0) (.i 1)) (.s "=")) [some u,Ls r,Is num,Rs 0] [.lst [Gv.av ⟨r,false,num⟩]]=some (true,[.lst [Gv.av ⟨r,false,num⟩]]):=by simp[i1,eq]
   rw[iP,tt,bind_some];exact ar ap rfl
 obtain⟨st',e1,e2⟩:=key;refine b9 (by simp[rfs,ru]) e1 ?_;have:∀l:List Gv,bH (cK 5 st') (l.map Gv.av)=some (l.map Gv.av):=fun l=>d7 (f:=cK 5 st') (i:=Gv.av) (g:=Gv.av) (fun z=>rfl) l
 show cK 6 st' (.ref 0)=_;unfold cK;simp only[e2,this,map_some]
end
section
variable{nn:Int}{st:aa}{w:Nat}{RR:List (List Int)}{HO:Nat->List Int}{gv:List Gv}{Y:Nat->Int}{e:Int}{z:Gv}
def Hd(w:Nat)(z:Gv)(Y:Nat->Int)(e:Int):Prop:=z.num*e<=val w z.row Y/\(z.eq=true->val w z.row Y=z.num*e)
theorem hd_ups:Hd w z Y e ↔ ∀u∈il z,u.num*e<=val w u.row Y:=by
 obtain⟨r,b,num⟩:=z;unfold Hd il;cases b with
 |false=>simp
 |true =>
  have e1:val w (mX r) Y=- val w r Y:=oB;have e2:- num*e=- (num*e):=Int.neg_mul _ _;constructor
  ·rintro⟨h1,h2⟩ u hu
   have h2:=h2 rfl;dsimp only at h1 h2;rcases zT.mp hu with rfl|hu
   ·exact h1
   ·rw[zM.mp hu]
    dsimp only;lia
  ·intro h
   have h1:=h _ z7;have h2:=h _ (zQ _ (zM.mpr rfl));dsimp only at h1 h2 ⊢;exact⟨h1,fun _=>by lia⟩
def FS(w:Nat)(RR:List (List Int))(gv:List Gv)(z:Gv)(t:AV):Prop :=
 (∃ps:List Pp,t=.tup [.bl true,.fz (ps.map Pp.av)]/\∀Y e,0<e->Kp w RR gv Y e->Hd w z Y e) \/
 ∃V E,t=.tup [.bl false,.tup [.fz (iL V),.int E]]/\xS w RR gv V E/\¬Hd w z (gI V) E
theorem HQ(hs:z.row.length<=1000)(hu:∀u∈il z,Qu nn w RR HO gv u.row/\(∀x∈u.row,x.natAbs<2^121)/\u.num.natAbs<2^121):∃t,(∀st,pm eD [.int nn,.fz (gv.map Gv.av),z.av] st=some (t,st))/\FS w RR gv z t:=by
 have hf:∀u∈il z,u.eq=false:=fun u h=>by
  unfold il at h;rcases zT.mp h with rfl|h
  ·rfl
  ·split at h
   ·rw[zM.mp h]
   ·cases h
 have loop:=k6 (gd:=[]) (g:=b8 [aY,bu] (.tu 3 (.cons (.nm 4) (.cons (.nm 5) (.cons (.nm 6) .nil)))))
  (s:=ah [aY,bu] (.cons (.as (.ca true 1 (.cons (.v 0) (.cons (.v 1) (.cons (.v 4) (.cons (.v 6) .nil))))) (.nm 7))
 (.cons (.iff (.no (.va (.ix (.v 7) (.i 0))))
 (.cons (.rt (.v 7))
 .nil)
 .nil)
 (.cons (.ex (.mt .app (.v 3) (.cons (.ix (.v 7) (.i 1)) .nil)))
 .nil))))
  (I:=fun i sl st=>∃(ps:List Pp)(a b c d:Option AV),st=[.lst (ps.map Pp.av)]/\ps.length=i/\sl=[Is nn,Zs (gv.map Gv.av),some z.av,Rs 0,a,b,c,d]/\∀j u,j<i->(il z)[j]?=some u->∀Y e,0<e->Kp w RR gv Y e->u.num*e<=val w u.row Y)
  (Post:=fun v _=>∃V E,v=.tup [.bl false,.tup [.fz (iL V),.int E]]/\xS w RR gv V E/\∃u∈il z,val w u.row (gI V)<u.num*E) (xs:=(il z).map Gv.av) (fun _ _ _ _ _=>rfl) (fun i x sl st hx hq0=>by
   obtain⟨ps,a,b,c,d,es,hl,esl,hb⟩:=hq0;subst es;subst esl;rw[zR]at hx;obtain⟨u,hxu,rfl⟩:=zE.mp hx;have hm:=zW hxu;have hi2:i<2:=by
    have h1:=(zB.mp hxu).1;have h2:(il z).length<=2:=by unfold il;split<;>simp
    lia
   obtain⟨q,b1,b2⟩:=hu u hm;obtain⟨t,et,F⟩:=Km q b1 b2;have et:=et [.lst (ps.map Pp.av)];obtain⟨ur,ub,un⟩:=u;have:ub=false:=hf _ hm;subst this;rcases F with⟨p,rfl,hp⟩|⟨V,E,rfl,TV,hV⟩
   ·have j0:∀st,aP st (.tup [.bl true,p.av]) (.int 0)=some (.bl true):=fun _=>rfl
    have j1:∀st,aP st (.tup [.bl true,p.av]) (.int 1)=some p.av:=fun _=>rfl
    obtain⟨t,ht⟩:∃t,t=AV.tup [.bl true,p.av]:=⟨_,rfl⟩;rw[<- ht]at j0 j1 et;refine⟨([Is nn,Zs (gv.map Gv.av),some z.av,Rs 0,Ls ur,some (.str ">"),Is un,d],[.lst (ps.map Pp.av)]),.nx [Is nn,Zs (gv.map Gv.av),some z.av,Rs 0,Ls ur,some (.str ">"),Is un,some t] [.lst ((ps++[p]).map Pp.av)],rfl,?_,.inl ⟨_,_,rfl,ps++[p],_,_,_,_,rfl,by simp[hl],rfl,fun j u hj hu Y e he K=>?_⟩⟩
    ·refine ar (sl':=[Is nn,Zs (gv.map Gv.av),some z.av,Rs 0,Ls ur,some (.str ">"),Is un,some t]) (st':=[.lst (ps.map Pp.av)]) (by simp[et]) ?_
     refine ar (sl':=[Is nn,Zs (gv.map Gv.av),some z.av,Rs 0,Ls ur,some (.str ">"),Is un,some t]) (st':=[.lst (ps.map Pp.av)]) (by simp[j0,mN]) ?_;have ap:=qf (ks:=[aY,bu]) (a:=.v 3) (e:=.ix (.v 7) (.i 1)) (y:=p.av) (k:=0) (xs:=ps.map Pp.av) (sl:=[Is nn,Zs (gv.map Gv.av),some z.av,Rs 0,Ls ur,some (.str ">"),Is un,some t]) (st:=[.lst (ps.map Pp.av)]) rfl (by simp[j1]) rfl (by simp;lia);refine ar ap ?_;show some _=some _;simp
    ·by_cases h:j=i
     ·subst h
      rw[hxu]at hu;obtain rfl:=yE hu;exact hp Y e he K
     ·exact hb j u oM hu Y e he K
   ·have j0:∀st,aP st (.tup [.bl false,.tup [.fz (iL V),.int E]]) (.int 0)=some (.bl false):=fun _=>rfl
    obtain⟨t,ht⟩:∃t,t=AV.tup [.bl false,.tup [.fz (iL V),.int E]]:=⟨_,rfl⟩;rw[<- ht]at j0 et;refine⟨([Is nn,Zs (gv.map Gv.av),some z.av,Rs 0,Ls ur,some (.str ">"),Is un,d],[.lst (ps.map Pp.av)]),.rt t [.lst (ps.map Pp.av)],rfl,?_,.inr ⟨_,_,rfl,V,E,ht,TV,_,hm,hV⟩⟩;refine ar (sl':=[Is nn,Zs (gv.map Gv.av),some z.av,Rs 0,Ls ur,some (.str ">"),Is un,some t]) (st':=[.lst (ps.map Pp.av)]) (by simp[et]) ?_;refine qo ?_;simp[j0,mN,iq]) (sl:=[Is nn,Zs (gv.map Gv.av),some z.av,Rs 0,none,none,none,none]) (st:=[.lst []]) ⟨[],_,_,_,_,rfl,rfl,rfl,fun j _ h=>absurd h (Nat.not_lt_zero _)⟩
 have key:∃r',eD [.int nn,.fz (gv.map Gv.av),z.av] []=some r'/\∃t,d6 r'.2 r'.1=some t/\FS w RR gv z t:=by
  rw[eD,aA];show ∃r',(ah [aY,bu] jg [Is nn,Zs (gv.map Gv.av),some z.av,none,none,none,none,none] []).bind aw=some r'/\_;unfold jg;refine ag (sl':=[Is nn,Zs (gv.map Gv.av),some z.av,Rs 0,none,none,none,none]) (st':=[.lst []]) rfl ?_;have us:=JA (st:=[.lst []]) hs;have ei:dO [aY,bu] (.e (.ca true 0 (.cons (.v 2) .nil))) [Is nn,Zs (gv.map Gv.av),some z.av,Rs 0,none,none,none,none] [.lst []]=some (⟨(il z).map Gv.av,[]⟩,[.lst []]):=by simp[us]
  rcases loop with⟨sl',st',e1,ps,a,b,c,d,rfl,hl,rfl,hb⟩|⟨v,st',e1,V,E,rfl,TV,u,hm,hV⟩
  ·refine ag (sl':=[Is nn,Zs (gv.map Gv.av),some z.av,Rs 0,a,b,c,d]) (st':=[.lst (ps.map Pp.av)]) (by rw[km,ei,bind_some];exact e1) ?_
   refine cD (v:=.tup [.bl true,.ref 0]) (st':=[.lst (ps.map Pp.av)]) rfl ⟨_,Hf rfl,.inl ⟨ps,rfl,fun Y e he K=>hd_ups.mpr fun u hm=>?_⟩⟩;obtain⟨j,hj⟩:=z9 hm;exact hb j u (by rw[zH];exact(zB.mp hj).1) hj Y e he K
  ·refine⟨(.tup [.bl false,.tup [.fz (iL V),.int E]],st'),c4 (by rw[km,ei,bind_some];exact e1),_,rfl,.inr ⟨V,E,rfl,TV,fun h=>?_⟩⟩
   have:=hd_ups.mp h u hm
   lia
 obtain⟨r',e1,t,e2,F⟩:=key;have rz:rf z.av=true:=by simp[Gv.av,rf,rfs,dy]
 exact⟨t,fun st=>b9 (by simp[rfs,rf,om,rz]) e1 e2,F⟩
theorem Kn{n:Nat}(hn:jv n)(hg:gv.length<=100)(h2:∀z∈gv,z.row.length=2^n-1/\(∀x∈z.row,x.natAbs<=M0)/\z.num.natAbs<=M0)(h3:z.row.length=2^n-1/\(∀x∈z.row,x.natAbs<=M0)/\z.num.natAbs<=M0):∃t,(∀st,pm eD [.int n,.fz (gv.map Gv.av),z.av] st=some (t,st))/\FS (2^n-1) (ud n) gv z t:=by
 have hN:2^n-1<=15:=by rcases hn with rfl|rfl|rfl|rfl<;>decide
 have M1:M0<2^121:=Nat.pow_lt_pow_right dC dC;have hu:∀u∈il z,u.row.length=2^n-1/\(∀x∈u.row,x.natAbs<=M0)/\u.num.natAbs<=M0:=fun u h=>by
  unfold il at h;rcases zT.mp h with rfl|h
  ·exact h3
  ·split at h
   ·rw[zM.mp h]
    refine⟨by simp[mX,h3.1],fun x hx=>?_,by rw[Int.natAbs_neg];exact h3.2.2⟩;obtain⟨y,hy,rfl⟩:=yD.mp hx;rw[Int.natAbs_neg];exact h3.2.1 y hy
   ·cases h
 exact HQ oM fun u h=>⟨Ee hn hg h2 ⟨(hu u h).1,(hu u h).2.1⟩,fun x hx=>yM ((hu u h).2.1 x hx) M1,yM (hu u h).2.2 M1⟩
end
def Jg(m:Nat):Bool:=match (bA [.int m] []).bind fun p=>d6 p.2 p.1 with
 |some (.int b)=>decide (0<=b/\b<=4/\(0<m->1<=b))
 |_=>false
theorem Gi:(List.range 16).all Jg=true:=by kernel_rfl
theorem xJ{m:Nat}(hm:m<16):∃b:Int,0<=b/\b<=4/\(0<m->1<=b)/\∀st,pm bA [.int (m:Int)] st=some (.int b,st):=by
 have h:=yR.mp Gi m (List.mem_range.mpr hm);unfold Jg at h;split at h
 ·rename_i b e
  obtain⟨h1,h2,h3⟩:=of_decide_eq_true h;exact⟨b,h1,h2,h3,fun st=>dB rfl e⟩
 ·cases h
section
variable{st:aa}{n g k j:Nat}{A B:MT}{R:aa}{D T:List Int}
theorem uQ{ks:List Fn}{r:Sl}(hn:jv n):dO ks (.r1 (.bin .Sub (.bin .LShift (.i 1) (.v 0)) (.i 1))) (some (.int (n:Int))::r) st=some (⟨(List.range (2^n-1)).map fun q:Nat=>AV.int (q:Int),[]⟩,st):=by
 rcases hn with rfl|rfl|rfl|rfl<;>rfl
theorem i5{T:List Int}{q:Nat}(h:q<T.length):SX.gI T q∈T:=by
 unfold SX.gI;rw[zD,zF h];exact List.getElem_mem h
theorem turnT(hn:jv n){b0:Int}(hT:T.length=2^n-1/\∀x∈T,0<=x/\x<=b0){z:Int}(hz:0<=z)(hz1:z<2147483587){x3 x5 x6 x7 x8 x9:Option AV}{S:aa}:∃T' y5 y6 y7,(T'.length=2^n-1/\∀x∈T',0<=x/\x<=b0+1000000000)/\ah [ai,bA] (.cons (.as (.bin .Mod (.v 4) (.bin .LShift (.i 1) (.v 0))) (.nm 5))
 (.cons (.as (.bin .Add (.i 1) (.bin .Mod (.bin .FloorDiv (.v 4) (.i 16)) (.i 3))) (.nm 6))
 (.cons (.as (.ix (.nw false (.li (.cons (.i 1) (.cons (.i 2) (.cons (.bin .Add (.i 1) (.bin .Mod (.bin .FloorDiv (.v 4) (.i 48)) (.i 5))) (.cons (.bin .Add (.i 1) (.bin .FloorDiv (.v 4) (.i 48))) .nil)))))) (.bin .Mod (.bin .FloorDiv (.v 4) (.i 240)) (.i 4))) (.nm 7))
 (.cons (.as (.nw false (.lc 1 (.r1 (.bi .len (.cons (.v 2) .nil))) (.nm 10) .no (.bin .Add (.ix (.v 2) (.v 10)) (.bin .Mult (.v 7) (.bi .min (.cons (.v 6) (.cons (.ca true 1 (.cons (.bin .BitAnd (.v 5) (.bin .Add (.v 10) (.i 1))) .nil)) .nil))))))) (.nm 2))
 .nil)))) [Is n,Rs 2,Ls T,x3,Is z,x5,x6,x7,x8,x9] S=some (.nx [Is n,Rs 2,Ls T',x3,Is z,y5,y6,y7,x8,x9] S):=by
 obtain⟨m,m16,em⟩:∃m:Nat,m<16/\z%2^n=(m:Int):=by
  have hp:(0:Int)<2^n:=by rcases hn with rfl|rfl|rfl|rfl<;>decide
  have h1:=Int.emod_nonneg z (show (2:Int) ^ n ≠ 0 by lia);have h2:=Int.emod_lt_of_pos z hp;have h3:(2:Int) ^ n <= 16:=by rcases hn with rfl | rfl | rfl | rfl <;> decide
  exact⟨(z%2^n).toNat,by lia,by lia⟩
 have sh:aQ .LShift S (.int 1) (.int (n:Int))=some (.int (2^n)):=by rcases hn with rfl|rfl|rfl|rfl<;>rfl
 have hp:(0:Int)<2^n:=by rcases hn with rfl|rfl|rfl|rfl<;>decide
 have q1:=Int.emod_nonneg (z / 16) (show (3:Int) ≠ 0 by decide);have q2:=Int.emod_lt_of_pos (z / 16) (show (0:Int) < 3 by decide);have w1:=Int.emod_nonneg (z / 240) (show (4:Int) ≠ 0 by decide);have w2:=Int.emod_lt_of_pos (z / 240) (show (0:Int) < 4 by decide);obtain ⟨v,hv,ev⟩:=lx (st:=S) (l:=[.int 1,.int 2,.int (1 + z / 48 % 5),.int (1 + z / 48)]) w1 w2;obtain ⟨tm,rfl,tm0,tm1⟩:∃ tm:Int,v=.int tm/\1 <= tm/\tm <= 50000000:=by
  simp only[zT,zX,or_false]at hv;rcases hv with rfl|rfl|rfl|rfl<;>exact⟨_,rfl,by lia,by lia⟩
 have hN:2^n-1<=15:=by rcases hn with rfl|rfl|rfl|rfl<;>decide
 obtain⟨L,hL,eL⟩:=jx (P:=fun v=>0<=v/\v<=b0+1000000000) (ks:=[ai,bA]) (k:=1) (st:=S) (it:=.r1 (.bi .len (.cons (.v 2) .nil))) (t:=.nm 10) (e:=.bin .Add (.ix (.v 2) (.v 10)) (.bin .Mult (.v 7) (.bi .min (.cons (.v 6) (.cons (.ca true 1 (.cons (.bin .BitAnd (.v 5) (.bin .Add (.v 10) (.i 1))) .nil)) .nil)))))
  (sl:=[Is n,Rs 2,Ls T,x3,Is z,Is (m:Int),Is (1+z/16%3),Is tm,x8,x9]) (N:=2^n-1) (kS (by simp[vp,hT.1]) oM) oM fun q hq=>by
   obtain⟨b,b0,b4,_,eb⟩:=xJ (m:=m &&& (q+1)) (yM Nat.and_le_left m16);obtain⟨c,ec,hc⟩:=Ht (st:=S) (a:=1+z/16%3) (b:=b);have mm:aQ .Mult S (.int tm) (.int c)=some (.int (tm*c)):=aZ (p8 (DS oM));have ix:=re (st:=S) (T:=T) (i:=q) (by rw[hT.1];exact hq);have an:=Kv (st:=S) (x:=m) (y:=q+1);have eb:=eb S;have c1:((q:Int)+1)=((q+1:Nat):Int):=by lia
   generalize ((m &&& (q+1):Nat):Int)=u at an eb;generalize ((q+1:Nat):Int)=u1 at an c1;have hg:SX.gI T q∈T:=i5 (by rw[hT.1];exact hq)
   have:=hT.2 _ hg
   have cc:c=0\/c=1\/c=2\/c=3\/c=4:=by lia
   exact⟨[Is n,Rs 2,Ls T,x3,Is z,Is (m:Int),Is (1+z/16%3),Is tm,x8,x9,Is (q:Int)],SX.gI T q+tm*c,by rcases cc with rfl|rfl|rfl|rfl|rfl<;>lia,rfl,by simp[ix,c1,an,eb,ec,mm]⟩
 refine ⟨L,Is (m:Int),Is (1 + z / 16 % 3),Is tm,hL,?_⟩;refine ar (sl':=[Is n,Rs 2,Ls T,x3,Is z,Is (m:Int),x6,x7,x8,x9]) (st':=S) (by simp [sh,dq hp,em]) ?_;refine ar (sl':=[Is n,Rs 2,Ls T,x3,Is z,Is (m:Int),Is (1 + z / 16 % 3),x7,x8,x9]) (st':=S) (by simp [iH (show dR 16=true from rfl),dq (show (0:Int) < 3 by decide)]) ?_;refine ar (sl':=[Is n,Rs 2,Ls T,x3,Is z,Is (m:Int),Is (1 + z / 16 % 3),Is tm,x8,x9]) (st':=S) (by simp [iH (show dR 48=true from rfl),iH (show dR 240=true from rfl),dq (show (0:Int) < 5 by decide),dq (show (0:Int) < 4 by decide),cA,rfs,rf,ev]) ?_;refine ar (sl':=[Is n,Rs 2,Ls L,x3,Is z,Is (m:Int),Is (1 + z / 16 % 3),Is tm,x8,x9]) (st':=S) ?_ rfl;rw [fR,eL];rfl
theorem BY(hn:jv n)(hD:50<=D.length)(hd:okD D):∃D' T,dL [.int n,.ref 2] (A::B::.lst (iL D)::R)=some (.fz (iL T),(A::B::.lst (iL D')::R))/\(T.length=2^n-1/\∀x∈T,0<=x/\x<=10000000000)/\okD D'/\D.length<=D'.length+6:=by
 have key:∃r,dL [.int n,.ref 2] (A::B::.lst (iL D)::R)=some r/\∃D' T,r=(.fz (iL T),(A::B::.lst (iL D')::R))/\(T.length=2^n-1/\∀x∈T,0<=x/\x<=10000000000)/\okD D'/\D.length<=D'.length+6:=by
  have hN:2^n-1<=15:=by rcases hn with rfl|rfl|rfl|rfl<;>decide
  rw[dL,aA];show ∃r,(ah [ai,bA] f9 [Is n,Rs 2,none,none,none,none,none,none,none,none] (A::B::.lst (iL D)::R)).bind aw=some r/\_;unfold f9;obtain⟨T0,hT0,e0⟩:=jx (P:=fun v=>0<=v/\v<=0) (ks:=[ai,bA]) (k:=1) (st:=(A::B::.lst (iL D)::R)) (t:=.nm 10) (e:=.i 0) (sl:=[Is n,Rs 2,none,none,none,none,none,none,none,none]) (uQ hn) oM fun q hq=>⟨_,0,by lia,rfl,rfl⟩
  refine ag (sl':=[Is n,Rs 2,Ls T0,none,none,none,none,none,none,none]) (st':=(A::B::.lst (iL D)::R)) (by rw[fR,e0];rfl) ?_;obtain⟨D1,x,rfl⟩:=fV (D:=D) (fun z=>by rw[z]at hD;simp at hD);obtain⟨hx0,hd1⟩:=hd.at;simp only[zV,List.length_singleton]at hD ⊢;have p:=p5 (st:=(A::B::MT.lst (iL (D1++[x]))::R)) (r:=2) (D:=D1) (x:=x) rfl;obtain⟨c,hc,hm⟩:∃c:Nat,c<=4/\x%5=(c:Int):=by
   have h1:=Int.emod_nonneg x (show (5:Int) ≠ 0 by decide);have h2:=Int.emod_lt_of_pos x (show (0:Int) < 5 by decide);exact ⟨(x % 5).toNat,by lia,by lia⟩
  have it:dO [ai,bA] (.r1 (.bin .Mod (.ca false 0 (.cons (.v 1) .nil)) (.i 5))) [Is n,Rs 2,Ls T0,none,none,none,none,none,none,none] (A::B::.lst (iL (D1++[x]))::R)=some (⟨(List.range c).map fun q:Nat=>AV.int (q:Int),[]⟩,(A::B::.lst (iL D1)::R)):=by
   have e:ev [ai,bA] (.bin .Mod (.ca false 0 (.cons (.v 1) .nil)) (.i 5)) [Is n,Rs 2,Ls T0,none,none,none,none,none,none,none] (A::B::.lst (iL (D1++[x]))::R)=some (.int (c:Int),(A::B::.lst (iL D1)::R)):=by
    simp [p,dq (show (0:Int) < 5 by decide),hm,dN]
   show(ev _ _ _ _).bind _=_;rw[e];exact kS (ks:=[]) (a:=.i c) (sl:=[]) rfl oM
  refine mR (em:=fun q:Nat=>.int (q:Int)) (xs:=List.range c) (gd:=[]) (st0:=(A::B::.lst (iL D1)::R)) (fun i sl s=>∃D' T,s=(A::B::.lst (iL D')::R)/\D'.length+i=D1.length/\okD D'/\(T.length=2^n-1/\∀x∈T,0<=x/\x<=(i:Int)*1000000000)/\∃x3 x4 x5 x6 x7 x8 x9,sl=[Is n,Rs 2,Ls T,x3,x4,x5,x6,x7,x8,x9]) it (fun _ _ _ _=>rfl) ⟨D1,T0,rfl,by lia,hd1,⟨hT0.1,fun x hx=>by have:=hT0.2 x hx;lia⟩,_,_,_,_,_,_,_,rfl⟩ ?_ ?_
  ·rintro i q sl s hq ⟨D',T,rfl,hl,hd',hT,x3,x4,x5,x6,x7,x8,x9,rfl⟩
   have hi:i<c:=by have:=(zB.mp hq).1;simpa using this
   obtain⟨D2,z,rfl⟩:=fV (D:=D') (fun e=>by rw[e]at hl;simp at hl;lia);obtain⟨hz0,hd2⟩:=hd'.at;have hz1:=(hd' z (by simp)).2;have p2:=p5 (st:=(A::B::MT.lst (iL (D2++[z]))::R)) (r:=2) (D:=D2) (x:=z) rfl;obtain⟨T',y5,y6,y7,hT',e⟩:=turnT hn hT hz0 hz1 (x3:=some (.int (q:Int))) (x5:=x5) (x6:=x6) (x7:=x7) (x8:=x8) (x9:=x9) (S:=(A::B::.lst (iL D2)::R));exact⟨_,_,_,rfl,ar (sl':=[Is n,Rs 2,Ls T,Is (q:Int),Is z,x5,x6,x7,x8,x9]) (st':=(A::B::.lst (iL D2)::R)) (by simp[p2,dN]) e,D2,T',rfl,by simp at hl;lia,hd2,⟨hT'.1,fun x hx=>by have:=hT'.2 x hx;lia⟩,_,_,_,_,_,_,_,rfl⟩
  ·rintro sl s ⟨D',T,rfl,hl,hd',hT,x3,x4,x5,x6,x7,x8,x9,rfl⟩
   simp only[List.length_range]at hl hT;obtain⟨D2,z,rfl⟩:=fV (D:=D') (fun e=>by rw[e]at hl;simp at hl;lia);obtain⟨hz0,hd2⟩:=hd'.at;have hz1:=(hd' z (by simp)).2;simp only[zV,List.length_singleton]at hl;have p2:=p5 (st:=(A::B::MT.lst (iL (D2++[z]))::R)) (r:=2) (D:=D2) (x:=z) rfl;refine ag (sl':=[Is n,Rs 2,Ls T,x3,Is z,x5,x6,x7,x8,x9]) (st':=(A::B::.lst (iL D2)::R)) (by simp[p2,dN]) ?_;have fin':∀(T':List Int)(y8 y9:Option AV),(T'.length=2^n-1/\∀x∈T',0<=x/\x<=10000000000)->∃r,(ah [ai,bA] (.cons (.rt (.v 2)) .nil) [Is n,Rs 2,Ls T',x3,Is z,x5,x6,x7,y8,y9] (A::B::.lst (iL D2)::R)).bind aw=some r/\∃D' T,r=(.fz (iL T),(A::B::.lst (iL D')::R))/\(T.length=2^n-1/\∀x∈T,0<=x/\x<=10000000000)/\okD D'/\D1.length+1<=D'.length+6:=fun T' y8 y9 h=>⟨_,rfl,D2,T',rfl,h,hd2,by lia⟩
   by_cases hc4:n=4/\z%3=0
   ·obtain⟨rfl,h3⟩:=hc4
    have w1:=Int.emod_nonneg (z / 3) (show (6:Int) ≠ 0 by decide);have w2:=Int.emod_lt_of_pos (z / 3) (show (0:Int) < 6 by decide);obtain ⟨v,hv,ev⟩:=lx (st:=(A::B::.lst (iL D2)::R)) (l:=[.int 3,.int 5,.int 6,.int 9,.int 10,.int 12]) w1 w2;obtain ⟨pr,rfl⟩:∃ pr:Int,v=.int pr:=by
     simp only[zT,zX,or_false]at hv;rcases hv with rfl|rfl|rfl|rfl|rfl|rfl<;>exact⟨_,rfl⟩
    obtain⟨Q,hQ,eQ⟩:=jx (P:=fun v=>0<=v/\v<=5) (ks:=[ai,bA]) (k:=1) (st:=(A::B::.lst (iL D2)::R)) (it:=.r1 (.i 15)) (t:=.nm 10) (e:=.bin .Add (.ix (.nw false (.li (.cons (.i 2) (.cons (.i 3) (.cons (.i 4) (.cons (.i 4) .nil)))))) (.bin .Sub (.ca true 1 (.cons (.bin .Add (.v 10) (.i 1)) .nil)) (.i 1))) (.bi .int (.cons (.cmp .Eq (.bin .Add (.v 10) (.i 1)) (.v 8)) .nil)))
     (sl:=[Is ((4:Nat):Int),Rs 2,Ls T,x3,Is z,x5,x6,x7,Is pr,x9]) (N:=15) rfl oM fun q hq=>by
      obtain⟨b,b0,b4,b1,eb⟩:=xJ (m:=q+1) oM;obtain⟨u,hu,eu⟩:=lx (st:=(A::B::.lst (iL D2)::R)) (l:=[.int 2,.int 3,.int 4,.int 4]) (i:=b-1) (by have:=b1 oM;lia) (by simp;lia);obtain⟨uu,rfl,uu0,uu1⟩:∃uu:Int,u=.int uu/\0<=uu/\uu<=4:=by
       simp only[zT,zX,or_false]at hu;rcases hu with rfl|rfl|rfl|rfl<;>exact⟨_,rfl,by lia,by lia⟩
      have eb:=eb (A::B::.lst (iL D2)::R);have c1:((q:Int)+1)=((q+1:Nat):Int):=by lia
      generalize ((q+1:Nat):Int)=u1 at eb c1;exact⟨[Is ((4:Nat):Int),Rs 2,Ls T,x3,Is z,x5,x6,x7,Is pr,x9,Is (q:Int)],uu+(if u1=pr then 1 else 0),by split<;>lia,rfl,by simp[c1,eb,eu,cA,rfs,rf,cj,rk]⟩
    obtain⟨L,hL,eL⟩:=jx (P:=fun v=>0<=v/\v<=10000000000) (ks:=[ai,bA]) (k:=1) (st:=(A::B::.lst (iL D2)::R)) (it:=.r1 (.i 15)) (t:=.nm 10) (e:=.bin .Add (.ix (.v 2) (.v 10)) (.ix (.v 9) (.v 10)))
     (sl:=[Is ((4:Nat):Int),Rs 2,Ls T,x3,Is z,x5,x6,x7,Is pr,Ls Q]) (N:=15) rfl oM fun q hq=>by
      have i1:=re (st:=(A::B::.lst (iL D2)::R)) (T:=T) (i:=q) (by rw[hT.1];exact hq);have i2:=re (st:=(A::B::.lst (iL D2)::R)) (T:=Q) (i:=q) (by rw[hQ.1];exact hq);have g1:=hT.2 _ (i5 (T:=T) (q:=q) (by rw[hT.1];exact hq));have g2:=hQ.2 _ (i5 (T:=Q) (q:=q) (by rw[hQ.1];exact hq));exact⟨[Is ((4:Nat):Int),Rs 2,Ls T,x3,Is z,x5,x6,x7,Is pr,Ls Q,Is (q:Int)],SX.gI T q+SX.gI Q q,by lia,rfl,by simp[i1,i2]⟩
    refine ag (sl':=[Is ((4:Nat):Int),Rs 2,Ls L,x3,Is z,x5,x6,x7,Is pr,Ls Q]) (st':=(A::B::.lst (iL D2)::R)) ?_ (fin' L _ _ hL);have t1:tv [ai,bA] (.an (.cmp .Eq (.v 0) (.i 4)) (.cmp .Eq (.bin .Mod (.v 4) (.i 3)) (.i 0))) [Is ((4:Nat):Int),Rs 2,Ls T,x3,Is z,x5,x6,x7,x8,x9] (A::B::.lst (iL D2)::R)=some (true,(A::B::.lst (iL D2)::R)):=by
     simp [dq (show (0:Int) < 3 by decide),h3]
    rw [iP,t1,bind_some];show ah _ _ _ _=_;refine ar (sl':=[Is ((4:Nat):Int),Rs 2,Ls T,x3,Is z,x5,x6,x7,Is pr,x9]) (st':=(A::B::.lst (iL D2)::R)) (by simp [iH (show dR 3=true from rfl),dq (show (0:Int) < 6 by decide),cA,rfs,rf,ev]) ?_;refine ar (sl':=[Is ((4:Nat):Int),Rs 2,Ls T,x3,Is z,x5,x6,x7,Is pr,Ls Q]) (st':=(A::B::.lst (iL D2)::R)) (by rw [fR,eQ];rfl) ?_;refine ar (sl':=[Is ((4:Nat):Int),Rs 2,Ls L,x3,Is z,x5,x6,x7,Is pr,Ls Q]) (st':=(A::B::.lst (iL D2)::R)) (by rw [fR,eL];rfl) rfl
   ·refine ag (sl':=[Is n,Rs 2,Ls T,x3,Is z,x5,x6,x7,x8,x9]) (st':=(A::B::.lst (iL D2)::R)) ?_ (fin' T _ _ ⟨hT.1,fun x hx=>by have:=hT.2 x hx;lia⟩)
    by_cases h4:n=4
    ·have h3:¬z%3=0:=fun e=>hc4 ⟨h4,e⟩
     simp [dq (show (0:Int) < 3 by decide),h3,h4]
    ·simp[show ¬(n:Int)=4 by lia]
 obtain⟨r,e,D',T,rfl,h1,h2⟩:=key;exact⟨D',T,e,h1,h2⟩
end
section
variable{st:aa}{n g k j:Nat}{A B:MT}{R:aa}{D T:List Int}
noncomputable def gE(z:Nat×Int):AV:=.tup [.int (z.1:Int),.int z.2]
def E8(n:Nat)(ts:List (Nat×Int)):Prop:=ts.length<=4/\∀z∈ts,z.1<2^n/\(z.2=1\/z.2=-1)
theorem B9(hn:jv n){ts:List (Nat×Int)}(ht:E8 n ts):∃L,pm aW [.int n,.fz (ts.map gE)] st=some (.fz (iL L),st)/\L.length=2^n-1/\∀x∈L,-4<=x/\x<=4:=by
 have hN:2^n-1<=15:=by rcases hn with rfl|rfl|rfl|rfl<;>decide
 have key:∃r,aW [.int n,.fz (ts.map gE)] []=some r/\∃L,d6 r.2 r.1=some (.fz (iL L))/\L.length=2^n-1/\∀x∈L,-4<=x/\x<=4:=by
  rw[aW,aA];show ∃r,(ah [] fq [Is n,Zs (ts.map gE),none,none,none] []).bind aw=some r/\_;unfold fq;refine ag (sl':=[Is n,Zs (ts.map gE),Rs 0,none,none]) (st':=[.lst (iL (List.replicate (2^n-1) 0))]) (by rcases hn with rfl|rfl|rfl|rfl<;>rfl) ?_;refine mR (em:=gE) (xs:=ts) (gd:=[]) (st0:=[.lst (iL (List.replicate (2^n-1) 0))]) (fun i sl s=>i<=4/\∃L,s=[.lst (iL L)]/\L.length=2^n-1/\(∀x∈L,-(i:Int)<=x/\x<=(i:Int))/\∃x y,sl=[Is n,Zs (ts.map gE),Rs 0,x,y]) rfl (fun _ _ _ _=>rfl) ⟨by lia,_,rfl,by simp,by simp,_,_,rfl⟩ ?_ ?_
  ·rintro i z sl s hz ⟨hi,L,rfl,hL,hb,x,y,rfl⟩
   have hi4:i<4:=by have:=(zB.mp hz).1;have:=ht.1;lia
   obtain⟨z1,z2⟩:=ht.2 z (zW hz);obtain⟨g,c⟩:=z;by_cases h0:g=0
   ·refine⟨_,[Is n,Zs (ts.map gE),Rs 0,Is (g:Int),Is c],[.lst (iL L)],rfl,?_,by lia,L,rfl,hL,fun x hx=>by have:=hb x hx;lia,_,_,rfl⟩
    refine ar (s:=.iff _ _ _) ?_ rfl;simp [eq_false (show ¬ 0 < g by lia)]
   ·dsimp only at z1 z2
    have hg:g-1<L.length:=by rw[hL];lia
    have ix:aP [.lst (iL L)] (.ref 0) (.int ((g-1:Nat):Int))=some (.int (SX.gI L (g-1))):=by rw[cP (bK (xs:=iL L) rfl),cF,ce hg]
    have hs:=db (st:=[.lst (iL L)]) (k:=0) (q:=g-1) (xs:=iL L) (x:=.int (SX.gI L (g-1)+c)) rfl (by rw[gJ];exact hg);rw[ff]at hs;have e1:(g:Int)-1=((g-1:Nat):Int):=by lia
    refine⟨_,[Is n,Zs (ts.map gE),Rs 0,Is (g:Int),Is c],[.lst (iL (L.set (g-1) (SX.gI L (g-1)+c)))],rfl,?_,by lia,_,rfl,by rw[List.length_set];exact hL,fun x hx=>?_,_,_,rfl⟩
    ·refine ar (s:=.iff _ _ _) ?_ rfl
     simp [eq_true (show 0 < g by lia),e1,ix,hs]
    ·rcases List.mem_or_eq_of_mem_set hx with h|h
     ·have:=hb x h;lia
     ·have:=hb _ (i5 hg)
      rw[h];lia
  ·rintro sl s ⟨hi,L,rfl,hL,hb,x,y,rfl⟩
   refine⟨_,rfl,L,oJ rfl,hL,fun x hx=>?_⟩
   have:=hb x hx
   have:=ht.1
   lia
 obtain⟨r,e,L,e2,h⟩:=key;exact⟨L,b9 (by
  have:rfs (ts.map gE)=true:=ii fun x hx=>by obtain⟨z,_,rfl⟩:=yD.mp hx;rfl
  simp[rfs,rf,this]) e e2,h⟩
theorem BV(hn:jv n)(hD:0<D.length)(hd:okD D):∃D' ts,bj [.int n,.ref 2] (A::B::.lst (iL D)::R)=some (.fz (ts.map gE),A::B::.lst (iL D')::R)/\E8 n ts/\okD D'/\D.length=D'.length+1:=by
 obtain⟨D1,z,rfl⟩:=fV (D:=D) (fun e=>by rw[e]at hD;simp at hD);obtain⟨hz,hd1⟩:=hd.at;obtain⟨w,hw,w0,w16⟩:∃w:Nat,w=2^n-1/\0<w/\w<=15:=⟨_,rfl,by rcases hn with rfl|rfl|rfl|rfl<;>decide,by rcases hn with rfl|rfl|rfl|rfl<;>decide⟩;have hp:2^n=w+1:=by rw[hw];rcases hn with rfl|rfl|rfl|rfl<;>rfl
 have p:=jk (A:=A) (B:=B) (R:=R) (D:=D1) (x:=z);obtain⟨S,hS⟩:∃S,S=A::B::MT.lst (iL D1)::R:=⟨_,rfl⟩;rw[<- hS]at p;have ew:ev [ai] (.bin .Sub (.bin .LShift (.i 1) (.v 0)) (.i 1)) [Is n,Rs 2,none,none,none,none,none] (A::B::.lst (iL (D1++[z]))::R)=some (.int (w:Int),A::B::.lst (iL (D1++[z]))::R):=by
  rw[hw];rcases hn with rfl|rfl|rfl|rfl<;>rfl
 obtain⟨a,ha,ea⟩:∃a:Nat,(1<=a/\a<=w)/\1+z%(w:Int)=(a:Int):=by
  have h1:=Int.emod_nonneg z (show (w:Int) ≠ 0 by lia);have h2:=Int.emod_lt_of_pos z (show (0:Int) < w by lia);exact ⟨(1 + z % (w:Int)).toNat,by lia,by lia⟩
 obtain⟨b,hb,eb⟩:∃b:Nat,(1<=b/\b<=w)/\1+z/16%(w:Int)=(b:Int):=by
  have h1:=Int.emod_nonneg (z / 16) (show (w:Int) ≠ 0 by lia);have h2:=Int.emod_lt_of_pos (z / 16) (show (0:Int) < w by lia);exact ⟨(1 + z / 16 % (w:Int)).toNat,by lia,by lia⟩
 obtain⟨c,hc,ec⟩:∃c:Nat,c<=w/\z/256%((w:Int)+1)=(c:Int):=by
  have h1:=Int.emod_nonneg (z / 256) (show ((w:Int) + 1) ≠ 0 by lia);have h2:=Int.emod_lt_of_pos (z / 256) (show (0:Int) < (w:Int) + 1 by lia);exact ⟨(z / 256 % ((w:Int) + 1)).toNat,by lia,by lia⟩
 have o1:=u6 (st:=S) (x:=a) (y:=c) oM oM;have o2:=u6 (st:=S) (x:=b) (y:=c) oM oM;have o3:=u6 (st:=S) (x:=a) (y:=b) oM oM;have l1:a ||| c<2^n:=Nat.or_lt_two_pow oM oM;have l2:b ||| c<2^n:=Nat.or_lt_two_pow oM oM;have l3:a ||| b<2^n:=Nat.or_lt_two_pow oM oM;have l4:a ||| b ||| c<2^n:=Nat.or_lt_two_pow l3 oM;have o4:=u6 (st:=S) (x:=a ||| b) (y:=c) oM oM;have ng:lD .USub S (.int 1)=some (.int (-1)):=rfl;have f3:aQ .FloorDiv S (.int z) (.int 4096)=some (.int (z/4096)):=iH rfl dC;have m3:aQ .Mod S (.int (z/4096)) (.int 3)=some (.int (z/4096%3)):=dq dC;have key:∃r,bj [.int n,.ref 2] (A::B::.lst (iL (D1++[z]))::R)=some r/\∃ts,r=(.fz (ts.map gE),S)/\E8 n ts:=by
  rw [bj,aA];show ∃ r,(ah [ai] f7 [Is n,Rs 2,none,none,none,none,none] (A::B::.lst (iL (D1++[z]))::R)).bind aw=some r/\_;unfold f7;refine ag (sl':=[Is n,Rs 2,Is (w:Int),none,none,none,none]) (st':=A::B::.lst (iL (D1++[z]))::R) (by rw [fR,ew];rfl) ?_;refine ag (sl':=[Is n,Rs 2,Is (w:Int),Is z,none,none,none]) (st':=S) (by simp [p,dN]) ?_;refine ag (sl':=[Is n,Rs 2,Is (w:Int),Is z,Is (a:Int),none,none]) (st':=S) (by simp [dq (show (0:Int) < (w:Int) by lia),ea]) ?_;refine ag (sl':=[Is n,Rs 2,Is (w:Int),Is z,Is (a:Int),Is (b:Int),none]) (st':=S) (by simp [iH (show dR 16=true from rfl),dq (show (0:Int) < (w:Int) by lia),eb]) ?_;refine ag (sl':=[Is n,Rs 2,Is (w:Int),Is z,Is (a:Int),Is (b:Int),Is (c:Int)]) (st':=S) (by simp [iH (show dR 256=true from rfl),dq (show (0:Int) < (w:Int) + 1 by lia),ec]) ?_;have h0:=Int.emod_nonneg (z / 4096) (show (3:Int) ≠ 0 by decide);by_cases e0:z / 4096 % 3=0
  ·refine cD (v:=.fz ([(a,1)].map gE)) (st':=S) ?_ ⟨_,rfl,by simp,?_⟩
   ·simp[f3,m3,e0,cA,rfs,rf,gE,iq]
   ·simp only[zM];rintro z rfl;exact⟨by dsimp only;lia,.inl rfl⟩
  ·refine ag (sl':=[Is n,Rs 2,Is (w:Int),Is z,Is (a:Int),Is (b:Int),Is (c:Int)]) (st':=S) (by simp[f3,m3,e0]) ?_
   generalize hq1:a ||| c=q1 at *;generalize hq2:b ||| c=q2 at *;generalize hq4:a ||| b ||| c=q4 at *;generalize hq3:a ||| b=q3 at *;by_cases e1:z/4096%3=1
   ·refine cD (v:=.fz ([(q1,1),(c,-1)].map gE)) (st':=S) ?_ ⟨_,rfl,by simp,?_⟩
    ·simp[f3,m3,e1,cA,rfs,rf,gE,o1,ng,iq]
    ·simp only[zT,zX,or_false]
     rintro z (rfl|rfl)
     ·exact⟨l1,.inl rfl⟩
     ·exact⟨by dsimp only;lia,.inr rfl⟩
   ·refine ag (sl':=[Is n,Rs 2,Is (w:Int),Is z,Is (a:Int),Is (b:Int),Is (c:Int)]) (st':=S) (by simp[f3,m3,e1]) ?_
    refine cD (v:=.fz ([(q1,1),(q2,1),(q4,-1),(c,-1)].map gE)) (st':=S) ?_ ⟨_,rfl,by simp,?_⟩
    ·simp[cA,rfs,rf,gE,o1,o2,o3,o4,ng]
    ·simp only[zT,zX,or_false]
     rintro z (rfl|rfl|rfl|rfl)
     ·exact⟨l1,.inl rfl⟩
     ·exact⟨l2,.inl rfl⟩
     ·exact⟨l4,.inr rfl⟩
     ·exact⟨by dsimp only;lia,.inr rfl⟩
 obtain⟨r,e,ts,rfl,h⟩:=key;rw[hS]at e;exact⟨D1,ts,e,h,hd1,by simp⟩
end
section
variable{st:aa}{n g k j:Nat}{A B:MT}{R:aa}{D T:List Int}
def xO(L:List Int):Prop:=∀x∈L,x.natAbs<=10000000000000000000000
theorem La:aQ .Pow st (.int 10) (.int 12)=some (.int 1000000000000):=by kernel_rfl
theorem K9:aQ .Pow st (.int 10) (.int 21)=some (.int 1000000000000000000000):=by kernel_rfl
theorem uJ(hn:jv n)(hD:20<=D.length)(hd:okD D):∃D' L,ba [.int n,.ref 2] (A::B::.lst (iL D)::R)=some (.fz (iL L),A::B::.lst (iL D')::R)/\L.length=2^n-1/\xO L/\okD D'/\D.length<=D'.length+17:=by
 have hN:2^n-1<=15:=by rcases hn with rfl|rfl|rfl|rfl<;>decide
 have key:∃r,ba [.int n,.ref 2] (A::B::.lst (iL D)::R)=some r/\∃D' L,r=(.fz (iL L),A::B::.lst (iL D')::R)/\L.length=2^n-1/\xO L/\okD D'/\D.length<=D'.length+17:=by
  rw[ba,aA];show ∃r,(ah [ai,bj,aW] ic [Is n,Rs 2,none,none,none,none,none] (A::B::.lst (iL D)::R)).bind aw=some r/\_;unfold ic;obtain⟨D1,z,rfl⟩:=fV (D:=D) (fun e=>by rw[e]at hD;simp at hD);obtain⟨hz,hd1⟩:=hd.at;simp only[zV,List.length_singleton]at hD ⊢;have p:=jk (A:=A) (B:=B) (R:=R) (D:=D1) (x:=z);refine ag (sl':=[Is n,Rs 2,Is z,none,none,none,none]) (st':=A::B::.lst (iL D1)::R) (by simp[p,dN]) ?_;have m8:aQ .Mod (A::B::.lst (iL D1)::R) (.int z) (.int 8)=some (.int (z%8)):=dq dC;have m64:aQ .Mod (A::B::.lst (iL D1)::R) (.int z) (.int 64)=some (.int (z%64)):=dq dC;by_cases h8:z%8=0
  ·obtain⟨D2,L,e,hd2,hl,hL,hb⟩:=wW (A:=A) (B:=B) (R:=R) (D:=D1) (f:=fun x=>x%7-3) (ks:=[ai,bj,aW]) (it:=.r1 (.bin .Sub (.bin .LShift (.i 1) (.v 0)) (.i 1))) (e:=.bin .Sub (.bin .Mod (.ca false 0 (.cons (.v 1) .nil)) (.i 7)) (.i 3)) (sl:=[Is n,Rs 2,Is z,none,none,none,none]) (s:=7) (N:=2^n-1) (fun st=>uQ hn) oM rfl (fun q D x _ _=>by
    simp[jk,dN,dq (show(0:Int)<7 by decide)]) oM hd1
   refine cD (v:=.fz (iL L)) (st':=A::B::.lst (iL D2)::R) ?_ ⟨D2,L,rfl,hL,fun x hx=>?_,hd2,by lia⟩
   ·rw[iP]
    have t1:tv [ai,bj,aW] (.cmp .Eq (.bin .Mod (.v 2) (.i 8)) (.i 0)) [Is n,Rs 2,Is z,none,none,none,none] (A::B::.lst (iL D1)::R)=some (true,A::B::.lst (iL D1)::R):=by simp[m8,h8]
    rw[t1,bind_some];show ah _ _ _ _=_;refine qo ?_;rw[qz,e];rfl
   ·obtain⟨y,_,_,rfl⟩:=hb x hx
    have:=Int.emod_nonneg y (show (7:Int) ≠ 0 by decide)
    have:=Int.emod_lt_of_pos y (show (0:Int) < 7 by decide)
    lia
  refine ag (sl':=[Is n,Rs 2,Is z,none,none,none,none]) (st':=A::B::.lst (iL D1)::R) (by simp[m8,h8]) ?_;by_cases h64:z%64=1
  ·obtain⟨D2,L,e,hd2,hl,hL,hb⟩:=wW (A:=A) (B:=B) (R:=R) (D:=D1) (f:=fun x=>x*1000000000000-1000000000000000000000) (ks:=[ai,bj,aW]) (it:=.r1 (.bin .Sub (.bin .LShift (.i 1) (.v 0)) (.i 1))) (e:=.bin .Sub (.bin .Mult (.ca false 0 (.cons (.v 1) .nil)) (.bin .Pow (.i 10) (.i 12))) (.bin .Pow (.i 10) (.i 21))) (sl:=[Is n,Rs 2,Is z,none,none,none,none]) (s:=7) (N:=2^n-1) (fun st=>uQ hn) oM rfl (fun q D x _ _=>by
    have mm:aQ .Mult (A::B::.lst (iL D)::R) (.int x) (.int 1000000000000)=some (.int (x*1000000000000)):=aZ (p8 dC);simp[jk,dN,La,K9,mm]) oM hd1
   refine cD (v:=.fz (iL L)) (st':=A::B::.lst (iL D2)::R) ?_ ⟨D2,L,rfl,hL,fun x hx=>?_,hd2,by lia⟩
   ·rw[iP]
    have t1:tv [ai,bj,aW] (.cmp .Eq (.bin .Mod (.v 2) (.i 64)) (.i 1)) [Is n,Rs 2,Is z,none,none,none,none] (A::B::.lst (iL D1)::R)=some (true,A::B::.lst (iL D1)::R):=by simp[m64,h64]
    rw[t1,bind_some];show ah _ _ _ _=_;refine qo ?_;rw[qz,e];rfl
   ·obtain⟨y,y0,y1,rfl⟩:=hb x hx
    lia
  refine ag (sl':=[Is n,Rs 2,Is z,none,none,none,none]) (st':=A::B::.lst (iL D1)::R) (by simp[m64,h64]) ?_;obtain⟨L0,hL0,e0⟩:=jx (P:=fun v=>v=0) (ks:=[ai,bj,aW]) (k:=1) (st:=A::B::.lst (iL D1)::R) (t:=.nm 7) (e:=.i 0) (sl:=[Is n,Rs 2,Is z,none,none,none,none]) (uQ hn) oM fun q hq=>⟨_,0,rfl,rfl,rfl⟩
  refine ag (sl':=[Is n,Rs 2,Is z,Ls L0,none,none,none]) (st':=A::B::.lst (iL D1)::R) (by rw[fR,e0];rfl) ?_;obtain⟨c,hc,ec⟩:∃c:Nat,c<=3/\1+z/64%3=(c:Int):=by
   have h1:=Int.emod_nonneg (z / 64) (show (3:Int) ≠ 0 by decide);have h2:=Int.emod_lt_of_pos (z / 64) (show (0:Int) < 3 by decide);exact ⟨(1 + z / 64 % 3).toNat,by lia,by lia⟩
  have it:dO [ai,bj,aW] (.r1 (.bin .Add (.i 1) (.bin .Mod (.bin .FloorDiv (.v 2) (.i 64)) (.i 3)))) [Is n,Rs 2,Is z,Ls L0,none,none,none] (A::B::.lst (iL D1)::R)=some (⟨(List.range c).map fun q:Nat=>AV.int (q:Int),[]⟩,A::B::.lst (iL D1)::R):=kS (by simp [iH (show dR 64=true from rfl),dq (show (0:Int) < 3 by decide),ec]) oM;refine mR (em:=fun q:Nat=>.int (q:Int)) (xs:=List.range c) (gd:=[]) (st0:=A::B::.lst (iL D1)::R) (fun i sl s=>∃ D' L,s=A::B::.lst (iL D')::R/\D1.length=D'.length + 2 * i/\okD D'/\L.length=2 ^ n - 1/\(∀ x ∈ L,-(12 * (i:Int)) <= x/\x <= 12 * (i:Int))/\∃ x4 x5 x6,sl=[Is n,Rs 2,Is z,Ls L,x4,x5,x6]) it (fun _ _ _ _=>rfl) ⟨D1,L0,rfl,by lia,hd1,hL0.1,fun x hx=>by have:=hL0.2 x hx;lia,_,_,_,rfl⟩ ?_ ?_
  ·rintro i q sl s hq ⟨D',L,rfl,hl,hd',hL,hb,x4,x5,x6,rfl⟩
   have hi:i<c:=by have:=(zB.mp hq).1;simpa using this
   obtain ⟨D2,ts,e1,ht,hd2,hl2⟩:=BV (A:=A) (B:=B) (R:=R) (D:=D') hn oM hd';obtain ⟨M,e2,hM,hMb⟩:=B9 (st:=A::B::.lst (iL D2)::R) hn ht;obtain ⟨D3,y,rfl⟩:=fV (D:=D2) (fun e=>by rw [e] at hl2;simp at hl2;lia);obtain ⟨hy,hd3⟩:=hd2.at;simp only [zV,List.length_singleton] at hl2;have w1:=Int.emod_nonneg y (show (6:Int) ≠ 0 by decide);have w2:=Int.emod_lt_of_pos y (show (0:Int) < 6 by decide);obtain ⟨v,hv,ev⟩:=lx (st:=A::B::.lst (iL D3)::R) (l:=[.int 1,.int 1,.int (-1),.int 2,.int 3,.int (-2)]) w1 w2;obtain ⟨tm,rfl,tmv⟩:∃ tm:Int,v=.int tm/\(tm=1\/tm=-1\/tm=2\/tm=3\/tm=-2):=by
    simp only[zT,zX,or_false]at hv;rcases hv with rfl|rfl|rfl|rfl|rfl|rfl<;>exact⟨_,rfl,by lia⟩
   have n1:∀st,lD .USub st (.int 1)=some (.int (-1)):=fun _=>rfl
   have n2:∀st,lD .USub st (.int 2)=some (.int (-2)):=fun _=>rfl
   obtain⟨L2,hL2,eL2⟩:=jx (P:=fun v=>-(12*((i+1:Nat):Int))<=v/\v<=12*((i+1:Nat):Int)) (ks:=[ai,bj,aW]) (k:=1) (st:=A::B::.lst (iL D3)::R) (it:=.r1 (.bi .len (.cons (.v 3) .nil))) (t:=.nm 7) (e:=.bin .Add (.ix (.v 3) (.v 7)) (.bin .Mult (.v 6) (.ix (.v 5) (.v 7)))) (sl:=[Is n,Rs 2,Is z,Ls L,Is (q:Int),Ls M,Is tm]) (N:=2^n-1) (kS (by simp[vp,hL]) oM) oM fun g hg=>by
    have i1:=re (st:=A::B::.lst (iL D3)::R) (T:=L) (i:=g) oM;have i2:=re (st:=A::B::.lst (iL D3)::R) (T:=M) (i:=g) oM;have b1:=hb _ (i5 (T:=L) (q:=g) oM);have b2:=hMb _ (i5 (T:=M) (q:=g) oM);have mm:aQ .Mult (A::B::.lst (iL D3)::R) (.int tm) (.int (SX.gI M g))=some (.int (tm*SX.gI M g)):=aZ (kU (DS oM));exact⟨[Is n,Rs 2,Is z,Ls L,Is (q:Int),Ls M,Is tm,Is (g:Int)],SX.gI L g+tm*SX.gI M g,by rcases tmv with rfl|rfl|rfl|rfl|rfl<;>lia,rfl,by simp[i1,i2,mm]⟩
   refine ⟨_,[Is n,Rs 2,Is z,Ls L2,Is (q:Int),Ls M,Is tm],A::B::.lst (iL D3)::R,rfl,?_,D3,L2,rfl,by lia,hd3,hL2.1,hL2.2,_,_,_,rfl⟩;refine ar (sl':=[Is n,Rs 2,Is z,Ls L,Is (q:Int),Ls M,x6]) (st':=A::B::.lst (iL (D3++[y]))::R) (by simp [e1,e2,dN]) ?_;refine ar (sl':=[Is n,Rs 2,Is z,Ls L,Is (q:Int),Ls M,Is tm]) (st':=A::B::.lst (iL D3)::R) (by simp [n1,n2,jk,dN,dq (show (0:Int) < 6 by decide),cA,rfs,rf,ev]) ?_;refine ar (sl':=[Is n,Rs 2,Is z,Ls L2,Is (q:Int),Ls M,Is tm]) (st':=A::B::.lst (iL D3)::R) (by rw [fR,eL2];rfl) rfl
  ·rintro sl s ⟨D',L,rfl,hl,hd',hL,hb,x4,x5,x6,rfl⟩
   simp only[List.length_range]at hl hb;exact⟨_,rfl,D',L,rfl,hL,fun x hx=>by have:=hb x hx;lia,hd',by lia⟩
 obtain⟨r,e,D',L,rfl,h⟩:=key;exact⟨D',L,e,h⟩
end
section
variable{st:aa}{n:Nat}{r T:List Int}
theorem Bg(hr:r.length<=15)(hT:T.length=r.length)(br:∀x∈r,x.natAbs<2^9000)(bT:∀x∈T,x.natAbs<2^9000):pm aO [.fz (iL r),.fz (iL T)] st=some (.int (val r.length r (gI T)),st):=by
 have e:=qV (st:=[]) (ks:=[]) (k:=1) (it:=.r1 (.bi .len (.cons (.v 0) .nil))) (t:=.nm 2) (c:=.no) (e:=.bin .Mult (.ix (.v 0) (.v 2)) (.ix (.v 1) (.v 2))) (sl:=[Ls r,Ls T]) (gd:=[]) (em:=fun q:Nat=>AV.int (q:Int)) (xs:=List.range r.length) (B:=fun _=>true) (F:=fun q=>AV.int (gI r q*gI T q)) (kS (by simp[vp]) oM) rfl (by simp;lia) fun q hq=>by
  have hq:=List.mem_range.mp hq;have i1:=re (st:=[]) (T:=r) (i:=q) hq;have i2:=re (st:=[]) (T:=T) (i:=q) oM;exact⟨[Ls r,Ls T,Is (q:Int)],rfl,rfl,fun _=>by
   have mm:aQ .Mult [] (.int (gI r q)) (.int (gI T q))=some (.int (gI r q*gI T q)):=aZ (cm (br _ (i5 hq)) (bT _ (i5 (show q<T.length by lia))));simp[i1,i2,mm]⟩
 rw[List.filter_eq_self.mpr (fun _ _=>rfl),show(List.range r.length).map (fun q=>AV.int (gI r q*gI T q))=iL ((List.range r.length).map fun q=>gI r q*gI T q) by unfold iL;rw[List.map_map];rfl]at e;have e2:ev [] (.nw false (.lc 1 (.r1 (.bi .len (.cons (.v 0) .nil))) (.nm 2) .no (.bin .Mult (.ix (.v 0) (.v 2)) (.ix (.v 1) (.v 2))))) [Ls r,Ls T] []=some (.fz (iL ((List.range r.length).map fun q=>gI r q*gI T q)),[]):=by
  rw[jj,e,bind_some,yI dy]
 have es:∀n (f:Nat->Int),((List.range n).map f).sum=MX n f:=fun n f=>by
  induction n with
  |zero=>rfl
  |succ n ih=>rw[List.range_succ,List.map_append,List.sum_append,ih];simp[MX]
 refine b9 (by simp[rfs,rf,dy]) (v:=.int (val r.length r (gI T))) (st':=[]) ?_ rfl;rw[aO,aA];show(ah [] iJ [Ls r,Ls T] []).bind aw=_;refine c4 ?_;simp only[qz,Dp,dX,fc,e2,bind_some,xK,cj,oH,Bh,map_some];rw[es];rfl
theorem qS(hr:r.length<=15)(hb:xO r)(hT:T.length=r.length/\∀x∈T,0<=x/\x<=10000000000):∃v:Int,v.natAbs<=10000000000000000000000000000000000/\∀st,pm aO [.fz (iL r),.fz (iL T)] st=some (.int v,st):=by
 have b1:∀x∈r,x.natAbs<2^74:=fun x hx=>yM (hb x hx) dC
 have b2:∀x∈T,x.natAbs<2^34:=fun x hx=>yM (m:=10000000000) (by have:=hT.2 x hx;lia) dC
 refine⟨_,?_,fun st=>Bg hr hT.1 (fun x hx=>dP (b1 x hx) dC) fun x hx=>dP (b2 x hx) dC⟩;exact z5 (yZ (mL rfl hT.1 hr b1 b2)) dC
end
section
variable{st:aa}{n g k j:Nat}{A B:MT}{R:aa}{D T:List Int}
def px(n:Nat)(z:Gv):Prop:=z.row.length=2^n-1/\xO z.row/\z.num.natAbs<=10000000000000000000000000000000010
def pE(z:Gv):PyData:=.tuple [.list (z.row.map PyData.int),.str (if z.eq=true then "=" else ">"),.int z.num]
theorem G9(z:Gv):cJ 8 st z.av=some (pE z):=by
 obtain⟨r,e,m⟩:=z;have:cJ 7 st (.fz (iL r))=some (.list (r.map PyData.int)):=by show(bH (cJ 6 st) _).map _=_;rw[Ft];rfl
 show(bH (cJ 7 st) [.fz (iL r),_,_]).map _=_;simp only[bH,this,bind_some];cases e<;>rfl
theorem Fy(z:Gv):(pE z).canLay0=true:=by
 obtain⟨r,e,m⟩:=z;have:∀l:List Int,PyData.canLayAll0 (l.map PyData.int)=true:=fun l=>by
  induction l with
  |nil=>rfl
  |cons x l ih=>simp only[zO,PyData.canLayAll0,PyData.canLay0,ih,Bool.and_self]
 have s1:PyData.strOk "="=true:=by decide +kernel
 have s2:PyData.strOk ">"=true:=by decide +kernel
 cases e<;>simp[pE,PyData.canLay0,PyData.canLayAll0,this,s1,s2]
theorem Ho{r:Nat}{G:List Gv}(h:st[r]?=some (.lst (G.map Gv.av))):bh .NotEq st (.ref r) (.fz [])=some (!G.isEmpty):=by
 change (kb st (.ref r) (.fz [])).map (fun b=>!b)=_;have h1:cJ 9 st (.ref r)=some (.list (G.map pE)):=by
  unfold cJ;have:bH (cJ 8 st) (G.map Gv.av)=some (G.map pE):=d7 (f:=cJ 8 st) (i:=Gv.av) (g:=pE) (fun z=>G9 z) G;simp only[h,this,map_some]
 have h2:PyData.canLayAll0 (G.map pE)=true:=by
  clear h h1
  induction G with
  |nil=>rfl
  |cons x l ih=>simp only[zO,PyData.canLayAll0,Fy,ih,Bool.and_self]
 unfold kb;rw[h1,show cJ 9 st (.fz [])=some (.list []) from rfl,bind_some,bind_some,yI (by
  unfold DD.pyOk;rw[show(PyData.list (G.map pE)).canLay0=true by simp only[PyData.canLay0,h2],yW (z5 (Nat.min_le_right _ _) dC)];rfl)]
 cases G<;>rfl
theorem Ko{a b:Bool}:bh .Eq st (.str (if a=true then "=" else ">")) (.str ">")=some (!a):=by cases a<;>kernel_rfl
theorem Aq(hn:jv n)(hD:200<=D.length)(hd:okD D)(hT:T.length=2^n-1/\∀x∈T,0<=x/\x<=10000000000):∃(D':List Int)(G:List Gv)(O:MT),c8 [.int n,.ref 2,.fz (iL T)] [A,B,.lst (iL D)]=some (.fz (G.map Gv.av),[A,B,.lst (iL D'),O])/\G.length<=8/\(∀z∈G,px n z)/\okD D'/\D.length<=D'.length+160:=by
 have hN:0<2^n-1/\2^n-1<=15:=by rcases hn with rfl|rfl|rfl|rfl<;>decide
 have key:∃r,c8 [.int n,.ref 2,.fz (iL T)] [A,B,.lst (iL D)]=some r/\∃(D':List Int)(G:List Gv)(O:MT),r=(.fz (G.map Gv.av),[A,B,.lst (iL D'),O])/\G.length<=8/\(∀z∈G,px n z)/\okD D'/\D.length<=D'.length+160:=by
  rw [c8,aA];show ∃ r,(ah [ai,ba,aO] fu [Is n,Rs 2,Ls T,none,none,none,none,none,none] [A,B,.lst (iL D)]).bind aw=some r/\_;unfold fu;refine ag (sl':=[Is n,Rs 2,Ls T,Rs 3,none,none,none,none,none]) (st':=[A,B,.lst (iL D),.lst (([]:List Gv).map Gv.av)]) rfl ?_;obtain ⟨D1,x,rfl⟩:=fV (D:=D) (fun e=>by rw [e] at hD;simp at hD);obtain ⟨hx,hd1⟩:=hd.at;simp only [zV,List.length_singleton] at hD ⊢;have p:=jk (A:=A) (B:=B) (R:=[.lst (([]:List Gv).map Gv.av)]) (D:=D1) (x:=x);have w1:=Int.emod_nonneg x (show (8:Int) ≠ 0 by decide);have w2:=Int.emod_lt_of_pos x (show (0:Int) < 8 by decide);obtain ⟨v,hv,xv⟩:=lx (st:=[A,B,.lst (iL D1),.lst (([]:List Gv).map Gv.av)]) (l:=[.int 0,.int 1,.int 2,.int 3,.int 4,.int 5,.int 8,.int 2]) w1 w2;obtain ⟨c,rfl,hc⟩:∃ c:Nat,v=.int (c:Int)/\c <= 8:=by
   simp only[zT,zX,or_false]at hv;rcases hv with rfl|rfl|rfl|rfl|rfl|rfl|rfl|rfl
   ·exact⟨0,rfl,by decide⟩
   ·exact⟨1,rfl,by decide⟩
   ·exact⟨2,rfl,by decide⟩
   ·exact⟨3,rfl,by decide⟩
   ·exact⟨4,rfl,by decide⟩
   ·exact⟨5,rfl,by decide⟩
   ·exact⟨8,rfl,by decide⟩
   ·exact⟨2,rfl,by decide⟩
  have it:dO [ai,ba,aO] (.r1 (.ix (.nw false (.li (.cons (.i 0) (.cons (.i 1) (.cons (.i 2) (.cons (.i 3) (.cons (.i 4) (.cons (.i 5) (.cons (.i 8) (.cons (.i 2) .nil)))))))))) (.bin .Mod (.ca false 0 (.cons (.v 1) .nil)) (.i 8)))) [Is n,Rs 2,Ls T,Rs 3,none,none,none,none,none] [A,B,.lst (iL (D1++[x])),.lst (([]:List Gv).map Gv.av)]=some (⟨(List.range c).map fun q:Nat=>AV.int (q:Int),[]⟩,[A,B,.lst (iL D1),.lst (([]:List Gv).map Gv.av)]):=by
   have e:ev [ai,ba,aO] (.ix (.nw false (.li (.cons (.i 0) (.cons (.i 1) (.cons (.i 2) (.cons (.i 3) (.cons (.i 4) (.cons (.i 5) (.cons (.i 8) (.cons (.i 2) .nil)))))))))) (.bin .Mod (.ca false 0 (.cons (.v 1) .nil)) (.i 8))) [Is n,Rs 2,Ls T,Rs 3,none,none,none,none,none] [A,B,.lst (iL (D1++[x])),.lst (([]:List Gv).map Gv.av)]=some (.int (c:Int),[A,B,.lst (iL D1),.lst (([]:List Gv).map Gv.av)]):=by
    simp at p xv;simp [p,dq (show (0:Int) < 8 by decide),xv,rfs,rf,cA,dN]
   show(ev _ _ _ _).bind _=_;rw[e];exact kS (ks:=[]) (a:=.i c) (sl:=[]) rfl oM
  refine mR (em:=fun q:Nat=>.int (q:Int)) (xs:=List.range c) (gd:=[]) (st0:=[A,B,.lst (iL D1),.lst (([]:List Gv).map Gv.av)]) (fun i sl s=>∃(D':List Int)(G:List Gv),s=[A,B,.lst (iL D'),.lst (G.map Gv.av)]/\D1.length<=D'.length+18*i/\okD D'/\G.length=i/\(∀z∈G,px n z)/\∃x4 x5 x6 x7 x8,sl=[Is n,Rs 2,Ls T,Rs 3,x4,x5,x6,x7,x8]) it (fun _ _ _ _=>rfl) ⟨D1,[],rfl,by lia,hd1,rfl,by simp,_,_,_,_,_,rfl⟩ ?_ ?_
  ·rintro i q sl s hq ⟨D',G,rfl,hl,hd',hG,hz,x4,x5,x6,x7,x8,rfl⟩
   have hi:i<c:=by have:=(zB.mp hq).1;simpa using this
   obtain⟨D2,r,e1,hr,hrb,hd2,hl2⟩:=uJ (A:=A) (B:=B) (R:=[.lst (G.map Gv.av)]) (D:=D') hn oM hd';obtain⟨D3,z,rfl⟩:=fV (D:=D2) (fun e=>by rw[e]at hl2;simp at hl2;lia);obtain⟨hz0,hd3⟩:=hd2.at;simp only[zV,List.length_singleton]at hl2;obtain⟨v,vb,xv⟩:=qS (r:=r) (T:=T) oM hrb ⟨by lia,hT.2⟩;have p2:=jk (A:=A) (B:=B) (R:=[.lst (G.map Gv.av)]) (D:=D3) (x:=z);obtain⟨S,hS⟩:∃S,S=[A,B,.lst (iL D3),.lst (G.map Gv.av)]:=⟨_,rfl⟩;have xv:=xv S;have f2:aQ .FloorDiv S (.int z) (.int 2)=some (.int (z/2)):=iH rfl dC;have f6:aQ .FloorDiv S (.int z) (.int 6)=some (.int (z/6)):=iH rfl dC;have f48:aQ .FloorDiv S (.int z) (.int 48)=some (.int (z/48)):=iH rfl dC;have m2:aQ .Mod S (.int z) (.int 2)=some (.int (z%2)):=dq dC;have m3:aQ .Mod S (.int (z/2)) (.int 3)=some (.int (z/2%3)):=dq dC;have m8:aQ .Mod S (.int (z/6)) (.int 8)=some (.int (z/6%8)):=dq dC;have m9:aQ .Mod S (.int (z/48)) (.int 9)=some (.int (z/48%9)):=dq dC;have b2:=Int.emod_two_eq z;obtain⟨sg,es⟩:∃sg:Bool,aP S (.fz [.str "=",.str ">"]) (.int (z%2))=some (.str (if sg=true then "=" else ">")):=by
    rcases b2 with h|h<;>rw[h]
    ·exact⟨true,rfl⟩
    ·exact⟨false,rfl⟩
   obtain⟨du,hdu⟩:∃du:Int,du=if sg=true then v else v-z/2%3:=⟨_,rfl⟩
   obtain⟨dv,hdv⟩:∃dv:Int,dv=if z/6%8=0 then z/48%9-4 else du:=⟨_,rfl⟩
   have bd:dv.natAbs<=10000000000000000000000000000000010:=by
    have:=Int.emod_nonneg (z / 48) (show (9:Int) ≠ 0 by decide)
    have:=Int.emod_lt_of_pos (z / 48) (show (0:Int) < 9 by decide)
    have:=Int.emod_nonneg (z / 2) (show (3:Int) ≠ 0 by decide)
    have:=Int.emod_lt_of_pos (z / 2) (show (0:Int) < 3 by decide)
    rw[hdv];split
    ·lia
    ·rw[hdu];split<;>lia
   refine⟨_,[Is n,Rs 2,Ls T,Rs 3,Is (q:Int),Ls r,Is z,some (.str (if sg=true then "=" else ">")),Is dv],[A,B,.lst (iL D3),.lst ((G++[(⟨r,sg,dv⟩:Gv)]).map Gv.av)],rfl,?_,D3,_,rfl,by lia,hd3,by simp[hG],fun z hz'=>?_,_,_,_,_,_,rfl⟩
   ·refine ar (sl':=[Is n,Rs 2,Ls T,Rs 3,Is (q:Int),Ls r,x6,x7,x8]) (st':=[A,B,.lst (iL (D3++[z])),.lst (G.map Gv.av)]) (by simp[e1,dN]) ?_
    refine ar (sl':=[Is n,Rs 2,Ls T,Rs 3,Is (q:Int),Ls r,Is z,x7,x8]) (st':=S) (by simp[p2,dN,hS]) ?_;refine ar (sl':=[Is n,Rs 2,Ls T,Rs 3,Is (q:Int),Ls r,Is z,some (.str (if sg=true then "=" else ">")),x8]) (st':=S) (by simp[m2,es,cA,rfs,rf]) ?_;refine ar (sl':=[Is n,Rs 2,Ls T,Rs 3,Is (q:Int),Ls r,Is z,some (.str (if sg=true then "=" else ">")),Is v]) (st':=S) (by simp[xv]) ?_;refine ar (sl':=[Is n,Rs 2,Ls T,Rs 3,Is (q:Int),Ls r,Is z,some (.str (if sg=true then "=" else ">")),Is du]) (st':=S) ?_ ?_
    ·have e:=Ko (st:=S) (a:=sg) (b:=true)
     generalize (AV.str (if sg=true then "=" else ">"))=w at e;rw[hdu];cases sg<;>simp[e,f2,m3]
    refine ar (sl':=[Is n,Rs 2,Ls T,Rs 3,Is (q:Int),Ls r,Is z,some (.str (if sg=true then "=" else ">")),Is dv]) (st':=S) ?_ ?_
    ·rw[hdv]
     by_cases h:z/6%8=0
     ·simp[f6,m8,h,f48,m9]
     ·simp[f6,m8,h]
    have ap:=qf (ks:=[ai,ba,aO]) (a:=.v 3) (e:=.tu (.cons (.v 5) (.cons (.v 7) (.cons (.v 8) .nil)))) (y:=(⟨r,sg,dv⟩:Gv).av) (k:=3) (xs:=G.map Gv.av) (sl:=[Is n,Rs 2,Ls T,Rs 3,Is (q:Int),Ls r,Is z,some (.str (if sg=true then "=" else ">")),Is dv]) (st:=[A,B,.lst (iL D3),.lst (G.map Gv.av)]) rfl rfl rfl (by simp;lia);rw[hS];refine ar ap ?_;show some _=some _;simp
   ·rcases zZ.mp hz' with h|h
    ·exact hz z h
    ·rw[zM.mp h];exact⟨hr,hrb,bd⟩
  ·rintro sl s ⟨D',G,rfl,hl,hd',hG,hz,x4,x5,x6,x7,x8,rfl⟩
   simp only[List.length_range]at hl hG;have fin':∀(D2:List Int)(G':List Gv),G'.length<=100->(∀z∈G',px n z)->okD D2->D1.length+1<=D2.length+160->∃r,(ah [ai,ba,aO] (.cons (.rt (.nw false (.sl (.v 3) .no (.so (.i 8))))) .nil) [Is n,Rs 2,Ls T,Rs 3,x4,x5,x6,x7,x8] [A,B,.lst (iL D2),.lst (G'.map Gv.av)]).bind aw=some r/\∃(D':List Int)(G:List Gv)(O:MT),r=(.fz (G.map Gv.av),[A,B,.lst (iL D'),O])/\G.length<=8/\(∀z∈G,px n z)/\okD D'/\D1.length+1<=D'.length+160:=fun D2 G' hG' hz' h1 h2=>by
    refine cD (v:=.fz ((G'.take 8).map Gv.av)) (st':=[A,B,.lst (iL D2),.lst (G'.map Gv.av)]) ?_ ⟨D2,G'.take 8,_,rfl,by rw[List.length_take];lia,fun z hz=>hz' z (List.mem_of_mem_take hz),h1,h2⟩;have cu:cut (G'.map Gv.av) none (some 8)=(G'.take 8).map Gv.av:=by
     unfold cut;rw[HT.sIx_none,show(8:Int)=((8:Nat):Int) from rfl,HT.sIx_nat,zH,List.drop_zero,Nat.sub_zero,List.map_take];rcases Nat.le_total 8 G'.length with h|h
     ·rw[Nat.min_eq_left h]
     ·rw[Nat.min_eq_right h,List.take_of_length_le (by simp),List.take_of_length_le (by simpa using h)]
    have l3:bO [A,B,.lst (iL D2),.lst (G'.map Gv.av)] (.ref 3)=some (G'.map Gv.av):=bK rfl;have rr:rfs ((G'.take 8).map Gv.av)=true:=om _;simp[-List.map_take,lI,lF,A9,l3,cu,rr]
   have ne:=Ho (st:=[A,B,.lst (iL D'),.lst (G.map Gv.av)]) (r:=3) (G:=G) rfl;cases G with
   |nil =>
    refine ag (sl':=[Is n,Rs 2,Ls T,Rs 3,x4,x5,x6,x7,x8]) (st':=[A,B,.lst (iL D'),.lst (([]:List Gv).map Gv.av)]) ?_ (fin' D' [] (by simp) (by simp) hd' oM);simp at ne;simp[ne,cA]
   |cons z0 G =>
    obtain⟨D2,y,rfl⟩:=fV (D:=D') (fun e=>by rw[e]at hl;simp at hl;lia);obtain⟨hy,hd2⟩:=hd'.at;simp only[zV,List.length_singleton]at hl;have p2:=jk (A:=A) (B:=B) (R:=[.lst ((z0::G).map Gv.av)]) (D:=D2) (x:=y);have m8:aQ .Mod [A,B,.lst (iL D2),.lst ((z0::G).map Gv.av)] (.int y) (.int 8)=some (.int (y%8)):=dq dC;have tt:tv [ai,ba,aO] (.an (.cmp .NotEq (.v 3) (.nw false (.li .nil))) (.cmp .Eq (.bin .Mod (.ca false 0 (.cons (.v 1) .nil)) (.i 8)) (.i 0))) [Is n,Rs 2,Ls T,Rs 3,x4,x5,x6,x7,x8] [A,B,.lst (iL (D2++[y])),.lst ((z0::G).map Gv.av)]=some (decide (y%8=0),[A,B,.lst (iL D2),.lst ((z0::G).map Gv.av)]):=by
     generalize (z0::G).map Gv.av=GG at ne p2 m8;simp[ne,p2,dN,m8,cA]
    by_cases h8:y%8=0
    ·refine ag (sl':=[Is n,Rs 2,Ls T,Rs 3,x4,x5,x6,x7,x8]) (st':=[A,B,.lst (iL D2),.lst ((z0::G++[z0]).map Gv.av)]) ?_ (fin' D2 (z0::G++[z0]) (by simp at hG ⊢;lia) (fun z h=>by
      rcases zZ.mp h with h|h
      ·exact hz z h
      ·rw[zM.mp h];exact hz z0 z7) hd2 oM)
     have ap:=qf (ks:=[ai,ba,aO]) (a:=.v 3) (e:=.ix (.v 3) (.i 0)) (y:=z0.av) (k:=3) (xs:=(z0::G).map Gv.av) (sl:=[Is n,Rs 2,Ls T,Rs 3,x4,x5,x6,x7,x8]) (st:=[A,B,.lst (iL D2),.lst ((z0::G).map Gv.av)]) rfl (by
      have:aP [A,B,.lst (iL D2),.lst ((z0::G).map Gv.av)] (.ref 3) (.int 0)=some z0.av:=by
       rw[cP (bK (xs:=(z0::G).map Gv.av) rfl),show(0:Int)=((0:Nat):Int) from rfl,cF];rfl
      simp only[uj,mM,sR,jY,jX,bind_some,this,map_some]) rfl (by simp at hG ⊢;lia)
     rw[iP,tt,bind_some,yW h8];show ah _ _ _ _=_;refine ar ap ?_;show some _=some _;simp
    ·refine ag (sl':=[Is n,Rs 2,Ls T,Rs 3,x4,x5,x6,x7,x8]) (st':=[A,B,.lst (iL D2),.lst ((z0::G).map Gv.av)]) ?_ (fin' D2 (z0::G) oM hz hd2 oM)
     rw[iP,tt,bind_some,yA h8];rfl
 obtain⟨r,e,D',G,O,rfl,h⟩:=key;exact⟨D',G,O,e,h⟩
end
section
variable{st:aa}{n g k j:Nat}{A B:MT}{D T:List Int}{ns:List Int}
theorem uU(hns:ns.length<=63):∃(n:Nat)(T:List Int)(G:List Gv)(goal D:List Int)(A B O:MT),dg [.fz (iL ns)] []=some (.tup [.int n,.fz (iL T),.fz (G.map Gv.av),.fz (iL goal),.ref 2],[A,B,.lst (iL D),O])/\jv n/\G.length<=8/\(∀z∈G,px n z)/\goal.length=2^n-1/\xO goal/\okD D/\100<=D.length/\T.length=2^n-1/\∀x∈T,0<=x/\x<=10000000000:=by
 obtain ⟨A,B,D,e1,hD,hd⟩:=Dc hns;obtain ⟨D1,x,rfl⟩:=fV (D:=D) (fun z=>by rw [z] at hD;cases hD);have hd:okD (D1++[x]):=hd;obtain ⟨hx,hd1⟩:=hd.at;simp only [zV,List.length_singleton] at hD;have p:=jk (A:=A) (B:=B) (R:=[]) (D:=D1) (x:=x);have w1:=Int.emod_nonneg x (show (8:Int) ≠ 0 by decide);have w2:=Int.emod_lt_of_pos x (show (0:Int) < 8 by decide);obtain ⟨v,hv,xv⟩:=lx (st:=[A,B,.lst (iL D1)]) (l:=[.int 1,.int 2,.int 2,.int 3,.int 3,.int 3,.int 3,.int 4]) w1 w2;obtain ⟨n,rfl,hn⟩:∃ n:Nat,v=.int (n:Int)/\jv n:=by
  unfold jv;simp only[zT,zX,or_false]at hv;rcases hv with rfl|rfl|rfl|rfl|rfl|rfl|rfl|rfl
  ·exact⟨1,rfl,by decide⟩
  ·exact⟨2,rfl,by decide⟩
  ·exact⟨2,rfl,by decide⟩
  ·exact⟨3,rfl,by decide⟩
  ·exact⟨3,rfl,by decide⟩
  ·exact⟨3,rfl,by decide⟩
  ·exact⟨3,rfl,by decide⟩
  ·exact⟨4,rfl,by decide⟩
 obtain ⟨D2,T,e2,hT,hd2,hl2⟩:=BY (A:=A) (B:=B) (R:=[]) (D:=D1) hn oM hd1;obtain ⟨D3,G,O,e3,hG,hz,hd3,hl3⟩:=Aq (A:=A) (B:=B) (D:=D2) hn oM hd2 hT;obtain ⟨D4,goal,e4,hg,hgb,hd4,hl4⟩:=uJ (A:=A) (B:=B) (R:=[O]) (D:=D3) hn oM hd3;refine ⟨n,T,G,goal,D4,A,B,O,?_,hn,hG,hz,hg,hgb,hd4,by lia,hT⟩;rw [dg,aA];show (ah [eF,ai,dL,c8,ba] d5 [Ls ns,none,none,none,none] []).bind aw=_;unfold d5;refine ae (sl':=[Ls ns,Rs 2,none,none,none]) (st':=[A,B,.lst (iL (D1++[x]))]) (by simp [e1,dN]) ?_;refine ae (sl':=[Ls ns,Rs 2,Is n,none,none]) (st':=[A,B,.lst (iL D1)]) (by simp [p,dN,dq (show (0:Int) < 8 by decide),xv,cA,rfs,rf]) ?_;refine ae (sl':=[Ls ns,Rs 2,Is n,Ls T,none]) (st':=[A,B,.lst (iL D2)]) (by simp [e2,dN]) ?_;refine ae (sl':=[Ls ns,Rs 2,Is n,Ls T,Zs (G.map Gv.av)]) (st':=[A,B,.lst (iL D3),O]) (by simp [e3,dN]) ?_;refine c4 ?_;simp [e4,dN]
end
section
variable{st:aa}{ns:List Int}
theorem Jw{x:AV}(h:rf x=true):pm bw [.tup [.str "never",x]] st=some (.tup [.str "never"],st):=by
 refine b9 (by simp[rfs,rf,h]) (v:=.tup [.str "never"]) (st':=[]) ?_ rfl;rw[bw,aA];show(ah [] df [some (.tup [.str "never",x])] []).bind aw=_;have i0:aP [] (.tup [.str "never",x]) (.int 0)=some (.str "never"):=rfl;have eq:bh .Eq [] (.str "never") (.str "least")=some false:=by kernel_rfl
 refine ae (sl':=[some (.tup [.str "never",x])]) (st':=[]) (by simp[i0,eq]) (c4 ?_);simp[i0]
theorem Jy{x y:AV}(h:(rf x&&rf y)=true):pm bw [.tup [.str "endless",x,y]] st=some (.tup [.str "endless"],st):=by
 rw[zC]at h;refine b9 (by simp[rfs,rf,h.1,h.2]) (v:=.tup [.str "endless"]) (st':=[]) ?_ rfl;rw[bw,aA];show(ah [] df [some (.tup [.str "endless",x,y])] []).bind aw=_;have i0:aP [] (.tup [.str "endless",x,y]) (.int 0)=some (.str "endless"):=rfl;have eq:bh .Eq [] (.str "endless") (.str "least")=some false:=by kernel_rfl
 refine ae (sl':=[some (.tup [.str "endless",x,y])]) (st':=[]) (by simp[i0,eq]) (c4 ?_);simp[i0]
theorem Jx{x y z:AV}{p q:Int}(h:(rf x&&rf y&&rf z)=true):pm bw [.tup [.str "least",.tup [.int p,.int q],x,y,z]] st=some (.tup [.str "least",.tup [.int p,.int q]],st):=by
 simp only[zC]at h;refine b9 (by simp[rfs,rf,h.1.1,h.1.2,h.2]) (v:=.tup [.str "least",.tup [.int p,.int q]]) (st':=[]) ?_ rfl;rw[bw,aA];show(ah [] df [some (.tup [.str "least",.tup [.int p,.int q],x,y,z])] []).bind aw=_;have i0:aP [] (.tup [.str "least",.tup [.int p,.int q],x,y,z]) (.int 0)=some (.str "least"):=rfl;have i1:aP [] (.tup [.str "least",.tup [.int p,.int q],x,y,z]) (.int 1)=some (.tup [.int p,.int q]):=rfl;have eq:bh .Eq [] (.str "least") (.str "least")=some true:=by kernel_rfl
 refine c4 (s:=.iff _ _ _) ?_;simp[i0,i1,eq,iq]
end
section
variable{st:aa}{w:Nat}{RR:List (List Int)}{gv gv':List Gv}{goal:List Int}{u u':AV}
inductive VG(w:Nat)(RR:List (List Int))(gv:List Gv)(goal:List Int):AV->Prop where
 |never (h:∀Y e,0<e->¬Kp w RR gv Y e):VG w RR gv goal (.tup [.str "never"])
 |least {p q c:Int}{X:Nat->Int} (hc:0<c) (hq:0<q) (bp:p.natAbs<2^9000) (bq:q.natAbs<2^9000) (lo:Nat.gcd p.natAbs q.natAbs=1) (hX:Kp w RR gv X (q*c)/\val w goal X=p*c) (h:∀Y e,0<e->Kp w RR gv Y e->p*c*e<=val w goal Y*(q*c)):VG w RR gv goal (.tup [.str "least",.tup [.int p,.int q]])
 |endless {X Z:Nat->Int}{d:Int} (hd:0<d) (hX:Kp w RR gv X d) (hZ:Kp w RR gv Z 0) (hn:val w goal Z<0):VG w RR gv goal (.tup [.str "endless"])
theorem CZ{T d:Int}(hd:0<d):Nat.gcd (gI (aq [T,d]) 0).natAbs (gI (aq [T,d]) 1).natAbs=1:=by
 have hg:gL [T,d]=Nat.gcd T.natAbs d.natAbs:=by
  show Nat.gcd (Nat.gcd 0 T.natAbs) d.natAbs=_;rw[Nat.gcd_zero_left]
 have hp:0<Nat.gcd T.natAbs d.natAbs:=Nat.gcd_pos_of_pos_right _ oM;have e:aq [T,d]=[T/(Nat.gcd T.natAbs d.natAbs:Int),d/(Nat.gcd T.natAbs d.natAbs:Int)]:=by
  unfold aq;rw[yH (by rw[hg];lia),hg];rfl
 have d1:((Nat.gcd T.natAbs d.natAbs:Nat):Int) ∣ T:=Int.dvd_natAbs.mp (Int.natCast_dvd_natCast.mpr (Nat.gcd_dvd_left _ _));have d2:((Nat.gcd T.natAbs d.natAbs:Nat):Int) ∣ d:=Int.dvd_natAbs.mp (Int.natCast_dvd_natCast.mpr (Nat.gcd_dvd_right _ _));have f1:=congrArg Int.natAbs (Int.ediv_mul_cancel d1);have f2:=congrArg Int.natAbs (Int.ediv_mul_cancel d2);rw[xA,Int.natAbs_natCast]at f1 f2;rw[e];show Nat.gcd (T / _).natAbs (d / _).natAbs=1;generalize hk:Nat.gcd (T/((Nat.gcd T.natAbs d.natAbs:Nat):Int)).natAbs (d/((Nat.gcd T.natAbs d.natAbs:Nat):Int)).natAbs=k;have k1:k ∣ (T/((Nat.gcd T.natAbs d.natAbs:Nat):Int)).natAbs:=hk▸Nat.gcd_dvd_left _ _;have k2:k ∣ (d/((Nat.gcd T.natAbs d.natAbs:Nat):Int)).natAbs:=hk▸Nat.gcd_dvd_right _ _;have m1:=Nat.mul_dvd_mul_right k1 (Nat.gcd T.natAbs d.natAbs);have m2:=Nat.mul_dvd_mul_right k2 (Nat.gcd T.natAbs d.natAbs);rw[f1]at m1;rw[f2]at m2;have m3:=Nat.le_of_dvd hp (Nat.dvd_gcd m1 m2);have k0:0<k:=by
  rw[<- hk];refine Nat.gcd_pos_of_pos_right _ (Nat.pos_of_ne_zero fun z=>?_);rw[z,Nat.zero_mul]at f2;lia
 have:k<=1:=Nat.le_of_mul_le_mul_right (c:=Nat.gcd T.natAbs d.natAbs) oM hp;lia
theorem Af{p1 q1 p2 q2:Int}(h1:Nat.gcd p1.natAbs q1.natAbs=1)(h2:Nat.gcd p2.natAbs q2.natAbs=1)(k1:0<q1)(k2:0<q2)(e:p1*q2=p2*q1):p1=p2/\q1=q2:=by
 have e':=congrArg Int.natAbs e;rw[xA,xA]at e';have c1:Nat.Coprime q1.natAbs p1.natAbs:=by rw[Nat.Coprime,Nat.gcd_comm];exact h1
 have c2:Nat.Coprime q2.natAbs p2.natAbs:=by rw[Nat.Coprime,Nat.gcd_comm];exact h2
 have d1:q1.natAbs ∣ q2.natAbs:=c1.dvd_of_dvd_mul_left (by rw[e'];exact Nat.dvd_mul_left _ _);have d2:q2.natAbs ∣ q1.natAbs:=c2.dvd_of_dvd_mul_left (by rw[<- e'];exact Nat.dvd_mul_left _ _);have d3:=Nat.dvd_antisymm d1 d2;have eq:q1=q2:=by lia
 subst eq;exact⟨Int.eq_of_mul_eq_mul_right oM e,rfl⟩
theorem Kp.up{Y:Nat->Int}{e c:Int}(hc:0<=c)(h:Kp w RR gv Y e):Kp w RR gv (fun x=>c*Y x) (c*e):=by
 have ev:∀r,val w r (fun x=>c*Y x)=c*val w r Y:=fun r=>g7 fun _ _=>rfl
 refine⟨fun r hr=>?_,fun z hz he=>?_,fun z hz he=>?_⟩
 ·rw[ev];exact Int.mul_nonneg hc (h.rule r hr)
 ·rw[ev,h.eq z hz he];grind
 ·rw[ev,show z.num*(c*e)=c*(z.num*e) by grind]
  exact Int.mul_le_mul_of_nonneg_left (h.ge z hz he) hc
theorem VG.nev(h:∀Y e,0<e->¬Kp w RR gv Y e)(V:VG w RR gv goal u):u=.tup [.str "never"]:=by
 cases V with
 |never _=>rfl
 |least hc hq _ _ _ hX _=>exact absurd hX.1 (h _ _ (Int.mul_pos hq hc))
 |endless hd hX _ _=>exact absurd hX (h _ _ hd)
theorem VG.uniq(V:VG w RR gv goal u)(V':VG w RR gv' goal u')(hK:∀Y e,0<=e->(Kp w RR gv Y e ↔ Kp w RR gv' Y e)):u=u':=by
 cases V with
 |never h=>rw[V'.nev fun Y e he hk=>h Y e he ((hK Y e (Int.le_of_lt he)).mpr hk)]
 |@least p q c X hc hq _ _ lo hX h =>
  cases V' with
  |never h'=>exact absurd ((hK _ _ (Int.le_of_lt (Int.mul_pos hq hc))).mp hX.1) (h' _ _ (Int.mul_pos hq hc))
  |endless _ _ hZ hn=>have:=qr (Int.mul_pos hq hc) hX h ((hK _ _ (Int.le_refl _)).mpr hZ);lia
  |@least p' q' c' X' hc' hq' _ _ lo' hX' h' =>
   have f1:=h X' _ (Int.mul_pos hq' hc') ((hK _ _ (Int.le_of_lt (Int.mul_pos hq' hc'))).mpr hX'.1);have f2:=h' X _ (Int.mul_pos hq hc) ((hK _ _ (Int.le_of_lt (Int.mul_pos hq hc))).mp hX.1);rw[hX'.2]at f1;rw[hX.2]at f2;have cc:=Int.mul_pos hc hc';have g1:p*q'<=p'*q:=Int.le_of_mul_le_mul_right (a:=c*c') (by rw[show p*q'*(c*c')=p*c*(q'*c') by grind,show p'*q*(c*c')=p'*c'*(q*c) by grind];exact f1) cc;have g2:p'*q<=p*q':=Int.le_of_mul_le_mul_right (a:=c*c') (by rw[show p'*q*(c*c')=p'*c'*(q*c) by grind,show p*q'*(c*c')=p*c*(q'*c') by grind];exact f2) cc;obtain⟨rfl,rfl⟩:=Af lo lo' hq hq' oM;rfl
 |endless hd hX hZ hn =>
  cases V' with
  |never h'=>exact absurd ((hK _ _ (Int.le_of_lt hd)).mp hX) (h' _ _ hd)
  |least hc hq _ _ _ hX' h'=>have:=qr (Int.mul_pos hq hc) hX' h' ((hK _ _ (Int.le_refl _)).mp hZ);lia
  |endless _ _ _ _=>rfl
theorem AQ{t:AV}(A:qj w RR gv goal t):∃u,(∀st,pm bw [t] st=some (u,st))/\VG w RR gv goal u:=by
 rcases A with⟨⟨W,rfl⟩,h⟩|⟨T,d,X,D,K,W,rfl,hd,⟨bT,bd⟩,⟨TX,vX⟩,h⟩|⟨X,D,Z,rfl,TX,hZ,KZ,vZ⟩
 ·exact⟨_,fun st=>Jw rfl,.never h⟩
 ·obtain⟨c,hc,e1,e2,hq⟩:=wR (T:=T) hd
  have lo:=CZ (T:=T) hd;refine⟨_,fun st=>Jx rfl,?_⟩;have bp:=dP (p7 e1 hc bT) dC;have bq:=dP (p7 e2 hc bd) dC;generalize gI (aq [T,d]) 0=p at *;generalize gI (aq [T,d]) 1=q at *;rw[e1,e2]at vX;have v2:val w goal (gI X)*q=p*D:=Int.eq_of_mul_eq_mul_right (a:=c) oM (by rw[show val w goal (gI X)*q*c=val w goal (gI X)*(q*c) by grind,vX];grind);have hq2:=Int.mul_pos hq TX.pos;refine .least (X:=fun x=>q*gI X x) TX.pos hq bp bq lo ⟨TX.kp.up (Int.le_of_lt hq),?_⟩ fun Y e he K=>?_
  ·rw[g7 fun _ _=>rfl,Int.mul_comm];exact v2
  ·have:=h Y e he K
   rw[e1,e2]at this;have h4:p*e<=val w goal Y*q:=Int.le_of_mul_le_mul_right (a:=c) (by rw[show p*e*c=p*c*e by grind,show val w goal Y*q*c=val w goal Y*(q*c) by grind];exact this) hc;have h5:=Int.mul_le_mul_of_nonneg_right h4 (Int.le_of_lt TX.pos);rw[show p*D*e=p*e*D by grind,show val w goal Y*(q*D)=val w goal Y*q*D by grind];exact h5
 ·exact⟨_,fun st=>Jy rfl,.endless TX.pos TX.kp KZ vZ⟩
end
abbrev KL:List Fn:=[dg,dW,eE,bw,eD,aO]
section
variable{st:aa}{n:Nat}{A B:MT}{R:aa}{D T:List Int}{w:Nat}{RR:List (List Int)}{gv:List Gv}{goal:List Int}{u u':AV}{z:Gv}{Y:Nat->Int}{e:Int}
theorem yr(hn:jv n)(hD:40<=D.length)(hd:okD D)(hT:T.length=2^n-1/\∀x∈T,0<=x/\x<=10000000000):∃(D':List Int)(z:Gv),dW [.int n,.ref 2,.fz (iL T)] (A::B::.lst (iL D)::R)=some (z.av,A::B::.lst (iL D')::R)/\px n z:=by
 have hN:2^n-1<=15:=by rcases hn with rfl|rfl|rfl|rfl<;>decide
 obtain⟨D1,r,e1,hr,hrb,hd1,hl⟩:=uJ (A:=A) (B:=B) (R:=R) (D:=D) hn oM hd;obtain⟨D2,x,rfl⟩:=fV (D:=D1) (fun z=>by rw[z]at hl;simp at hl;lia);have p2:=jk (A:=A) (B:=B) (R:=R) (D:=D2) (x:=x);obtain⟨v,bv,xv⟩:=qS (T:=T) oM hrb ⟨by lia,hT.2⟩;obtain⟨S,hS⟩:∃S,S=A::B::MT.lst (iL D2)::R:=⟨_,rfl⟩;have xv:=xv S;obtain⟨sg,es⟩:∃sg:Bool,aP S (.fz [.str "=",.str ">"]) (.int (x%2))=some (.str (if sg=true then "=" else ">")):=by
  rcases Int.emod_two_eq x with h|h<;>rw[h]
  ·exact⟨true,rfl⟩
  ·exact⟨false,rfl⟩
 obtain⟨du,hdu⟩:∃du:Int,du=if x/8%3=0 then x/24%5-2 else v-x/2%4+1:=⟨_,rfl⟩
 have bd:du.natAbs<=10000000000000000000000000000000010:=by
  have:=Int.emod_nonneg (x / 24) (show (5:Int) ≠ 0 by decide)
  have:=Int.emod_lt_of_pos (x / 24) (show (0:Int) < 5 by decide)
  have:=Int.emod_nonneg (x / 2) (show (4:Int) ≠ 0 by decide)
  have:=Int.emod_lt_of_pos (x / 2) (show (0:Int) < 4 by decide)
  rw[hdu];split<;>lia
 refine⟨D2,⟨r,sg,du⟩,?_,hr,hrb,bd⟩;rw[dW,aA];show(ah [ba,ai,aO] fm [Is n,Rs 2,Ls T,none,none,none] (A::B::.lst (iL D)::R)).bind aw=_;unfold fm;refine ae (sl':=[Is n,Rs 2,Ls T,Ls r,none,none]) (st':=A::B::.lst (iL (D2++[x]))::R) (by simp[e1,dN]) ?_;refine ae (sl':=[Is n,Rs 2,Ls T,Ls r,Is x,none]) (st':=S) (by simp[p2,dN,hS]) ?_;rw[<- hS];have f2:aQ .FloorDiv S (.int x) (.int 2)=some (.int (x/2)):=iH rfl dC;have f8:aQ .FloorDiv S (.int x) (.int 8)=some (.int (x/8)):=iH rfl dC;have f24:aQ .FloorDiv S (.int x) (.int 24)=some (.int (x/24)):=iH rfl dC;have m4:aQ .Mod S (.int (x/2)) (.int 4)=some (.int (x/2%4)):=dq dC;have m3:aQ .Mod S (.int (x/8)) (.int 3)=some (.int (x/8%3)):=dq dC;have m5:aQ .Mod S (.int (x/24)) (.int 5)=some (.int (x/24%5)):=dq dC;have m2:aQ .Mod S (.int x) (.int 2)=some (.int (x%2)):=dq dC;refine ae (sl':=[Is n,Rs 2,Ls T,Ls r,Is x,Is (v-x/2%4+1)]) (st':=S) (by simp[xv,f2,m4]) ?_;refine ae (sl':=[Is n,Rs 2,Ls T,Ls r,Is x,Is du]) (st':=S) ?_ (c4 ?_)
 ·rw[hdu]
  by_cases h:x/8%3=0
  ·simp[f8,m3,h,f24,m5]
  ·simp[f8,m3,h]
 ·simp[m2,es,cA,rfs,rf,Gv.av]
theorem kp_app:Kp w RR (gv++[z]) Y e ↔ Kp w RR gv Y e/\Hd w z Y e:=by
 constructor
 ·intro h
  refine⟨⟨h.rule,fun y hy=>h.eq y (zL _ hy),fun y hy=>h.ge y (zL _ hy)⟩,?_,fun he=>h.eq z (by simp) he⟩;cases hz:z.eq with
  |true=>exact Int.le_of_eq (h.eq z (by simp) hz).symm
  |false=>exact h.ge z (by simp) hz
 ·rintro⟨h,h1,h2⟩
  refine⟨h.rule,fun y hy he=>?_,fun y hy he=>?_⟩
  ·rcases zZ.mp hy with hy|hy
   ·exact h.eq y hy he
   ·rw[zM.mp hy]at he ⊢;exact h2 he
  ·rcases zZ.mp hy with hy|hy
   ·exact h.ge y hy he
   ·rw[zM.mp hy];exact h1
theorem FQ{X:Nat->Int}{d:Int}(hd:0<d)(hX:Kp w RR gv X d)(h:∀Y e,0<e->Kp w RR gv Y e->Hd w z Y e)(hY:Kp w RR gv Y 0):Hd w z Y 0:=by
 obtain⟨M,hM⟩:∃M:Int,M=max 0 (val w z.row X-z.num*d)+1:=⟨_,rfl⟩;have a1:=h _ d hd (hX.add (hY.scale (c:=M) oM));have a2:=h _ d hd hX;have ev:val w z.row (fun x=>X x+M*Y x)=val w z.row X+M*val w z.row Y:=by
  rw[jr (X:=X) (Z:=fun x=>M*Y x),g7 fun _ _=>rfl]
 unfold Hd at a1 a2 ⊢;rw[ev]at a1;rw[yP];have pos:0<=val w z.row Y:=by
  apply Classical.byContradiction;intro hn;have:M*val w z.row Y<=M*(-1):=Int.mul_le_mul_of_nonneg_left oM oM;lia
 refine⟨pos,fun he=>?_⟩;have b1:=a1.2 he;have b2:=a2.2 he;have:M*val w z.row Y=0:=by lia
 rcases Int.mul_eq_zero.mp this with h|h
 ·lia
 ·exact h
theorem wP(h:∀Y e,0<e->Kp w RR gv Y e->Hd w z Y e)(V:VG w RR gv goal u)(V':VG w RR (gv++[z]) goal u'):u'=u:=by
 by_cases hx:∃X d,0<d/\Kp w RR gv X d
 ·obtain⟨X,d,hd,hX⟩:=hx
  exact(V.uniq V' fun Y e he=>⟨fun K=>kp_app.mpr ⟨K,by
   by_cases e0:e=0
   ·subst e0;exact FQ hd hX h K
   ·exact h Y e oM K⟩,fun K=>(kp_app.mp K).1⟩).symm
 ·rw[V.nev fun Y e he K=>hx ⟨Y,e,he,K⟩,V'.nev fun Y e he K=>hx ⟨Y,e,he,(kp_app.mp K).1⟩]
theorem HZ{p q:Int}:kb st (.tup [.str "least",.tup [.int p,.int q]]) (.tup [.str "least",.tup [.int p,.int q]])=some true:=by
 unfold kb;show(if DD.pyOk _ _=true then some (PyData.eqv (.tuple [.str "least",.tuple [.int p,.int q]]) (.tuple [.str "least",.tuple [.int p,.int q]])) else _)=_;rw[yI (by kernel_rfl)];simp[PyData.eqv,PyData.eqvAll]
theorem VG.eq(V:VG w RR gv goal u):bh .Eq st u u=some true:=by
 cases V with
 |never _=>kernel_rfl
 |endless _ _ _ _=>kernel_rfl
 |least _ _ _ _ _ _ _=>exact HZ
theorem ip{ks:List Fn}{ss b:M6}{c:Tx}{sl:Sl}{P:AV×aa->Prop}(h:tv ks c sl st=some (false,st))(h2:∃r,(ah ks ss sl st).bind aw=some r/\P r):∃r,(ah ks (.cons (.iff c b .nil) ss) sl st).bind aw=some r/\P r:=ag (sl':=sl) (st':=st) (by rw[iP,h];rfl) h2
end
section
variable{ns:List Int}
theorem Hy(hns:ns.length<=63):∃st,ox [.fz (iL ns)] []=some (.bl true,st):=by
 have key:∃r,ox [.fz (iL ns)] []=some r/\r.1=.bl true:=by
  obtain⟨n,T,G0,goal,D,A,B,O,e1,hn,hG0,hz0,hg,hgb,hd,hD,hT⟩:=uU hns;have hN:2^n-1<=15:=by rcases hn with rfl|rfl|rfl|rfl<;>decide
  have M1:10000000000000000000000000000000010<=M0:=by unfold M0;decide
  obtain⟨G,hG⟩:∃G,G=G0.take 7:=⟨_,rfl⟩;have Gl:G.length<=7:=by rw[hG,List.length_take];lia
  have bz0:∀z,px n z->z.row.length=2^n-1/\(∀x∈z.row,x.natAbs<=M0)/\z.num.natAbs<=M0:=fun z h=>⟨h.1,fun x hx=>z5 (h.2.1 x hx) (z5 dC M1),z5 h.2.2 M1⟩
  have bz:∀z∈G,z.row.length=2^n-1/\(∀x∈z.row,x.natAbs<=M0)/\z.num.natAbs<=M0:=fun z h=>bz0 z (hz0 z (List.mem_of_mem_take (hG▸h)))
  have bg:∀x∈goal,x.natAbs<=M0:=fun x hx=>z5 (hgb x hx) (z5 dC M1)
  obtain⟨D2,z,e2,hz⟩:=yr (A:=A) (B:=B) (R:=[O]) (D:=D) hn oM hd hT;obtain⟨q0,a0,A0⟩:=sA (Ee (goal:=goal) hn oM bz ⟨hg,bg⟩);obtain⟨u0,c0,V0⟩:=AQ A0;obtain⟨q1,a1,A1⟩:=sA (Ee (gv:=G++[z]) (goal:=goal) hn (by simp;lia) (fun y h=>by
   rcases zZ.mp h with h|h
   ·exact bz y h
   ·rw[zM.mp h];exact bz0 z hz) ⟨hg,bg⟩)
  obtain⟨u1,c1,V1⟩:=AQ A1;obtain⟨t,f1,F⟩:=Kn (gv:=G) (z:=z) hn oM bz (bz0 z hz);obtain⟨S,hS⟩:∃S,S=[A,B,.lst (iL D2),O]:=⟨_,rfl⟩;have a0:=a0 S;have c0:=c0 S;have a1:=a1 S;have c1:=c1 S;have f1:=f1 S;rw[<- hS]at e2;have rz:rf z.av=true:=by simp[Gv.av,rf,rfs,dy]
  have rG:rfs (G.map Gv.av)=true:=om _;have eG:(G++[z]).map Gv.av=G.map Gv.av++[z.av]:=by simp
  rw[eG]at a1;have lG:(G.map Gv.av).length<=7:=by simpa using Gl
  have rG2:rfs (G.map Gv.av++[z.av])=true:=by rw[<- eG];exact om _
  have cu:cut (G0.map Gv.av) none (some 7)=G.map Gv.av:=by
   unfold cut;rw[HT.sIx_none,show(7:Int)=((7:Nat):Int) from rfl,HT.sIx_nat,zH,List.drop_zero,Nat.sub_zero,hG,List.map_take];rcases Nat.le_total 7 G0.length with h|h
   ·rw[Nat.min_eq_left h]
   ·rw[Nat.min_eq_right h,List.take_of_length_le (by simp),List.take_of_length_le (by simpa using h)]
  rw[ox,aA];show ∃r,(ah KL qd [Ls ns,none,none,none,none,none,none,none,none,none,none,none] []).bind aw=some r/\_;unfold qd;refine ag (sl':=[Ls ns,Is n,Ls T,Zs (G0.map Gv.av),Ls goal,Rs 2,none,none,none,none,none,none]) (st':=[A,B,.lst (iL D),O]) (by rw[fR];simp only[ms,dX,fc,mM,jY,jX,bind_some,p6,mE,mD,e1];rfl) ?_;generalize G0.map Gv.av=GG at cu ⊢;generalize hzz:z.av=zz at *;generalize G.map Gv.av=GA at *;refine ag (sl':=[Ls ns,Is n,Ls T,Zs GA,Ls goal,Rs 2,none,none,none,none,none,none]) (st':=[A,B,.lst (iL D),O]) (by simp[lI,lF,A9,cu,rG]) ?_;refine ag (sl':=[Ls ns,Is n,Ls T,Zs GA,Ls goal,Rs 2,some zz,none,none,none,none,none]) (st':=S) (by simp[e2,dN]) ?_;refine ag (sl':=[Ls ns,Is n,Ls T,Zs GA,Ls goal,Rs 2,some zz,some u0,none,none,none,none]) (st':=S) (by simp[a0,c0]) ?_;refine ag (sl':=[Ls ns,Is n,Ls T,Zs GA,Ls goal,Rs 2,some zz,some u0,some u1,none,none,none]) (st':=S) (by
   have z1:cA (GA.length+1)=true:=cg oM;have z2:cA 1=true:=rfl;simp[qK,z1,z2,rfs,rz,rG2,a1,c1]) ?_
  refine ag (sl':=[Ls ns,Is n,Ls T,Zs GA,Ls goal,Rs 2,some zz,some u0,some u1,some t,none,none]) (st':=S) (by simp[f1]) ?_;rcases F with⟨ps,rfl,h⟩|⟨V,E,rfl,TV,hV⟩
  ·obtain rfl:=wP h V0 V1
   have i0:aP S (.tup [.bl true,.fz (ps.map Pp.av)]) (.int 0)=some (.bl true):=rfl;have eq:=V0.eq (st:=S);refine cD (v:=.bl true) (st':=S) ?_ rfl;generalize AV.tup [.bl true,.fz (ps.map Pp.av)]=t at *;simp[i0,mN,eq,iq]
  obtain⟨vl,bV,bE⟩:=(⟨TV.len,TV.bd.1,TV.bd.2⟩:V.length=2^n-1/\(∀x∈V,x.natAbs<2^9000)/\E.natAbs<2^9000);have b100:∀x∈goal,x.natAbs<2^100:=fun x hx=>yM (hgb x hx) dC
  have lv:=Bg (st:=S) (r:=goal) (T:=V) oM oM (fun x hx=>dP (b100 x hx) dC) bV;rw[hg]at lv;have bv:=mL hg vl hN b100 bV;obtain⟨tt,htt⟩:∃tt,tt=AV.tup [.bl false,.tup [.fz (iL V),.int E]]:=⟨_,rfl⟩;have i0:aP S tt (.int 0)=some (.bl false):=by rw[htt];rfl
  have i1:aP S tt (.int 1)=some (.tup [.fz (iL V),.int E]):=by rw[htt];rfl
  rw[<- htt];refine ip (by simp[i0,mN]) ?_;have q1:bh .Eq S (.str "endless") (.str "never")=some false:=by kernel_rfl
  have q2:bh .Eq S (.str "endless") (.str "least")=some false:=by kernel_rfl
  have q3:bh .Eq S (.str "endless") (.str "endless")=some true:=by kernel_rfl
  have r1:bh .Eq S (.str "least") (.str "never")=some false:=by kernel_rfl
  have r2:bh .Eq S (.str "least") (.str "least")=some true:=by kernel_rfl
  have r3:bh .Eq S (.str "least") (.str "endless")=some false:=by kernel_rfl
  cases V0 with
  |never h=>exact absurd TV.kp (h _ _ TV.pos)
  |endless _ _ _ _ =>
   have w7:aP S (.tup [.str "endless"]) (.int 0)=some (.str "endless"):=rfl;refine ip (by simp[w7,q1,q2]) ?_;exact cD (v:=.bl true) (st':=S) (by simp[w7,q3,iq]) rfl
  |@least p q c X hc hq bp bq lo hX h =>
   have fv:=h _ _ TV.pos TV.kp;have fv:p*E<=val (2^n-1) goal (gI V)*q:=Int.le_of_mul_le_mul_right (a:=c) (by rw[show p*E*c=p*c*E by grind,show val (2^n-1) goal (gI V)*q*c=val (2^n-1) goal (gI V)*(q*c) by grind];exact fv) hc;have mv:aQ .Mult S (.int (val (2^n-1) goal (gI V))) (.int q)=some (.int (val (2^n-1) goal (gI V)*q)):=aZ (J5 bv bq dC dC);have me:aQ .Mult S (.int p) (.int E)=some (.int (p*E)):=aZ (cm bp bE);have j0:∀p q:Int,aP S (.tup [.int p,.int q]) (.int 0)=some (.int p):=fun _ _=>rfl
   have j1:∀p q:Int,aP S (.tup [.int p,.int q]) (.int 1)=some (.int q):=fun _ _=>rfl
   have F8:∃s,aP S u1 (.int 0)=some (.str s)/\bh .Eq S (.str s) (.str "endless")=some false/\(bh .Eq S (.str s) (.str "least")=some false\/bh .Eq S (.str s) (.str "least")=some true/\∃p2 qq:Int,aP S u1 (.int 1)=some (.tup [.int p2,.int qq])/\aQ .Mult S (.int p2) (.int q)=some (.int (p2*q))/\aQ .Mult S (.int p) (.int qq)=some (.int (p*qq))/\¬p2*q<p*qq):=by
    cases V1 with
    |never _=>exact⟨_,rfl,by kernel_rfl,.inl (by kernel_rfl)⟩
    |endless hd hX' hZ hn=>have:=qr (Int.mul_pos hq hc) hX h (kp_app.mp hZ).1;lia
    |@least p2 qq c2 X2 hc2 hq2 bp2 bq2 lo2 hX2 h2 =>
     have f:=h X2 _ (Int.mul_pos hq2 hc2) (kp_app.mp hX2.1).1;rw[hX2.2]at f;have f:p*qq<=p2*q:=Int.le_of_mul_le_mul_right (a:=c*c2) (by rw[show p*qq*(c*c2)=p*c*(qq*c2) by grind,show p2*q*(c*c2)=p2*c2*(q*c) by grind];exact f) (Int.mul_pos hc hc2);exact⟨_,rfl,r3,.inr ⟨r2,_,_,rfl,aZ (cm bp2 bq),aZ (cm bp bq2),by lia⟩⟩
   obtain⟨s,e8,n8,k8⟩:=F8;obtain⟨uu,huu⟩:∃uu,uu=AV.tup [.str "least",.tup [.int p,.int q]]:=⟨_,rfl⟩;have l7:aP S uu (.int 0)=some (.str "least"):=by rw[huu];rfl
   have k7:aP S uu (.int 1)=some (.tup [.int p,.int q]):=by rw[huu];rfl
   rw[<- huu];refine ip (by simp[l7,e8,n8,r1,r2]) (ip (by simp[l7,r3]) (ip ?_ ?_))
   ·rcases k8 with k8|⟨k8,p2,qq,e9,m1,m2,f⟩
    ·simp[e8,k8]
    ·simp[e8,e9,k7,j0,j1,k8,m1,m2,f]
   refine ag (sl':=[Ls ns,Is n,Ls T,Zs GA,Ls goal,Rs 2,some zz,some uu,some u1,some tt,Ls V,Is E]) (st':=S) (by simp[i1];rfl) ?_;refine cD (v:=.bl true) (st':=S) ?_ rfl;simp[lv,k7,j0,j1,mv,me,fv]
 obtain⟨⟨v,s⟩,e,h⟩:=key;have h:v=.bl true:=h;subst h;exact⟨s,e⟩
theorem JV:Room e_law.d callerA:=⟨rfl,by decide,by decide,rfl⟩
theorem BX:∀t∈(MV.tb:List (Addr×Pos×Str)),t.1∈([(119,117)]:List (Addr×Addr)).map (·.2):=by
 intro t ht;have:t=(117,⟨81,30,81,63⟩,("Sheet.raising_column":Str)++".<locals>."++"<lambda>"):=zM.mp ht;rw[this];exact zM.mpr rfl
theorem holds:∀ns:List Int,ns.length<=63->∃st,Je [.fz (ns.map .int)] []=some (.bl true,st):=fun _ h=>Hy h
end
end LW
namespace PySem.W.Fast
def tw17903937853667485700:=()
def tw5875496251431129974:=()
def tw16486101254357022206:=()
def tw14517128625856006401:=()
def tw15379415859842936525:=()
def tw7832771648716333403:=()
def tw15830008326294442154:=()
def tw11412547914136197106:=()
def tw16492204985060279058:=()
def tw12697822241669419294:=()
def tw7828415921643137740:=()
def tw11882581433812978175:=()
def tw17663838007938641742:=()
def tw33331857573554936:=()
def tw1085556865056374711:=()
def tw7256625817002139531:=()
def tw7701327782785090899:=()
def tw13284663631961695790:=()
def tw11247944209231935033:=()
def tw13642562423527393616:=()
def tw7348555874094245718:=()
def tw422178341547314827:=()
def tw7660292007361266125:=()
def tw3340839662672588142:=()
def tw112060835938806986:=()
def tw13181548796699092810:=()
def tw5687745764783636028:=()
def tw1084713034900293301:=()
def tw375801616835149301:=()
def tw1809408779527493779:=()
def tw5484273126776789906:=()
def tw6813434355255639199:=()
def tw1738346744433906403:=()
def tw10147633161556374903:=()
def tw2389183144860201960:=()
def tw1596187752805429161:=()
def tw538527691742182910:=()
def tw4100403054966527791:=()
def tw97717697982410252:=()
def tw13071462250141500576:=()
def tw3115878511851631764:=()
def tw32632552608531317:=()
def tw11410930221225293222:=()
def tw17102438121139916960:=()
def tw9456555277502639995:=()
def tw11954923954017912682:=()
def tw15112129584481813547:=()
def tw12209445904803803656:=()
def tw11990886507658043163:=()
def tw5483354179101885344:=()
def tw17123534476113490369:=()
def tw11785229250775882008:=()
def tw17790557844743342632:=()
def tw1361449393666808017:=()
def tw14923958883669294704:=()
def tw3904113861235347291:=()
def tw7496676106669813586:=()
def tw7021011315896906422:=()
def tw13520303420931512470:=()
def tw4690555575935494900:=()
def tw1719545529199351864:=()
def tw10716167934735197719:=()
def tw388206152942895680:=()
def tw11921705314760922882:=()
def tw11653694275004884537:=()
def tw2552995142602398209:=()
def tw13271093020742885647:=()
def tw10986585375088437162:=()
def tw5360914003801917758:=()
def tw4111301796344286186:=()
def tw12073423753718641855:=()
def tw16500495694500569658:=()
def tw17810689614587643185:=()
def tw14472246798693479604:=()
def tw5798389497557468333:=()
def tw16568366596089295689:=()
def tw12457359123977520050:=()
def tw10000090915119920604:=()
def tw10561938318290646137:=()
def tw5334379475144749387:=()
def tw491011481848875283:=()
def tw17524595474369144830:=()
def tw1880297189470290758:=()
def tw2309325300495554408:=()
def tw5030300293838721366:=()
def tw18228997387350952572:=()
def tw16651545026567494370:=()
def tw5523300914232598780:=()
def tw7108334353037187605:=()
def tw4668210432476823900:=()
def tw6452048843577120758:=()
def tw4275425613371914667:=()
def tw1462743685201159933:=()
def tw2860353604198352798:=()
def tw299306037641446199:=()
def tw7548559038078053636:=()
def tw5487560120935109105:=()
def tw5213676994404819349:=()
def tw16248740363511703045:=()
def tw8305313596920134385:=()
def tw11001811134191296759:=()
def tw6230226637312242711:=()
def tw16494134918974657940:=()
def tw5248696566868023378:=()
def tw2982263176922349037:=()
def tw4118006876838077485:=()
def tw478782380491179355:=()
def tw1887401365632898303:=()
def tw121793258629496834:=()
def tw9009964035147673268:=()
def tw15005411092625822822:=()
def tw844087662267553830:=()
def tw11887896189563616152:=()
def tw10089555977134583731:=()
def tw14885965805325949682:=()
def tw6576272154359447794:=()
def tw9235778616379447237:=()
def tw17756829227669936231:=()
def tw17277945777184643093:=()
def tw8483804266345682877:=()
def tw11131401874852982590:=()
def tw5618813746992997506:=()
def tw17357644470977940356:=()
def tw3056452699057369288:=()
def tw13267648847324204007:=()
def tw1220807515305644396:=()
def tw322586445357504405:=()
def tw1001441820379339719:=()
def tw10258256657507820695:=()
def tw7575035127493007704:=()
def tw17522089031888141835:=()
def tw10995222503189751660:=()
def tw3164836837757503838:=()
def tw10267075040586648555:=()
def tw17646036273343170655:=()
def tw10982820318535968573:=()
def tw3233367137371163200:=()
def tw9962009850701393487:=()
def tw14655646766190784971:=()
def tw11408393629163911817:=()
def tw13544804786870822729:=()
def tw11188147811341372978:=()
def tw16407406537825861879:=()
def tw411950512840044148:=()
def tw735727164493113355:=()
def tw12808832452527002379:=()
def tw4041015281544844143:=()
def tw10705519863306224056:=()
def tw17392664512008163758:=()
def tw2463547196342597128:=()
def tw16998803453754825016:=()
def tw16120173427500250793:=()
def tw8611583329465304438:=()
def tw797490740384942844:=()
def tw1825333597323054326:=()
def tw17477061932708567664:=()
def tw4094411189407671845:=()
def tw13646476230825915003:=()
def tw4398136011653398670:=()
def tw2362903993610596757:=()
def tw18211079378978352518:=()
def tw1479248428146704742:=()
def tw12416840968120181509:=()
def tw10500116934530592674:=()
def tw10114711221450625997:=()
def tw5547657193738632915:=()
def tw372599609468427330:=()
def tw15180929698534013715:=()
def tw4910101509752858698:=()
def tw10031868805237674721:=()
def tw11720734205449219350:=()
def tw1094313930366542583:=()
def tw9043294276461251571:=()
def tw16911896172279761912:=()
def tw4200537079330549636:=()
def tw10225681870914701582:=()
def tw4144844590161961874:=()
def tw3933091441522430142:=()
def tw7250862335678240628:=()
def tw4409870038900501880:=()
def tw344693937922346218:=()
def tw705861300527643329:=()
def tw9630337357190286568:=()
def tw3171863576546376917:=()
def tw2429405343423318679:=()
def tw13777228304989297365:=()
def tw6828373459937641270:=()
def tw4616686138924110283:=()
def tw12056973113188351724:=()
def tw2994046769558281915:=()
def tw11699718182314445898:=()
def tw10044387612381946209:=()
def tw5779024686263404606:=()
def tw1596418957494200024:=()
def tw7838061310426316397:=()
def tw6938388384684355970:=()
def tw17854065559642392877:=()
def tw17423791769909036137:=()
def tw14019523569073622535:=()
def tw12556791982520467937:=()
def tw11061997194832919806:=()
def tw14916129228522732732:=()
def tw11200329001245208326:=()
def tw15012851487426559767:=()
def tw6254461529790396404:=()
def tw11693724608844585816:=()
def tw9469258568127036034:=()
def tw4195985008531556495:=()
def tw3433151831238432009:=()
def tw8390303621914485476:=()
def tw6299890578410361986:=()
def tw3718471373553952832:=()
def tw2699492852049410070:=()
def tw14902363113779272489:=()
def tw12311069370109201763:=()
def tw11329512790444991008:=()
def tw8658980015590237487:=()
def tw5641923625353022823:=()
def tw15630522330846466956:=()
def tw14635038093330323576:=()
def tw12178711683387901019:=()
def tw1211970554914292121:=()
def tw1117202860178079421:=()
def tw343605455301402352:=()
def tw5603404794160816880:=()
end PySem.W.Fast
open PySem PySem.W PyProof.Rows
set_option maxRecDepth 100000 in
set_option maxHeartbeats 0 in
theorem PySem.Challenge.cw_telltight_k26_whole_a_given_more_holds : PySem.Challenge.rw_telltight_k26_whole_a_given_more.Holds := by
 w_on; o_law; k_head; (case hw => w_witness2)
 k_fill
 refine R.walk_R (l := PySem.Challenge.rw_telltight_k26_whole_a_given_more) (k := LW.e_law.d) (fn := LW.Je) (tabs := [(119, 117)]) rfl rfl ?hrr (fun w h Y => ⟨km_in_of Y, fun q hq => km_tabs_of Y q.2 (by simp only [zM] at hq ⊢; rw [hq])⟩) ?hcc ?hKK ?htt LW.holds ?F
 case hrr => exact LW.JV
 case hcc => intro w q hq; simp only [zM] at hq; rw [hq]; kernel_rfl
 case hKK => intro w; kernel_rfl
 case htt => intro t ht; exact LW.BX t ht
 case F =>
  intro w mg fa h KX G hmg;refine R.law_F (gs := LW.gs) (cl := LW.cl) (pre := LW.pre) (e := LW.e_law) KX G hmg ?nb ?gs ?cl LW.Dg LW.Dh rfl ?fs ?law rfl LW.Hz
  case nb => kernel_rfl
  case gs => intro p hp; simp only [LW.gs, zT, zX, or_false] at hp
  case cl => intro p hp; simp only [LW.cl, zT, zX, or_false] at hp; rcases hp with rfl <;> exact ⟨⟨_, by k_is, by kernel_rfl, by kernel_rfl, by kernel_rfl, by kernel_rfl⟩, ⟨_, by k_is, by kernel_rfl⟩⟩
  case law => exact ⟨_, _, _, _, _, _, _, _, _, _, by k_is, by k_is, by kernel_rfl, by k_is, .inl rfl⟩
  case fs =>
   repeat' refine And.intro ?_ ?_
   all_goals first | trivial | exact ⟨_, _, _, _, _, _, _, _, _, _, by k_is, by k_is, by kernel_rfl, by k_is, .inl rfl⟩ | exact ⟨_, _, _, _, _, _, _, _, _, _, _, by k_is, by k_is, by k_is, by kernel_rfl, by k_is, by k_is, .inl rfl⟩ | exact ⟨_, _, _, _, _, _, _, _, _, _, _, by k_is, by k_is, by k_is, by kernel_rfl, by k_is, by k_is, .inr ⟨_, _, _, rfl, rfl, by kernel_rfl, rfl⟩⟩ | exact ⟨_, by k_is, by kernel_rfl, by kernel_rfl⟩
#print axioms PySem.Challenge.cw_telltight_k26_whole_a_given_more_holds
