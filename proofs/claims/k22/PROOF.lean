import PyProof.Rows.All
import Wide.All
import OpenK.AllK
import Wide.FinOn
import PySem.Challenge.RW_telltight_k22_thinned_books
set_option bootstrap.genMatcherCode false
set_option compiler.extract_closed false
noncomputable section
open Option (bind_some map_some)
open PySem.W (CodeHd Frag InitBack InstAt TabsAt any_some bind_fn callWith_K cellsFrom_some codeHdIn codeHd_of_K codeIn codeRec_of emptyDict findIn findObj_own fnOf get_value handedIn hasDictIn hideAll hideAll_get hideAll_none hideAll_size instObj isFn keepIn ki_setAt ki_setBack kia_one kitOne kitx_bool kitx_dict kitx_float kitx_int kitx_list kitx_none kitx_own kitx_str kitx_tuple kla_callFunE kla_codeExpr kla_eval kla_fn kla_makeFunction kla_makeFunctionHit km_in_of km_tabs_of lookIn looks_clsIn looks_findIn make_core makesIn makes_of mem_of_lookupK methodCall_KW methodObj method_fn mg_none_of mg_of mroIn noTabs nsIn of_hideAll osa_open plainGet plainGet_of plainOver set_plain specialIn tabObj takerIn takesIn truthy_bytes typeIn)
theorem oM{p:Prop}(h:p:=by first|lia|omega|(refine @id (@Ne Nat _ _) ?_;omega)):p:=h
theorem dC{p:Prop}(h:p:=by decide):p:=h
set_option Elab.async false
set_option linter.all false
set_option maxRecDepth 100000
theorem zA{α β}{o:Option α}{f:α->Option β}{b}:o.bind f=some b->∃a,o=some a∧f a=some b:=Option.bind_eq_some_iff.mp
theorem zB:type_of% @List.getElem?_eq_some_iff:=@List.getElem?_eq_some_iff
theorem zC:type_of% @Bool.and_eq_true:=@Bool.and_eq_true
theorem zD:type_of% @List.getD_eq_getElem?_getD:=@List.getD_eq_getElem?_getD
theorem zE:type_of% @Option.map_eq_some_iff:=@Option.map_eq_some_iff
theorem zF:type_of% @List.getElem?_eq_getElem:=@List.getElem?_eq_getElem
theorem zG:type_of% @PySem.Heap.get?_push_of_some:=@PySem.Heap.get?_push_of_some
theorem zH:type_of% @List.length_map:=@List.length_map
theorem zI:type_of% @List.size_toArray:=@List.size_toArray
theorem zJ:type_of% @Nat.lt_of_lt_of_le:=@Nat.lt_of_lt_of_le
theorem zK:type_of% @List.mem_append_right:=@List.mem_append_right
theorem zL:type_of% @List.mem_append_left:=@List.mem_append_left
theorem zM:type_of% @List.mem_singleton:=@List.mem_singleton
theorem zN:type_of% @List.getElem?_append_left:=@List.getElem?_append_left
theorem zO:type_of% @List.map_cons:=@List.map_cons
theorem zP:type_of% @Nat.le_refl:=@Nat.le_refl
theorem zQ:type_of% @List.mem_cons_of_mem:=@List.mem_cons_of_mem
theorem zR:type_of% @List.getElem?_map:=@List.getElem?_map
theorem zS:type_of% @Nat.le_of_ble_eq_true:=@Nat.le_of_ble_eq_true
theorem zT:type_of% @List.mem_cons:=@List.mem_cons
theorem zU:type_of% @Nat.ne_of_lt:=@Nat.ne_of_lt
theorem zV:type_of% @List.length_append:=@List.length_append
theorem zW:type_of% @List.mem_of_getElem?:=@List.mem_of_getElem?
theorem zX:type_of% @List.not_mem_nil:=@List.not_mem_nil
theorem zY:type_of% @PySem.Heap.get?_push_size:=@PySem.Heap.get?_push_size
theorem zZ:type_of% @List.mem_append:=@List.mem_append
theorem z5:type_of% @Nat.le_trans:=@Nat.le_trans
theorem z6:type_of% @List.getElem?_append_right:=@List.getElem?_append_right
theorem z7:type_of% @List.mem_cons_self:=@List.mem_cons_self
theorem z8:type_of% @List.getElem?_of_mem:=@List.getElem?_of_mem
theorem z9:type_of% @decide_eq_false:=@decide_eq_false
theorem yA:type_of% @Bool.false_eq_true:=@Bool.false_eq_true
theorem yB:type_of% @decide_eq_true_eq:=@decide_eq_true_eq
theorem yC:type_of% @List.mem_map:=@List.mem_map
theorem yD:type_of% @Option.some.inj:=@Option.some.inj
theorem yE:type_of% @PySem.wpAny_bind:=@PySem.wpAny_bind
theorem yF:type_of% @PySem.wpAny_pure:=@PySem.wpAny_pure
theorem yG:type_of% @if_neg:=@if_neg
theorem yH:type_of% @if_pos:=@if_pos
theorem yI:type_of% @PySem.Heap.lt_size:=@PySem.Heap.lt_size
theorem yJ:type_of% @eq_of_beq:=@eq_of_beq
theorem yK:type_of% @Nat.ble_eq_true_of_le:=@Nat.ble_eq_true_of_le
theorem yL:type_of% @Nat.lt_of_le_of_lt:=@Nat.lt_of_le_of_lt
theorem yM:type_of% @List.append_assoc:=@List.append_assoc
theorem yN:type_of% @List.lookup_cons:=@List.lookup_cons
theorem yO:type_of% @Int.mul_zero:=@Int.mul_zero
theorem yP:type_of% @Int.zero_mul:=@Int.zero_mul
theorem yQ:type_of% @List.all_eq_true:=@List.all_eq_true
theorem yR:type_of% @PySem.wpAny_holding:=@PySem.wpAny_holding
theorem yS:type_of% @PySem.wpAny_mono:=@PySem.wpAny_mono
theorem yT:type_of% @Nat.lt_or_ge:=@Nat.lt_or_ge
theorem yU:type_of% @Int.lt_or_le:=@Int.lt_or_le
theorem yV:type_of% @decide_eq_true:=@decide_eq_true
theorem yW:type_of% @List.getElem?_set:=@List.getElem?_set
theorem yX:type_of% @List.length_cons:=@List.length_cons
theorem yY:type_of% @Nat.le_of_lt:=@Nat.le_of_lt
theorem yZ:type_of% @Int.natAbs_mul:=@Int.natAbs_mul
theorem y0:type_of% @Nat.lt_irrefl:=@Nat.lt_irrefl
namespace L2
open PySem PySem.Spec PyProof.Rows
abbrev aT:=Sum Int Str
def ip:aT->Value->Bool
 |.inl k,v=>Value.isInt k v
 |.inr x,v=>Value.isStrOf x v
def K7(w:World):aT->Int
 |.inl k=>hashInt k
 |.inr x=>hashStr w x
theorem cP:∀{k:aT}{v:Value},ip k v=true->(∃i t,k=Sum.inl i/\v=Value.int i t)\/(∃x t,k=Sum.inr x/\v=Value.str x t)
 |.inl i,v,h=>by
  obtain⟨t,e⟩:=Value.isInt_shape (k:=i) (v:=v) h;exact .inl ⟨i,t,rfl,e⟩
 |.inr x,v,h=>by
  obtain⟨t,e⟩:=Value.isStrOf_shape (x:=x) (v:=v) h;exact .inr ⟨x,t,rfl,e⟩
theorem xm(i:Int)(t:Tok):ip (.inl i) (.int i t)=true:=by simp[ip,Value.isInt]
theorem xj(x:Str)(t:Tok):ip (.inr x) (.str x t)=true:=by simp[ip,Value.isStrOf]
theorem Ga(a b:Int):decide ((Sum.inl a:aT)=Sum.inl b)=(a==b):=by
 by_cases e:a=b
 ·subst e;simp
 ·have h:¬(Sum.inl a:aT)=Sum.inl b:=fun q=>e (Sum.inl.inj q)
  rw[z9 h];exact(beq_eq_false_iff_ne.mpr e).symm
theorem F7(a b:Str):decide ((Sum.inr a:aT)=Sum.inr b)=decide (a=b):=by
 by_cases e:a=b
 ·subst e;simp
 ·have h:¬(Sum.inr a:aT)=Sum.inr b:=fun q=>e (Sum.inr.inj q)
  rw[z9 h,z9 e]
theorem F9(a:Int)(b:Str):decide ((Sum.inl a:aT)=Sum.inr b)=false:=z9 (fun q=>nomatch q)
theorem F8(a:Str)(b:Int):decide ((Sum.inr a:aT)=Sum.inl b)=false:=z9 (fun q=>nomatch q)
def b8(prog:Program)(w:World):PySem.KeyKind prog w aT where
 is:=ip
 hash:=K7 w
 inj:=fun v a b ha hb=>by
  rcases cP ha with⟨i,t,rfl,rfl⟩|⟨x,t,rfl,rfl⟩
  ·rcases cP hb with⟨j,u,rfl,e⟩|⟨y,u,rfl,e⟩
   ·injection e with e1 _;rw[e1]
   ·exact nomatch e
  ·rcases cP hb with⟨j,u,rfl,e⟩|⟨y,u,rfl,e⟩
   ·exact nomatch e
   ·injection e with e1 _;rw[e1]
 byValue:=fun k v h=>by
  rcases cP h with⟨i,t,rfl,rfl⟩|⟨x,t,rfl,rfl⟩<;>rfl
 pyHash:=fun hv h=>by
  rcases cP hv with⟨i,t,rfl,rfl⟩|⟨x,t,rfl,rfl⟩
  ·exact wpAny_pyHash_int h
  ·exact wpAny_pyHash_str h
 eqBool:=fun hu hv h=>by
  rcases cP hu with⟨i,t,rfl,rfl⟩|⟨x,t,rfl,rfl⟩
  ·rcases cP hv with⟨j,u,rfl,rfl⟩|⟨y,u,rfl,rfl⟩
   ·rw[Ga]at h;exact wpAny_eqBool_int h
   ·rw[F9]at h;exact SeqAt.EqAt.int_str i t y u _ _ _ _ h
  ·rcases cP hv with⟨j,u,rfl,rfl⟩|⟨y,u,rfl,rfl⟩
   ·rw[F8]at h;exact SeqAt.EqAt.str_int x t j u _ _ _ _ h
   ·rw[F7]at h;exact wpAny_eqBool_str h
 «strs»:=fun k x t v h=>by
  rcases cP h with⟨i,u,rfl,e⟩|⟨y,u,rfl,e⟩
  ·exact nomatch e
  ·injection e with e1 _
   subst e1;cases v<;>rfl
theorem tx(prog:Program)(w:World)(i:Int)(t:Tok):(b8 prog w).is (.inl i) (.int i t)=true:=xm i t
theorem tm(prog:Program)(w:World)(x:Str)(t:Tok):(b8 prog w).is (.inr x) (.str x t)=true:=xj x t
inductive V where
 |non|bl (b:Bool)|int (i:Int)|str (x:Str)|byt (b:Array UInt8)|flt (b:UInt64)|ref (a:Addr)|ty (n:String)
 deriving DecidableEq
def RelV:V->Value->Prop
 |.non,u=>u=Value.none
 |.bl b,u=>u=Value.bool b
 |.int i,u=>∃t,u=Value.int i t
 |.str x,u=>∃t,u=Value.str x t
 |.byt b,u=>∃t,u=Value.bytes b t
 |.flt b,u=>∃t,u=Value.float b t
 |.ref a,u=>u=Value.ref a
 |.ty n,u=>u=Value.type n
abbrev Vals:List V->List Value->Prop:=Paired RelV
theorem Vals.length{xs:List V}{us:List Value}(r:Vals xs us):xs.length=us.length:=Paired.length r
theorem Vals.get:∀{xs:List V}{us:List Value}{i:Nat}{x:V},Vals xs us->xs[i]?=some x->∃u,us[i]?=some u/\RelV x u
 |_,_,_,_,.nil,e=>by simp at e
 |_,_,0,_,.cons r _,e=>by simp at e;subst e;exact⟨_,rfl,r⟩
 |_,_,i+1,x,.cons _ t,e=>by
  obtain⟨u,h1,h2⟩:=Vals.get (i:=i) (x:=x) t (by simpa using e);exact⟨u,by simpa using h1,h2⟩
theorem Vals.set{x:V}{u:Value}(r:RelV x u):∀{xs:List V}{us:List Value} (i:Nat),Vals xs us->Vals (xs.set i x) (us.set i u)
 |_,_,_,.nil=>.nil
 |_,_,0,.cons _ t=>.cons r t
 |_,_,i+1,.cons q t=>.cons q (Vals.set r i t)
theorem Vals.append:∀{xs ys:List V}{us ws:List Value},Vals xs us->Vals ys ws->Vals (xs++ys) (us++ws):=by
 intro xs ys us ws h s
 induction h with
 |nil=>exact s
 |cons r t ih=>exact .cons r ih
theorem Vals.take:∀{xs:List V}{us:List Value} (n:Nat),Vals xs us->Vals (xs.take n) (us.take n):=by
 intro xs us n h
 induction h generalizing n with
 |nil=>cases n<;>exact .nil
 |cons r t ih=>cases n with
  |zero=>exact .nil
  |succ n=>exact .cons r (ih n)
theorem Vals.drop:∀{xs:List V}{us:List Value} (n:Nat),Vals xs us->Vals (xs.drop n) (us.drop n):=by
 intro xs us n h
 induction h generalizing n with
 |nil=>cases n<;>exact .nil
 |cons r t ih=>cases n with
  |zero=>exact .cons r t
  |succ n=>exact ih n
def RelO:Option V->Option Value->Prop
 |some v,some u=>RelV v u
 |none,none=>True
 |_,_=>False
def KV{κ:Type}:List (κ×V)->List (κ×Value)->Prop:=Paired fun(p:κ×V)(q:κ×Value)=>p.1=q.1/\RelV p.2 q.2
def kV:aT->V
 |.inl i=>.int i
 |.inr x=>.str x
inductive HO where
  |lst (xs:List V)
  |tup (xs:List V)
  |dK (NE:List (aT×V))|dT (NE:List (List aT×V))
  |set (S:Int->Bool) (n:Nat)
  |ins (C dx:Addr) (fs:List (Str×V))
  |own (x:Addr)
  |xd (fs:List (Str×V))
  |met (f x:Addr)
  |rng (lo hi:Int)
  |frz (o:Obj) (u:HO)
  |tbl (ps:Array Value)
  |ext (φ:Heap->Prop)
abbrev Hp:=Addr->Option HO
def ae(H:Hp)(a:Addr)(o:HO):Hp:=fun b=>if b=a then some o else H b
theorem aw{H:Hp}{a:Addr}{o:HO}:ae H a o a=some o:=by unfold ae;rw[yH rfl]
theorem ad{H:Hp}{a b:Addr}{o:HO}(h:b≠a):ae H a o b=H b:=by unfold ae;rw[yG h]
theorem vh{H:Hp}{a b:Addr}{o u:HO}(h:H a=some o)(h':H b=some u)(d:o≠u):a≠b:=by
 intro e;subst e;rw[h]at h';exact d (yD h')
theorem ba{H:Hp}{a b:Addr}{o:HO}(h:H a=some o)(h':H b=none):a≠b:=by
 intro e;subst e;rw[h]at h';cases h'
section
variable(P:Program)(w:World)
def ObjOk(H:Hp)(h:Heap)(a:Addr):HO->Prop
 |.lst xs=>xs.length<=sizeLine/\∃(NH:List Value)(n:Nat),Vals xs NH/\h.get? a=some { cls:=.type "list",data:=.seq NH.toArray n }
 |.tup xs=>xs.length<=sizeLine/\∃NH:List Value,Vals xs NH/\IsTup h a NH.toArray
 |.dK NE=>NE.length<=sizeLine/\(a==sysModules)=false/\∃vs,KV NE vs/\h.DictOf (b8 P w) a vs
 |.dT NE=>NE.length<=sizeLine/\(a==sysModules)=false/\∃xs:List (List aT×Addr×Value),
   Paired (fun(p:List aT×V)(q:List aT×Addr×Value)=>p.1=q.1/\H q.2.1=some (.tup (p.1.map kV))/\RelV p.2 q.2.2) NE xs /\
   ∃o es ep,h.get? a=some o/\o.ExactDict/\o.data=.dict es ep/\es.toList=xs.map (entryOfKey (tupleKind (b8 P w)))/\(xs.map (·.1)).Nodup
 |.set S n=>h.SetOf (intKind P w) a S n
 |.ins C dx fs=>H dx=some (.own a)/\fs.length<=1000/\dx≠a/\h.get? a=some (instObj C dx) /\
   ∃mA,h.Ns1 dx mA/\(∀f,RelO (fs.lookup f) (mA f))/\PySem.Within mA (fs.map (·.1))
 |.own _=>∃o,h.get? a=some o
 |.xd fs=>∃mA,h.Ns1 a mA/\∀f,RelO (fs.lookup f) (mA f)
 |.rng lo hi=>∃t u v,h.get? a=some { cls:=.type "range",data:=.fields #[.int lo t,.int hi u,.int 1 v] }
 |.frz o u=>h.get? a=some o/\ObjOk H h a u
 |.tbl ps=>h.get? a=some { cls:=.none,data:=.fields ps }
 |.met f x=>h.get? a=some (methodObj (.ref f) (.ref x))
 |.ext φ=>φ h/\(∃o,h.get? a=some o)/\∀h1 h2:Heap,φ h1->(∀o,h1.get? a=some o->h2.get? a=some o)->φ h2
def HOk(H:Hp)(h:Heap):Prop:=∀a o,H a=some o->ObjOk P w H h a o
end
section
variable{P:Program}{w:World}{H H':Hp}{h h':Heap}{a:Addr}{o:HO}
theorem ObjOk.lt(x:ObjOk P w H h a o):a<h.objs.size:=by
 cases o with
 |lst xs=>obtain⟨_,_,_,_,e⟩:=x;exact yI e
 |tup xs=>obtain⟨_,_,_,p⟩:=x;exact p.lt
 |dK NE=>obtain⟨_,_,_,_,o,_,_,e,_⟩:=x;exact yI e
 |dT NE=>obtain⟨_,_,_,_,o,_,_,e,_⟩:=x;exact yI e
 |set S n=>obtain⟨o,_,_,_,e,_⟩:=x;exact yI e
 |ins C dx fs=>obtain⟨_,_,_,e,_⟩:=x;exact yI e
 |own y=>obtain⟨_,e⟩:=x;exact yI e
 |xd fs=>obtain⟨_,⟨_,_,_,e,_⟩,_⟩:=x;exact yI e
 |rng lo hi=>obtain⟨_,_,_,e⟩:=x;exact yI e
 |frz ob u=>obtain⟨e,_⟩:=x;exact yI e
 | tbl ps=>exact yI (show h.get? a=some _ from x)
 | met f y=>exact yI (show h.get? a=some _ from x)
 |ext φ=>obtain⟨_,⟨_,e⟩,_⟩:=x;exact yI e
theorem Paired.mapP{α β:Type}{F G:α->β->Prop}:∀{l₁:List α}{l₂:List β},Paired F l₁ l₂->(∀a b,F a b->G a b)->Paired G l₁ l₂:=by
 intro l₁ l₂ h f
 induction h with
 |nil=>exact .nil
 |cons r t ih=>exact .cons (f _ _ r) ih
theorem ObjOk.stay(x:ObjOk P w H h a o)(k:∀b u,(b=a\/H b=some (.own a))->h.get? b=some u->h'.get? b=some u)
  (ho:∀b,H b=some (.own a)->H' b=some (.own a)) (ht:∀b xs,H b=some (.tup xs)->H' b=some (.tup xs)):ObjOk P w H' h' a o:=by
 induction o with
 |lst xs=>obtain⟨z,NH,n,r,e⟩:=x;exact⟨z,NH,n,r,k _ _ (.inl rfl) e⟩
 |tup xs=>obtain⟨z,NH,r,ob,e,c⟩:=x;exact⟨z,NH,r,ob,k _ _ (.inl rfl) e,c⟩
 |dK NE=>obtain⟨z,y,vs,r,ob,es,ep,e,c⟩:=x;exact⟨z,y,vs,r,ob,es,ep,k _ _ (.inl rfl) e,c⟩
 |dT NE =>
  obtain⟨z,y,xs,r,ob,es,ep,e,c⟩:=x;exact⟨z,y,xs,Paired.mapP r fun p q z=>⟨z.1,ht _ _ z.2.1,z.2.2⟩,ob,es,ep,k _ _ (.inl rfl) e,c⟩
 |set S n=>obtain⟨ob,es,ep,t,e,c⟩:=x;exact⟨ob,es,ep,t,k _ _ (.inl rfl) e,c⟩
 |ins C dx fs =>
  obtain⟨d,z,ne,e,mA,⟨od,es,ep,e2,c⟩,r⟩:=x;exact⟨ho _ d,z,ne,k _ _ (.inl rfl) e,mA,⟨od,es,ep,k _ _ (.inr d) e2,c⟩,r⟩
 |own y=>obtain⟨ob,e⟩:=x;exact⟨ob,k _ _ (.inl rfl) e⟩
 |xd fs=>obtain⟨mA,⟨od,es,ep,e,c⟩,r⟩:=x;exact⟨mA,⟨od,es,ep,k _ _ (.inl rfl) e,c⟩,r⟩
 |rng lo hi=>obtain⟨t,u,v,e⟩:=x;exact⟨t,u,v,k _ _ (.inl rfl) e⟩
 |frz ob u ih=>obtain⟨e,q⟩:=x;exact⟨k _ _ (.inl rfl) e,ih q⟩
 |tbl ps =>
  have e:h.get? a=some { cls:=.none,data:=.fields ps }:=x;show h'.get? a=some { cls:=.none,data:=.fields ps };exact k a _ (.inl rfl) e
 |met f y =>
  have e:h.get? a=some (methodObj (.ref f) (.ref y)):=x;show h'.get? a=some (methodObj (.ref f) (.ref y));exact k a _ (.inl rfl) e
 |ext φ=>obtain⟨p,⟨o,e⟩,st⟩:=x;exact⟨st _ _ p fun o q=>k _ _ (.inl rfl) q,⟨o,k _ _ (.inl rfl) e⟩,st⟩
theorem HOk.lt(x:HOk P w H h)(e:H a=some o):a<h.objs.size:=(x a o e).lt
theorem HOk.fresh(x:HOk P w H h)(e:h.objs.size<=a):H a=none:=by
 cases q:H a with
 |none=>rfl
 |some u=>exact absurd (zJ (x.lt q) e) (y0 _)
theorem HOk.kept(x:HOk P w H h)(k:∀b u,h.get? b=some u->h'.get? b=some u):HOk P w H h':=fun a o e =>
 (x a o e).stay (fun b u _ q=>k b u q) (fun _ q=>q) fun _ _ q=>q
theorem HOk.laid(x:HOk P w H h)(k:∀b u,h.get? b=some u->h'.get? b=some u)(hp:h.objs.size<=a)(new:ObjOk P w (ae H a o) h' a o):HOk P w (ae H a o) h':=fun b u e=>by
 have hn:=x.fresh hp;by_cases hb:b=a
 ·subst hb;rw[aw]at e;cases e;exact new
 ·rw[ad hb]at e
  exact(x b u e).stay (fun c v _ q=>k c v q) (fun c q=>by rw[ad (ba q hn)];exact q) fun c xs q=>by rw[ad (ba q hn)];exact q
end
def Rd(H:Hp)(a:Addr)(u:HO):Prop:=H a=some u\/∃o,H a=some (.frz o u)
theorem Rd.ok{P:Program}{w:World}{H:Hp}{h:Heap}{a:Addr}{u:HO}(r:Rd H a u)(x:HOk P w H h):ObjOk P w H h a u:=by
 rcases r with r|⟨o,r⟩
 ·exact x a u r
 ·obtain⟨_,q⟩:=x a _ r
  exact q
def xU:Option HO->Prop
 |some (.lst _)=>True
 |some (.dK _)=>True
 |some (.dT _)=>True
 |some (.set _ _)=>True
 |some (.ins _ _ _)=>True
 |some (.ext _)=>True
 |_=>False
section
variable{P:Program}{w:World}{H:Hp}{h h':Heap}{x e:Addr}{o':HO}
theorem HOk.write(ok:HOk P w H h)(mu:xU (H x))(he:e=x\/H e=some (.own x))(k:∀b u,b≠e->h.get? b=some u->h'.get? b=some u)(heo:∃u,h'.get? e=some u)
  (new:ObjOk P w (ae H x o') h' x o'):HOk P w (ae H x o') h':=fun b u q=>by
 have nown:∀c y,H c=some (.own y)->c≠x:=fun c y r z=>by subst z;rw[r]at mu;exact mu
 have ntup:∀c xs,H c=some (.tup xs)->c≠x:=fun c xs r z=>by subst z;rw[r]at mu;exact mu
 by_cases hb:b=x
 ·subst hb;rw[aw]at q;cases q;exact new
 ·rw[ad hb]at q
  by_cases hbe:b=e
  ·have q':H b=some (.own x):=by
    rcases he with z|z
    ·exact absurd (hbe.trans z) hb
    ·rw[hbe];exact z
   rw[q]at q';cases q';obtain⟨v,hv⟩:=heo;exact⟨v,by rw[hbe];exact hv⟩
  ·refine(ok b u q).stay (fun c v hc r=>k c v ?_ r) (fun c r=>by rw[ad (nown c b r)];exact r) fun c xs r=>by rw[ad (ntup c xs r)];exact r
   rcases hc with rfl|hc
   ·exact hbe
   ·rintro rfl
    rcases he with z|z
    ·exact nown c b hc z
    ·rw[hc]at z;cases z;exact hb rfl
end
structure Un(fs ex:List Addr)(H H':Hp)(h h':Heap):Prop where
 keep:∀b o,h.get? b=some o->H b=none->b∉fs->b∉ex->h'.get? b=some o
 slot:∀b o,h.get? b=some o->H b=none->b∈fs->b∉ex->∃sl,h'.get? b=some { o with slots:=sl }
 free:∀b o,h.get? b=some o->H b=none->b∉ex->H' b=none
 there:∀b o,h.get? b=some o->b∉ex->∃o',h'.get? b=some o'
 tups:∀b xs,H b=some (.tup xs)->H' b=some (.tup xs)
 frzs:∀b o u,H b=some (.frz o u)->H' b=some (.frz o u)
 tbls:∀b ps,H b=some (.tbl ps)->∃more,H' b=some (.tbl (ps++more))
section
variable{fs fs' ex ex':List Addr}{H H1 H2:Hp}{h h1 h2 h':Heap}{a x e:Addr}{o:HO}
theorem Un.any(u:Un fs ex H H1 h h1){b:Addr}{ob:Obj}(q:h.get? b=some ob)(n:H b=none)(hx:b∉ex):∃sl,h1.get? b=some { ob with slots:=sl }:=by
 by_cases hb:b∈fs
 ·exact u.slot b ob q n hb hx
 ·exact⟨ob.slots,u.keep b ob q n hb hx⟩
theorem Un.kept(k:∀b u,h.get? b=some u->h'.get? b=some u):Un fs ex H H h h' :=
 ⟨fun b ob q _ _ _=>k b ob q,fun b ob q _ _ _=>⟨ob.slots,k b ob q⟩,fun _ _ _ n _=>n,fun b ob q _=>⟨ob,k b ob q⟩,fun _ _ q=>q,fun _ _ _ q=>q,fun _ ps q=>⟨#[],by rw[q];simp⟩⟩
theorem Un.refl:Un fs ex H H h h:=Un.kept fun _ _ q=>q
theorem Un.laid(k:∀b u,h.get? b=some u->h'.get? b=some u)(hp:h.objs.size<=a)(hn:H a=none):Un fs ex H (ae H a o) h h' where
 keep:=fun b u q _ _ _=>k b u q
 slot:=fun b u q _ _ _=>⟨u.slots,k b u q⟩
 free:=fun b u q n _=>by rw[ad (zU (zJ (yI q) hp))];exact n
 there:=fun b u q _=>⟨u,k b u q⟩
 tups:=fun b xs q=>by rw[ad (ba q hn)];exact q
 frzs:=fun b u xs q=>by rw[ad (ba q hn)];exact q
 tbls:=fun b ps q=>⟨#[],by rw[ad (ba q hn),q];simp⟩
theorem Un.write(mu:xU (H x))(he:e=x\/H e=some (.own x))(k:∀b u,b≠e->h.get? b=some u->h'.get? b=some u)(heo:∃u,h'.get? e=some u):Un fs ex H (ae H x o) h h':=by
 have hx:∀b,H b=none->b≠x:=fun b n z=>by subst z;rw[n]at mu;exact mu
 have hb:∀b,H b=none->b≠e:=fun b n z=>by
  subst z;rcases he with r|r
  ·exact hx b n r
  ·rw[n]at r;cases r
 have hm:∀b u,H b=some u->¬xU (some u)->b≠x:=fun b u q nm z=>by subst z;rw[q]at mu;exact nm mu
 refine⟨fun b u q n _ _=>k b u (hb b n) q,fun b u q n _ _=>⟨u.slots,k b u (hb b n) q⟩,fun b u q n _=>by rw[ad (hx b n)];exact n,fun b u q _=>?_,
  fun b xs q=>by rw[ad (hm b _ q fun z=>z)];exact q,fun b u xs q=>by rw[ad (hm b _ q fun z=>z)];exact q,fun b ps q=>⟨#[],by rw[ad (hm b _ q fun z=>z),q];simp⟩⟩
 by_cases hbe:b=e
 ·subst hbe;exact heo
 ·exact⟨u,k b u hbe q⟩
end
def A4(h:Heap)(H:Hp):List Addr:=(List.range h.objs.size).filter fun a=>(H a).isSome
def jw(h:Heap)(H:Hp):Heap:=hideAll h (A4 h H)
theorem xr(h:Heap)(H:Hp):(jw h H).objs.size=h.objs.size:=hideAll_size _ _
theorem Ax{h:Heap}{H:Hp}{b:Addr}{o:Obj}(e:h.get? b=some o)(n:H b=none):(jw h H).get? b=some o :=
 hideAll_get _ e fun hm=>by
  have q:(H b).isSome=true:=(List.mem_filter.mp hm).2;rw[n]at q;simp at q
theorem De{h:Heap}{H:Hp}{b:Addr}{o:Obj}(e:(jw h H).get? b=some o):h.get? b=some o/\H b=none:=by
 have e':h.get? b=some o:=of_hideAll (A4 h H) e;refine⟨e',?_⟩;cases q:H b with
 |none=>rfl
 |some x =>
  have hm:b∈A4 h H:=List.mem_filter.mpr ⟨List.mem_range.mpr (yI e'),by simp[q]⟩;have z:(jw h H).get? b=none:=hideAll_none (A4 h H) hm;rw[z]at e;cases e
structure Mod(K:Frag)(mg:Str->Option Value)(base:Heap):Prop where
 kin:K.In base
 glob:base.Ns mainGlobals mg
 blt:∃mb,base.Ns builtinsNs mb/\∀x:Str,x≠"__name__"->mb x=bootBuiltins x
 nolimit:base.NoLimit
structure Cx where
 prog:Program
 w:World
 K:Frag
 mg:Str->Option Value
 base:Heap
 A:Around
 N:List Str
 s₀:Shared
 H₀:Hp
 env:Env
 outer:List Env
 stack:List Env
 ex:List Addr
 fn:Str->Bool
 calm:Bool
 pn:List (Addr×Obj)
 xe:Value->Shared->Prop
noncomputable def jN(l:List Env):List Addr:=l.filterMap (·.frame)
abbrev Cx.fs(X:Cx):List Addr:=jN X.outer
def xR(sc:Scope)(x:Str):Prop:=sc.names.lookup x=some .local\/sc.names.lookup x=some .cell\/sc.names.lookup x=some .free
def Loc(sc:Scope)(x:Str):Prop:=sc.names.lookup x=some .local\/sc.names.lookup x=some .cell
def Lq(env:Env)(h:Heap)(m:Str->Option Value)(x:Str)(u:Value):Prop :=
 (env.kindOf x=some .local/\m x=some u)\/((env.kindOf x=some .cell\/env.kindOf x=some .free)/\∃c,env.cells.lookup x=some c/\h.IsCell c (some u))
structure Cx.Ok(X:Cx):Prop where
 mod:Mod X.K X.mg X.base
 kind:X.env.scope.kind=.function
 glob:X.env.globals=mainGlobals
 blt:X.env.builtins=builtinsNs
 above:X.s₀.heap.objs.size<=X.env.locals
 inj:∀x y c,X.env.cells.lookup x=some c->X.env.cells.lookup y=some c->x=y
 has:∀x,(X.env.kindOf x=some .cell\/X.env.kindOf x=some .free)->∃c,X.env.cells.lookup x=some c
 cab:∀x c,X.fn x=true->X.env.cells.lookup x=some c->X.s₀.heap.objs.size<=c
 hd:X.calm=true->X.A.handled=none
 frames:X.A.frames=some X.stack
 stk:X.stack=X.outer\/(X.stack=X.env::X.outer/\X.env.frame=some X.env.locals)
 exf:∀b∈X.ex,b≠X.env.locals/\∀x c,X.env.cells.lookup x=some c->c≠b
 bs:∀b o,X.base.get? b=some o->X.s₀.heap.get? b=some o/\X.H₀ b=none
 bsz:X.base.objs.size<=X.s₀.heap.objs.size
 noex:∀b o,X.base.get? b=some o->b∉X.ex
 exfs:∀b∈X.ex,b∉X.fs
 funs:X.s₀.heap.FunFrames X.base X.outer
 frf:∀b∈X.fs,X.H₀ b=none
structure Inv(X:Cx)(ND:List (Addr×Obj))(σ:List (Option V))(H:Hp)(s:Shared):Prop where
 ok:X.Ok
 os:s.os=X.s₀.os
 bare:AllBare s.gens
 base:Un X.fs X.ex X.H₀ H X.s₀.heap s.heap
 loc:∃m,s.heap.Ns X.env.locals m/\∀(i:Nat)(x:Str)(v:V),X.N[i]?=some x->σ[i]?=some (some v)->xR X.env.scope x->∃u,RelV v u/\Lq X.env s.heap m x u
 cell:∀x c,X.env.cells.lookup x=some c->∃v,s.heap.IsCell c v
 free:H X.env.locals=none
 freeC:∀x c,X.env.cells.lookup x=some c->H c=none
 pin:∀p∈X.pn++ND,s.heap.get? p.1=some p.2/\H p.1=none/\p.1≠X.env.locals/\p.1∉X.fs/\∀v,p.2.data≠.cell v
 NM:HOk X.prog X.w H s.heap
 len:σ.length=X.N.length
section
variable{X:Cx}{ND:List (Addr×Obj)}{σ:List (Option V)}{H H':Hp}{s:Shared}{h':Heap}
theorem Cx.Ok.nofr(ok:X.Ok){b:Addr}{o:Obj}(e:X.base.get? b=some o):b∉X.fs:=fun hb=>by
 have:=(ok.funs.mem hb).1
 rw[e]at this;cases this
theorem Inv.bs(I:Inv X ND σ H s):∀b o,X.base.get? b=some o->s.heap.get? b=some o/\H b=none:=fun b o e =>
 ⟨I.base.keep b o (I.ok.bs b o e).1 (I.ok.bs b o e).2 (I.ok.nofr e) (I.ok.noex b o e),I.base.free b o (I.ok.bs b o e).1 (I.ok.bs b o e).2 (I.ok.noex b o e)⟩
theorem Inv.bk(I:Inv X ND σ H s):∀b o,X.base.get? b=some o->s.heap.get? b=some o:=fun b o e=>(I.bs b o e).1
theorem Inv.mod(I:Inv X ND σ H s):Mod X.K X.mg X.base:=I.ok.mod
theorem Inv.kIn(I:Inv X ND σ H s):X.K.In s.heap:=I.ok.mod.kin.keeps I.bk
theorem Inv.nolimit(I:Inv X ND σ H s):s.heap.NoLimit:=I.ok.mod.nolimit.keeps I.bk
theorem Inv.lt(I:Inv X ND σ H s):X.env.locals<s.heap.objs.size:=let⟨_,hn,_⟩:=I.loc;hn.lt
theorem Inv.sz(I:Inv X ND σ H s):X.s₀.heap.objs.size<=s.heap.objs.size:=z5 I.ok.above (yY I.lt)
theorem Inv.nofs(I:Inv X ND σ H s){a:Addr}(h:s.heap.objs.size<=a):a∉X.fs:=fun hb=>by
 obtain⟨_,o,ho,_⟩:=I.ok.funs.mem hb;exact absurd (zJ (yI ho) (z5 I.sz h)) (y0 _)
theorem Inv.cne(I:Inv X ND σ H s):∀x c,X.env.cells.lookup x=some c->c≠X.env.locals:=fun x c e z=>by
 obtain⟨v,o,ho,hd⟩:=I.cell x c e;obtain⟨m,⟨o',es,ep,ho',hd',_⟩,_⟩:=I.loc;rw[z,ho']at ho;cases ho;rw[hd']at hd;cases hd
theorem Inv.funs(I:Inv X ND σ H s):s.heap.FunFrames X.base X.outer:=by
 have all:∀(l:List Env),(∀b∈jN l,b∈X.fs)->X.s₀.heap.FunFrames X.base l->s.heap.FunFrames X.base l:=by
  intro l
  induction l with
  |nil=>intro _ _;trivial
  |cons env r ih =>
   intro hs hl;obtain⟨hk,⟨L,o,hf,hn,ho,hd⟩,hr⟩:=hl;have hL:L∈X.fs:=hs L (by unfold jN;rw[List.filterMap_cons,hf];exact z7);obtain⟨sl,e⟩:=I.base.slot L o ho (I.ok.frf L hL) hL fun z=>I.ok.exfs L z hL
   exact⟨hk,⟨L,_,hf,hn,e,hd⟩,ih (fun b hb=>hs b (by unfold jN;rw[List.filterMap_cons,hf];exact zQ _ hb)) hr⟩
 exact all X.outer (fun _ hb=>hb) I.ok.funs
theorem Inv.stack(I:Inv X ND σ H s):s.heap.FunFrames X.base X.stack:=by
 rcases I.ok.stk with e|⟨e,hf⟩
 ·rw[e];exact I.funs
 ·rw[e]
  obtain⟨m,hn,_⟩:=I.loc;refine .cons (by rw[I.ok.kind];decide) hf hn ?_ I.funs;exact Heap.get?_none_of_le (z5 I.ok.bsz I.ok.above)
theorem Inv.stkSub(I:Inv X ND σ H s):∀b∈jN X.stack,b∈X.env.locals::X.fs:=fun b hb=>by
 rcases I.ok.stk with e|⟨e,hf⟩
 ·rw[e]at hb;exact zQ _ hb
 ·rw[e]at hb
  unfold jN at hb;rw[List.filterMap_cons,hf]at hb;exact hb
theorem Inv.stkFree(I:Inv X ND σ H s):∀b∈jN X.stack,H b=none:=fun b hb=>by
 rcases zT.mp (I.stkSub b hb) with e|hb
 ·rw[e];exact I.free
 ·obtain⟨_,o,ho,_⟩:=I.ok.funs.mem hb
  exact I.base.free b o ho (I.ok.frf b hb) fun z=>I.ok.exfs b z hb
theorem Inv.step{g':Array GenState}{t':Nat}{d':Drawn}{ch:List Addr}(I:Inv X ND σ H s)
  (hch:∀b∈ch,(b∈X.ex\/X.s₀.heap.objs.size<=b)/\b≠X.env.locals/\(∀x c,X.env.cells.lookup x=some c->c≠b)/\∀p∈X.pn++ND,p.1≠b)
  (keep:∀b o,b≠X.env.locals->b∉X.fs->b∉ch->s.heap.get? b=some o->H b=none->h'.get? b=some o)
  (slot:∀b o,b≠X.env.locals->b∈X.fs->b∉ch->s.heap.get? b=some o->H b=none->∃sl,h'.get? b=some { o with slots:=sl }) (free:∀b o,b∉ch->s.heap.get? b=some o->H b=none->H' b=none)
  (there:∀b o,b∉ch->s.heap.get? b=some o->∃o',h'.get? b=some o')
  (tups:∀b xs,H b=some (.tup xs)->H' b=some (.tup xs)) (frzs:∀b o u,H b=some (.frz o u)->H' b=some (.frz o u)) (tbls:∀b ps,H b=some (.tbl ps)->∃more,H' b=some (.tbl (ps++more)))
  (ns:∀m,s.heap.Ns X.env.locals m->h'.Ns X.env.locals m) (NM:HOk X.prog X.w H' h') (hg:AllBare g') :
  Inv X ND σ H' { s with heap:=h',gens:=g',drawn:=d',toks:=t' }:=by
 have neL:∀b o,X.s₀.heap.get? b=some o->b≠X.env.locals:=fun b o e=>zU (zJ (yI e) I.ok.above)
 have neC:∀b o,X.s₀.heap.get? b=some o->b∉X.ex->b∉ch:=fun b o e hx hb=>by
  rcases(hch b hb).1 with z|z
  ·exact hx z
  ·exact absurd (zJ (yI e) z) (y0 _)
 have cellK:∀x c,X.env.cells.lookup x=some c->∀v,s.heap.IsCell c v->h'.IsCell c v:=fun x c e v hq0=>by
  obtain⟨o,ho,hd⟩:=hq0;have nch:c∉ch:=fun z=>(hch c z).2.2.1 x c e rfl
  by_cases hc:c∈X.fs
  ·obtain⟨sl,q⟩:=slot c o (I.cne x c e) hc nch ho (I.freeC x c e)
   exact⟨_,q,hd⟩
  ·exact⟨o,keep c o (I.cne x c e) hc nch ho (I.freeC x c e),hd⟩
 refine⟨I.ok,I.os,hg,⟨fun b o e n hb hx=>?_,fun b o e n hb hx=>?_,fun b o e n hx=>?_,fun b o e hx=>?_,fun b xs e=>tups b xs (I.base.tups b xs e),fun b o xs e=>frzs b o xs (I.base.frzs b o xs e),fun b ps e=>?_⟩,?_,fun x c e=>?_,?_,fun x c e=>?_,fun p hp=>?_,NM,I.len⟩
 ·exact keep b o (neL b o e) hb (neC b o e hx) (I.base.keep b o e n hb hx) (I.base.free b o e n hx)
 ·obtain⟨sl,e1⟩:=I.base.slot b o e n hb hx
  obtain⟨sl',e2⟩:=slot b _ (neL b o e) hb (neC b o e hx) e1 (I.base.free b o e n hx);exact⟨sl',e2⟩
 ·obtain⟨o',e1⟩:=I.base.there b o e hx
  exact free b o' (neC b o e hx) e1 (I.base.free b o e n hx)
 ·obtain⟨o',e1⟩:=I.base.there b o e hx
  exact there b o' (neC b o e hx) e1
 ·obtain⟨m1,e1⟩:=I.base.tbls b ps e
  obtain⟨m2,e2⟩:=tbls b _ e1;exact⟨m1++m2,by rw[e2,Array.append_assoc]⟩
 ·obtain⟨m,hn,hl⟩:=I.loc
  refine⟨m,ns m hn,fun i x v e1 e2 e3=>?_⟩;obtain⟨u,r,l⟩:=hl i x v e1 e2 e3;refine⟨u,r,?_⟩;rcases l with l|⟨k,c,e,z⟩
  ·exact .inl l
  ·exact .inr ⟨k,c,e,cellK x c e _ z⟩
 ·obtain⟨v,z⟩:=I.cell x c e
  exact⟨v,cellK x c e v z⟩
 ·obtain⟨m,⟨o,_,_,ho,_⟩,_⟩:=I.loc
  exact free _ o (fun z=>(hch _ z).2.1 rfl) ho I.free
 ·obtain⟨v,o,ho,hd⟩:=I.cell x c e
  exact free c o (fun z=>(hch c z).2.2.1 x c e rfl) ho (I.freeC x c e)
 ·obtain⟨e,n,ne,nf,d⟩:=I.pin p hp
  have nch:p.1∉ch:=fun z=>(hch p.1 z).2.2.2 p hp rfl
  exact⟨keep p.1 p.2 ne nf nch e n,free p.1 p.2 nch e n,ne,nf,d⟩
theorem Inv.un{t':Nat}(I:Inv X ND σ H s)(u:Un X.fs [] H H' s.heap h')(NM:HOk X.prog X.w H' h'):Inv X ND σ H' { s with heap:=h',toks:=t' }:=by
 obtain⟨m,⟨o,es,ep,ho,r⟩,_⟩:=id I.loc;obtain⟨sl,hL⟩:=u.any ho I.free (by simp);exact I.step (g':=s.gens) (d':=s.drawn) (ch:=[]) (fun _ z=>nomatch z) (fun b o _ hb _ e n=>u.keep b o e n hb (by simp)) (fun b o _ hb _ e n=>u.slot b o e n hb (by simp)) (fun b o _ e n=>u.free b o e n (by simp)) (fun b o _ e=>u.there b o e (by simp)) u.tups u.frzs u.tbls (fun m' hm=>by
  obtain⟨o',es',ep',ho',r'⟩:=hm;rw[ho]at ho';cases ho';exact⟨_,es',ep',hL,r'⟩) NM I.bare
theorem Inv.call{g':Array GenState}{t':Nat}{d':Drawn}{ch:List Addr}(I:Inv X ND σ H s)(u:Un (jN X.stack) ch H H' s.heap h')(NM:HOk X.prog X.w H' h')(hg:AllBare g')
  (hch:∀b∈ch,(b∈X.ex\/X.s₀.heap.objs.size<=b)/\b≠X.env.locals/\(∀x c,X.env.cells.lookup x=some c->c≠b)/\∀p∈X.pn++ND,p.1≠b) :
  Inv X ND σ H' { s with heap:=h',gens:=g',drawn:=d',toks:=t' }:=by
 obtain⟨m,⟨o,es,ep,ho,r⟩,_⟩:=id I.loc;obtain⟨sl,hL⟩:=u.any ho I.free fun z=>(hch _ z).2.1 rfl
 exact I.step (ch:=ch) hch (fun b o hL hb hc e n=>u.keep b o e n (fun z=>(zT.mp (I.stkSub b z)).elim hL hb) hc) (fun b o _ _ hc e n=>u.any e n hc) (fun b o hc e n=>u.free b o e n hc) (fun b o hc e=>u.there b o e hc) u.tups u.frzs u.tbls (fun m' hm=>by
  obtain⟨o',es',ep',ho',r'⟩:=hm;rw[ho]at ho';cases ho';exact⟨_,es',ep',hL,r'⟩) NM hg
theorem Inv.turned{t':Nat}{it:Addr}(I:Inv X ND σ H s)(k:∀b o,b≠it->s.heap.get? b=some o->h'.get? b=some o)(hn:H it=none)(hL:it≠X.env.locals)
  (h1:it∈X.ex\/X.s₀.heap.objs.size<=it) (h2:∀x c,X.env.cells.lookup x=some c->c≠it) (h3:∀p∈X.pn++ND,p.1≠it):Inv X ND σ H { s with heap:=h',toks:=t' }:=by
 have nit:∀b u,H b=some u->b≠it:=fun b u e z=>by rw[z,hn]at e;cases e
 refine I.step (g':=s.gens) (d':=s.drawn) (ch:=[it]) (fun b hb=>?_) (fun b o _ _ hc e _=>k b o (fun z=>hc (by simp[z])) e) (fun b o _ _ hc e _=>⟨o.slots,k b o (fun z=>hc (by simp[z])) e⟩) (fun _ _ _ _ n=>n)
  (fun b o hc e=>⟨o,k b o (fun z=>hc (by simp[z])) e⟩) (fun _ _ e=>e) (fun _ _ _ e=>e) (fun b ps e=>⟨#[],by rw[e];simp⟩) (fun m hm=>?_) (fun b u e=>?_) I.bare
 ·have e:b=it:=by simpa using hb
  subst e;exact⟨h1,hL,h2,h3⟩
 ·obtain⟨o,es,ep,ho,r⟩:=hm
  exact⟨o,es,ep,k _ o (Ne.symm hL) ho,r⟩
 ·refine(I.NM b u e).stay (fun c v hc q=>k c v ?_ q) (fun _ q=>q) fun _ _ q=>q
  rcases hc with z|z
  ·rw[z];exact nit b u e
  ·exact nit c _ z
theorem Inv.tok(I:Inv X ND σ H s)(t:Nat):Inv X ND σ H { s with toks:=t }:=I.un (h':=s.heap) (t':=t) Un.refl I.NM
theorem Inv.kept{t':Nat}(I:Inv X ND σ H s)(k:∀b u,s.heap.get? b=some u->h'.get? b=some u):Inv X ND σ H { s with heap:=h',toks:=t' }:=I.un (Un.kept k) (I.NM.kept k)
theorem Inv.laid{a:Addr}{o:HO}{t':Nat}(I:Inv X ND σ H s)(k:∀b u,s.heap.get? b=some u->h'.get? b=some u)(hp:s.heap.objs.size<=a)(new:ObjOk X.prog X.w (ae H a o) h' a o) :
  Inv X ND σ (ae H a o) { s with heap:=h',toks:=t' }:=I.un (Un.laid k hp (I.NM.fresh hp)) (I.NM.laid k hp new)
theorem Inv.write{x e:Addr}{o:HO}{t':Nat}(I:Inv X ND σ H s)(mu:xU (H x))(he:e=x\/H e=some (.own x))(k:∀b u,b≠e->s.heap.get? b=some u->h'.get? b=some u)(heo:∃u,h'.get? e=some u)
  (new:ObjOk X.prog X.w (ae H x o) h' x o):Inv X ND σ (ae H x o) { s with heap:=h',toks:=t' }:=I.un (Un.write mu he k heo) (I.NM.write mu he k heo new)
theorem Inv.pins_of{pins':List (Addr×Obj)}(I:Inv X ND σ H s)(h:∀p∈pins',s.heap.get? p.1=some p.2/\H p.1=none/\p.1≠X.env.locals/\p.1∉X.fs/\∀v,p.2.data≠.cell v):Inv X pins' σ H s :=
 ⟨I.ok,I.os,I.bare,I.base,I.loc,I.cell,I.free,I.freeC,fun p hp=>(zZ.mp hp).elim (fun z=>I.pin p (zL _ z)) (h p),I.NM,I.len⟩
theorem qS{N:List Str}(hN:N.Nodup){i j:Nat}{x:Str}(a:N[i]?=some x)(b:N[j]?=some x):i=j:=by
 obtain⟨h1,e1⟩:=zB.mp a;obtain⟨h2,e2⟩:=zB.mp b;exact(List.getElem_inj hN).mp (e1.trans e2.symm)
theorem pC{M:Model}{A:Around}{E:Value->Shared->Prop}{i:Nat}{x:Str}{v:V}{u:Value}{Q:Unit->Shared->Prop}(I:Inv X ND σ H s)(hN:X.N.Nodup)(hi:X.N[i]?=some x)(hx:Loc X.env.scope x)(r:RelV v u)
  (h:∀s',Inv X ND (σ.set i (some v)) H s'->(∃a,Heap.SameBut a s.heap s'.heap/\(a=X.env.locals\/X.env.cells.lookup x=some a))->Q () s') (hf:X.fn x=true\/X.env.scope.names.lookup x=some .local:=by first|exact .inl rfl|exact .inr rfl|assumption):wpAny M A (storeName X.env x u) Q E s:=by
 obtain⟨m,hn,hl⟩:=id I.loc;have hcls:(X.env.scope.kind==.class||(X.env.scope.kind==.module&&X.env.locals !=X.env.globals))=false:=by rw[I.ok.kind];rfl
 have hiσ:i<σ.length:=by rw[I.len];exact(zB.mp hi).1
 have cne:=I.cne;have tracked:∀{a:Addr}{h':Heap},(∃o,s.heap.get? a=some o/\H a=none)->Heap.SameBut a s.heap h'->HOk X.prog X.w H h':=fun {a h'} ha hs b ob e=>by
  obtain⟨_,_,hfree⟩:=ha;refine(I.NM b ob e).stay (fun c w' hc q=>(hs.2 c ?_).trans q) (fun _ q=>q) fun _ _ q=>q
  rintro rfl;rcases hc with rfl|hc
  ·rw[hfree]at e;cases e
  ·rw[hfree]at hc;cases hc
 rcases hx with hk|hk
 ·refine wpAny_storeName_local hk hn (fun h' hn' hs=>?_) hcls
  obtain⟨oL,_,_,hoL,_⟩:=id hn;refine h _ ⟨I.ok,I.os,I.bare,⟨fun b o e n hb hx=>?_,fun b o e n hb hx=>?_,I.base.free,fun b o e hx=>?_,I.base.tups,I.base.frzs,I.base.tbls⟩,⟨_,hn',fun j y v' e1 e2 e3=>?_⟩,fun y c e=>?_,I.free,I.freeC,fun p hp=>?_,tracked ⟨oL,hoL,I.free⟩ hs,by simpa using I.len⟩ ⟨_,hs,.inl rfl⟩
  ·exact(hs.2 b (zU (zJ (yI e) I.ok.above))).trans (I.base.keep b o e n hb hx)
  ·obtain⟨sl,e1⟩:=I.base.slot b o e n hb hx
   exact⟨sl,(hs.2 b (zU (zJ (yI e) I.ok.above))).trans e1⟩
  ·obtain⟨o',e1⟩:=I.base.there b o e hx
   exact⟨o',(hs.2 b (zU (zJ (yI e) I.ok.above))).trans e1⟩
  ·by_cases hj:j=i
   ·subst hj
    rw[hi]at e1;cases e1;rw[List.getElem?_set_self hiσ]at e2;cases e2;exact⟨u,r,.inl ⟨hk,by simp⟩⟩
   ·rw[List.getElem?_set_ne (Ne.symm hj)]at e2
    obtain⟨u',r',q⟩:=hl j y v' e1 e2 e3;refine⟨u',r',?_⟩;rcases q with⟨k,e⟩|⟨k,c,e,z⟩
    ·refine .inl ⟨k,?_⟩
     have:y≠x:=fun e=>hj (qS hN e1 (e▸hi))
     simp[this,e]
    ·exact .inr ⟨k,c,e,z.sameBut hs (cne y c e)⟩
  ·obtain⟨w',z⟩:=I.cell y c e
   exact⟨w',z.sameBut hs (cne y c e)⟩
  ·obtain⟨e,n,ne,nf,d⟩:=I.pin p hp
   exact⟨(hs.2 p.1 ne).trans e,n,ne,nf,d⟩
 ·have hfn:X.fn x=true:=by
   rcases hf with z|z
   ·exact z
   ·rw[z]at hk;cases hk
  obtain⟨c,hc⟩:=I.ok.has x (.inl hk);obtain⟨w',z⟩:=I.cell x c hc;refine wpAny_storeName_cell I.ok.kind hk hc z (fun h' hc' hs=>?_);obtain⟨oc,hoc,hocd⟩:=id z;refine h { s with heap:=h' } ⟨I.ok,I.os,I.bare,⟨fun b o e n hb hx=>?_,fun b o e n hb hx=>?_,I.base.free,fun b o e hx=>?_,I.base.tups,I.base.frzs,I.base.tbls⟩,⟨m,hn.sameBut hs (Ne.symm (cne x c hc)),fun j y v' e1 e2 e3=>?_⟩,fun y c' e=>?_,I.free,I.freeC,fun p hp=>?_,tracked ⟨oc,hoc,I.freeC x c hc⟩ hs,by simpa using I.len⟩ ⟨c,hs,.inr hc⟩
  ·exact(hs.2 b (zU (zJ (yI e) (I.ok.cab x c hfn hc)))).trans (I.base.keep b o e n hb hx)
  ·obtain⟨sl,e1⟩:=I.base.slot b o e n hb hx
   exact⟨sl,(hs.2 b (zU (zJ (yI e) (I.ok.cab x c hfn hc)))).trans e1⟩
  ·obtain⟨o',e1⟩:=I.base.there b o e hx
   exact⟨o',(hs.2 b (zU (zJ (yI e) (I.ok.cab x c hfn hc)))).trans e1⟩
  ·by_cases hj:j=i
   ·subst hj
    rw[hi]at e1;cases e1;rw[List.getElem?_set_self hiσ]at e2;cases e2;exact⟨u,r,.inr ⟨.inl hk,c,hc,hc'⟩⟩
   ·rw[List.getElem?_set_ne (Ne.symm hj)]at e2
    obtain⟨u',r',q⟩:=hl j y v' e1 e2 e3;refine⟨u',r',?_⟩;rcases q with q|⟨k,c',e,z'⟩
    ·exact .inl q
    ·refine .inr ⟨k,c',e,z'.sameBut hs ?_⟩
     rintro rfl;exact hj (qS hN e1 (I.ok.inj _ _ _ e hc▸hi))
  ·by_cases hcc:c'=c
   ·subst hcc;exact⟨_,hc'⟩
   ·obtain⟨w2,z2⟩:=I.cell y c' e
    exact⟨w2,z2.sameBut hs hcc⟩
  ·obtain⟨e,n,ne,nf,d⟩:=I.pin p hp
   refine⟨(hs.2 p.1 ?_).trans e,n,ne,nf,d⟩;intro q;rw[q,hoc]at e;have q':oc=p.2:=yD e;exact d w' (by rw[<- q'];exact hocd)
theorem qB{M:Model}{A:Around}{E:Value->Shared->Prop}{i:Nat}{x:Str}{v:V}{u:Value}{Q:Unit->Shared->Prop}(I:Inv X ND σ H s)(hN:X.N.Nodup)(hi:X.N[i]?=some x)(hx:Loc X.env.scope x)(r:RelV v u)
  (h:∀s',Inv X ND (σ.set i (some v)) H s'->Q () s') (hf:X.fn x=true\/X.env.scope.names.lookup x=some .local:=by first|exact .inl rfl|exact .inr rfl|assumption):wpAny M A (storeName X.env x u) Q E s :=
 pC I hN hi hx r (fun s' I' _=>h s' I') hf
theorem Inv.call'{s':Shared}{ch:List Addr}(I:Inv X ND σ H s)(ho:s'.os=s.os)(u:Un (jN X.stack) ch H H' s.heap s'.heap)(NM:HOk X.prog X.w H' s'.heap)(hg:AllBare s'.gens)
  (hch:∀b∈ch,(b∈X.ex\/X.s₀.heap.objs.size<=b)/\b≠X.env.locals/\(∀x c,X.env.cells.lookup x=some c->c≠b)/\∀p∈X.pn++ND,p.1≠b):Inv X ND σ H' s':=by
 obtain⟨h',g',d',t',o'⟩:=s';have e:o'=s.os:=ho;subst e;exact I.call (g':=g') (t':=t') (d':=d') u NM hg hch
end
abbrev XK:=Value->Option Addr->Hp->Prop
abbrev St:=List (Option V)
abbrev VK:=V->Hp->Prop
abbrev TE:=St->Hp->VK->Prop
abbrev TT:=St->Hp->(Bool->Hp->Prop)->Prop
abbrev TA:=St->Hp->(List V->Hp->Prop)->Prop
structure jB where
 nx:St->Hp->Prop
 rt:VK
 bk:St->Hp->Prop:=fun _ _=>False
 ct:St->Hp->Prop:=fun _ _=>False
abbrev TS:=jB->St->Hp->Prop
def EP(X:Cx)(ND:List (Addr×Obj))(σ:St)(Q:VK)(u:Value)(s':Shared):Prop:=∃v H',Inv X ND σ H' s'/\RelV v u/\Q v H'
def TP(X:Cx)(ND:List (Addr×Obj))(σ:St)(Q:Bool->Hp->Prop)(b:Bool)(s':Shared):Prop:=∃H',Inv X ND σ H' s'/\Q b H'
def AP(X:Cx)(ND:List (Addr×Obj))(σ:St)(Q:List V->Hp->Prop)(us:List Value)(s':Shared):Prop:=∃vs H',Inv X ND σ H' s'/\Vals vs us/\Q vs H'
def SP(X:Cx)(ND:List (Addr×Obj))(D:jB)(f:Flow)(s':Shared):Prop :=
 match f with
 |.next=>∃σ' H',Inv X ND σ' H' s'/\D.nx σ' H'
 |.brk=>∃σ' H',Inv X ND σ' H' s'/\D.bk σ' H'
 |.cont=>∃σ' H',Inv X ND σ' H' s'/\D.ct σ' H'
 |.ret u=>∃v σ' H',Inv X ND σ' H' s'/\RelV v u/\D.rt v H'
def PE(X:Cx)(e:Expr)(t:TE):Prop :=
 ∀(ND:List (Addr×Obj))(s:Shared)(σ:St)(H:Hp)(Q:VK),Inv X ND σ H s->t σ H Q->wpAny (model X.prog X.w) X.A (eval e X.env) (EP X ND σ Q) X.xe s
def PT(X:Cx)(e:Expr)(t:TT):Prop :=
 ∀(ND:List (Addr×Obj))(s:Shared)(σ:St)(H:Hp)(Q:Bool->Hp->Prop),Inv X ND σ H s->t σ H Q->wpAny (model X.prog X.w) X.A (isTrue e X.env (eval e X.env)) (TP X ND σ Q) X.xe s
def PW(X:Cx)(e:Expr)(t:TT):Prop :=
 ∀(whole:Sem Value)(ND:List (Addr×Obj))(s:Shared)(σ:St)(H:Hp)(Q:Bool->Hp->Prop),Inv X ND σ H s->t σ H Q->wpAny (model X.prog X.w) X.A (isTrue e X.env whole) (TP X ND σ Q) X.xe s
theorem PW.pt{X:Cx}{e:Expr}{t:TT}(h:PW X e t):PT X e t:=h _
def PA(X:Cx)(es:List Expr)(t:TA):Prop :=
 ∀(pos:Pos)(ND:List (Addr×Obj))(s:Shared)(σ:St)(H:Hp)(Q:List V->Hp->Prop),Inv X ND σ H s->t σ H Q->wpAny (model X.prog X.w) X.A (spliced (backTo pos (starEach es X.env))) (AP X ND σ Q) X.xe s
def PS(X:Cx)(st:Stmt)(t:TS):Prop :=
 ∀(ND:List (Addr×Obj))(s:Shared)(σ:St)(H:Hp)(D:jB),Inv X ND σ H s->t D σ H->wpAny (model X.prog X.w) X.A (exec st X.env) (SP X ND D) X.xe s
def PSs(X:Cx)(st:List Stmt)(t:TS):Prop :=
 ∀(ND:List (Addr×Obj))(s:Shared)(σ:St)(H:Hp)(D:jB),Inv X ND σ H s->t D σ H->wpAny (model X.prog X.w) X.A (execs st X.env) (SP X ND D) X.xe s
theorem aB{α:Type}{t:Sem α}{Q Q':α->Shared->Prop}{M:Model}{A:Around}{E:Value->Shared->Prop}{s:Shared}(h:wpAny M A t Q E s)(hQ:∀a s,Q a s->Q' a s):wpAny M A t Q' E s:=yS h hQ fun _ _ x=>x
section
variable{X:Cx}
theorem bin{a b:Expr}{ta tb:TE}(ha:PE X a ta)(hb:PE X b tb){ND:List (Addr×Obj)}{s:Shared}{σ:St}{H:Hp}{R:V->V->Hp->Prop}(I:Inv X ND σ H s)(h:ta σ H fun x H1=>tb σ H1 fun y H2=>R x y H2)
  {α:Type}{Q:α->Shared->Prop}{f:Value->Value->Sem α}
  (hf:∀v u s2 x y H2,Inv X ND σ H2 s2->RelV x v->RelV y u->R x y H2->wpAny (model X.prog X.w) X.A (f v u) Q X.xe s2) :
  wpAny (model X.prog X.w) X.A (eval a X.env) (fun v s₁=>wpAny (model X.prog X.w) X.A (eval b X.env) (fun u s₂=>wpAny (model X.prog X.w) X.A (f v u) Q X.xe s₂) X.xe s₁) X.xe s:=by
 refine aB (ha ND s σ H _ I h) fun v s1 hq0=>?_
 obtain⟨x,H1,I1,r1,q1⟩:=hq0;refine aB (hb ND s1 σ H1 _ I1 q1) fun u s2 hq0=>?_
 obtain⟨y,H2,I2,r2,q2⟩:=hq0;exact hf v u s2 x y H2 I2 r1 r2 q2
noncomputable def Ks(i:Nat):TE:=fun σ H Q=>∃v,σ[i]?=some (some v)/\Q v H
noncomputable def tC(v:V):TE:=fun _ H Q=>Q v H
theorem Fm{i:Nat}{x:Str}{pos:Pos}(hN:X.N[i]?=some x)(hv:xR X.env.scope x)(hd:(x==("__debug__":Str))=false:=by decide)(hcd:(x==("__classdict__":Str))=false:=by decide):PE X (.Name x pos) (Ks i):=by
 intro ND s σ H Q I h;obtain⟨v,e,h⟩:=h;obtain⟨m,hn,hl⟩:=I.loc;obtain⟨u,r,l⟩:=hl i x v hN e hv;have ay:EP X ND σ Q u s:=⟨v,H,I,r,h⟩;rcases l with⟨hk,hm⟩|⟨hk,c,hc,hcell⟩
 ·exact wpAny_Name (wpAny_loadName_local I.ok.kind hk hn hm ay) hd
 ·rcases hk with hk|hk
  ·exact wpAny_Name (wpAny_loadName_cell I.ok.kind hk hc hcell ay) hd
  ·exact wpAny_Name (wpAny_loadName_free I.ok.kind hk hc hcell ay hcd) hd
theorem Fw{i j pos}:PE X (.Constant (.int i) j pos) (tC (.int i)):=fun _ _ _ H _ I h=>wpAny_Constant_int ⟨.int i,H,I.tok _,⟨_,rfl⟩,h⟩
theorem H0{b j pos}:PE X (.Constant (.bool b) j pos) (tC (.bl b)):=fun _ _ _ H _ I h=>Constant_bool ⟨.bl b,H,I,rfl,h⟩
theorem Fv{j pos}:PE X (.Constant .none j pos) (tC .non):=fun _ _ _ H _ I h=>Constant_none ⟨.non,H,I,rfl,h⟩
theorem Fq{x j pos}:PE X (.Constant (.str x) j pos) (tC (.str x)):=fun _ _ _ H _ I h=>Calls.Constant_str ⟨.str x,H,I.tok _,⟨_,rfl⟩,h⟩
def Gl(X:Cx)(x:Str):Prop:=X.env.kindOf x=some .globalImplicit
theorem lG{E:Value->Shared->Prop}{ND:List (Addr×Obj)}{s:Shared}{σ:St}{H:Hp}{x:Str}{u:Value}{pos:Pos}{Q:Value->Shared->Prop}(I:Inv X ND σ H s)(hg:Gl X x)(hm:X.mg x=some u)(h:Q u s)
  (hd:(x==("__debug__":Str))=false:=by decide):wpAny (model X.prog X.w) X.A (eval (.Name x pos) X.env) Q E s :=
 Calls.Name_function_global I.ok.kind hg (Calls.loadGlobal_global (by rw[I.ok.glob];exact I.mod.glob.keeps I.bk) hm h) hd
theorem c8{E:Value->Shared->Prop}{ND:List (Addr×Obj)}{s:Shared}{σ:St}{H:Hp}{x:Str}{u:Value}{pos:Pos}{Q:Value->Shared->Prop}(I:Inv X ND σ H s)(hg:Gl X x)(hm:X.mg x=none)(hv:bootBuiltins x=some u)(h:Q u s)
  (hn:x≠"__name__":=by decide) (hd:(x==("__debug__":Str))=false:=by decide):wpAny (model X.prog X.w) X.A (eval (.Name x pos) X.env) Q E s:=by
 obtain⟨mb,h1,h2⟩:=I.mod.blt;exact Calls.Name_function_global I.ok.kind hg (Calls.loadGlobal_builtin (by rw[I.ok.glob];exact I.mod.glob.keeps I.bk) hm (by rw[I.ok.blt];exact h1.keeps I.bk) ((h2 x hn).trans hv) h) hd
theorem C9{x:Str}{v:V}{u:Value}{pos:Pos}(hg:Gl X x)(hm:X.mg x=some u)(r:RelV v u)(hd:(x==("__debug__":Str))=false:=by decide):PE X (.Name x pos) (tC v) :=
 fun _ _ _ H _ I h=>lG I hg hm ⟨v,H,I,r,h⟩ hd
theorem Dc{x:Str}{v:V}{u:Value}{pos:Pos}(hg:Gl X x)(hm:X.mg x=none)(hv:bootBuiltins x=some u)(r:RelV v u)(hn:x≠"__name__":=by decide)(hd:(x==("__debug__":Str))=false:=by decide):PE X (.Name x pos) (tC v) :=
 fun _ _ _ H _ I h=>c8 I hg hm hv ⟨v,H,I,r,h⟩ hn hd
variable{a b:Expr}{ta tb:TE}{pos:Pos}
theorem RelV.none_iff{x:V}{v:Value}(r:RelV x v):(v==Value.none)=decide (x=.non):=by
 cases x with
 |non=>cases r;rfl
 |bl _=>cases r;rfl
 |int _=>obtain⟨t,rfl⟩:=r;rfl
 |str _=>obtain⟨t,rfl⟩:=r;rfl
 |byt _=>obtain⟨t,rfl⟩:=r;rfl
 |flt _=>obtain⟨t,rfl⟩:=r;rfl
 |ref _=>cases r;rfl
 |ty _=>cases r;rfl
variable{tA tB':TT}{rest:List Expr}
noncomputable def KD(t u:TT):TT:=fun σ H Q=>t σ H fun c H1=>if c=true then u σ H1 Q else Q false H1
noncomputable def LL(t u:TT):TT:=fun σ H Q=>t σ H fun c H1=>if c=true then Q true H1 else u σ H1 Q
noncomputable def Kx(t:TT):TT:=fun σ H Q=>t σ H fun c H1=>Q (!c) H1
theorem CP(ha:PT X a tA):PW X (.BoolOp .And [a] pos) tA:=by
 intro wh ND s σ H Q I h;refine isTrue_and (aB (ha ND s σ H Q I h) fun c s1 e=>?_);cases c with
 |true=>exact isTrue_and_nil e
 |false=>exact e
theorem E9(ha:PT X a tA):PW X (.BoolOp .Or [a] pos) tA:=by
 intro wh ND s σ H Q I h;refine isTrue_or (aB (ha ND s σ H Q I h) fun c s1 e=>?_);cases c with
 |false=>exact isTrue_or_nil e
 |true=>exact e
theorem Fa(ha:PT X a tA)(hb:PW X (.BoolOp .And (b::rest) pos) tB'):PW X (.BoolOp .And (a::b::rest) pos) (KD tA tB'):=by
 intro wh ND s σ H Q I h;refine isTrue_and (aB (ha ND s σ H _ I h) fun c s1 hq0=>?_);obtain⟨H1,I1,q1⟩:=hq0;cases c with
 |true=>exact hb wh ND s1 σ H1 Q I1 q1
 |false=>exact⟨H1,I1,q1⟩
theorem HM(ha:PT X a tA)(hb:PW X (.BoolOp .Or (b::rest) pos) tB'):PW X (.BoolOp .Or (a::b::rest) pos) (LL tA tB'):=by
 intro wh ND s σ H Q I h;refine isTrue_or (aB (ha ND s σ H _ I h) fun c s1 hq0=>?_);obtain⟨H1,I1,q1⟩:=hq0;cases c with
 |true=>exact⟨H1,I1,q1⟩
 |false=>exact hb wh ND s1 σ H1 Q I1 q1
theorem Fb(ha:PT X a tA):PT X (.UnaryOp .Not a pos) (Kx tA):=by
 intro ND s σ H Q I h;exact isTrue_not (ha ND s σ H (fun c H1=>Q (!c) H1) I h)
noncomputable def Hr(ta tb:TE):TE:=fun σ H Q=>ta σ H fun x H1=>∃c,x=.bl c/\if c=true then tb σ H1 Q else Q (.bl false) H1
noncomputable def Kw(ta tb:TE):TE:=fun σ H Q=>ta σ H fun x H1=>∃c,x=.bl c/\if c=true then Q (.bl true) H1 else tb σ H1 Q
noncomputable def Hm(ta:TE):TE:=fun σ H Q=>ta σ H fun x H1=>∃c,x=.bl c/\Q (.bl (!c)) H1
theorem Ft{op}{t:TE}(h:PE X a t):PE X (.BoolOp op [a] pos) t:=fun ND s σ H Q I hw=>BoolOp_one (h ND s σ H Q I hw)
theorem Fz(ha:PE X a ta)(hb:PE X (.BoolOp .And (b::rest) pos) tb):PE X (.BoolOp .And (a::b::rest) pos) (Hr ta tb):=by
 intro ND s σ H Q I h;refine BoolOp_and (aB (ha ND s σ H _ I h) fun v s1 hq0=>?_);obtain⟨x,H1,I1,r1,q1⟩:=hq0;obtain⟨c,rfl,q1⟩:=q1;cases r1;refine wpAny_truthy_bool ?_;cases c with
 |true=>exact hb ND s1 σ H1 Q I1 q1
 |false=>exact⟨.bl false,H1,I1,rfl,q1⟩
theorem HW(ha:PE X a ta)(hb:PE X (.BoolOp .Or (b::rest) pos) tb):PE X (.BoolOp .Or (a::b::rest) pos) (Kw ta tb):=by
 intro ND s σ H Q I h;refine BoolOp_or (aB (ha ND s σ H _ I h) fun v s1 hq0=>?_);obtain⟨x,H1,I1,r1,q1⟩:=hq0;obtain⟨c,rfl,q1⟩:=q1;cases r1;refine wpAny_truthy_bool ?_;cases c with
 |false=>exact hb ND s1 σ H1 Q I1 q1
 |true=>exact⟨.bl true,H1,I1,rfl,q1⟩
theorem Fu(ha:PE X a ta):PE X (.UnaryOp .Not a pos) (Hm ta):=by
 intro ND s σ H Q I h;refine UnaryOp_ (aB (ha ND s σ H _ I h) fun v s1 hq0=>?_);obtain⟨x,H1,I1,r1,q1⟩:=hq0;obtain⟨c,rfl,q1⟩:=q1;cases r1;exact not_of (wpAny_truthy_bool ⟨.bl (!c),H1,I1,rfl,q1⟩)
noncomputable def LM(t:TT)(ta tb:TE):TE:=fun σ H Q=>t σ H fun c H1=>if c=true then ta σ H1 Q else tb σ H1 Q
theorem Ab{c:Expr}(hc:PT X c tA)(ha:PE X a ta)(hb:PE X b tb):PE X (.IfExp c a b pos) (LM tA ta tb):=by
 intro ND s σ H Q I h;refine wpAny_IfExp (aB (hc ND s σ H _ I h) fun d s1 hq0=>?_);obtain⟨H1,I1,q1⟩:=hq0;cases d with
 |true=>exact ha ND s1 σ H1 Q I1 q1
 |false=>exact hb ND s1 σ H1 Q I1 q1
end
def bK(K:Frag)(H:Hp)(a:Addr)(xs:List V):Prop :=
 Rd H a (.lst xs) \/
  ∃(o:Obj)(NH:Array Value)(n:Nat),K.lookup a=some o/\o.cls=.type "list"/\o.dict=none/\o.data=.seq NH n/\NH.size<=sizeLine/\Vals xs NH.toList
def gk(K:Frag)(H:Hp)(a:Addr)(xs:List V):Prop :=
 Rd H a (.tup xs) \/
  ∃(o:Obj)(NH:Array Value)(n:Nat),K.lookup a=some o/\o.cls=.type "tuple"/\o.data=.seq NH n/\NH.size<=sizeLine/\Vals xs NH.toList
noncomputable def Ln:Value->Option V
 |.none=>some .non
 |.bool b=>some (.bl b)
 |.int i _=>some (.int i)
 |.str x _=>some (.str x)
 |.bytes b _=>some (.byt b)
 |.float b _=>some (.flt b)
 |.ref a=>some (.ref a)
 |.type n=>some (.ty n)
 |_=>none
theorem RelV.abs{x:V}{u:Value}(r:RelV x u):Ln u=some x:=by
 cases x with
 |non=>cases r;rfl
 |bl _=>cases r;rfl
 |int _=>obtain⟨t,rfl⟩:=r;rfl
 |str _=>obtain⟨t,rfl⟩:=r;rfl
 |byt _=>obtain⟨t,rfl⟩:=r;rfl
 |flt _=>obtain⟨t,rfl⟩:=r;rfl
 |ref _=>cases r;rfl
 |ty _=>cases r;rfl
theorem RelV.inj{x y:V}{u:Value}(r:RelV x u)(q:RelV y u):x=y:=yD (r.abs.symm.trans q.abs)
theorem Vals.inj{xs ys:List V}{us:List Value}(h:Vals xs us):Vals ys us->xs=ys:=by
 induction h generalizing ys with
 |nil=>intro h';cases h';rfl
 |cons r t ih =>
  intro h';cases h' with
  |cons r' t'=>rw[r.inj r',ih t']
section
variable{X:Cx}{ND:List (Addr×Obj)}{σ:St}{H:Hp}{s:Shared}{a:Addr}{xs ys:List V}
theorem Inv.list(I:Inv X ND σ H s)(h:bK X.K H a xs):∃NH:List Value,Vals xs NH/\PlainL s.heap a NH.toArray/\xs.length<=sizeLine:=by
 rcases h with h|⟨o,NH,n,hk,hc,hd,hs,hz,r⟩
 ·obtain⟨z,NH,n,r,e⟩:=h.ok I.NM
  exact⟨NH,r,⟨_,n,e,rfl,rfl,rfl⟩,z⟩
 ·refine⟨NH.toList,r,⟨o,n,I.kIn a o hk,hc,hd,by simpa using hs⟩,?_⟩
  have e:=r.length;simp only[Array.length_toList]at e;lia
theorem Inv.tuple(I:Inv X ND σ H s)(h:gk X.K H a xs):∃NH:List Value,Vals xs NH/\IsTup s.heap a NH.toArray/\xs.length<=sizeLine:=by
 rcases h with h|⟨o,NH,n,hk,hc,hs,hz,r⟩
 ·obtain⟨z,NH,r,p⟩:=h.ok I.NM
  exact⟨NH,r,p,z⟩
 ·refine⟨NH.toList,r,⟨o,I.kIn a o hk,hc,n,by simpa using hs⟩,?_⟩
  have e:=r.length;simp only[Array.length_toList]at e;lia
theorem Inv.list_inj(I:Inv X ND σ H s)(h:bK X.K H a xs)(h':bK X.K H a ys):xs=ys:=by
 obtain⟨NH,r,⟨o,n,e,_,_,d⟩,_⟩:=I.list h;obtain⟨its',r',⟨o',n',e',_,_,d'⟩,_⟩:=I.list h';rw[e]at e';cases e';rw[d]at d';injection d' with d1 _;have:NH=its':=by simpa using congrArg Array.toList d1
 subst this;exact r.inj r'
theorem Inv.tuple_inj(I:Inv X ND σ H s)(h:gk X.K H a xs)(h':gk X.K H a ys):xs=ys:=by
 obtain⟨NH,r,⟨o,e,_,n,d⟩,_⟩:=I.tuple h;obtain⟨its',r',⟨o',e',_,n',d'⟩,_⟩:=I.tuple h';rw[e]at e';cases e';rw[d]at d';injection d' with d1 _;have:NH=its':=by simpa using congrArg Array.toList d1
 subst this;exact r.inj r'
end
abbrev Cx.wish(X:Cx)(E:Value->Shared->Prop):Cx:={ X with xe:=E }
abbrev Cx.nox(X:Cx):Cx:=X.wish fun _ _=>False
theorem Cx.Ok.wish{X:Cx}(ok:X.Ok)(E:Value->Shared->Prop):(X.wish E).Ok :=
 ⟨ok.mod,ok.kind,ok.glob,ok.blt,ok.above,ok.inj,ok.has,ok.cab,ok.hd,ok.frames,ok.stk,ok.exf,ok.bs,ok.bsz,ok.noex,ok.exfs,ok.funs,ok.frf⟩
theorem Cx.Ok.unwish{X:Cx}{E:Value->Shared->Prop}(ok:(X.wish E).Ok):X.Ok :=
 ⟨ok.mod,ok.kind,ok.glob,ok.blt,ok.above,ok.inj,ok.has,ok.cab,ok.hd,ok.frames,ok.stk,ok.exf,ok.bs,ok.bsz,ok.noex,ok.exfs,ok.funs,ok.frf⟩
section
variable{X:Cx}{ND:List (Addr×Obj)}{σ:St}{H:Hp}{s:Shared}{E:Value->Shared->Prop}
theorem Inv.wish(I:Inv X ND σ H s)(E:Value->Shared->Prop):Inv (X.wish E) ND σ H s:=⟨I.ok.wish E,I.os,I.bare,I.base,I.loc,I.cell,I.free,I.freeC,I.pin,I.NM,I.len⟩
theorem Inv.unwish(I:Inv (X.wish E) ND σ H s):Inv X ND σ H s:=⟨I.ok.unwish,I.os,I.bare,I.base,I.loc,I.cell,I.free,I.freeC,I.pin,I.NM,I.len⟩
theorem SP.unwish{D:jB}{f:Flow}{s':Shared}(h:SP (X.wish E) ND D f s'):SP X ND D f s':=by
 cases f with
 |next=>obtain⟨σ',H',I,q⟩:=h;exact⟨σ',H',I.unwish,q⟩
 |brk=>obtain⟨σ',H',I,q⟩:=h;exact⟨σ',H',I.unwish,q⟩
 |cont=>obtain⟨σ',H',I,q⟩:=h;exact⟨σ',H',I.unwish,q⟩
 |ret u=>obtain⟨v,σ',H',I,r,q⟩:=h;exact⟨v,σ',H',I.unwish,r,q⟩
theorem PSs.nox{st:List Stmt}{t:TS}(h:PSs X.nox st t):PSs X st t:=fun ND s σ H D I hw =>
 yS (h ND s σ H D (I.wish _) hw) (fun _ _ q=>q.unwish) fun _ _ z=>False.elim z
end
section
variable{X:Cx}{st:Stmt}{rest:List Stmt}{t u:TS}{e:Expr}{te:TE}{pos:Pos}
noncomputable def Hn:TS:=fun D σ H=>D.nx σ H
noncomputable def Ku(t u:TS):TS:=fun D σ H=>t { D with nx:=u D } σ H
theorem CS:PSs X [] Hn:=fun _ _ σ H _ I h=>wpAny_execs_nil ⟨σ,H,I,h⟩
theorem zm(h1:PS X st t)(h2:PSs X rest u):PSs X (st::rest) (Ku t u):=by
 intro ND s σ H D I h;refine wpAny_execs_cons (aB (h1 ND s σ H { D with nx:=u D } I h) fun f s1 q=>?_);cases f with
 |next =>
  obtain⟨σ',H',I',q⟩:=q;exact h2 ND s1 σ' H' D I' q
 |ret v=>exact q
 |brk=>exact q
 |cont=>exact q
theorem Inv.quiet{ND:List (Addr×Obj)}{σ:St}{H:Hp}{s:Shared}(I:Inv X ND σ H s):interactive X.env=false:=by simp[interactive,I.ok.kind]
noncomputable def Ho(te:TE):TS:=fun D σ H=>te σ H fun _ H1=>D.nx σ H1
theorem CU(he:PE X e te)(hs:swapsWith e none pos.line X.env=pure false:=by rfl):PS X (.Expr e pos) (Ho te):=by
 intro ND s σ H D I h;exact wpAny_Expr_any (aB (he ND s σ H _ I h) fun v s1 ⟨x,H1,I1,r1,q1⟩=>⟨σ,H1,I1,q1⟩) I.quiet hs
noncomputable def Kv(te:TE):TS:=fun D σ H=>te σ H D.rt
theorem Fd(he:PE X e te):PS X (.Return (some e) pos) (Kv te):=by
 intro ND s σ H D I h;exact wpAny_Return_some (aB (he ND s σ H _ I h) fun v s1 ⟨x,H1,I1,r1,q1⟩=>⟨x,σ,H1,I1,r1,q1⟩)
noncomputable def Kz(c:TT)(t u:TS):TS:=fun D σ H=>c σ H fun b H1=>if b=true then t D σ H1 else u D σ H1
theorem HN{c:Expr}{a b:List Stmt}{tc:TT}(hc:PT X c tc)(ha:PSs X a t)(hb:PSs X b u):PS X (.If c a b pos) (Kz tc t u):=by
 intro ND s σ H D I h;refine wpAny_If (aB (hc ND s σ H _ I h) fun d s1 hq0=>?_);obtain⟨H1,I1,q1⟩:=hq0;cases d with
 |true=>exact ha ND s1 σ H1 D I1 q1
 |false=>exact hb ND s1 σ H1 D I1 q1
noncomputable def Ek:TS:=fun _ _ _=>False
theorem zo:PS X st Ek:=fun _ _ _ _ _ _ h=>h.elim
end
abbrev TG:=V->St->Hp->(St->Hp->Prop)->Prop
abbrev mF:=List V->St->Hp->(St->Hp->Prop)->Prop
def PG(X:Cx)(target:Expr)(t:TG):Prop :=
 ∀(ND:List (Addr×Obj))(s:Shared)(σ:St)(H:Hp)(v:V)(u:Value)(Q:St->Hp->Prop),Inv X ND σ H s->RelV v u->t v σ H Q ->
  wpAny (model X.prog X.w) X.A (assign target X.env u) (fun _ s'=>∃σ' H',Inv X ND σ' H' s'/\Q σ' H') X.xe s
def p6(X:Cx)(ts:List Expr)(t:mF):Prop :=
 ∀(ND:List (Addr×Obj))(s:Shared)(σ:St)(H:Hp)(vs:List V)(us:List Value)(Q:St->Hp->Prop),Inv X ND σ H s->Vals vs us->t vs σ H Q ->
  wpAny (model X.prog X.w) X.A (assignInOrder ((assignEach ts X.env).map (·.2)) us) (fun _ s'=>∃σ' H',Inv X ND σ' H' s'/\Q σ' H') X.xe s
abbrev sV:=V->V->V->Hp->(Hp->Prop)->Prop
def vU(X:Cx)(t:sV):Prop :=
 ∀(ND:List (Addr×Obj))(s:Shared)(σ:St)(H:Hp)(o i v:V)(ov iv u:Value)(Q:Hp->Prop),Inv X ND σ H s->RelV o ov->RelV i iv->RelV v u->t o i v H Q ->
  wpAny (model X.prog X.w) X.A (setItem ov iv u) (fun _ s'=>∃H',Inv X ND σ H' s'/\Q H') X.xe s
abbrev BV:=V->V->Hp->VK->Prop
def BZ(X:Cx)(op:Operator)(t:BV):Prop :=
 ∀(ND:List (Addr×Obj))(s:Shared)(σ:St)(H:Hp)(x y:V)(v u:Value)(Q:VK),Inv X ND σ H s->RelV x v->RelV y u->t x y H Q ->
  wpAny (model X.prog X.w) X.A (inplaceOp op v u) (EP X ND σ Q) X.xe s
section
variable{X:Cx}{pos:Pos}
noncomputable def nY(i:Nat):TG:=fun v σ H Q=>Q (σ.set i (some v)) H
theorem C6{i:Nat}{x:Str}(hN:X.N.Nodup)(hi:X.N[i]?=some x)(hx:Loc X.env.scope x)(hf:X.fn x=true\/X.env.scope.names.lookup x=some .local:=by first|exact .inl rfl|exact .inr rfl|assumption):PG X (.Name x pos) (nY i):=by
 intro ND s σ H v u Q I r h;exact wpAny_assign_Name (qB I hN hi hx r (fun s' I'=>⟨_,H,I',h⟩) hf)
noncomputable def Lf:mF:=fun vs σ H Q=>vs=[]/\Q σ H
noncomputable def IM(t:TG)(u:mF):mF:=fun vs σ H Q=>∃v r,vs=v::r/\t v σ H fun σ' H'=>u r σ' H' Q
theorem C4:p6 X [] Lf:=by
 intro ND s σ H vs us Q I r h;obtain⟨e,h⟩:=h;subst e;cases r;exact assignInOrder_nil ⟨σ,H,I,h⟩
theorem zu{e:Expr}{es:List Expr}{t:TG}{u:mF}(h1:PG X e t)(h2:p6 X es u)
  (hs:(assignEach (e::es) X.env).map (·.2)=assign e X.env::(assignEach es X.env).map (·.2):=by rfl):p6 X (e::es) (IM t u):=by
 intro ND s σ H vs us Q I r h;obtain⟨v,vr,e1,h⟩:=h;subst e1;cases r with
 |cons r rr =>
  rw[hs];refine assignInOrder_cons (aB (h1 ND s σ H _ _ _ I r h) fun _ s1 hq0=>?_);obtain⟨σ1,H1,I1,q1⟩:=hq0;exact h2 ND s1 σ1 H1 _ _ Q I1 rr q1
noncomputable def Lc(K:Frag)(n:Nat)(t:mF):TG:=fun v σ H Q=>∃a xs,v=.ref a/\gk K H a xs/\xs.length=n/\t xs σ H Q
theorem Fj{es:List Expr}{k:Nat}{t:mF}{n:Nat}(hc:X.calm=true)(h:p6 X es t)
  (hn:(assignEach es X.env).length=n:=by rfl) (hst:(assignEach es X.env).findIdx? (·.1)=none:=by rfl):PG X (.Tuple es k pos) (Lc X.K n t):=by
 intro ND s σ H v u Q I r hw;obtain⟨a,xs,e1,hq,hl,hw⟩:=hw;subst e1;cases r;obtain⟨NH,rv,ht,hz⟩:=I.tuple hq;refine assign_Tuple_tuple (I.ok.hd hc) ht (by simp[hn,<- hl,rv.length]) hst fun h' hx=>?_
 have I1:Inv X ND σ H { s with heap:=h' }:=I.kept (t':=s.toks) fun b o e=>hx b o (zU (yI e)) e
 exact h ND _ σ H xs _ Q I1 (by simpa using rv) hw
noncomputable def Ld(to ti:TE)(t:sV):TG:=fun v σ H Q=>to σ H fun o H1=>ti σ H1 fun i H2=>t o i v H2 fun H3=>Q σ H3
theorem Fl{o i:Expr}{to ti:TE}{t:sV}(ho:PE X o to)(hi:PE X i ti)(hs:vU X t)
  (ha:∀v,assign (.Subscript o i pos) X.env v=(do
   let ov <- holding [v] (eval o X.env)
   let iv <- holding [v,ov] (eval i X.env)
   standAt pos
   holding [v,ov,iv] (setItem ov iv v)
   release [v,ov,iv] []):=by intro _;rfl):PG X (.Subscript o i pos) (Ld to ti t):=by
 intro ND s σ H v u Q I r h;rw[ha];refine yE (yR (aB (ho ND s σ H _ I h) fun ov s1 hq0=>?_));obtain⟨x,H1,I1,r1,q1⟩:=hq0;refine yE (yR (aB (hi ND s1 σ H1 _ I1 q1) fun iv s2 hq0=>?_));obtain⟨y,H2,I2,r2,q2⟩:=hq0;refine yE (wpAny_standAt (yE (yR (aB (hs ND s2 σ H2 x y v ov iv u _ I2 r1 r2 r q2) fun _ s3 hq0=>?_))));obtain⟨H3,I3,q3⟩:=hq0;exact wpAny_release ⟨σ,H3,I3,q3⟩
noncomputable def u0(te:TE)(g:TG):TS:=fun D σ H=>te σ H fun x H1=>g x σ H1 D.nx
theorem Ff{tg e:Expr}{te:TE}{g:TG}(he:PE X e te)(hg:PG X tg g)(hs:swapsWithSole [tg] e pos.line X.env=pure false:=by rfl)(hw:swappedStores [tg] e X.env=pure none:=by rfl)
  (h1:(assignEach [tg] X.env).map (·.2)=[assign tg X.env]:=by rfl):PS X (.Assign [tg] e pos) (u0 te g):=by
 intro ND s σ H D I h;refine wpAny_Assign_stores (aB (he ND s σ H _ I h) fun v s1 hq0=>?_) hs hw;obtain⟨x,H1,I1,r1,q1⟩:=hq0;rw[h1];exact aB (hg ND s1 σ H1 x v _ I1 r1 q1) fun _ s2 q=>q
theorem Fc{i:Nat}{x:Str}{e:Expr}{te:TE}{pos':Pos}(hN:X.N.Nodup)(hi:X.N[i]?=some x)(hx:Loc X.env.scope x)(he:PE X e te)(hs:swapsWith e (some (.Name x pos')) pos.line X.env=pure false:=by rfl)(hf:X.fn x=true\/X.env.scope.names.lookup x=some .local:=by first|exact .inl rfl|exact .inr rfl|assumption) :
  PS X (.Assign [.Name x pos'] e pos) (u0 te (nY i)):=by
 intro ND s σ H D I h;refine wpAny_Assign_Name (aB (he ND s σ H _ I h) fun v s1 hq0=>?_) hs;obtain⟨y,H1,I1,r1,q1⟩:=hq0;exact qB I1 hN hi hx r1 (fun s2 I2=>⟨_,H1,I2,q1⟩) hf
def Hq(to ti te:TE)(tget:V->V->Hp->VK->Prop)(tip:BV)(tset:sV):TS:=fun D σ H=>to σ H fun o H1=>ti σ H1 fun i H2=>tget o i H2 fun x H3=>te σ H3 fun y H4=>tip x y H4 fun z H5=>tset o i z H5 fun H6=>D.nx σ H6
def AW(X:Cx)(t:V->V->Hp->VK->Prop):Prop :=
 ∀(ND:List (Addr×Obj))(s:Shared)(σ:St)(H:Hp)(o i:V)(ov iv:Value)(Q:VK),Inv X ND σ H s->RelV o ov->RelV i iv->t o i H Q ->
  wpAny (model X.prog X.w) X.A (getItem ov iv) (EP X ND σ Q) X.xe s
theorem CV{o i e:Expr}{to ti te:TE}{tget:V->V->Hp->VK->Prop}{tip:BV}{tset:sV}{op:Operator}{tpos:Pos}(ho:PE X o to)(hi:PE X i ti)(hg:AW X tget)(he:PE X e te)(hp:BZ X op tip)(hs:vU X tset)
  (ha:∀ov iv new,augStore i ov iv new=(do holding [new,ov,iv] (setItem ov iv new);release [new,ov,iv] [];pure .next):=by intros;rfl):PS X (.AugAssign (.Subscript o i tpos) op e pos) (Hq to ti te tget tip tset):=by
 intro ND s σ H D I h;refine wpAny_AugAssign_SubscriptAny (aB (ho ND s σ H _ I h) fun ov s1 hq0=>?_) ha;obtain⟨x1,H1,I1,r1,q1⟩:=hq0;refine aB (hi ND s1 σ H1 _ I1 q1) fun iv s2 hq0=>?_
 obtain⟨x2,H2,I2,r2,q2⟩:=hq0;refine aB (hg ND s2 σ H2 x1 x2 ov iv _ I2 r1 r2 q2) fun old s3 hq0=>?_
 obtain⟨x3,H3,I3,r3,q3⟩:=hq0;refine aB (he ND s3 σ H3 _ I3 q3) fun v s4 hq0=>?_
 obtain⟨x4,H4,I4,r4,q4⟩:=hq0;refine aB (hp ND s4 σ H4 x3 x4 old v _ I4 r3 r4 q4) fun new s5 hq0=>?_
 obtain⟨x5,H5,I5,r5,q5⟩:=hq0;exact aB (hs ND s5 σ H5 x1 x2 x5 ov iv new _ I5 r1 r2 r5 q5) fun _ s6 ⟨H6,I6,q6⟩=>⟨σ,H6,I6,q6⟩
noncomputable def JV(f:Int->Int->Int):BV:=fun x y H Q=>∃i j,x=.int i/\y=.int j/\Q (.int (f i j)) H
theorem Gh:BZ X .Add (JV fun i j=>i+j):=by
 intro ND s σ H x y v u Q I r1 r2 h;obtain⟨i,j,e1,e2,q⟩:=h;subst e1;subst e2;obtain⟨t,rfl⟩:=r1;obtain⟨t',rfl⟩:=r2;exact iadd_int ⟨.int _,H,I.tok _,⟨_,rfl⟩,q⟩
theorem Gg:BZ X .Sub (JV fun i j=>i-j):=by
 intro ND s σ H x y v u Q I r1 r2 h;obtain⟨i,j,e1,e2,q⟩:=h;subst e1;subst e2;obtain⟨t,rfl⟩:=r1;obtain⟨t',rfl⟩:=r2;exact isub_int ⟨.int _,H,I.tok _,⟨_,rfl⟩,q⟩
end
section
variable{X:Cx}{pos:Pos}
def Ei(c:TT)(tb:TS):TS:=fun D σ H=>∃W:Nat->St->Hp->Prop,(∃m,W m σ H)/\∀m σ H,W m σ H ->
 c σ H fun b H1=>if b=true then ∃N:St->Hp->Prop,(∀σ' H',N σ' H'->∃m',m'<m/\W m' σ' H')/\tb { D with nx:=N,ct:=N,bk:=D.nx } σ H1 else D.nx σ H1
theorem zn{c:Expr}{body:List Stmt}{tc:TT}{tb:TS}(hp:PassesOwn (model X.prog X.w) X.A X.env X.xe)(hc:PT X c tc)(hb:PSs X body tb):PS X (.While c body [] pos) (Ei tc tb):=by
 intro ND s σ H D I h;obtain⟨W,⟨m0,w0⟩,turn⟩:=h;refine wpAny_While (codeAny_whileLoop (fun n s'=>∃σ' H',Inv X ND σ' H' s'/\W n σ' H') ?_ m0 ⟨σ,H,I,w0⟩);rintro n s1 ⟨σ1,H1,I1,w1⟩;refine wpAny_passesOwn hp (aB (hc ND s1 σ1 H1 _ I1 (turn n σ1 H1 w1)) fun b s2 hq0=>?_);obtain⟨H2,I2,q2⟩:=hq0;cases b with
 |true =>
  obtain⟨N,hN,q2⟩:=q2;rw[yH rfl];refine wpAny_passesOwn hp (aB (hb ND s2 σ1 H2 _ I2 q2) fun f s3 q3=>?_);cases f with
  |next =>
   obtain⟨σ3,H3,I3,n3⟩:=q3;obtain⟨m',hm,w3⟩:=hN σ3 H3 n3;exact⟨m',hm,σ3,H3,I3,w3⟩
  |cont =>
   obtain⟨σ3,H3,I3,n3⟩:=q3;obtain⟨m',hm,w3⟩:=hN σ3 H3 n3;exact⟨m',hm,σ3,H3,I3,w3⟩
  |brk=>exact q3
  |ret v=>exact q3
 |false =>
  rw[yG Bool.false_ne_true];exact wpAny_execs_nil ⟨σ1,H2,I2,q2⟩
end
structure It where
 go:Nat->Hp->Prop
 yld:Nat->Hp->V->Hp->Prop
 stop:Nat->Hp->Prop
def dJ(X:Cx)(ND:List (Addr×Obj))(H:Hp)(b:Addr):Prop :=
 H b=none/\b≠X.env.locals/\b∉X.fs/\(b∈X.ex\/X.s₀.heap.objs.size<=b)/\(∀x c,X.env.cells.lookup x=some c->c≠b)/\∀p∈X.pn++ND,p.1≠b
theorem Inv.fpOk{X:Cx}{ND:List (Addr×Obj)}{σ:St}{H H':Hp}{s:Shared}{b:Addr}(I:Inv X ND σ H s)(hb:s.heap.objs.size<=b)(hn:H' b=none):dJ X ND H' b:=by
 refine⟨hn,Nat.ne_of_gt (zJ I.lt hb),I.nofs hb,.inr (z5 I.sz hb),fun x c e z=>?_,fun p hp z=>?_⟩
 ·obtain⟨v,q⟩:=I.cell x c e
  exact absurd (zJ q.lt (by rw[z];exact hb)) (y0 _)
 ·exact absurd (zJ (yI (I.pin p hp).1) (by rw[z];exact hb)) (y0 _)
structure jA(P:Program)(w:World)(K:Frag)(tg:Expr)(J:It)(fp:List Addr)(it:Addr)(tn:Nat->Heap->Prop):Prop where
 mem:it∈fp
 obj:∀i h,tn i h->∀b∈fp,∃o,h.get? b=some o/\∀v,o.data≠.cell v
 keep:∀i h h',tn i h->(∀b∈fp,∀o,h.get? b=some o->h'.get? b=some o)->tn i h'
 item:∀(X:Cx),X.prog=P->X.w=w->X.K=K->X.calm=true->∀(i:Nat)(ND:List (Addr×Obj))(s:Shared)(σ:St)(H:Hp)(E:Value->Shared->Prop),Inv X ND σ H s->(∀b∈fp,dJ X ND H b)->tn i s.heap->J.go i H ->
  wpAny (model P w) X.A (pyNext (.ref it)) (fun r s1=>∃u,r=some u /\
   wpAny (model P w) X.A (letOwnedTupleGo tg (.ref it) u) (fun _ s2=>∃x H',Inv X ND σ H' s2/\RelV x u/\J.yld i H x H'/\tn (i+1) s2.heap/\∀b∈fp,H' b=none) E s1) E s
 done:∀(X:Cx),X.prog=P->X.w=w->X.K=K->X.calm=true->∀(i:Nat)(ND:List (Addr×Obj))(s:Shared)(σ:St)(H:Hp)(E:Value->Shared->Prop),Inv X ND σ H s->(∀b∈fp,dJ X ND H b)->tn i s.heap->J.stop i H ->
  wpAny (model P w) X.A (pyNext (.ref it)) (fun r s1=>r=none/\Inv X ND σ H s1) E s
 self:∀(A:Around)(i:Nat)(s:Shared)(Q:Value->Shared->Prop)(E:Value->Shared->Prop),tn i s.heap->Q (.ref it) s->wpAny (model P w) A (pyIter (.ref it)) Q E s
abbrev TI:=St->Hp->(It->Hp->Prop)->Prop
def G3(X:Cx)(ND:List (Addr×Obj))(σ:St)(tg:Expr)(R:It->Hp->Prop)(itv:Value)(s2:Shared):Prop :=
 ∃(it:Addr)(fp:List Addr)(tn:Nat->Heap->Prop)(J:It)(H':Hp),itv=.ref it/\Inv X ND σ H' s2/\jA X.prog X.w X.K tg J fp it tn/\tn 0 s2.heap/\(∀b∈fp,dJ X ND H' b)/\R J H'
def PI(X:Cx)(tg iter:Expr)(wi:TI):Prop :=
 ∀(ND:List (Addr×Obj))(s:Shared)(σ:St)(H:Hp)(R:It->Hp->Prop),Inv X ND σ H s->wi σ H R ->
  wpAny (model X.prog X.w) X.A (eval iter X.env) (fun v s1=>wpAny (model X.prog X.w) X.A (pyIter v) (G3 X ND σ tg R) X.xe s1) X.xe s
theorem lI{M:Model}{A:Around}{E:Value->Shared->Prop}{s:Shared}{tg:Expr}{it:Addr}{u:Value}{o:Obj}{n:String}{vs:Array Value}{Q:Unit->Shared->Prop}(ho:s.heap.get? it=some o)(hc:o.cls=.type n)(hd:o.data=.fields vs)
  (hn:["enumerate","zip","dict_itemiterator","dict_reverseitemiterator","odict_iterator","itertools.zip_longest","itertools.pairwise"].contains n=false) (hQ:Q () s):wpAny M A (letOwnedTupleGo tg (.ref it) u) Q E s:=by
 unfold letOwnedTupleGo;cases tg<;>first
  |exact yF hQ
  | (cases u <;> first
    |exact yF hQ
    | (refine yE (wpAny_load ho ?_)
       rw[hc,hd];show wpAny M A (if(["enumerate","zip","dict_itemiterator","dict_reverseitemiterator","odict_iterator","itertools.zip_longest","itertools.pairwise"].contains n&&vs[0]?==some (rawInt _))=true then _ else _) Q E s;rw[yG (by intro h;rw[hn,Bool.false_and]at h;cases h)];exact yF hQ))
noncomputable def B6(K:Frag)(a:Addr):It :=
 ⟨fun i H=>∃xs x,bK K H a xs/\xs[i]?=some x,fun i H x H'=>H'=H/\∀xs,bK K H a xs->xs[i]?=some x,fun i H=>∃xs,bK K H a xs/\xs.length<=i⟩
noncomputable def B4(K:Frag)(a:Addr):It :=
 ⟨fun i H=>∃xs x,gk K H a xs/\xs[i]?=some x,fun i H x H'=>H'=H/\∀xs,gk K H a xs->xs[i]?=some x,fun i H=>∃xs,gk K H a xs/\xs.length<=i⟩
noncomputable def xV(lo:Int)(n:Nat):It:=⟨fun i _=>i<n,fun i H x H'=>H'=H/\x=.int (lo+i),fun i _=>n<=i⟩
theorem wd{P:Program}{w:World}{K:Frag}{tg:Expr}(a it:Addr):jA P w K tg (B6 K a) [it] it (fun i h=>h.IsListIter it a i) where
 mem:=by simp
 obj:=fun i h st b hb=>by
  have e:b=it:=by simpa using hb
  subst e;obtain⟨o,e,c,d⟩:=st;exact⟨o,e,fun v z=>by rw[d]at z;cases z⟩
 keep:=fun i h h' st k=>st.at fun o e=>k it (by simp) o e
 item:=by
  intro X hP hw hK hc i ND s σ H E I hf st hg;subst hP hw hK;obtain⟨xs,x,hq,hx⟩:=hg;obtain⟨NH,rv,p,hz⟩:=I.list hq;obtain⟨u,hu,ru⟩:=rv.get hx;obtain⟨f0,f1,f2,f3,f4,f5⟩:=hf it (by simp);refine wpAny_pyNext_list_item st p.isList (x:=u) (by simpa using hu) fun h' st' sb=>?_
  have I1:Inv X ND σ H { s with heap:=h' }:=I.turned (t':=s.toks) (fun b o hb e=>(sb.2 b hb).trans e) f0 f1 f3 f4 f5;obtain⟨o,e,c,d⟩:=id st';exact⟨u,rfl,lI (s:={ s with heap:=h' }) e c d dC ⟨x,H,I1,ru,⟨rfl,fun ys hy=>by rw[I.list_inj hy hq];exact hx⟩,st',fun b hb=>(hf b hb).1⟩⟩
 done:=by
  intro X hP hw hK hc i ND s σ H E I hf st hg;subst hP hw hK;obtain⟨xs,hq,hx⟩:=hg;obtain⟨NH,rv,p,hz⟩:=I.list hq;obtain⟨f0,f1,f2,f3,f4,f5⟩:=hf it (by simp);have hl:=rv.length;exact wpAny_pyNext_list_end (I.ok.hd hc) st p.isList (by simp;lia) fun h' eb=>⟨rfl,I.turned (t':=s.toks) (fun b o hb e=>eb b o hb e) f0 f1 f3 f4 f5⟩
 self:=fun _ _ _ _ _ st h=>wpAny_pyIter_listiter st h
theorem uD{P:Program}{w:World}{K:Frag}{tg:Expr}(a it:Addr):jA P w K tg (B4 K a) [it] it (fun i h=>h.IsTupleIter it a i) where
 mem:=by simp
 obj:=fun i h st b hb=>by
  have e:b=it:=by simpa using hb
  subst e;obtain⟨o,e,c,d⟩:=st;exact⟨o,e,fun v z=>by rw[d]at z;cases z⟩
 keep:=fun i h h' st k=>st.at fun o e=>k it (by simp) o e
 item:=by
  intro X hP hw hK hc i ND s σ H E I hf st hg;subst hP hw hK;obtain ⟨xs,x,hq,hx⟩:=hg;obtain ⟨NH,rv,p,hz⟩:=I.tuple hq;obtain ⟨u,hu,ru⟩:=rv.get hx;obtain ⟨f0,f1,f2,f3,f4,f5⟩:=hf it (by simp);refine wpAny_pyNext_tuple_item st (show s.heap.IsTuple a NH.toArray from p) (x:=u) (by simpa using hu) fun h' st' sb=>?_
  have I1:Inv X ND σ H { s with heap:=h' }:=I.turned (t':=s.toks) (fun b o hb e=>(sb.2 b hb).trans e) f0 f1 f3 f4 f5;obtain⟨o,e,c,d⟩:=id st';exact⟨u,rfl,lI (s:={ s with heap:=h' }) e c d dC ⟨x,H,I1,ru,⟨rfl,fun ys hy=>by rw[I.tuple_inj hy hq];exact hx⟩,st',fun b hb=>(hf b hb).1⟩⟩
 done:=by
  intro X hP hw hK hc i ND s σ H E I hf st hg;subst hP hw hK;obtain ⟨xs,hq,hx⟩:=hg;obtain ⟨NH,rv,p,hz⟩:=I.tuple hq;obtain ⟨f0,f1,f2,f3,f4,f5⟩:=hf it (by simp);have hl:=rv.length;exact wpAny_pyNext_tuple_end (I.ok.hd hc) st (show s.heap.IsTuple a NH.toArray from p) (by simp;lia) fun h' eb=>⟨rfl,I.turned (t':=s.toks) (fun b o hb e=>eb b o hb e) f0 f1 f3 f4 f5⟩
 self:=fun _ _ _ _ _ st h=>wpAny_pyIter_tupleiter st h
theorem uF{P:Program}{w:World}{K:Frag}{tg:Expr}(it:Addr)(lo:Int)(n:Nat):jA P w K tg (xV lo n) [it] it (fun i h=>IsRangeIter h it (lo+(i:Nat)*1) ((n:Int)-(i:Nat)) 1) where
 mem:=by simp
 obj:=fun i h st b hb=>by
  have e:b=it:=by simpa using hb
  subst e;exact⟨_,st,fun v z=>by
   have z':Data.fields _=Data.cell v:=z;cases z'⟩
 keep:=fun i h h' st k=>k it (by simp) _ st
 item:=by
  intro X hP hw hK hc i ND s σ H E I hf st hg;subst hP hw hK;obtain⟨f0,f1,f2,f3,f4,f5⟩:=hf it (by simp);have W:=Walks.range (prog:=X.prog) (w:=X.w) (I.ok.hd hc) it lo 1 n;refine W.item i s _ _ hg st fun v h' tk hv st' kk=>?_
  obtain⟨t,rfl⟩:=hv;have I1:Inv X ND σ H { s with heap:=h',toks:=tk }:=I.turned (fun b o hb e=>kk b o (by simpa using hb) e) f0 f1 f3 f4 f5;refine⟨_,rfl,lI (s:={ s with heap:=h',toks:=tk }) (n:="range_iterator") st' rfl rfl dC ⟨.int (lo+i),H,I1,⟨t,?_⟩,⟨rfl,rfl⟩,st',fun b hb=>(hf b hb).1⟩⟩;rw[Int.mul_one]
 done:=by
  intro X hP hw hK hc i ND s σ H E I hf st hg;subst hP hw hK;obtain⟨f0,f1,f2,f3,f4,f5⟩:=hf it (by simp);exact wpAny_pyNext_range_end (I.ok.hd hc) st (by have:n<=i:=hg;lia) fun h' eb=>⟨rfl,I.turned (t':=s.toks) (fun b o hb e=>eb b o hb e) f0 f1 f3 f4 f5⟩
 self:=fun _ _ _ _ _ st h=>wpAny_pyIter_rangeiter st h
section
variable{X:Cx}{tg:Expr}
theorem qJ{ND:List (Addr×Obj)}{σ:St}{H:Hp}{s:Shared}{R:It->Hp->Prop}{E:Value->Shared->Prop}{lo hi:Int}{t u v:Tok}{tk:Nat}(I:Inv X ND σ H s)(h1:-(2^62)<=lo)(h2:lo<2^62)(h3:-(2^62)<=hi)(h4:hi<2^62)
  (q:R (xV lo (hi-lo).toNat) H):wpAny (model X.prog X.w) X.A (pyIter (.ref s.heap.objs.size)) (G3 X ND σ tg R) E { s with heap:=s.heap.push { cls:=.type "range",data:=.fields #[.int lo t,.int hi u,.int 1 v] },toks:=tk }:=by
 refine wpAny_pyIter_range (IsRange.new ..) (small_one h1 h2 h3 h4) ?_;have I1:Inv X ND σ H { s with heap:=s.heap.push { cls:=.type "range",data:=.fields #[.int lo t,.int hi u,.int 1 v] },toks:=tk }:=I.kept fun b o e=>zG _ e
 refine⟨(s.heap.push { cls:=.type "range",data:=.fields #[.int lo t,.int hi u,.int 1 v] }).objs.size,[(s.heap.push { cls:=.type "range",data:=.fields #[.int lo t,.int hi u,.int 1 v] }).objs.size],_,_,H,rfl,
  I1.kept (t':=tk) fun b o e=>zG _ e,uF _ lo (hi-lo).toNat,?_,fun b hb=>?_,q⟩
 ·have e1:lo+((0:Nat):Int)*1=lo:=by simp
  have e2:(((hi-lo).toNat:Nat):Int)-((0:Nat):Int)=Builtin.Range.rangeSize lo hi 1:=by rw[rangeSize_one];split<;>lia
  show IsRangeIter _ _ (lo+((0:Nat):Int)*1) ((((hi-lo).toNat:Nat):Int)-((0:Nat):Int)) 1;rw[e1,e2];exact zY _ rfl
 ·have e:b=(s.heap.push { cls:=.type "range",data:=.fields #[.int lo t,.int hi u,.int 1 v] }).objs.size:=by simpa using hb
  subst e;exact I1.fpOk (zP _) (I1.NM.fresh (zP _))
def ID(ta:TA):TI:=fun σ H R=>ta σ H fun vs H1=>∃j:Int,vs=[.int j]/\-(2^62)<=j/\j<2^62/\R (xV 0 j.toNat) H1
def IC(ta:TA):TI:=fun σ H R=>ta σ H fun vs H1=>∃i j:Int,vs=[.int i,.int j]/\(-(2^62)<=i/\i<2^62/\-(2^62)<=j/\j<2^62)/\R (xV i (j-i).toNat) H1
theorem wL{a:Expr}{ta:TA}{p pos:Pos}(hg:Gl X "range")(hm:X.mg "range"=none)(ha:PA X [a] ta)(hs:starEach [a] X.env=[(false,eval a X.env)]:=by rfl):PI X tg (.Call (.Name "range" p) [a] [] pos) (ID ta):=by
 intro ND s σ H R I h;refine Call_ (c8 I hg hm boot_range (PyProof.Rows.callWith_type1 (aB (ha pos ND s σ H _ I h) fun us s1 hq0=>?_) hs rfl));obtain⟨vs,H1,I1,r1,q1⟩:=hq0;obtain⟨j,e,q1,q2,q⟩:=q1;subst e;cases r1 with
 |cons r rr =>
  cases rr;obtain⟨t,rfl⟩:=r;exact call_range_1 (qJ I1 oM oM q1 q2 (by simpa using q))
theorem wK{a b:Expr}{ta:TA}{p pos:Pos}(hg:Gl X "range")(hm:X.mg "range"=none)(ha:PA X [a,b] ta)(hs:starEach [a,b] X.env=[(false,eval a X.env),(false,eval b X.env)]:=by rfl)(hs2:starEach [b] X.env=[(false,eval b X.env)]:=by rfl) :
  PI X tg (.Call (.Name "range" p) [a,b] [] pos) (IC ta):=by
 intro ND s σ H R I h;refine Call_ (c8 I hg hm boot_range (PyProof.Rows.callWith_type1 (aB (ha pos ND s σ H _ I h) fun us s1 ⟨vs,H1,I1,r1,q1⟩=>?_) (by rw[hs,hs2]) (by rw[hs2];rfl)));obtain⟨i,j,e,⟨q1,q2,q3,q4⟩,q⟩:=q1;subst e;cases r1 with
 |cons r rr =>
  cases rr with
  |cons r' rr =>
   cases rr;obtain⟨t,rfl⟩:=r;obtain⟨t',rfl⟩:=r';exact call_range_2 (qJ I1 q1 q2 q3 q4 q)
def KA(wi:TI)(g:TG)(tb:TS):TS:=fun D σ H=>wi σ H fun J H1=>∃W:Nat->Nat->St->Hp->Prop,(∃m,W 0 m σ H1)/\∀i m σ H,W i m σ H ->
 (J.stop i H/\D.nx σ H)\/(J.go i H/\∃N:St->Hp->Prop,(∀σ' H',N σ' H'->∃m',m'<m/\W (i+1) m' σ' H')/\∀x H',J.yld i H x H'->g x σ H' fun σ2 H2=>tb { D with nx:=N,ct:=N,bk:=D.nx } σ2 H2)
noncomputable def fW(fp:List Addr)(h:Heap):List (Addr×Obj):=fp.filterMap fun b=>(h.get? b).map fun o=>(b,o)
theorem df{fp:List Addr}{h:Heap}{b:Addr}{o:Obj}(hb:b∈fp)(e:h.get? b=some o):(b,o)∈fW fp h:=List.mem_filterMap.mpr ⟨b,hb,by rw[e];rfl⟩
theorem wQ{fp:List Addr}{h:Heap}{p:Addr×Obj}(hp:p∈fW fp h):p.1∈fp/\h.get? p.1=some p.2:=by
 obtain⟨b,hb,e⟩:=List.mem_filterMap.mp hp;cases q:h.get? b with
 |none=>rw[q]at e;cases e
 |some o =>
  rw[q]at e;have e':(b,o)=p:=yD e;subst e';exact⟨hb,q⟩
theorem Inv.pinned{ND:List (Addr×Obj)}{σ:St}{H:Hp}{s:Shared}{fp:List Addr}(I:Inv X ND σ H s)(hf:∀b∈fp,dJ X ND H b)(ho:∀b∈fp,∃o,s.heap.get? b=some o/\∀v,o.data≠.cell v):Inv X (ND++fW fp s.heap) σ H s :=
 I.pins_of fun p hp=>(zZ.mp hp).elim (fun z=>I.pin p (zK _ z)) fun z=>by
  obtain⟨hb,e⟩:=wQ z;obtain⟨f0,f1,f2,_⟩:=hf p.1 hb;obtain⟨o,e',d⟩:=ho p.1 hb;rw[e]at e';cases e';exact⟨e,f0,f1,f2,d⟩
theorem Inv.unpinned{ND pl:List (Addr×Obj)}{σ:St}{H:Hp}{s:Shared}(I:Inv X (ND++pl) σ H s):Inv X ND σ H s:=I.pins_of fun p hp=>I.pin p (zK _ (zL _ hp))
theorem wF{iter:Expr}{body:List Stmt}{wi:TI}{g:TG}{tb:TS}{pos:Pos}(hp:PassesOwn (model X.prog X.w) X.A X.env X.xe)(hc:X.calm=true)(hi:PI X tg iter wi)(hg:PG X tg g)(hb:PSs X body tb)
  (hs:∀x,foldedSetIterable iter X.env x=pure x:=by intro _;rfl):PS X (.For tg iter body [] pos) (KA wi g tb):=by
 intro ND s σ H D I h;refine wpAny_For (aB (hi ND s σ H _ I h) fun v s1 h1=>aB h1 fun itv s2 h2=>?_) hs;obtain⟨it,fp,tn,J,H2,e,I2,T,st2,f2,W,⟨m0,w0⟩,turn⟩:=h2;subst e
 -- what stays true of the iterator's objects through the loop
 have stat:∀{H':Hp},(∀b∈fp,H' b=none)->∀b∈fp,dJ X ND H' b:=fun hn b hb=>⟨hn b hb,(f2 b hb).2⟩
 refine codeAny_forLoop_any (fun n s'=>∃i σ' H',Inv X ND σ' H' s'/\tn i s'.heap/\(∀b∈fp,H' b=none)/\W i n σ' H') ?_ m0 ⟨0,σ,H2,I2,st2,fun b hb=>(f2 b hb).1,w0⟩;rintro n s3 ⟨i,σ3,H3,I3,st3,fr3,w3⟩;rcases turn i n σ3 H3 w3 with⟨stop,qn⟩|⟨go,N,hN,step⟩
 ·refine wpAny_passesOwn hp (aB (T.done X rfl rfl rfl hc i ND s3 σ3 H3 X.xe I3 (stat fr3) st3 stop) fun r s4 hq0=>?_)
  obtain⟨hr,I4⟩:=hq0;subst hr;exact wpAny_execs_nil ⟨σ3,H3,I4,qn⟩
 ·refine wpAny_passesOwn hp (aB (T.item X rfl rfl rfl hc i ND s3 σ3 H3 X.xe I3 (stat fr3) st3 go) fun r s4 hq0=>?_)
  obtain⟨u,hr,h4⟩:=hq0;subst hr;refine wpAny_passesOwn hp (aB h4 fun _ s5 hq0=>?_);obtain⟨x,H5,I5,r5,y5,st5,fr5⟩:=hq0;have I5':=I5.pinned (stat fr5) (T.obj _ _ st5);refine wpAny_passesOwn hp (aB (hg _ s5 σ3 H5 x u _ I5' r5 (step x H5 y5)) fun _ s6 hq0=>?_);obtain⟨σ6,H6,I6,q6⟩:=hq0;refine wpAny_passesOwn hp (aB (hb _ s6 σ6 H6 _ I6 q6) fun f s7 q7=>?_);have again:∀{σ7:St}{H7:Hp},Inv X (ND++fW fp s5.heap) σ7 H7 s7->N σ7 H7->∃m,m<n/\∃i σ' H',Inv X ND σ' H' s7/\tn i s7.heap/\(∀b∈fp,H' b=none)/\W i m σ' H':=fun {σ7 H7} I7 n7=>by
   obtain⟨m',hm,w7⟩:=hN σ7 H7 n7;refine⟨m',hm,i+1,σ7,H7,I7.unpinned,T.keep _ _ _ st5 fun b hb o e=>(I7.pin (b,o) (zK _ (zK _ (df hb e)))).1,fun b hb=>?_,w7⟩;obtain⟨o,e,d⟩:=T.obj _ _ st5 b hb;exact(I7.pin (b,o) (zK _ (zK _ (df hb e)))).2.1
  cases f with
  |next=>obtain⟨σ7,H7,I7,n7⟩:=q7;exact again I7 n7
  |cont=>obtain⟨σ7,H7,I7,n7⟩:=q7;exact again I7 n7
  |brk=>obtain⟨σ7,H7,I7,q7⟩:=q7;exact⟨σ7,H7,I7.unpinned,q7⟩
  |ret v=>obtain⟨x7,σ7,H7,I7,r7,q7⟩:=q7;exact⟨x7,σ7,H7,I7.unpinned,r7,q7⟩
end
abbrev R2:=V->V->Hp->VK->Prop
def k9(X:Cx)(f:Value->Value->Sem Value)(r:R2):Prop :=
 ∀(ND:List (Addr×Obj))(s:Shared)(σ:St)(H:Hp)(x y:V)(v u:Value)(Q:VK),Inv X ND σ H s->RelV x v->RelV y u->r x y H Q ->
  wpAny (model X.prog X.w) X.A (f v u) (EP X ND σ Q) X.xe s
def xS(X:Cx)(f:Value->Sem Value)(r:V->Hp->VK->Prop):Prop :=
 ∀(ND:List (Addr×Obj))(s:Shared)(σ:St)(H:Hp)(x:V)(v:Value)(Q:VK),Inv X ND σ H s->RelV x v->r x H Q ->
  wpAny (model X.prog X.w) X.A (f v) (EP X ND σ Q) X.xe s
def cJ(X:Cx)(f:Value)(r:List V->Hp->VK->Prop):Prop :=
 ∀(ND:List (Addr×Obj))(s:Shared)(σ:St)(H:Hp)(xs:List V)(us:List Value)(Q:VK),Inv X ND σ H s->Vals xs us->r xs H Q ->
  wpAny (model X.prog X.w) X.A (call f us) (EP X ND σ Q) X.xe s
def Lp(X:Cx)(r:V->Hp->(Bool->Hp->Prop)->Prop):Prop :=
 ∀(ND:List (Addr×Obj))(s:Shared)(σ:St)(H:Hp)(x:V)(v:Value)(Q:Bool->Hp->Prop),Inv X ND σ H s->RelV x v->r x H Q ->
  wpAny (model X.prog X.w) X.A (truthy v) (TP X ND σ Q) X.xe s
noncomputable def wq(r:R2)(ta tb:TE):TE:=fun σ H Q=>ta σ H fun x H1=>tb σ H1 fun y H2=>r x y H2 Q
def Jz(r:V->Hp->VK->Prop)(ta:TE):TE:=fun σ H Q=>ta σ H fun x H1=>r x H1 Q
def rU(g:Int->V):V->Hp->VK->Prop:=fun x H Q=>∃i,x=.int i/\Q (g i) H
section
variable{X:Cx}{a b c:Expr}{ta tb tc:TE}{pos:Pos}
theorem AQ(ha:PE X a ta)(hb:PE X b tb){ND:List (Addr×Obj)}{s:Shared}{σ:St}{H:Hp}{R:V->V->Hp->Prop}(I:Inv X ND σ H s)
  (h:ta σ H fun x H1=>tb σ H1 fun y H2=>R x y H2) {Q:Value->Shared->Prop}{f:Value->Value->Sem Value}
  (hf:∀v u s2 x y H2,Inv X ND σ H2 s2->RelV x v->RelV y u->R x y H2->wpAny (model X.prog X.w) X.A (f v u) Q X.xe s2) :
  wpAny (model X.prog X.w) X.A (eval a X.env) (fun v s₁=>wpAny (model X.prog X.w) X.A (eval b X.env) (fun u s₂=>wpAny (model X.prog X.w) X.A (f v u) Q X.xe s₂) X.xe s₁) X.xe s:=by
 refine aB (ha ND s σ H _ I h) fun v s1 hq0=>?_
 obtain⟨x,H1,I1,r1,q1⟩:=hq0;refine aB (hb ND s1 σ H1 _ I1 q1) fun u s2 hq0=>?_
 obtain⟨y,H2,I2,r2,q2⟩:=hq0;exact hf v u s2 x y H2 I2 r1 r2 q2
theorem ve{op:Operator}{r:R2}(ho:k9 X (binaryOp op) r)(ha:PE X a ta)(hb:PE X b tb):PE X (.BinOp a op b pos) (wq r ta tb):=by
 intro ND s σ H Q I h;exact wpAny_BinOp (AQ ha hb I h fun v u s2 x y H2 I2 rx ry q=>ho ND s2 σ H2 x y v u Q I2 rx ry q)
theorem HV{op:UnaryOp}{r:V->Hp->VK->Prop}(ho:xS X (unaryOp op) r)(ha:PE X a ta):PE X (.UnaryOp op a pos) (Jz r ta):=by
 intro ND s σ H Q I h;exact UnaryOp_ (aB (ha ND s σ H _ I h) fun v s1 ⟨x,H1,I1,r1,q1⟩=>ho ND s1 σ H1 x v Q I1 r1 q1)
def Lr(i j:Int):Prop:=0<=j/\j<=1000000/\i.natAbs<2^64
theorem uB(k:Nat):(0:Int)<=2^k:=by
 rw[two_pow_cast];exact Int.natCast_nonneg _
theorem Jy{f:Value->Sem Value}{g:Int->Int}
  (rule:∀(i:Int)(t:Tok)(s:Shared)(Q:Value->Shared->Prop)(E:Value->Shared->Prop),Q (.int (g i) s.toks) { s with toks:=s.toks+1 }->wpAny (model X.prog X.w) X.A (f (.int i t)) Q E s) :
  xS X f (rU fun i=>.int (g i)):=by
 intro ND s σ H x v Q I rx h;obtain⟨i,rfl,q⟩:=h;obtain⟨t,rfl⟩:=rx;exact rule i t s _ _ ⟨.int (g i),H,I.tok _,⟨_,rfl⟩,q⟩
theorem DR:xS X (unaryOp .USub) (rU fun i=>.int (-i)):=Jy fun _ _ _ _ _ q=>neg_int q
theorem DS:xS X (unaryOp .Invert) (rU fun i=>.int (Builtin.bitNot i)):=Jy fun _ _ _ _ _ q=>invert_int q
end
section
variable{X:Cx}{a b c:Expr}{ta tb tc:TE}{pos:Pos}
theorem Da{op:CmpOp}{r:R2}(ho:k9 X (compareOp op) r)(ha:PE X a ta)(hb:PE X b tb)(hm:behindInMarks op b=false):PE X (.Compare a [op] [b] pos) (wq r ta tb):=by
 intro ND s σ H Q I h;exact wpAny_Compare1 (AQ ha hb I h fun v u s2 x y H2 I2 rx ry q=>ho ND s2 σ H2 x y v u Q I2 rx ry q) hm
noncomputable def Hk(t:TE):TT:=fun σ H Q=>t σ H fun x H'=>∃k,x=.bl k/\Q k H'
theorem CQ{op:CmpOp}{r:R2}(ho:k9 X (compareOp op) r)(ha:PE X a ta)(hb:PE X b tb)(hm:behindInMarks op b=false):PT X (.Compare a [op] [b] pos) (Hk (wq r ta tb)):=by
 intro ND s σ H Q I h;refine wpAny_isTrue_Compare1 (aB (ha ND s σ H _ I h) fun v s1 ⟨x,H1,I1,r1,q1⟩=>aB (hb ND s1 σ H1 _ I1 q1) fun u s2 ⟨y,H2,I2,r2,q2⟩ =>
  aB (ho ND s2 σ H2 x y v u _ I2 r1 r2 q2) fun c s3 ⟨z,H3,I3,r3,k,e,q3⟩=>?_) hm
 subst e;cases r3;exact wpAny_truthy_bool ⟨H3,I3,q3⟩
def AT(K:Frag)(x:V)(H:Hp)(k:Bool):Prop :=
 match x with
 |.non=>k=false
 |.bl b=>k=b
 |.int i=>k=(i !=0)
 |.str y=>y.length<=sizeLine/\k=((y.length:Int) !=0)
 |.byt y=>y.size<=sizeLine/\k=((y.size:Int) !=0)
 |.ref p=>(∃xs,bK K H p xs/\k=!xs.isEmpty)\/(∃xs,gk K H p xs/\k=!xs.isEmpty)\/∃NE,H p=some (.dK NE)/\k=!NE.isEmpty
 |_=>False
theorem vF{κ:Type}{NE:List (κ×V)}{vs:List (κ×Value)}(r:KV NE vs):(!vs.isEmpty)=!NE.isEmpty:=by
 cases r<;>rfl
theorem nQ{xs:List V}{NH:List Value}(r:Vals xs NH):(!NH.toArray.isEmpty)=!xs.isEmpty:=by
 cases r<;>simp
theorem gK:(sizeLine:Nat)<2^63:=by rw[sizeLine_eq];decide
theorem DW:Lp X (fun x H Q=>∃k,AT X.K x H k/\Q k H):=by
 intro ND s σ H x v Q I rx h;obtain⟨k,e,q⟩:=h;have hl:=gK;have hs:sizeLine=16777216:=sizeLine_eq;cases x with
 |non =>
  cases rx;have e':k=false:=e;subst e';exact truthy_none ⟨H,I,q⟩
 |bl b =>
  cases rx;have e':k=b:=e;subst e';exact wpAny_truthy_bool ⟨H,I,q⟩
 |int i =>
  obtain⟨t,rfl⟩:=rx;have e':k=(i !=0):=e;subst e';exact PySem.P.truthy_int ⟨H,I,q⟩
 |str y =>
  obtain⟨t,rfl⟩:=rx;obtain⟨hy,e'⟩:y.length<=sizeLine/\k=((y.length:Int) !=0):=e;subst e';exact PySem.P.truthy_str oM ⟨H,I.tok _,q⟩
 |byt y =>
  obtain⟨t,rfl⟩:=rx;obtain⟨hy,e'⟩:y.size<=sizeLine/\k=((y.size:Int) !=0):=e;subst e';exact truthy_bytes oM ⟨H,I.tok _,q⟩
 |ref p =>
  cases rx;have e':(∃xs,bK X.K H p xs/\k=!xs.isEmpty)\/(∃xs,gk X.K H p xs/\k=!xs.isEmpty)\/∃NE,H p=some (.dK NE)/\k=!NE.isEmpty:=e;rcases e' with⟨xs,hx,e'⟩|⟨xs,hx,e'⟩|⟨NE,hx,e'⟩
  ·subst e'
   obtain⟨NH,r,pl,hz⟩:=I.list hx;have hlen:=r.length;exact wpAny_truthy_list pl.isList (by simp only[zI];lia) ⟨H,I.tok _,by rw[nQ r];exact q⟩
  ·subst e'
   obtain⟨NH,r,pl,hz⟩:=I.tuple hx;have hlen:=r.length;exact truthy_tuple pl (by simp only[zI];lia) ⟨H,I.tok _,by rw[nQ r];exact q⟩
  ·subst e'
   obtain⟨hz,hS,vs,r,m⟩:NE.length<=sizeLine/\(p==sysModules)=false/\∃vs,KV NE vs/\s.heap.DictOf (b8 X.prog X.w) p vs:=I.NM p _ hx;have hlen:NE.length=vs.length:=Paired.length r;exact wpAny_truthy_dict hS m oM ⟨H,I.tok _,by rw[vF r];exact q⟩
 | _=>exact (show False from e).elim
theorem zl(ha:PE X a ta)(he:∀whole,isTrue a X.env whole=(do let v <- whole;standAt a.pos;holding [v] (truthy v))) :
  PT X a (fun σ H Q=>ta σ H fun x H'=>∃k,AT X.K x H' k/\Q k H'):=by
 intro ND s σ H Q I h;exact isTrue_plain (aB (ha ND s σ H _ I h) fun v s1 ⟨x,H1,I1,r1,q1⟩=>DW ND s1 σ H1 x v Q I1 r1 q1) (he _)
theorem vf:k9 X (binaryOp .Add) (fun x y H Q=>∃i j,x=.str i/\y=.str j/\i.length+j.length<=sizeLine/\Q (.str (i++j)) H):=by
 intro ND s σ H x y v u Q I rx ry h;obtain⟨i,j,rfl,rfl,hz,q⟩:=h;obtain⟨t,rfl⟩:=rx;obtain⟨t',rfl⟩:=ry;exact add_str (fun t' tk=>⟨.str (i++j),H,I.tok _,⟨_,rfl⟩,q⟩) hz
theorem eI{x:V}{us:List Value}(r:Vals [x] us):∃u,us=[u]/\RelV x u:=by
 cases r with
 |cons r1 r2=>cases r2;exact⟨_,rfl,r1⟩
theorem uz{x y:V}{us:List Value}(r:Vals [x,y] us):∃u w',us=[u,w']/\RelV x u/\RelV y w':=by
 cases r with
 |cons r1 r2 =>
  cases r2 with
  |cons r3 r4=>cases r4;exact⟨_,_,rfl,r1,r3⟩
theorem AO:cJ X (.builtin "abs") (fun xs H Q=>∃i,xs=[.int i]/\Q (.int (if i<0 then -i else i)) H):=by
 intro ND s σ H xs us Q I r h;obtain⟨i,rfl,q⟩:=h;obtain⟨u,rfl,t,rfl⟩:=eI r;exact call_abs_int fun u tk=>⟨.int (if i<0 then -i else i),H,I.tok _,⟨_,rfl⟩,q⟩
theorem xK(hc:X.calm=true):cJ X (.builtin "max") (fun xs H Q=>∃i j,xs=[.int i,.int j]/\Q (.int (if j > i then j else i)) H):=by
 intro ND s σ H xs us Q I r h;obtain⟨i,j,rfl,q⟩:=h;obtain⟨u,w',rfl,⟨t,rfl⟩,⟨t',rfl⟩⟩:=uz r;refine max_two_ints (I.ok.hd hc) fun h' tk k=>⟨_,H,I.kept k,?_,q⟩
 by_cases hj:j > i
 ·rw[yH hj,yH hj];exact⟨_,rfl⟩
 ·rw[yG hj,yG hj];exact⟨_,rfl⟩
theorem xJ(hc:X.calm=true):cJ X (.builtin "min") (fun xs H Q=>∃i j,xs=[.int i,.int j]/\Q (.int (if j<i then j else i)) H):=by
 intro ND s σ H xs us Q I r h;obtain⟨i,j,rfl,q⟩:=h;obtain⟨u,w',rfl,⟨t,rfl⟩,⟨t',rfl⟩⟩:=uz r;refine min_two_ints (I.ok.hd hc) fun h' tk k=>⟨_,H,I.kept k,?_,q⟩
 by_cases hj:j<i
 ·rw[yH hj,yH hj];exact⟨_,rfl⟩
 ·rw[yG hj,yG hj];exact⟨_,rfl⟩
theorem xN:cJ X (.type "int") (fun xs H Q=>(∃i,xs=[.int i]/\Q (.int i) H)\/∃k,xs=[.bl k]/\Q (.int (if k then 1 else 0)) H):=by
 intro ND s σ H xs us Q I r h;rcases h with⟨i,rfl,q⟩|⟨k,rfl,q⟩
 ·obtain⟨u,rfl,t,rfl⟩:=eI r
  exact call_int_int ⟨.int i,H,I,⟨_,rfl⟩,q⟩
 ·obtain⟨u,rfl,r1⟩:=eI r
  cases r1;exact call_int_bool ⟨.int (if k then 1 else 0),H,I.tok _,⟨_,rfl⟩,q⟩
end
structure ObjM(h:Heap)(x dx C:Addr)(mA:Str->Option Value):Prop where
 obj:h.get? x=some (instObj C dx)
 ns:h.Ns1 dx mA
 ne:dx≠x
theorem wZ{h:Heap}{dx:Addr}{mA:Str->Option Value}(n:h.Ns1 dx mA):∃od,h.get? dx=some od/\∀name,lookIn name od=some (mA name):=by
 obtain⟨o,es,ep,ho,hd,hk,_,hm⟩:=n;refine⟨o,ho,fun name=>?_⟩;have e:=hm name;unfold nsFind findBy at e;rw[<- Array.find?_toList]at e;unfold lookIn;rw[hd];dsimp only;split
 ·rename_i y q
  rw[q]at e;exact congrArg some e
 ·rename_i q
  rw[q]at e;have a:es.toList.any (·.refKey)=false:=by
   rw[List.any_eq_false];intro y hy;obtain⟨z,t,hkey⟩:=hk y (Array.mem_toList_iff.mp hy);simp[DictEntry.refKey,hkey]
  have a':¬es.toList.any (·.refKey)=true:=by rw[a];exact Bool.false_ne_true
  rw[yG a'];exact congrArg some e
theorem ObjM.look{h:Heap}{x dx C:Addr}{mA:Str->Option Value}(I:ObjM h x dx C mA):∃od,InstAt h x (instObj C dx) C (some od)/\∀name,lookIn name od=some (mA name) :=
 let⟨od,ho,hl⟩:=wZ I.ns
 ⟨od,⟨I.obj,rfl,rfl,ho⟩,hl⟩
section
variable{prog:Program}{w:World}{A:Around}{E:Value->Shared->Prop}{s:Shared}{K:Frag}{x dx C f:Addr}{mA:Str->Option Value}{name:Str}{v:Value}
theorem Dw{expr:Bool}{Q:Value->Shared->Prop}(X:K.In s.heap)(I:ObjM s.heap x dx C mA)(hg:plainGet K C name=true)(hh:hasDictIn K C=true)
  (ha:findIn K (.ref C) name=some none) (hv:mA name=some v) (hv':handedIn v=true) (h:Q v { s with toks:=s.toks+1 }) :
  wpAny (model prog w) A (getAttr (.ref x) name expr) Q E s:=by
 obtain⟨od,J,hl⟩:=I.look;exact get_value X J (plainGet_of hg).1 (findObj_own hh ha rfl (by rw[hl,hv])) hv' h
theorem Ay{pl:Sem Bool}{Q:Value×List Value->Shared->Prop}(X:K.In s.heap)(I:ObjM s.heap x dx C mA)(hg:plainGet K C name=true)
  (hf:findIn K (.ref C) name=some (some (.ref f))) (ht:isFn K (.ref f)=true) (hv:mA name=none) (h:Q (.ref f,[.ref x]) s) :
  wpAny (model prog w) A (getMethod (.ref x) name pl) Q E s:=by
 obtain⟨od,J,hl⟩:=I.look;exact method_fn X J (plainGet_of hg).1 (plainGet_of hg).2 hf (beq_iff_eq.mp ht) (by show(lookIn name od).map (·.isSome)=some false;rw[hl,hv];rfl) h
theorem Ct{ns:List Str}{Q:Unit->Shared->Prop}(X:K.In s.heap)(I:ObjM s.heap x dx C mA)
  (hs:findIn K (.ref C) "__setattr__"=some (some (.builtin "object.__setattr__"))) (hp:plainOver K C=true) (ht:takerIn K C name=some none) (hh:hasDictIn K C=true)
  (hw:PySem.Within mA ns) (hsz:ns.length<=sizeLine)
  (h:∀h',ObjM h' x dx C (fun y=>if y=name then some v else mA y)->Heap.SameBut dx s.heap h'->Q () { s with heap:=h',toks:=s.toks+2 }) :
  wpAny (model prog w) A (setAttr (.ref x) name v) Q E s:=by
 obtain⟨od,J,hl⟩:=I.look;refine set_plain X J hs (osa_open (s:={ s with toks:=s.toks+1 }) (r:=none) X J hp ht fun b=>?_);obtain⟨cd,hc,hd'⟩:=any_some hh;have hx:s.heap.get? x=some ⟨.ref C,some dx,.plain,#[]⟩:=I.obj;refine yE (yF (yE (yE (wpAny_loadPart hx (yE (PySem.W.Looks.here (s:={ s with toks:=s.toks+1 }) (looks_clsIn X hc) ?_))))));rw[hd'];refine yF (a:=some dx) (yE (yF (yE ?_)));refine wpAny_nsSet1 (s:={ s with toks:=s.toks+1 }) I.ns fun h' hn2 hs2=>?_
 obtain⟨oD,esD,epD,hoD,hdD,hcD⟩:=hn2.count (PySem.Within.cons name v hw);refine yE (wpAny_lookBehind hoD (by rw[hdD];exact pastItsLine_dict (z5 hcD (by rw[yX];lia))) ?_);exact yF (h _ ⟨(hs2.2 _ (Ne.symm I.ne)).trans I.obj,hn2,I.ne⟩ hs2)
theorem Al{R:Result->Shared->Prop}{vs:List Value}{kw:List (Str×Value)}(X:K.In s.heap)(hm:makesIn K C=true)
  (hi:findIn K (.ref C) "__init__"=some (some (.ref f))) (hf:typeIn K (.ref f)=some (.type "function"))
  (h:codeAny (model prog w) (A.under (.builtin "type.__call__" ⟨.ref C::vs,kw⟩)) (.call (.ref f) ⟨.ref (s.heap.objs.size+1)::vs,kw⟩) (InitBack (s.heap.objs.size+1) R)
   { s with heap:=(s.heap.push emptyDict).push (instObj C s.heap.objs.size) }) :
  codeAny (model prog w) A (.call (.ref C) ⟨vs,kw⟩) R s:=by
 obtain⟨hh,g,d,t,os⟩:=s;exact make_core (makes_of X hm) (looks_findIn X hi) (fun self=>bind_fn X self hf) (.inl rfl) h
end
noncomputable def dP(f:Str)(v:V):List (Str×V)->List (Str×V)
 |[]=>[(f,v)]
 |(g,x)::r=>if g=f then(g,v)::r else(g,x)::dP f v r
theorem ma(f g:Str)(v:V):∀fs:List (Str×V),(dP f v fs).lookup g=if g=f then some v else fs.lookup g
 |[]=>by
  show List.lookup g [(f,v)]=_;by_cases h:g=f
  ·have hb:(g==f)=true:=beq_iff_eq.mpr h
   simp only[List.lookup,hb,yH h]
  ·have hb:(g==f)=false:=beq_eq_false_iff_ne.mpr h
   simp only[List.lookup,hb,yG h]
 |(k,x)::r=>by
  have ih:=ma f g v r;rw[show dP f v ((k,x)::r)=(if k=f then(k,v)::r else(k,x)::dP f v r) from rfl];by_cases hk:k=f
  ·rw[yH hk]
   by_cases h:g=k
   ·have hb:(g==k)=true:=beq_iff_eq.mpr h
    simp only[List.lookup,hb,yH (h.trans hk)]
   ·have hb:(g==k)=false:=beq_eq_false_iff_ne.mpr h
    simp only[List.lookup,hb,yG (fun e:g=f=>h (e.trans hk.symm))]
  ·rw[yG hk]
   by_cases h:g=k
   ·have hb:(g==k)=true:=beq_iff_eq.mpr h
    simp only[List.lookup,hb,yG (fun e:g=f=>hk (h.symm.trans e))]
   ·have hb:(g==k)=false:=beq_eq_false_iff_ne.mpr h
    simp only[List.lookup,hb];exact ih
theorem kQ(f:Str)(v:V):∀fs:List (Str×V),f∈(dP f v fs).map (·.1)/\∀g,g∈fs.map (·.1)->g∈(dP f v fs).map (·.1)
 |[]=>⟨by simp[dP],fun g h=>by simp at h⟩
 |(k,x)::r=>by
  obtain⟨i1,i2⟩:=kQ f v r;rw[show dP f v ((k,x)::r)=(if k=f then(k,v)::r else(k,x)::dP f v r) from rfl];by_cases hk:k=f
  ·rw[yH hk]
   subst hk;exact⟨by simp,fun g h=>by simpa using h⟩
  ·rw[yG hk]
   refine⟨?_,fun g h=>?_⟩
   ·rw[zO]
    exact zQ _ i1
   ·rw[zO]at h ⊢
    rcases zT.mp h with e|e
    ·exact zT.mpr (.inl e)
    ·exact zQ _ (i2 g e)
theorem mf(f:Str)(v:V):∀fs:List (Str×V),(dP f v fs).length<=fs.length+1
 |[]=>by simp[dP]
 |(k,x)::r=>by
  have ih:=mf f v r;rw[show dP f v ((k,x)::r)=(if k=f then(k,v)::r else(k,x)::dP f v r) from rfl];by_cases hk:k=f
  ·rw[yH hk,yX,yX];lia
  ·rw[yG hk,yX,yX];lia
theorem RelO.some_of{v:V}{o:Option Value}(r:RelO (some v) o):∃u,o=some u/\RelV v u:=by
 cases o with
 | none=>exact (show False from r).elim
 |some u=>exact⟨u,rfl,r⟩
theorem RelO.none_of{o:Option Value}(r:RelO none o):o=none:=by
 cases o with
 |none=>rfl
 | some u=>exact (show False from r).elim
theorem xt{v:V}{u:Value}(r:RelV v u):handedIn u=true:=by
 cases v with
 | non=>cases (show u=Value.none from r);rfl
 | bl b=>cases (show u=Value.bool b from r);rfl
 | int i=>obtain ⟨t,e⟩:=(show ∃ t,u=Value.int i t from r);cases e;rfl
 | str x=>obtain ⟨t,e⟩:=(show ∃ t,u=Value.str x t from r);cases e;rfl
 | byt b=>obtain ⟨t,e⟩:=(show ∃ t,u=Value.bytes b t from r);cases e;rfl
 | flt b=>obtain ⟨t,e⟩:=(show ∃ t,u=Value.float b t from r);cases e;rfl
 | ref a=>cases (show u=Value.ref a from r);rfl
 | ty n=>cases (show u=Value.type n from r);rfl
section
variable{P:Program}{w:World}{H H':Hp}{h h':Heap}{a C dx:Addr}{fs fs':List (Str×V)}
theorem lH(NM:HOk P w H h)(e:H a=some (.ins C dx fs)):∃mA,ObjM h a dx C mA/\(∀f,RelO (fs.lookup f) (mA f))/\PySem.Within mA (fs.map (·.1))/\fs.length<=1000/\H dx=some (.own a):=by
 obtain ⟨d,z,ne,ob,mA,n,r,q⟩:=(show ObjOk P w H h a (.ins C dx fs) from NM a _ e);exact ⟨mA,⟨ob,n,ne⟩,r,q,z,d⟩
end
structure Cls(K:Frag)(C:Addr):Prop where
 pg:plainGet K C Str.empty=true
 hd:hasDictIn K C=true
 po:plainOver K C=true
 sa:findIn K (.ref C) "__setattr__"=some (some (.builtin "object.__setattr__"))
theorem Cls.get{K:Frag}{C:Addr}(c:Cls K C)(f:Str):plainGet K C f=true:=c.pg
def NoAttr(K:Frag)(C:Addr)(f:Str):Prop:=findIn K (.ref C) f=some none
theorem NoAttr.taker{K:Frag}{C:Addr}{f:Str}(n:NoAttr K C f):takerIn K C f=some none:=by
 unfold takerIn;rw[show findIn K (.ref C) f=some none from n];rfl
structure j8(K:Frag)(C:Addr)(m:Str)(f:Addr):Prop where
 at_:findIn K (.ref C) m=some (some (.ref f))
 fn:isFn K (.ref f)=true
 kp:keepIn K (.ref f)=true
section
variable{X:Cx}{ND:List (Addr×Obj)}{σ:St}{H:Hp}{s:Shared}{a C dx:Addr}{fs:List (Str×V)}{f:Str}{v:V}{A:Around}{E:Value->Shared->Prop}
theorem vI{b:Bool}{Q:Value->Shared->Prop}(I:Inv X ND σ H s)(e:H a=some (.ins C dx fs))(c:Cls X.K C)(n:NoAttr X.K C f)(l:fs.lookup f=some v)
  (h:∀u s',Inv X ND σ H s'->RelV v u->Q u s'):wpAny (model X.prog X.w) A (getAttr (.ref a) f b) Q E s:=by
 obtain⟨mA,O,r,_,_,_⟩:=lH I.NM e;obtain⟨u,hu,ru⟩:=RelO.some_of (v:=v) (o:=mA f) (by rw[<- l];exact r f);exact Dw I.kIn O (c.get f) c.hd n hu (xt ru) (h u _ (I.tok _) ru)
theorem j2{m:Str}{g:Addr}{pl:Sem Bool}{Q:Value×List Value->Shared->Prop}(I:Inv X ND σ H s)(e:H a=some (.ins C dx fs))(c:Cls X.K C)(k:j8 X.K C m g)(l:fs.lookup m=none)
  (h:Q (.ref g,[.ref a]) s):wpAny (model X.prog X.w) A (getMethod (.ref a) m pl) Q E s:=by
 obtain⟨mA,O,r,_,_,_⟩:=lH I.NM e;have hn:mA m=none:=RelO.none_of (by rw[<- l];exact r m);exact Ay I.kIn O (c.get m) k.at_ k.fn hn h
theorem u5{y:V}{u:Value}{Q:Unit->Shared->Prop}(I:Inv X ND σ H s)(e:H a=some (.ins C dx fs))(c:Cls X.K C)(n:NoAttr X.K C f)(hl:fs.length<1000)(ry:RelV y u)
  (h:∀s',Inv X ND σ (ae H a (.ins C dx (dP f y fs))) s'->Q () s'):wpAny (model X.prog X.w) A (setAttr (.ref a) f u) Q E s:=by
 obtain⟨mA,O,r,wi,_,ho⟩:=lH I.NM e;have hz:(fs.map (·.1)).length<=sizeLine:=by rw[zH,sizeLine_eq];lia
 refine Ct I.kIn O c.sa c.po n.taker c.hd wi hz fun h' O' sb=>h _ ?_
 have hd:∃o,h'.get? dx=some o:=let⟨o,_,_,e',_⟩:=O'.ns;⟨o,e'⟩;refine I.write (x:=a) (e:=dx) (by rw[e];exact True.intro) (.inr ho) (fun b q hb z=>(sb.2 b hb).trans z) hd ?_;refine⟨by rw[ad O.ne];exact ho,?_,O.ne,O'.obj,_,O'.ns,fun g=>?_,fun g hg=>?_⟩
 ·have:=mf f y fs;lia
 ·show RelO ((dP f y fs).lookup g) (if g=f then some u else mA g)
  rw[ma];by_cases q:g=f
  ·rw[yH q,yH q];exact ry
  ·rw[yG q,yG q];exact r g
 ·by_cases q:g=f
  ·rw[q];exact(kQ f y fs).1
  ·refine(kQ f y fs).2 g (wi g fun z=>hg ?_)
   show(if g=f then some u else mA g)=none;rw[yG q];exact z
theorem Inv.made(I:Inv X ND σ H s):Inv X ND σ (ae (ae H s.heap.objs.size (.own (s.heap.objs.size+1))) (s.heap.objs.size+1) (.ins C s.heap.objs.size []))
  { s with heap:=(s.heap.push emptyDict).push (instObj C s.heap.objs.size) }:=by
 have e1:(s.heap.push emptyDict).get? s.heap.objs.size=some emptyDict:=zY s.heap rfl;have e2:((s.heap.push emptyDict).push (instObj C s.heap.objs.size)).get? (s.heap.objs.size+1)=some (instObj C s.heap.objs.size):=by
  have:=zY (s.heap.push emptyDict) (o:=instObj C s.heap.objs.size) rfl
  rwa [Heap.size_push]at this
 have e3:(s.heap.push emptyDict).Ns s.heap.objs.size (fun _=>none):=⟨emptyDict,#[],_,e1,rfl,(fun e he=>absurd he (by simp)),fun _=>rfl⟩;have I1:=I.laid (a:=s.heap.objs.size) (o:=.own (s.heap.objs.size+1)) (h':=s.heap.push emptyDict) (t':=s.toks) (fun b u q=>zG _ q) (zP _) ⟨_,e1⟩;refine I1.laid (a:=s.heap.objs.size+1) (o:=.ins C s.heap.objs.size []) (t':=s.toks) (fun b u q=>zG _ q) (Nat.le_of_eq (Heap.size_push _ _)) ?_;have ne:s.heap.objs.size≠s.heap.objs.size+1:=zU (Nat.lt_succ_self _);refine⟨by rw[ad ne,aw],Nat.zero_le _,ne,e2,fun _=>none,(Heap.Ns1.of_empty e3).at fun o q=>zG _ q,fun _=>True.intro,fun y hy=>absurd rfl hy⟩
theorem DJ{prog:Program}{w:World}{env:Env}{e:Expr}{f:Str}{pos:Pos}{s:Shared}{Q:Value->Shared->Prop}(hb:attributeBase e f env (eval e env)=eval e env)
  (h:wpAny (model prog w) A (eval e env) (fun o s₁=>wpAny (model prog w) A (getAttr o f true) Q E s₁) E s):wpAny (model prog w) A (eval (.Attribute e f pos) env) Q E s :=
 Attribute_any_ h (by rw[arm_eval_Attribute,hb])
end
def KB(K:Frag)(ta:TE)(f:Str):TE:=fun σ H Q=>ta σ H fun x H1=>∃a C dx fs v,x=.ref a/\H1 a=some (.ins C dx fs)/\Cls K C/\NoAttr K C f/\fs.lookup f=some v/\Q v H1
def KJ(K:Frag)(ta tv:TE)(f:Str):TS:=fun D σ H=>tv σ H fun y H1=>ta σ H1 fun x H2=>∃a C dx fs,x=.ref a/\H2 a=some (.ins C dx fs)/\Cls K C/\NoAttr K C f/\fs.length<1000 /\
 D.nx σ (ae H2 a (.ins C dx (dP f y fs)))
section
variable{X:Cx}{o e value:Expr}{f:Str}{pos pos' tpos:Pos}{ta tv:TE}
theorem Fx(he:PE X e ta)(hb:attributeBase e f X.env (eval e X.env)=eval e X.env):PE X (.Attribute e f pos) (KB X.K ta f):=by
 intro ND s σ H Q I h;refine DJ hb (aB (he ND s σ H _ I h) fun u s1 hq0=>?_);obtain⟨x,H1,I1,rx,a,C,dx,fs,v,ex,ea,c,n,l,q⟩:=hq0;subst ex;obtain rfl:u=Value.ref a:=rx;exact vI I1 ea c n l fun u' s2 I2 ru=>⟨v,H1,I2,ru,q⟩
theorem Fe(ha:PE X o ta)(hv:PE X value tv)(hs:swapsWith value (some (.Attribute o f pos')) pos.line X.env=pure false):PS X (.Assign [.Attribute o f pos'] value pos) (KJ X.K ta tv f):=by
 intro ND s σ H D I h;refine plainObj_wpAny_Assign_Attribute (aB (hv ND s σ H _ I h) fun u s1 ⟨y,H1,I1,ry,q⟩=>aB (ha ND s1 σ H1 _ I1 q) fun ov s2 hq0=>?_) hs;obtain⟨x,H2,I2,rx,a,C,dx,fs,ex,ea,c,n,l,q2⟩:=hq0;subst ex;obtain rfl:ov=Value.ref a:=rx;exact u5 I2 ea c n l ry fun s3 I3=>⟨σ,_,I3,q2⟩
theorem Hc{pl:Sem Bool}{m:Str}{apos:Pos}{args:List Expr}{ND:List (Addr×Obj)}{s:Shared}{σ:St}{H:Hp}{Q:Value->Shared->Prop}{te:TE}(he:PE X e te)(I:Inv X ND σ H s)
  (h:te σ H fun x H1=>∃a C dx fs g,x=.ref a/\H1 a=some (.ins C dx fs)/\Cls X.K C/\j8 X.K C m g/\fs.lookup m=none /\
   ∀s1,Inv X ND σ H1 s1->wpAny (model X.prog X.w) X.A (callWith pos (.ref g) [.ref a] (backTo pos (starEach args X.env)) (backToKw pos (keywordEach [] X.env))) Q X.xe s1)
  (ht:eval (.Call (.Attribute e m apos) args [] pos) X.env=(do
   let ov <- eval e X.env
   standAt apos.atName
   let(f,first) <- holding [ov] (getMethod ov m pl)
   callWith pos f first (backTo pos (starEach args X.env)) (backToKw pos (keywordEach [] X.env)))) :
  wpAny (model X.prog X.w) X.A (eval (.Call (.Attribute e m apos) args [] pos) X.env) Q X.xe s:=by
 refine methodCall_KW (pl:=pl) (aB (he ND s σ H _ I h) fun u s1 hq0=>?_) ht;obtain⟨x,H1,I1,rx,a,C,dx,fs,g,ex,ea,c,k,l,q⟩:=hq0;subst ex;obtain rfl:u=Value.ref a:=rx;exact j2 I1 ea c k l (q s1 I1)
end
section
variable{X:Cx}{ND:List (Addr×Obj)}{σ:St}{H:Hp}{s:Shared}{A:Around}{E:Value->Shared->Prop}{Q:Value->Shared->Prop}{c:Value}{b:Bool}
inductive TyOf(K:Frag)(H:Hp):V->Value->Prop where
 |non:TyOf K H .non (.type "NoneType")
 |bl (x:Bool):TyOf K H (.bl x) (.type "bool")
 |int (i:Int):TyOf K H (.int i) (.type "int")
 |str (x:Str):TyOf K H (.str x) (.type "str")
 |flt (x:UInt64):TyOf K H (.flt x) (.type "float")
 |lst {a:Addr}{xs:List V} (e:H a=some (.lst xs)):TyOf K H (.ref a) (.type "list")
 |frz {a:Addr}{o:Obj}{xs:List V} (e:H a=some (.frz o (.lst xs))):TyOf K H (.ref a) (.type "list")
 |tup {a:Addr}{xs:List V} (e:H a=some (.tup xs)):TyOf K H (.ref a) (.type "tuple")
 |dK {a:Addr}{NE:List (aT×V)} (e:H a=some (.dK NE)):TyOf K H (.ref a) (.type "dict")
 |dT {a:Addr}{NE:List (List aT×V)} (e:H a=some (.dT NE)):TyOf K H (.ref a) (.type "dict")
 |ins {a C dx:Addr}{fs:List (Str×V)} (e:H a=some (.ins C dx fs)) (cl:Cls K C) (ha:findIn K (.ref C) "__class__"=some (some (.builtin "object.__class__")))
   (hn:specialIn K (.builtin "object.__class__") "__get__"=some (some (.builtin "getset_descriptor.__get__"))) (htk:takesIn K (.builtin "object.__class__")=some true)
   (hm:mroIn K C (.type "object")=some true):TyOf K H (.ref a) (.ref C)
theorem i5{x:V}{u t:Value}(I:Inv X ND σ H s)(rx:RelV x u)(ty:TyOf X.K H x t)(e:kitOne X.K t c=some b)(h:∀tk,Q (.bool b) { s with toks:=tk }) :
  wpAny (model X.prog X.w) A (call (.builtin "isinstance") [u,c]) Q E s:=by
 cases ty with
 | non=>cases (show u=Value.none from rx);exact kia_one kitx_none I.kIn True.intro e (fun z=>nomatch z) h
 | bl y=>cases (show u=Value.bool y from rx);exact kia_one kitx_bool I.kIn True.intro e (fun z=>nomatch z) h
 | int i=>obtain ⟨t,q⟩:=(show ∃ t,u=Value.int i t from rx);cases q;exact kia_one kitx_int I.kIn True.intro e (fun z=>nomatch z) h
 | str y=>obtain ⟨t,q⟩:=(show ∃ t,u=Value.str y t from rx);cases q;exact kia_one kitx_str I.kIn True.intro e (fun z=>nomatch z) h
 | flt y=>obtain ⟨t,q⟩:=(show ∃ t,u=Value.float y t from rx);cases q;exact kia_one kitx_float I.kIn True.intro e (fun z=>nomatch z) h
 |@lst a xs ea =>
  cases (show u=Value.ref a from rx);obtain ⟨_,_,n,_,h1⟩:=(show ObjOk X.prog X.w H s.heap a (.lst xs) from I.NM a _ ea);exact kia_one kitx_list I.kIn ⟨_,h1,rfl⟩ e (fun z=>nomatch z) h
 |@frz a ob xs ea =>
  cases (show u=Value.ref a from rx);obtain ⟨_,_,_,n,_,h1⟩:=(show ObjOk X.prog X.w H s.heap a (.frz ob (.lst xs)) from I.NM a _ ea);exact kia_one kitx_list I.kIn ⟨_,h1,rfl⟩ e (fun z=>nomatch z) h
 |@tup a xs ea =>
  cases (show u=Value.ref a from rx);obtain ⟨_,_,_,p⟩:=(show ObjOk X.prog X.w H s.heap a (.tup xs) from I.NM a _ ea);obtain ⟨o,h1,h2,_⟩:=p;exact kia_one kitx_tuple I.kIn ⟨o,h1,h2⟩ e (fun z=>nomatch z) h
 |@dK a NE ea =>
  cases (show u=Value.ref a from rx);obtain ⟨_,_,vs,_,p⟩:=(show ObjOk X.prog X.w H s.heap a (.dK NE) from I.NM a _ ea);obtain ⟨o,es,ep,h1,h2,_⟩:=p;exact kia_one kitx_dict I.kIn ⟨o,h1,h2.1⟩ e (fun z=>nomatch z) h
 |@dT a NE ea =>
  cases (show u=Value.ref a from rx);obtain ⟨_,_,xs,_,o,es,ep,h1,h2,_⟩:=(show ObjOk X.prog X.w H s.heap a (.dT NE) from I.NM a _ ea);exact kia_one kitx_dict I.kIn ⟨o,h1,h2.1⟩ e (fun z=>nomatch z) h
 |@ins a C dx fs ea cl ha hn htk hm =>
  cases (show u=Value.ref a from rx);obtain ⟨mA,O,_⟩:=lH I.NM ea;obtain ⟨od,J,_⟩:=O.look;exact kia_one (kitx_own (cl.get _) cl.hd ha hn htk hm) I.kIn J e (fun z=>nomatch z) h
end
structure Room(k:Nat)(A:Around):Prop where
 hd:A.handled=none
 dp:A.depth+3*k+5<recursionLimit
 un:A.units+16*k+200<cLine
 gd:A.guards=some []
theorem Room.mono{j k:Nat}{A:Around}(r:Room k A)(h:j<=k):Room j A:=⟨r.hd,by have:=r.dp;lia,by have:=r.un;lia,r.gd⟩
theorem Room.deeper{k:Nat}{A:Around}(r:Room (k+1) A)(env:Env):Room k (A.deeper env) :=
 ⟨r.hd,by have:=r.dp;show A.depth+1+3*k+5<_;lia,by have:=r.un;show A.units+3+16*k+200<_;lia,r.gd⟩
theorem Room.in1{k:Nat}{A:Around}(r:Room (k+1) A):Room k A.in1 :=
 ⟨r.hd,by have:=r.dp;show A.depth+3*k+5<_;lia,by have:=r.un;show A.units+1+16*k+200<_;lia,r.gd⟩
theorem vq{A:Around}{C:Addr}{us:List Value}{kw:List (Str×Value)}:(A.under (.builtin "type.__call__" ⟨.ref C::us,kw⟩)).depth=A.depth+1:=by
 first|rfl|simp[Around.under,Code.weight,Code.isCreation,Code.isGuard,Code.isCaller,Code.frames,Code.isFrame,guardIds]
theorem vp{A:Around}{C:Addr}{us:List Value}{kw:List (Str×Value)}:(A.under (.builtin "type.__call__" ⟨.ref C::us,kw⟩)).units=A.units+1:=by
 first|rfl|simp[Around.under,Code.cUnits,Code.frames,Code.isFrame]
theorem tz{A:Around}{C:Addr}{us:List Value}{kw:List (Str×Value)}:(A.under (.builtin "type.__call__" ⟨.ref C::us,kw⟩)).guards=A.guards:=by
 first|rfl|simp[Around.under,Code.guards,Code.isGuard,guardIds,pushGuards]
theorem Room.make{k:Nat}{A:Around}(r:Room (k+1) A)(C:Addr)(us:List Value)(kw:List (Str×Value)):Room k (A.under (.builtin "type.__call__" ⟨.ref C::us,kw⟩)) :=
 ⟨r.hd,by have:=r.dp;rw[vq];lia,by have:=r.un;rw[vp];lia,by rw[tz];exact r.gd⟩
theorem Room.depth{k:Nat}{A:Around}(r:Room k A):A.depth<recursionLimit:=by have:=r.dp;lia
theorem Room.units{k:Nat}{A:Around}(r:Room k A):A.units+64<cLine:=by have:=r.un;lia
noncomputable def uV:TA:=fun _ H Q=>Q [] H
noncomputable def Ba(ta:TE)(tr:TA):TA:=fun σ H Q=>ta σ H fun x H1=>tr σ H1 fun xs H2=>Q (x::xs) H2
section
variable{X:Cx}{e:Expr}{es:List Expr}{te:TE}{t:TA}{pos:Pos}
theorem qP:PA X [] uV:=fun _ _ _ _ H Q I h=>Calls.spliced_nil ⟨[],H,I,.nil,h⟩
theorem lE(ha:PE X e te)(hr:PA X es t)(hs:starEach (e::es) X.env=(false,eval e X.env)::starEach es X.env:=by rfl):PA X (e::es) (Ba te t):=by
 intro pos ND s σ H Q I h;rw[hs];show wpAny _ _ (spliced ((false,eval e X.env)::backTo pos (starEach es X.env))) _ _ s;refine Calls.spliced_cons (aB (ha ND s σ H _ I h) fun u s1 hq0=>?_);obtain⟨x,H1,I1,r1,q1⟩:=hq0;exact aB (hr pos ND s1 σ H1 _ I1 q1) fun us s2 ⟨xs,H2,I2,r2,q2⟩=>⟨x::xs,H2,I2,.cons r1 r2,q2⟩
def Kt(t:TA):TE:=fun σ H Q=>t σ H fun xs H1=>xs.length<=sizeLine/\∀p,H1 p=none->Q (.ref p) (ae H1 p (.tup xs))
def Ky(t:TA):TE:=fun σ H Q=>t σ H fun xs H1=>xs.length<=sizeLine/\∀p,H1 p=none->Q (.ref p) (ae H1 p (.lst xs))
theorem Fp{x1}(h:PA X es t):PE X (.Tuple es x1 pos) (Kt t):=by
 intro ND s σ H Q I hq;refine wpAny_Tuple_spliced (aB (h pos ND s σ H _ I hq) fun us s1 ⟨xs,H1,I1,r,z,q⟩=>⟨by rw[<- r.length];exact z,?_⟩);have hf:H1 s1.heap.objs.size=none:=I1.NM.fresh (zP _);refine⟨.ref s1.heap.objs.size,ae H1 s1.heap.objs.size (.tup xs),I1.laid (t':=s1.toks) (fun b u e=>zG _ e) (zP _) ?_,rfl,q _ hf⟩;exact⟨z,us,r,⟨_,zY _ rfl,rfl,_,rfl⟩⟩
theorem wM(h:PA X es t):PE X (.List es pos) (Ky t):=by
 intro ND s σ H Q I hq;refine wpAny_List_spliced (aB (h pos ND s σ H _ I hq) fun us s1 ⟨xs,H1,I1,r,z,q⟩=>⟨by rw[<- r.length];exact z,?_⟩);have hf:H1 s1.heap.objs.size=none:=I1.NM.fresh (zP _);refine⟨.ref s1.heap.objs.size,ae H1 s1.heap.objs.size (.lst xs),I1.laid (t':=s1.toks) (fun b u e=>zG _ e) (zP _) ?_,rfl,q _ hf⟩;exact⟨z,us,0,r,zY _ rfl⟩
end
abbrev Sp:=List V->Hp->VK->XK->Prop
abbrev lj:=List Env->Hp->Shared->XK->Value->Shared->Prop
structure Env0(P:Program)(w:World)(K:Frag)(mg:Str->Option Value)(base:Heap)(A:Around)(outer:List Env)(s:Shared)(H:Hp):Prop where
 frames:A.frames=some outer
 mod:Mod K mg base
 bs:∀b o,base.get? b=some o->s.heap.get? b=some o/\H b=none
 bsz:base.objs.size<=s.heap.objs.size
 funs:s.heap.FunFrames base outer
 frf:∀b∈jN outer,H b=none
 NM:HOk P w H s.heap
 bare:AllBare s.gens
def CE(outer:List Env)(P:Program)(w:World)(H:Hp)(s:Shared)(Q:VK)(u:Value)(s':Shared):Prop :=
 ∃v H',s'.os=s.os/\AllBare s'.gens/\Un (jN outer) [] H H' s.heap s'.heap/\HOk P w H' s'.heap/\RelV v u/\Q v H'
def CR(CX:lj)(outer:List Env)(P:Program)(w:World)(H:Hp)(s:Shared)(Q:VK)(E:XK)(r:Result)(s':Shared):Prop :=
 match r with
 |.ok (.ret u)=>CE outer P w H s Q u s'
 |.ok _=>False
 |.error e=>CX outer H s E e s'
structure FnOk(P:Program)(w:World)(K:Frag)(mg:Str->Option Value)(base:Heap)(CX:lj)(k:Nat)(f:Addr)(fd:FuncData)(ps:List Str)(sp:Sp):Prop where
 len:∀vs H Q E,sp vs H Q E->vs.length=ps.length
 run:∀(A:Around)(outer:List Env)(s:Shared)(H:Hp)(args:Args)(us:List Value)(vs:List V)(Q:VK)(E:XK),Room k A->Env0 P w K mg base A outer s H->BindsTo s fd args (ps.zip us)->Vals vs us->sp vs H Q E ->
  codeAny (model P w) A (.call (.ref f) args) (CR CX outer P w H s Q E) s
theorem FnOk.mono{P:Program}{w:World}{K:Frag}{mg:Str->Option Value}{base:Heap}{CX:lj}{j k:Nat}{f:Addr}{fd:FuncData}{ps:List Str}{sp:Sp}(F:FnOk P w K mg base CX j f fd ps sp)(h:j<=k) :
  FnOk P w K mg base CX k f fd ps sp:=⟨F.len,fun A outer s H args us vs Q E hr=>F.run A outer s H args us vs Q E (hr.mono h)⟩
theorem FnOk.imp{P:Program}{w:World}{K:Frag}{mg:Str->Option Value}{base:Heap}{CX:lj}{k:Nat}{f:Addr}{fd:FuncData}{ps:List Str}{sp sp':Sp}(F:FnOk P w K mg base CX k f fd ps sp)
  (h:∀vs H Q E,sp' vs H Q E->sp vs H Q E):FnOk P w K mg base CX k f fd ps sp' :=
 ⟨fun vs H Q E q=>F.len vs H Q E (h _ _ _ _ q),fun A outer s H args us vs Q E hr he hb hv hs=>F.run A outer s H args us vs Q E hr he hb hv (h _ _ _ _ hs)⟩
theorem Env0.make{P:Program}{w:World}{K:Frag}{mg:Str->Option Value}{base:Heap}{A:Around}{outer:List Env}{s:Shared}{H:Hp}(e:Env0 P w K mg base A outer s H)(C:Addr)(us:List Value)(kw:List (Str×Value)) :
  Env0 P w K mg base (A.under (.builtin "type.__call__" ⟨.ref C::us,kw⟩)) outer s H:=⟨by first|exact e.frames|(simpa [Around.under,Code.envs,Code.isFrame,pushEnvs] using e.frames),e.mod,e.bs,e.bsz,e.funs,e.frf,e.NM,e.bare⟩
section
variable{X:Cx}{ND:List (Addr×Obj)}{σ:St}{H:Hp}{s s':Shared}
theorem Inv.env0(I:Inv X ND σ H s):Env0 X.prog X.w X.K X.mg X.base X.A X.stack s H :=
 ⟨I.ok.frames,I.ok.mod,I.bs,z5 I.ok.bsz I.sz,I.stack,I.stkFree,I.NM,I.bare⟩
theorem Inv.after{Q:VK}{u:Value}(I:Inv X ND σ H s)(h:CE X.stack X.prog X.w H s Q u s'):EP X ND σ Q u s':=by
 obtain⟨v,H',os,bare,un,NM,r,q⟩:=h;obtain⟨hh,g,d,t,os'⟩:=s';obtain rfl:os'=s.os:=os;exact⟨v,H',I.call (h':=hh) (g':=g) (d':=d) (t':=t) (ch:=[]) un NM bare (fun b z=>absurd z (by simp)),r,q⟩
end
noncomputable def uY(sp:Sp)(dvs:List V)(E:XK)(t:TA):TE:=fun σ H Q=>t σ H fun vs H1=>sp (vs++dvs) H1 Q E
def uW(C:Addr)(m:Str)(sp:Sp)(dvs:List V)(E:XK)(ta:TE)(t:TA):TE:=fun σ H Q=>ta σ H fun x H1=>∃a dx fs,x=.ref a/\H1 a=some (.ins C dx fs)/\fs.lookup m=none /\
 t σ H1 fun vs H2=>sp (x::(vs++dvs)) H2 Q E
def A9(C:Addr)(sp:Sp)(dvs:List V)(E:XK)(t:TA):TE:=fun σ H Q=>t σ H fun vs H1=>∀x dx,H1 x=none->H1 dx=none->dx≠x ->
 sp (.ref x::(vs++dvs)) (ae (ae H1 dx (.own x)) x (.ins C dx [])) (fun v H2=>v=.non/\Q (.ref x) H2) E
def Binds(K:Frag)(fd:FuncData)(ps:List Str)(ds:List Value):Prop :=
 ∀(s:Shared)(us:List Value),K.In s.heap->(us++ds).length=ps.length->BindsTo s fd ⟨us,[]⟩ (ps.zip (us++ds))
theorem Binds.all{K:Frag}{fd:FuncData}{ps:List Str}(h:∀us:List Value,us.length=ps.length->bindArgs fd ⟨us,[]⟩=pure (ps.zip us)):Binds K fd ps []:=fun s us _ hl=>by
 rw[List.append_nil]at hl ⊢;exact .of_eq (h us hl)
def gX(CX:lj)(X:Cx)(E:XK):Prop:=∀(ND:List (Addr×Obj))(σ:St)(H:Hp)(s:Shared)(e:Value)(s':Shared),Inv X ND σ H s->CX X.stack H s E e s'->X.xe e s'
section
variable{X:Cx}{CX:lj}{k:Nat}{f C:Addr}{fd:FuncData}{ps:List Str}{sp:Sp}{dvs:List V}{ds:List Value}{E:XK}{x m:Str}{p pos apos:Pos}{e o:Expr}{es:List Expr}{ta:TE}{t:TA}
theorem nh{ND:List (Addr×Obj)}{σ:St}{H:Hp}{s:Shared}{Q:VK}{us:List Value}{vs:List V}(F:FnOk X.prog X.w X.K X.mg X.base CX k f fd ps sp)(hr:Room k X.A)(hb:Binds X.K fd ps ds)(hd:Vals dvs ds)(hx:gX CX X E)
  (I:Inv X ND σ H s) (r:Vals vs us) (h:sp (vs++dvs) H Q E):wpAny (model X.prog X.w) X.A (call (.ref f) us) (EP X ND σ Q) X.xe s:=by
 have r2:Vals (vs++dvs) (us++ds):=r.append hd;have hl:(us++ds).length=ps.length:=by rw[<- r2.length];exact F.len _ _ _ _ h
 refine wpAny_call (codeAny_mono (F.run X.A X.stack s H ⟨us,[]⟩ (us++ds) (vs++dvs) Q E hr I.env0 (hb s us I.kIn hl) r2 h) fun r s' hq=>?_);cases r with
 |error e=>exact hx ND σ H s e s' I hq
 |ok fl =>
  cases fl with
  |ret u=>exact I.after hq
  |next=>exact False.elim hq
  |brk=>exact False.elim hq
  |cont=>exact False.elim hq
theorem Db(F:FnOk X.prog X.w X.K X.mg X.base CX k f fd ps sp)(hr:Room k X.A)(hg:Gl X x)(hm:X.mg x=some (.ref f))(hk:keepIn X.K (.ref f)=true)(hb:Binds X.K fd ps ds)(hd:Vals dvs ds)(hx:gX CX X E)
  (ha:PA X (e::es) t) (hdb:(x==("__debug__":Str))=false:=by decide) (he:starEach (e::es) X.env=(false,eval e X.env)::starEach es X.env:=by rfl) (hpl:(backTo pos (starEach es X.env)).any (·.1)=false:=by rfl) :
  PE X (.Call (.Name x p) (e::es) [] pos) (uY sp dvs E t):=by
 intro ND s σ H Q I h;refine wpAny_Call_Name_kw (lG I hg hm ?_ hdb);refine callWith_K (h₀:=X.base) I.ok.mod.kin hk (aB (ha pos ND s σ H _ I h) fun us s1 ⟨vs,H1,I1,r,q⟩=>⟨I1.kIn,?_⟩) he hpl;exact nh F hr hb hd hx I1 r q
theorem Ad(F:FnOk X.prog X.w X.K X.mg X.base CX k f fd ps sp)(hr:Room k X.A)(hg:Gl X x)(hm:X.mg x=some (.ref f))(hk:keepIn X.K (.ref f)=true)(hb:Binds X.K fd ps ds)(hd:Vals dvs ds)(hx:gX CX X E)
  (hdb:(x==("__debug__":Str))=false:=by decide):PE X (.Call (.Name x p) [] [] pos) (uY sp dvs E uV):=by
 intro ND s σ H Q I h;refine wpAny_Call_Name_kw (lG I hg hm ?_ hdb);exact PySem.W.callWith_K0 I.kIn hk (nh (us:=[]) F hr hb hd hx I .nil h)
theorem C7{pl:Sem Bool}(he:PE X o ta)(c:Cls X.K C)(hm:j8 X.K C m f)(F:FnOk X.prog X.w X.K X.mg X.base CX k f fd ps sp)(hr:Room k X.A)(hb:Binds X.K fd ps ds)(hd:Vals dvs ds)(hx:gX CX X E)(ha:PA X (e::es) t)
  (hst:starEach (e::es) X.env=(false,eval e X.env)::starEach es X.env:=by rfl) (hpl:(backTo pos (starEach es X.env)).any (·.1)=false:=by rfl)
  (ht:eval (.Call (.Attribute o m apos) (e::es) [] pos) X.env=(do
   let ov <- eval o X.env
   standAt apos.atName
   let(f,first) <- holding [ov] (getMethod ov m pl)
   callWith pos f first (backTo pos (starEach (e::es) X.env)) (backToKw pos (keywordEach [] X.env))):=by rfl) :
  PE X (.Call (.Attribute o m apos) (e::es) [] pos) (uW C m sp dvs E ta t):=by
 intro ND s σ H Q I h;refine methodCall_KW (pl:=pl) (aB (he ND s σ H _ I h) fun u s1 hq0=>?_) ht;obtain⟨x,H1,I1,rx,a,dx,fs,ex,ea,l,q⟩:=hq0;subst ex;obtain rfl:u=Value.ref a:=rx;refine j2 I1 ea c hm l ?_;refine callWith_K (first:=[.ref a]) (h₀:=X.base) I.ok.mod.kin hm.kp (aB (ha pos ND s1 σ H1 _ I1 q) fun us s2 ⟨vs,H2,I2,r,q2⟩=>⟨I2.kIn,?_⟩) hst hpl;exact nh (us:=.ref a::us) (vs:=.ref a::vs) F hr hb hd hx I2 (.cons rfl r) q2
theorem zy{pl:Sem Bool}(he:PE X o ta)(c:Cls X.K C)(hm:j8 X.K C m f)(F:FnOk X.prog X.w X.K X.mg X.base CX k f fd ps sp)(hr:Room k X.A)(hb:Binds X.K fd ps ds)(hd:Vals dvs ds)(hx:gX CX X E)
  (ht:eval (.Call (.Attribute o m apos) [] [] pos) X.env=(do
   let ov <- eval o X.env
   standAt apos.atName
   let(f,first) <- holding [ov] (getMethod ov m pl)
   callWith pos f first (backTo pos (starEach [] X.env)) (backToKw pos (keywordEach [] X.env))):=by rfl) :
  PE X (.Call (.Attribute o m apos) [] [] pos) (uW C m sp dvs E ta uV):=by
 intro ND s σ H Q I h;refine methodCall_KW (pl:=pl) (aB (he ND s σ H _ I h) fun u s1 hq0=>?_) ht;obtain⟨x,H1,I1,rx,a,dx,fs,ex,ea,l,q⟩:=hq0;subst ex;obtain rfl:u=Value.ref a:=rx;refine j2 I1 ea c hm l ?_;exact PySem.W.callWith_K0 (first:=[.ref a]) I1.kIn hm.kp (nh (us:=[.ref a]) (vs:=[.ref a]) F hr hb hd hx I1 (.cons rfl .nil) q)
structure Mk(K:Frag)(C f:Addr):Prop where
 makes:makesIn K C=true
 init:findIn K (.ref C) "__init__"=some (some (.ref f))
 fn:isFn K (.ref f)=true
 kp:keepIn K (.ref C)=true
theorem za{ND:List (Addr×Obj)}{σ:St}{H:Hp}{s:Shared}{Q:VK}{us:List Value}{vs:List V}(M:Mk X.K C f)(F:FnOk X.prog X.w X.K X.mg X.base CX k f fd ps sp)(hr:Room (k+1) X.A)(hb:Binds X.K fd ps ds)(hd:Vals dvs ds)
  (hx:gX CX X E) (I:Inv X ND σ H s) (r:Vals vs us)
  (h:∀x dx,H x=none->H dx=none->dx≠x->sp (.ref x::(vs++dvs)) (ae (ae H dx (.own x)) x (.ins C dx [])) (fun v H2=>v=.non/\Q (.ref x) H2) E) :
  wpAny (model X.prog X.w) X.A (call (.ref C) us) (EP X ND σ Q) X.xe s:=by
 have hq:=h (s.heap.objs.size+1) s.heap.objs.size (I.NM.fresh (Nat.le_succ _)) (I.NM.fresh (zP _)) (zU (Nat.lt_succ_self _));have I2:=Inv.made (C:=C) I;have r2:Vals (V.ref (s.heap.objs.size+1)::(vs++dvs)) (Value.ref (s.heap.objs.size+1)::(us++ds)):=.cons rfl (r.append hd);have hl:(Value.ref (s.heap.objs.size+1)::us++ds).length=ps.length:=by
  have e:=r2.length;rw[F.len _ _ _ _ hq]at e;exact e.symm
 refine wpAny_call (Al (f:=f) I.kIn M.makes M.init (beq_iff_eq.mp M.fn) (codeAny_mono (F.run _ X.stack _ _ ⟨Value.ref (s.heap.objs.size+1)::us,[]⟩ (Value.ref (s.heap.objs.size+1)::(us++ds)) _ _ E (hr.make C us [])
  (I2.env0.make C us []) (hb _ (Value.ref (s.heap.objs.size+1)::us) I2.kIn hl) r2 hq) fun r s' hq'=>?_))
 cases r with
 |error e=>exact hx ND σ _ _ e s' I2 hq'
 |ok fl =>
  cases fl with
  |ret u =>
   obtain⟨v,H',I3,rv,ev,q3⟩:=I2.after hq';subst ev;exact⟨rv,⟨V.ref (s.heap.objs.size+1),H',I3,rfl,q3⟩⟩
  |next=>exact False.elim hq'
  |brk=>exact False.elim hq'
  |cont=>exact False.elim hq'
theorem C8(M:Mk X.K C f)(F:FnOk X.prog X.w X.K X.mg X.base CX k f fd ps sp)(hr:Room (k+1) X.A)(hg:Gl X x)(hm:X.mg x=some (.ref C))(hb:Binds X.K fd ps ds)(hd:Vals dvs ds)(hx:gX CX X E)
  (ha:PA X (e::es) t) (hdb:(x==("__debug__":Str))=false:=by decide) (he:starEach (e::es) X.env=(false,eval e X.env)::starEach es X.env:=by rfl) (hpl:(backTo pos (starEach es X.env)).any (·.1)=false:=by rfl) :
  PE X (.Call (.Name x p) (e::es) [] pos) (A9 C sp dvs E t):=by
 intro ND s σ H Q I h;refine wpAny_Call_Name_kw (lG I hg hm ?_ hdb);refine callWith_K (h₀:=X.base) I.ok.mod.kin M.kp (aB (ha pos ND s σ H _ I h) fun us s1 ⟨vs,H1,I1,r,q⟩=>⟨I1.kIn,?_⟩) he hpl;exact za M F hr hb hd hx I1 r q
end
structure lU(N P:List Str)(sc:Scope):Prop where
 kind:sc.kind=.function
 co:sc.isCoroutine=false
 gen:sc.isGenerator=false
 nd:N.Nodup
 pre:N.take P.length=P
 par:∀x∈P,sc.names.lookup x=some .local\/sc.names.lookup x=some .cell
 nofree:∀y∈sc.names,y.2≠.free
theorem pX{kindOf:Str->Option NameKind}{x:Str}:∀{binds:List (Str×Value)}{m:Str->Option Value},(∀v,(x,v)∉binds)->bindL kindOf binds m x=m x
 |[],_,_=>rfl
 |(n,v)::r,m,h=>by
  unfold bindL;rw[pX fun w hw=>h w (zQ _ hw)];split
  ·have:x≠n:=by rintro rfl;exact h v z7
   simp[this]
  ·rfl
theorem pZ{kindOf:Str->Option NameKind}{x:Str}:∀{binds:List (Str×Value)}{m:Str->Option Value},(∀v,(x,v)∉binds)->bindC kindOf binds m x=m x
 |[],_,_=>rfl
 |(n,v)::r,m,h=>by
  unfold bindC;rw[pZ fun w hw=>h w (zQ _ hw)];split
  ·rfl
  ·have:x≠n:=by rintro rfl;exact h v z7
   simp[this]
theorem pY{kindOf:Str->Option NameKind}{x:Str}{v:Value}:∀{P:List Str}{vs:List Value}{i:Nat}{m:Str->Option Value},P.Nodup->P[i]?=some x->vs[i]?=some v->kindOf x=some .local ->
  bindL kindOf (P.zip vs) m x=some v
 |[],_,_,_,_,h,_,_=>by simp at h
 |_::_,[],_,_,_,_,h,_=>by simp at h
 |p::P,w::vs,0,m,nd,h1,h2,hk=>by
  simp at h1 h2;subst h1;subst h2;show bindL kindOf ((p,w)::P.zip vs) m p=_;unfold bindL;rw[pX fun v hv=>(List.nodup_cons.mp nd).1 (List.of_mem_zip hv).1,yH hk];simp
 |p::P,w::vs,i+1,m,nd,h1,h2,hk=>by
  show bindL kindOf ((p,w)::P.zip vs) m x=_;unfold bindL;exact pY (i:=i) (List.nodup_cons.mp nd).2 (by simpa using h1) (by simpa using h2) hk
theorem p0{kindOf:Str->Option NameKind}{x:Str}{v:Value}:∀{P:List Str}{vs:List Value}{i:Nat}{m:Str->Option Value},P.Nodup->P[i]?=some x->vs[i]?=some v->kindOf x≠some .local ->
  bindC kindOf (P.zip vs) m x=some v
 |[],_,_,_,_,h,_,_=>by simp at h
 |_::_,[],_,_,_,_,h,_=>by simp at h
 |p::P,w::vs,0,m,nd,h1,h2,hk=>by
  simp at h1 h2;subst h1;subst h2;show bindC kindOf ((p,w)::P.zip vs) m p=_;unfold bindC;rw[pZ fun v hv=>(List.nodup_cons.mp nd).1 (List.of_mem_zip hv).1,yG hk];simp
 |p::P,w::vs,i+1,m,nd,h1,h2,hk=>by
  show bindC kindOf ((p,w)::P.zip vs) m x=_;unfold bindC;exact p0 (i:=i) (List.nodup_cons.mp nd).2 (by simpa using h1) (by simpa using h2) hk
def start(N:List Str)(vs:List V):St:=vs.map some++List.replicate (N.length-vs.length) none
def pb(CX:lj)(P:Program)(w:World)(K:Frag)(mg:Str->Option Value)(base:Heap)(N:List Str)(qual:Str)(scope:Scope)(f:Addr)(cd:Value)(A:Around)(outer:List Env)(s:Shared)(H:Hp)(E:XK):Cx where
 prog:=P
 w:=w
 K:=K
 mg:=mg
 base:=base
 A:=A.deeper (envOfC qual scope s.heap.objs.size f cd)
 N:=N
 s₀:=s
 H₀:=H
 env:=envOfC qual scope s.heap.objs.size f cd
 outer:=outer
 stack:=envOfC qual scope s.heap.objs.size f cd::outer
 ex:=[]
 calm:=true
 fn:=fun _=>true
 pn:=[]
 xe:=fun e s'=>wpAny (model P w) (A.deeper (envOfC qual scope s.heap.objs.size f cd)) (leaving (envOfC qual scope s.heap.objs.size f cd) e) (fun _ s''=>CX outer H s E e s'') (fun e' s''=>CX outer H s E e' s'') s'
theorem sJ{sc:Scope}{n:Nat}{x:Str}(h:sc.names.lookup x=some .cell):∃c,(cellsFrom n sc.names []).lookup x=some c:=by
 have q:=cellsFrom_some sc.names n [] (.inl h);exact Option.isSome_iff_exists.mp q
theorem xn{CX:lj}{P:Program}{w:World}{K:Frag}{mg:Str->Option Value}{base:Heap}{N ps:List Str}{qual:Str}{scope:Scope}{f:Addr}{cd:Value}{A:Around}{outer:List Env}{s s1:Shared}{H:Hp}{E:XK}{us:List Value}{vs:List V}
  (S:lU N ps scope) (hd:A.handled=none) (e0:Env0 P w K mg base A outer s H) (hl:vs.length=ps.length) (r:Vals vs us)
  (x:InCallC s s.heap.objs.size (bindL (envOfC qual scope s.heap.objs.size f cd).kindOf (ps.zip us) fun _=>none) (cellsFrom (s.heap.objs.size+1) scope.names []) (bindC (envOfC qual scope s.heap.objs.size f cd).kindOf (ps.zip us) fun _=>none) s1) :
  Inv (pb CX P w K mg base N qual scope f cd A outer s H E) [] (start N vs) H s1:=by
 have hpl:ps.length<=N.length:=by have:=congrArg List.length S.pre;rw[List.length_take]at this;lia
 obtain ⟨h1,tk,rfl,hk⟩:=x.done;have noA:∀ b:Addr,b ∉ (pb CX P w K mg base N qual scope f cd A outer s H E).ex:=fun b z=>absurd (show b ∈ ([]:List Addr) from z) (by simp)
 refine⟨⟨e0.mod,S.kind,rfl,rfl,zP _,fun y z c h1 h2=>?_,fun y hy=>?_,fun y c _ h=>?_,fun _=>hd,Around.frames_deeper e0.frames,.inr ⟨rfl,rfl⟩,fun b z=>absurd z (noA b),e0.bs,e0.bsz,fun b _ _=>noA b,fun b z=>absurd z (noA b),e0.funs,e0.frf⟩,
  rfl,e0.bare,Un.kept hk,⟨_,x.toInCall.ns,fun i y v h1 h2 h3=>?_⟩,fun y c h=>⟨_,x.cell y c h⟩,e0.NM.fresh (zP _),fun y c h=>?_,fun p hp=>absurd (show p∈([]:List (Addr×Obj)) from hp) (by simp),e0.NM.kept hk,?_⟩
 ·exact name_of_addr x.apart (PySem.mem_of_lookup h1) (PySem.mem_of_lookup h2)
 ·have hy:scope.names.lookup y=some .cell\/scope.names.lookup y=some .free:=hy
  rcases hy with hy|hy
  ·exact sJ hy
  ·exact absurd rfl (S.nofree _ (PySem.mem_of_lookup hy))
 ·exact yY (x.above y c (PySem.mem_of_lookup h))
 ·have hi:i<vs.length:=by
   unfold start at h2;by_cases hi:i<vs.length
   ·exact hi
   ·rw[z6 (by simpa using hi)]at h2
    rw[List.getElem?_replicate]at h2;split at h2<;>cases h2
  have ha:vs[i]?=some v:=by
   unfold start at h2;rw[zN (by simpa using hi),zR]at h2;cases e:vs[i]? with
   |none=>rw[e]at h2;cases h2
   |some a=>rw[e]at h2;cases h2;rfl
  obtain⟨u,hu,rv⟩:=r.get ha;have hp:ps[i]?=some y:=by
   rw[<- S.pre,List.getElem?_take_of_lt oM];exact h1
  have ndP:ps.Nodup:=by rw[<- S.pre];exact S.nd.sublist (List.take_sublist _ _)
  refine⟨u,rv,?_⟩;rcases S.par y (zW hp) with k|k
  ·exact .inl ⟨k,pY ndP hp hu k⟩
  ·obtain⟨c,e⟩:=sJ (n:=s.heap.objs.size+1) k
   refine .inr ⟨.inl k,c,e,?_⟩;have q:=x.cell y c e;rw[p0 ndP hp hu (by show scope.names.lookup y≠_;rw[k];decide)]at q;exact q
 ·exact e0.NM.fresh (yY (x.above y c (PySem.mem_of_lookup h)))
 ·unfold start
  show _=N.length;rw[zV,zH,List.length_replicate];lia
theorem IR{CX:lj}{P:Program}{w:World}{K:Frag}{mg:Str->Option Value}{base:Heap}{k:Nat}{f:Addr}{name qual:Str}{params:Arguments}{body:List Stmt}{scope:Scope}{dV kV doc pm cdv ct oc:Value}{an od:Option Addr}
  {osl:Array (Option Value)}{N ps:List Str}{sp:Sp} (lk:K.lookup f=some ⟨oc,od,.func (fnOf name qual params body scope dV kV doc pm an cdv ct),osl⟩) (hcd:codeIn K cdv qual=true) (S:lU N ps scope)
  (len:∀vs H Q E,sp vs H Q E->vs.length=ps.length)
  (hbody:∀(A:Around)(outer:List Env)(s:Shared)(H:Hp)(vs:List V)(Q:VK)(E:XK),Room k (A.deeper (envOfC qual scope s.heap.objs.size f cdv))->sp vs H Q E ->
   ∃t,PSs (pb CX P w K mg base N qual scope f cdv A outer s H E) body t/\t { nx:=fun _ H'=>Q .non H',rt:=Q } (start N vs) H) :
  FnOk P w K mg base CX (k+1) f (fnOf name qual params body scope dV kV doc pm an cdv ct) ps sp:=by
 refine⟨len,fun A outer s H args us vs Q E hr e0 hb r hsp=>?_⟩;have hl:=len _ _ _ _ hsp;have KX:K.In s.heap:=e0.mod.kin.keeps fun b o e=>(e0.bs b o e).1
 have lim:s.heap.NoLimit:=e0.mod.nolimit.keeps fun b o e=>(e0.bs b o e).1
 have hkind:∀y∈ps.zip us,scope.names.lookup y.1=some .local\/(scope.names.lookup y.1=some .cell/\((cellsFrom (s.heap.objs.size+1) scope.names []).lookup y.1).isSome=true):=fun hq0 hy=>by
  obtain⟨n,v⟩:=hq0;rcases S.par n (List.of_mem_zip hy).1 with q|q
  ·exact .inl q
  ·exact .inr ⟨q,cellsFrom_some _ _ _ (.inl q)⟩
 refine codeAny_call_function hr.depth (KX _ _ lk) rfl S.co S.gen rfl (codeRec_of KX hcd) (hb _ _ _ _ ?_);refine wpAny_newFunctionEnv_cells S.kind hkind fun env he s1 x=>?_
 subst he;refine⟨lim.keeps x.toInCall.keep,codeAny_func ?_⟩;obtain⟨t,ht,hq⟩:=hbody A outer s H vs Q E (hr.deeper _) hsp;have I:Inv (pb CX P w K mg base N qual scope f cdv A outer s H E) [] (start N vs) H s1:=xn S hr.hd e0 hl r x;refine yS (ht [] s1 (start N vs) H _ I hq) (fun fl s' hs=>?_) fun e s' hs=>hs
 have ay:∀{σ':St}{H':Hp}{v:V}{u:Value},Inv (pb CX P w K mg base N qual scope f cdv A outer s H E) [] σ' H' s'->RelV v u->Q v H'->CE outer P w H s Q u s' :=
  fun {σ' H' v u} J rv q=>⟨v,H',J.os,J.bare,J.base,J.NM,rv,q⟩
 cases fl with
 |ret u =>
  obtain⟨v,σ',H',J,rv,q⟩:=hs;exact ay J rv q
 |next =>
  obtain⟨σ',H',J,q⟩:=hs;exact ay (v:=V.non) (u:=Value.none) J rfl q
 |brk =>
  obtain⟨_,_,_,q⟩:=hs;exact False.elim q
 |cont =>
  obtain⟨_,_,_,q⟩:=hs;exact False.elim q
section
variable{X:Cx}{x:Str}{p pos:Pos}{e:Expr}{es:List Expr}{t:TA}{id T:String}{r:List V->Hp->VK->Prop}
def En(r:List V->Hp->VK->Prop)(t:TA):TE:=fun σ H Q=>t σ H fun vs H1=>r vs H1 Q
theorem qO(hc:cJ X (.builtin id) r)(hg:Gl X x)(hm:X.mg x=none)(hv:bootBuiltins x=some (.builtin id))(ha:PA X (e::es) t)(hn:x≠"__name__":=by decide)(hdb:(x==("__debug__":Str))=false:=by decide)
  (he:starEach (e::es) X.env=(false,eval e X.env)::starEach es X.env:=by rfl) (hpl:(backTo pos (starEach es X.env)).any (·.1)=false:=by rfl):PE X (.Call (.Name x p) (e::es) [] pos) (En r t):=by
 intro ND s σ H Q I h;refine wpAny_Call_Name_kw (c8 I hg hm hv ?_ hn hdb);exact PyProof.Rows.callWith_builtin1 (aB (ha pos ND s σ H _ I h) fun us s1 ⟨vs,H1,I1,r1,q1⟩=>hc ND s1 σ H1 vs us Q I1 r1 q1) he hpl
theorem pF(hc:cJ X (.type T) r)(hg:Gl X x)(hm:X.mg x=none)(hv:bootBuiltins x=some (.type T))(ha:PA X (e::es) t)(hn:x≠"__name__":=by decide)(hdb:(x==("__debug__":Str))=false:=by decide)
  (he:starEach (e::es) X.env=(false,eval e X.env)::starEach es X.env:=by rfl) (hpl:(backTo pos (starEach es X.env)).any (·.1)=false:=by rfl):PE X (.Call (.Name x p) (e::es) [] pos) (En r t):=by
 intro ND s σ H Q I h;refine wpAny_Call_Name_kw (c8 I hg hm hv ?_ hn hdb);exact PyProof.Rows.callWith_type1 (aB (ha pos ND s σ H _ I h) fun us s1 ⟨vs,H1,I1,r1,q1⟩=>hc ND s1 σ H1 vs us Q I1 r1 q1) he hpl
end
end L2
namespace HT
open PySem PyProof.Rows
section
variable{prog:Program}{w:World}{A:Around}{E:Value->Shared->Prop}{s:Shared}
noncomputable def NR(n d:Nat):Option Int->Nat
 |none=>d
 |some v=>if v<0 then(v+(n:Int)).toNat else min v.toNat n
theorem sIx_none(n d:Nat):NR n d none=d:=rfl
theorem sIx_nat(n d k:Nat):NR n d (some (k:Int))=min k n:=by
 show(if(k:Int)<0 then((k:Int)+(n:Int)).toNat else min (k:Int).toNat n)=min k n;rw[yG oM,Int.toNat_natCast]
end
end HT
namespace L2
open PySem PySem.Spec PyProof.Rows
abbrev TO:=St->Hp->(Option Int->Hp->Prop)->Prop
def PO(X:Cx)(e:Option Expr)(t:TO):Prop :=
 ∀(ND:List (Addr×Obj))(s:Shared)(σ:St)(H:Hp)(Q:Option Int->Hp->Prop),Inv X ND σ H s->t σ H Q ->
  wpAny (model X.prog X.w) X.A (evalPart e X.env) (fun u s'=>∃o H',Inv X ND σ H' s'/\IsPart u o/\Q o H') X.xe s
noncomputable def Cm:TO:=fun _ H Q=>Q none H
noncomputable def Hl(t:TE):TO:=fun σ H Q=>t σ H fun x H1=>∃i,x=.int i/\Q (some i) H1
theorem iq{ns:List Int}:∀{us:List Value},Vals (ns.map V.int) us->IntsAre us ns:=by
 induction ns with
 |nil=>intro us r;rw[List.map_nil]at r;cases r;exact .nil
 |cons n ns ih =>
  intro us r;rw[zO]at r;cases r with
  |cons r1 r2 =>
   obtain⟨t,e⟩:=r1;subst e;exact .cons n t (ih r2)
section
variable{X:Cx}{e:Expr}{te:TE}{lo hi:Option Expr}{tl th:TO}{pos p2:Pos}
theorem CY:PO X none Cm:=by
 intro ND s σ H Q I h;rw[evalPart_none];exact yF ⟨none,H,I,.none,h⟩
theorem CW(h:PE X e te):PO X (some e) (Hl te):=by
 intro ND s σ H Q I hw;rw[evalPart_some];refine aB (h ND s σ H _ I hw) fun u s1 hq0=>?_
 obtain⟨x,H1,I1,r1,q1⟩:=hq0;obtain⟨i,rfl,q⟩:=q1;obtain⟨t,rfl⟩:=r1;exact⟨some i,H1,I1,.int i t,q⟩
def NO(X:Cx)(r:V->Option Int->Option Int->Hp->VK->Prop):Prop :=
 ∀(ND:List (Addr×Obj))(s:Shared)(σ:St)(H:Hp)(x:V)(v vl vu:Value)(lo hi:Option Int)(sl:Addr)(Q:VK),Inv X ND σ H s->RelV x v->s.heap.IsSliceOf sl vl vu .none->IsPart vl lo->IsPart vu hi->r x lo hi H Q ->
  ∃T id,typeLookup (.type T) "__getitem__"=pure (some (.builtin id))/\s.TypeIs v T/\wpAny (model X.prog X.w) X.A (getItem v (.ref sl)) (EP X ND σ Q) X.xe s
def JB(r:V->Option Int->Option Int->Hp->VK->Prop)(te:TE)(tl th:TO):TE:=fun σ H Q=>te σ H fun x H1=>tl σ H1 fun l H2=>th σ H2 fun u H3=>r x l u H3 Q
theorem zx{r:V->Option Int->Option Int->Hp->VK->Prop}(hr:NO X r)(he:PE X e te)(hl:PO X lo tl)(hu:PO X hi th):PE X (.Subscript e (.Slice lo hi none p2) pos) (JB r te tl th):=by
 intro ND s σ H Q I h;refine Subscript_ (aB (he ND s σ H _ I h) fun v s1 hq0=>?_);obtain⟨x,H1,I1,r1,q1⟩:=hq0;refine wpAny_Slice (aB (hl ND s1 σ H1 _ I1 q1) fun vl s2 ⟨l,H2,I2,pl,q2⟩=>aB (hu ND s2 σ H2 _ I2 q2) fun vu s3 hq0=>?_);obtain⟨u,H3,I3,pu,q3⟩:=hq0;rw[evalPart_none];refine yF ?_;have I4:Inv X ND σ H3 { s3 with heap:=s3.heap.push { cls:=.type "slice",data:=.fields #[vl,vu,.none] } }:=I3.kept (t':=s3.toks) fun b ob q=>zG _ q
 obtain⟨T,id,hT,ht,hg⟩:=hr ND { s3 with heap:=s3.heap.push { cls:=.type "slice",data:=.fields #[vl,vu,.none] } } σ H3 x v vl vu l u s3.heap.objs.size Q I4 r1 (Heap.IsSliceOf.new ..) pl pu q3;show wpAny (model X.prog X.w) X.A (subscriptTail e (.Slice lo hi none p2) v (.ref s3.heap.objs.size)) (EP X ND σ Q) X.xe { s3 with heap:=s3.heap.push { cls:=.type "slice",data:=.fields #[vl,vu,.none] } };exact tail_any (ops:=[.ref s3.heap.objs.size,v]) ht hT hg (by with_unfolding_all rfl)
def pe(xs:List V)(lo hi:Option Int):List V:=(xs.drop (HT.NR xs.length 0 lo)).take (HT.NR xs.length xs.length hi-HT.NR xs.length 0 lo)
theorem tD(xs:List V)(lo hi:Option Int):(pe xs lo hi).length<=xs.length:=by
 unfold pe;rw[List.length_take,List.length_drop];lia
end
noncomputable def km(n:Nat)(i:Int):Option Nat:=if 0<=i then(if i<n then some i.toNat else none) else if -(n:Int)<=i then some (i+n).toNat else none
def gh{α:Type}(xs:List α)(i:Int):Option α:=(km xs.length i).bind fun j=>xs[j]?
theorem tZ{n:Nat}{i:Int}{j:Nat}(h:km n i=some j):seqIndex? i n=some j/\j<n/\-(n:Int)<=i/\i<n:=by
 unfold km at h;by_cases h0:0<=i
 ·rw[yH h0]at h
  by_cases h1:i<n
  ·rw[yH h1]at h
   have e:i.toNat=j:=yD h;exact⟨by rw[seqIndex_of h0 h1,e],by lia,by lia,h1⟩
  ·rw[yG h1]at h;cases h
 ·rw[yG h0]at h
  by_cases h1:-(n:Int)<=i
  ·rw[yH h1]at h
   have e:(i+n).toNat=j:=yD h;exact⟨by rw[seqIndex_neg oM h1,e],by lia,h1,by lia⟩
  ·rw[yG h1]at h;cases h
theorem lR{α:Type}{xs:List α}{i:Int}{v:α}(h:gh xs i=some v):∃j,seqIndex? i xs.length=some j/\xs[j]?=some v/\j<xs.length/\-(xs.length:Int)<=i/\i<xs.length:=by
 unfold gh at h;cases e:km xs.length i with
 |none=>rw[e]at h;cases h
 |some j =>
  rw[e]at h;obtain⟨h1,h2,h3,h4⟩:=tZ e;exact⟨j,h1,h,h2,h3,h4⟩
def pw(b:Expr):Prop:=∀o i,subscripted b false o i=operate [o,i] (getItem o i)
def IxR(X:Cx)(r:R2):Prop :=
 ∀(value slice:Expr)(ND:List (Addr×Obj))(s:Shared)(σ:St)(H:Hp)(x y:V)(v u:Value)(Q:VK),Inv X ND σ H s->RelV x v->RelV y u->r x y H Q ->
  subscripted slice false v u=operate [v,u] (getItem v u)->wpAny (model X.prog X.w) X.A (subscriptTail value slice v u) (EP X ND σ Q) X.xe s
def lb(X:Cx)(id:String)(r:V->List V->Hp->VK->Prop):Prop :=
 ∀(ND:List (Addr×Obj))(s:Shared)(σ:St)(H:Hp)(x:V)(xs:List V)(v:Value)(us:List Value)(Q:VK),Inv X ND σ H s->RelV x v->Vals xs us->r x xs H Q ->
  wpAny (model X.prog X.w) X.A (call (.builtin id) (v::us)) (EP X ND σ Q) X.xe s
section
variable{X:Cx}{a b:Expr}{ta tb:TE}{pos:Pos}
theorem IxR.or{r r':R2}(h:IxR X r)(h':IxR X r'):IxR X (fun x y H Q=>r x y H Q\/r' x y H Q):=by
 intro value slice ND s σ H x y v u Q I rx ry q hs;rcases q with q|q
 ·exact h value slice ND s σ H x y v u Q I rx ry q hs
 ·exact h' value slice ND s σ H x y v u Q I rx ry q hs
theorem HY{r:R2}(hr:IxR X r)(ha:PE X a ta)(hb:PE X b tb)(hs:pw b):PE X (.Subscript a b pos) (wq r ta tb):=by
 intro ND s σ H Q I h;exact Subscript_ (AQ ha hb I h fun v u s2 x y H2 I2 rx ry q=>hr a b ND s2 σ H2 x y v u Q I2 rx ry q (hs _ _))
def EG(K:Frag):R2:=fun x y H Q=>∃p xs i v,x=.ref p/\y=.int i/\bK K H p xs/\gh xs i=some v/\Q v H
def ED(K:Frag):R2:=fun x y H Q=>∃p xs i v,x=.ref p/\y=.int i/\gk K H p xs/\gh xs i=some v/\Q v H
def EE:R2:=fun x y H Q=>∃z i c,x=.str z/\y=.int i/\z.length<=sizeLine/\gh z.cps.toList i=some c/\Q (.str ⟨#[c]⟩) H
theorem ix_list:IxR X (EG X.K):=by
 intro value slice ND s σ H x y v u Q I rx ry h hs;obtain⟨p,xs,i,z,rfl,rfl,hq,he,q⟩:=h;cases rx;obtain⟨t,rfl⟩:=ry;obtain⟨NH,r,pl,hz⟩:=I.list hq;obtain⟨j,h1,h2,h3,h4,h5⟩:=lR he;obtain⟨w,ew,rw'⟩:=r.get h2;have hl:=r.length;have hn:=gK;have ay:EP X ND σ Q w s:=⟨z,H,I,rw',q⟩;by_cases h0:0<=i
 ·have hj:i.toNat=j:=by
   rw[seqIndex_of h0 h5]at h1;exact yD h1
  exact item_listR pl.isList h0 oM (by rw[hj];simpa using ew) ay hs
 ·have hj:(i+(NH.toArray.size:Int)).toNat=j:=by
   rw[seqIndex_neg oM h4]at h1;rw[zI,<- hl];exact yD h1
  exact subscriptTail_builtinR (x:=w) pl.isList.typeIs slot_list_getitem.lookup
   (wpAny_getItem_list_neg (Q:=fun r s'=>r=w/\EP X ND σ Q r s') pl.isList oM (by rw[zI]<;>lia) oM (by rw[hj];simpa using ew) ⟨rfl,ay⟩) hs
theorem ix_tup:IxR X (ED X.K):=by
 intro value slice ND s σ H x y v u Q I rx ry h hs;obtain⟨p,xs,i,z,rfl,rfl,hq,he,q⟩:=h;cases rx;obtain⟨t,rfl⟩:=ry;obtain⟨NH,r,pl,hz⟩:=I.tuple hq;obtain⟨j,h1,h2,h3,h4,h5⟩:=lR he;obtain⟨w,ew,rw'⟩:=r.get h2;have hl:=r.length;have hn:=gK;have ay:EP X ND σ Q w s:=⟨z,H,I,rw',q⟩;exact subscriptTail_builtinR (x:=w) pl.typeIs slot_tuple_getitem.lookup
  (getItem_tuple (j:=j) (Q:=fun r s'=>r=w/\EP X ND σ Q r s') pl oM oM (by rw[zI,<- hl];exact h1) (by simpa using ew) ⟨rfl,ay⟩) hs
theorem Gb:IxR X EE:=by
 intro value slice ND s σ H x y v u Q I rx ry h hs;obtain⟨z,i,c,rfl,rfl,hz,he,q⟩:=h;obtain⟨t,rfl⟩:=rx;obtain⟨t',rfl⟩:=ry;obtain⟨j,h1,h2,h3,h4,h5⟩:=lR he;have hl:z.cps.toList.length=z.length:=by simp[Str.length]
 rw[hl]at h1 h4 h5;have hn:=gK;exact tail_any (typeIs_str s z t) slot_str_getitem.lookup (getItem_str (c:=c) (by
  have e1:decide (i < -(2^63:Int))=false:=z9 oM;have e2:decide (i ≥ 2^63)=false:=z9 oM;rw[e1,e2,Bool.or_false]) (by rw[h1];simpa using h2) ⟨.str ⟨#[c]⟩,H,I.tok _,⟨_,rfl⟩,q⟩) hs
def LP(K:Frag):R2:=fun x y H Q=>EG K x y H Q\/ED K x y H Q\/EE x y H Q
theorem rK:IxR X (LP X.K):=ix_list.or (ix_tup.or Gb)
theorem vo(NH:List Value)(n j:Nat)(u:Value):Obj.mapSeq (·.setIfInBounds j u) { cls:=.type "list",data:=.seq NH.toArray n }={ cls:=.type "list",data:=.seq (NH.set j u).toArray n }:=by
 simp[Obj.mapSeq]
theorem Inv.lst{ND:List (Addr×Obj)}{σ:St}{H:Hp}{s:Shared}{p:Addr}{xs:List V}(I:Inv X ND σ H s)(h:H p=some (.lst xs)) :
  ∃(NH:List Value)(n:Nat),Vals xs NH/\s.heap.get? p=some { cls:=.type "list",data:=.seq NH.toArray n }/\xs.length<=sizeLine:=by
 obtain⟨z,NH,n,r,e⟩:=I.NM p _ h;exact⟨NH,n,r,e,z⟩
theorem Inv.lstUpd{ND:List (Addr×Obj)}{σ:St}{H:Hp}{s:Shared}{p:Addr}{xs ys:List V}{NH its':List Value}{n n':Nat}{f:Obj->Obj}(I:Inv X ND σ H s)(h:H p=some (.lst xs))
  (ho:s.heap.get? p=some { cls:=.type "list",data:=.seq NH.toArray n }) (hf:f { cls:=.type "list",data:=.seq NH.toArray n }={ cls:=.type "list",data:=.seq its'.toArray n' }) (r:Vals ys its') (hz:ys.length<=sizeLine) (t:Nat) :
  Inv X ND σ (ae H p (.lst ys)) { s with heap:=s.heap.update p f,toks:=t }:=by
 have e:(s.heap.update p f).get? p=some { cls:=.type "list",data:=.seq its'.toArray n' }:=by
  rw[Heap.get?_update_self f ho (by rw[hf]<;>rfl),hf]
 refine I.write (x:=p) (e:=p) (by rw[h];trivial) (.inl rfl) (fun b u hb q=>(Heap.get?_update_other _ _ (Ne.symm hb)).trans q) ⟨_,e⟩ ?_;exact⟨hz,its',n',r,e⟩
def Hw:V->V->V->Hp->(Hp->Prop)->Prop:=fun o i v H Q=>∃p xs k j,o=.ref p/\i=.int k/\H p=some (.lst xs)/\km xs.length k=some j/\Q (ae H p (.lst (xs.set j v)))
theorem yz:vU X Hw:=by
 intro ND s σ H o i v ov iv u Q I ro ri rv h;obtain⟨p,xs,k,j,rfl,rfl,hp,hj,q⟩:=h;cases ro;obtain⟨t,rfl⟩:=ri;obtain⟨NH,n,r,ho,hz⟩:=I.lst hp;obtain⟨h1,h2,h3,h4⟩:=tZ hj;have hl:=r.length;have hn:=gK;have I':Inv X ND σ (ae H p (.lst (xs.set j v))) { s with heap:=s.heap.update p (Obj.mapSeq (·.setIfInBounds j u)) } :=
  I.lstUpd hp ho (vo NH n j u) (r.set rv j) (by rw[List.length_set];exact hz) s.toks
 by_cases h0:0<=k
 ·have hk:k.toNat=j:=by
   rw[seqIndex_of h0 h4]at h1;exact yD h1
  exact ki_setAt ho h0 oM (by rw[zI,<- hl];exact h4) (by rw[hk];exact⟨_,I',q⟩)
 ·have hk:(k+(NH.toArray.size:Int)).toNat=j:=by
   rw[seqIndex_neg oM h3]at h1;rw[zI,<- hl];exact yD h1
  exact ki_setBack ho oM (by rw[zI,<- hl];exact h3) oM (by rw[hk];exact⟨_,I',q⟩)
theorem qC(lo hi:Option Int)(n:Nat):(sliceBounds lo hi none n).1=((HT.NR n 0 lo:Nat):Int)/\(sliceBounds lo hi none n).2.1=((HT.NR n n hi:Nat):Int)/\(sliceBounds lo hi none n).2.2=1:=by
 refine⟨?_,?_,rfl⟩
 ·cases lo with
  |none=>simp[sliceBounds,HT.NR]
  |some i =>
   simp only[sliceBounds,HT.NR,Option.getD_none,show(1:Int) > 0 by decide,if_true];by_cases h:i<0
   ·simp only[h,if_true]<;>lia
   ·simp only[h,if_false]<;>lia
 ·cases hi with
  |none=>simp[sliceBounds,HT.NR]
  |some i =>
   simp only[sliceBounds,HT.NR,Option.getD_none,show(1:Int) > 0 by decide,if_true];by_cases h:i<0
   ·simp only[h,if_true]<;>lia
   ·simp only[h,if_false]<;>lia
theorem p7(NH:List Value)(lo hi:Option Int):slicePick NH.toArray lo hi none=((NH.drop (HT.NR NH.length 0 lo)).take (HT.NR NH.length NH.length hi-HT.NR NH.length 0 lo)).toArray:=by
 obtain⟨h1,h2,h3⟩:=qC lo hi NH.toArray.size;unfold slicePick;rw[h1,h2,h3];simp only[sliceRange_one,pick_run,zI]<;>rfl
def KM(K:Frag):V->Option Int->Option Int->Hp->VK->Prop:=fun x lo hi H Q=>∃a xs,x=.ref a/\bK K H a xs/\∀p,H p=none->Q (.ref p) (ae H p (.lst (pe xs lo hi)))
theorem Cq:NO X (KM X.K):=by
 intro ND s σ H x v vl vu lo hi sl Q I rx hs pl pu h;obtain⟨a,xs,rfl,hx,q⟩:=h;cases rx;obtain⟨NH,r,ht,hz⟩:=I.list hx;have hlen:=r.length;refine⟨"list",_,slot_list_getitem.lookup,ht.isList.typeIs,?_⟩;refine wpAny_getItem_list_slice ht.isList hs pl pu .none (by simp) ?_ (by rw[zI]<;>lia);rw[p7,<- hlen];refine⟨.ref s.heap.objs.size,_,I.laid (t':=s.toks) (o:=.lst (pe xs lo hi)) (fun b ob q=>zG _ q) (zP _) ?_,rfl,q _ (I.NM.fresh (zP _))⟩;exact⟨z5 (tD xs lo hi) hz,_,0,(r.drop (HT.NR xs.length 0 lo)).take (HT.NR xs.length xs.length hi-HT.NR xs.length 0 lo),zY _ rfl⟩
theorem k6:cJ X (.builtin "len") (fun xs H Q=>∃p ys,xs=[.ref p]/\(bK X.K H p ys\/gk X.K H p ys)/\Q (.int ys.length) H):=by
 intro ND s σ H xs us Q I r h;obtain⟨p,ys,rfl,hq,q⟩:=h;obtain⟨u,rfl,rx⟩:=eI r;cases rx;have hn:=gK;rcases hq with hq|hq
 ·obtain⟨NH,r',pl,hz⟩:=I.list hq
  have hlen:=r'.length;exact Calls.call_len_list pl.isList (by simp only[zI]<;>lia) ⟨.int ys.length,H,I.tok _,⟨s.toks+1,by rw[zI,hlen]⟩,q⟩
 ·obtain⟨NH,r',pl,hz⟩:=I.tuple hq
  have hlen:=r'.length;exact len_tuple pl (by simp only[zI]<;>lia) ⟨.int ys.length,H,I.tok _,⟨s.toks+1,by rw[zI,hlen]⟩,q⟩
theorem sL:cJ X (.builtin "len") (fun xs H Q=>∃z,xs=[.str z]/\z.length<=sizeLine/\Q (.int z.length) H):=by
 intro ND s σ H xs us Q I r h;obtain⟨z,rfl,hz,q⟩:=h;obtain⟨u,rfl,t,rfl⟩:=eI r;have hn:=gK;exact len_str oM ⟨.int z.length,H,I.tok _,⟨_,rfl⟩,q⟩
theorem sK:cJ X (.type "list") (fun xs H Q=>∃p ys,xs=[.ref p]/\(bK X.K H p ys\/gk X.K H p ys)/\∀l,H l=none->Q (.ref l) (ae H l (.lst ys))):=by
 intro ND s σ H xs us Q I r h;obtain⟨p,ys,rfl,hq,q⟩:=h;obtain⟨u,rfl,rx⟩:=eI r;cases rx;have ay:∀(NH:List Value),Vals ys NH->ys.length<=sizeLine->∀(h':Heap)(c':Nat),(∀b o',s.heap.get? b=some o'->h'.get? b=some o') ->
   h'.get? s.heap.objs.size=some { cls:=.type "list",dict:=none,data:=.seq NH.toArray c',slots:=#[] }->EP X ND σ Q (.ref s.heap.objs.size) { s with heap:=h' }:=fun NH r' hz h' c' kp e =>
  ⟨.ref s.heap.objs.size,_,I.laid (t':=s.toks) kp (zP _) (show ObjOk X.prog X.w _ h' _ (.lst ys) from ⟨hz,NH,c',r',e⟩),rfl,q _ (I.NM.fresh (zP _))⟩
 rcases hq with hq|hq
 ·obtain⟨NH,r',pl,hz⟩:=I.list hq
  have hlen:=r'.length;obtain⟨o,ho,hc,n,hd⟩:=pl.isList;exact call_list_seq p (.inl rfl) ho hc hd (fun h' c' kp e=>ay NH r' hz h' c' kp e) (by simp only[zI]<;>lia)
 ·obtain⟨NH,r',pl,hz⟩:=I.tuple hq
  have hlen:=r'.length;obtain⟨o,ho,hc,n,hd⟩:=pl;exact call_list_seq p (.inr rfl) ho hc hd (fun h' c' kp e=>ay NH r' hz h' c' kp e) (by simp only[zI]<;>lia)
def wc(K:Frag)(T:String)(x:V)(H:Hp):Prop:=match x with
 |.str _=>T="str"
 |.int _=>T="int"
 |.ref p=>(T="list"/\∃xs,bK K H p xs)\/(T="tuple"/\∃o,K.lookup p=some o/\o.cls=.type "tuple"/\o.dict=none) \/
   (T="dict"/\((∃NE,H p=some (.dK NE))\/∃NE,H p=some (.dT NE)))\/(T="set"/\∃S n,H p=some (.set S n))
 |_=>False
theorem wa{ND:List (Addr×Obj)}{σ:St}{H:Hp}{s:Shared}{T:String}{x:V}{v:Value}(I:Inv X ND σ H s)(r:RelV x v)(ty:wc X.K T x H) :
  s.TypeIs v T/\∀a,v=.ref a->∃ob,s.heap.get? a=some ob/\ob.dict=none:=by
 cases x with
 |str z =>
  obtain ⟨t,rfl⟩:=r;cases (show T="str" from ty);exact ⟨typeIs_str s z t,fun _ e=>nomatch e⟩
 |int i =>
  obtain ⟨t,rfl⟩:=r;cases (show T="int" from ty);exact ⟨typeIs_int s i t,fun _ e=>nomatch e⟩
 |ref p =>
  cases r;rcases ty with⟨rfl,xs,hq⟩|⟨rfl,o,hk,hc,hd⟩|⟨rfl,hk⟩|⟨rfl,S,n,hk⟩
  ·obtain⟨NH,_,pl,_⟩:=I.list hq
   refine⟨pl.isList.typeIs,fun a e=>?_⟩;cases e;obtain⟨o,n,e,c,hd,_⟩:=pl;exact⟨o,e,hd⟩
  ·refine⟨⟨o,I.kIn p o hk,hc⟩,fun a e=>?_⟩
   cases e;exact⟨o,I.kIn _ o hk,hd⟩
  ·have z:∃o,s.heap.get? p=some o/\o.ExactDict:=by
    rcases hk with⟨NE,hk⟩|⟨NE,hk⟩
    ·obtain⟨_,_,_,_,o,_,_,e,ex,_⟩:=I.NM p _ hk
     exact⟨o,e,ex⟩
    ·obtain⟨_,_,_,_,o,_,_,e,ex,_⟩:=I.NM p _ hk
     exact⟨o,e,ex⟩
   obtain⟨o,e,ex⟩:=z;refine⟨⟨o,e,ex.1⟩,fun a e2=>?_⟩;cases e2;exact⟨o,e,ex.2.1⟩
  ·obtain⟨o,_,_,_,e,ex,_⟩:=I.NM p _ hk
   refine⟨⟨o,e,ex.1⟩,fun a e2=>?_⟩;cases e2;exact⟨o,e,ex.2.1⟩
 |_=>exact False.elim ty
def KC(K:Frag)(T:String)(r:V->List V->Hp->VK->Prop)(to:TE):TE:=fun σ H Q=>to σ H fun x H1=>wc K T x H1/\r x [] H1 Q
def JD(K:Frag)(T:String)(r:V->List V->Hp->VK->Prop)(to:TE)(t:TA):TE:=fun σ H Q=>to σ H fun x H1=>wc K T x H1/\t σ H1 fun xs H2=>r x xs H2 Q
variable{o e:Expr}{es:List Expr}{to:TE}{t:TA}{name:Str}{apos cpos:Pos}{T id:String}{r:V->List V->Hp->VK->Prop}
theorem Fy(pa:PlainAttrs T)(slot:Slot T name id)(hty:typeOf (.builtin id)=pure (.type "method_descriptor"))(hm:lb X id r)(ho:PE X o to)
  (hbase:attributeBase o name X.env (eval o X.env)=eval o X.env:=by rfl) (hline:(apos.endLine==cpos.line)=true:=by rfl):PE X (.Call (.Attribute o name apos) [] [] cpos) (KC X.K T r to):=by
 intro ND s σ H Q I h;refine wpAny_Call_method0_late hbase hline (aB (ho ND s σ H _ I h) fun v s1 hq0=>?_);obtain⟨x,H1,I1,r1,ty,q1⟩:=hq0;obtain⟨h1,h2⟩:=wa I1 r1 ty;exact⟨T,id,pa,slot,hty,h1,h2,Calls.callWith_builtin rfl (PySem.evalArgs_none (hm ND s1 σ H1 x [] v [] Q I1 r1 .nil q1))⟩
theorem HZ(pa:PlainAttrs T)(slot:Slot T name id)(hty:typeOf (.builtin id)=pure (.type "method_descriptor"))(hm:lb X id r)(ho:PE X o to)(ha:PA X (e::es) t)
  (hbase:attributeBase o name X.env (eval o X.env)=eval o X.env:=by rfl)
  (hfew:((backTo cpos (starEach (e::es) X.env)).all (fun x=>!x.1)&&(backToKw cpos (keywordEach [] X.env)).all (fun x=>x.1.isSome)
   && decide ((e::es).length+([]:List Keyword).length+(if([]:List Keyword).isEmpty then 0 else 1)<30))=true:=by rfl)
  (hline:(apos.endLine==cpos.line)=true:=by rfl) (hs:starEach (e::es) X.env=(false,eval e X.env)::starEach es X.env:=by rfl) (hplain:(backTo cpos (starEach es X.env)).any (·.1)=false:=by rfl) :
  PE X (.Call (.Attribute o name apos) (e::es) [] cpos) (JD X.K T r to t):=by
 intro ND s σ H Q I h;refine wpAny_Call_method_late hbase hfew hline rfl (aB (ho ND s σ H _ I h) fun v s1 hq0=>?_);obtain⟨x,H1,I1,r1,ty,q1⟩:=hq0;obtain⟨h1,h2⟩:=wa I1 r1 ty;refine⟨T,id,pa,slot,hty,h1,h2,?_⟩;have hA:=ha cpos ND s1 σ H1 _ I1 q1;rw[hs]at hA ⊢;refine Calls.callWith_builtin (by show(false||(backTo cpos (starEach es X.env)).any (·.1))=false;rw[hplain]<;>rfl) (Calls.evalArgs_plain ?_);exact aB hA fun us s2 ⟨vs,H2,I2,r2,q2⟩=>hm ND s2 σ H2 x vs v us Q I2 r1 r2 q2
end
def B3(X:Cx)(id:String)(r:V->List V->Hp->VK->Prop):Prop :=
 ∀(ND:List (Addr×Obj))(s:Shared)(σ:St)(H:Hp)(x:V)(xs:List V)(v:Value)(us:List Value)(Q:VK),Inv X ND σ H s->RelV x v->Vals xs us->r x xs H Q ->
  wpAny (model X.prog X.w) X.A (call (.builtin id) (v::us)) (EP X ND σ Q) X.xe s
theorem Vals.one{x:V}{us:List Value}(h:Vals [x] us):∃u,us=[u]/\RelV x u:=by
 cases h with
 |cons r h=>cases h;exact⟨_,rfl,r⟩
theorem Vals.zero:∀{us:List Value},Vals [] us->us=[]
 |_,.nil=>rfl
theorem Vals.dropLast{xs:List V}{us:List Value}(h:Vals xs us):Vals xs.dropLast us.dropLast:=by
 induction h with
 |nil=>exact .nil
 |cons r t ih =>
  cases t with
  |nil=>exact .nil
  |cons q t'=>exact .cons r ih
theorem Vals.eraseIdx:∀{xs:List V}{us:List Value} (i:Nat),Vals xs us->Vals (xs.eraseIdx i) (us.eraseIdx i)
 |_,_,_,.nil=>.nil
 |_,_,0,.cons _ t=>t
 |_,_,i+1,.cons r t=>.cons r (Vals.eraseIdx i t)
theorem Vals.rep{xs:List V}{us:List Value}(h:Vals xs us):∀k:Nat,Vals (List.replicate k xs).flatten (List.replicate k us).flatten
 |0=>.nil
 |k+1=>by
  rw[List.replicate_succ,List.replicate_succ,List.flatten_cons,List.flatten_cons];exact Vals.append h (Vals.rep h k)
theorem vK{α:Type}(l:List α):l.eraseIdx (l.length-1)=l.dropLast:=by
 induction l with
 |nil=>rfl
 |cons a r ih =>
  cases r with
  |nil=>rfl
  |cons b r =>
   have e:(a::b::r).length-1=((b::r).length-1)+1:=by
    have h1:(a::b::r).length=r.length+2:=rfl;have h2:(b::r).length=r.length+1:=rfl;lia
   rw[e,List.eraseIdx_cons_succ,ih]
   all_goals rfl
theorem pJ{α:Type}:∀(l:List α)(i:Nat),(l.eraseIdx i).length<=l.length
 |[],_=>zP _
 |_::_,0=>Nat.le_succ _
 |_::r,i+1=>Nat.succ_le_succ (pJ r i)
theorem pQ(NH:List Value):∀(k:Nat)(acc:List Value),
  List.foldl (fun x1 x2=>x1++x2) acc.toArray (List.replicate k NH.toArray)=(acc++(List.replicate k NH).flatten).toArray
 |0,acc=>by simp
 |k+1,acc=>by
  have e:acc.toArray++NH.toArray=(acc++NH).toArray:=by simp
  have e2:(acc++NH)++(List.replicate k NH).flatten=acc++(List.replicate (k+1) NH).flatten:=by
   rw[List.replicate_succ,List.flatten_cons,yM]
  rw[<- e2,<- pQ NH k (acc++NH),<- e,List.replicate_succ,List.foldl_cons]
section
variable{X:Cx}{ND:List (Addr×Obj)}{σ:St}{H:Hp}{s:Shared}{l b:Addr}{xs ys zs:List V}
theorem Inv.lset{NH its':List Value}{n:Nat}{f:Array Value->Array Value}{t':Nat}(I:Inv X ND σ H s)(hH:H l=some (.lst xs))
  (e:s.heap.get? l=some { cls:=.type "list",data:=.seq NH.toArray n }) (hf:f NH.toArray=its'.toArray) (hv:Vals ys its') (hz:ys.length<=sizeLine) :
  Inv X ND σ (ae H l (.lst ys)) { s with heap:=s.heap.update l (Obj.mapSeq f),toks:=t' }:=by
 have q:=PySem.IsL.update e f;rw[hf]at q;refine I.write (x:=l) (e:=l) (by rw[hH];exact trivial) (.inl rfl) (fun b' u hb hu=>(Heap.get?_update_other s.heap (Obj.mapSeq f) (Ne.symm hb)).trans hu) ⟨_,q⟩ ?_;exact⟨hz,its',_,hv,q⟩
theorem Inv.lnew{NH:List Value}{t':Nat}(I:Inv X ND σ H s)(hv:Vals ys NH)(hz:ys.length<=sizeLine) :
  Inv X ND σ (ae H s.heap.objs.size (.lst ys)) { s with heap:=s.heap.push { cls:=.type "list",data:=.seq NH.toArray },toks:=t' } :=
 I.laid (fun _ _ q=>zG _ q) (zP _) ⟨hz,NH,0,hv,zY _ rfl⟩
theorem Inv.fresh(I:Inv X ND σ H s):H s.heap.objs.size=none:=I.NM.fresh (zP _)
theorem Inv.lstM(I:Inv X ND σ H s)(hH:H l=some (.lst xs)):xs.length<=sizeLine/\∃(NH:List Value)(n:Nat),Vals xs NH/\xs.length=NH.length/\s.heap.get? l=some { cls:=.type "list",data:=.seq NH.toArray n }:=by
 obtain⟨z,NH,n,r,e⟩:=I.NM l _ hH;exact⟨z,NH,n,r,r.length,e⟩
theorem notLongL{n:Nat}(h:n<=sizeLine):Builtin.List.listTooLong n=false:=by
 unfold Builtin.List.listTooLong;exact z9 oM
end
section
variable{X:Cx}
def Cv:V->List V->Hp->VK->Prop:=fun x vs H Q=>∃l xs y,x=.ref l/\vs=[y]/\H l=some (.lst xs)/\xs.length<sizeLine/\Q .non (ae H l (.lst (xs++[y])))
theorem pH:B3 X "list.append" Cv:=by
 intro ND s σ H x vs v us Q I rx rv h;obtain⟨l,xs,y,rfl,rfl,hH,hz,q⟩:=h;cases rx;obtain⟨u,rfl,ru⟩:=rv.one;obtain⟨z,NH,n,r,hl,e⟩:=I.lstM hH;refine call_meets F.slot_list_append ⟨_,e,rfl⟩ F.entry_list_append (F.args_list_append_2 _ _) (PySem.list_append l NH.toArray n u (by rw[zI];lia)) ⟨e,?_⟩;refine⟨.non,_,I.lset (its':=NH++[u]) hH e (by simp) (r.append (.cons ru .nil)) ?_,rfl,q⟩;rw[zV,List.length_singleton];lia
def KQ:V->List V->Hp->VK->Prop:=fun x vs H Q=>∃l xs y,x=.ref l/\vs=[]/\H l=some (.lst xs)/\xs[xs.length-1]?=some y/\Q y (ae H l (.lst xs.dropLast))
theorem FQ:B3 X "list.pop" KQ:=by
 intro ND s σ H x vs v us Q I rx rv h;obtain⟨l,xs,y,rfl,rfl,hH,hy,q⟩:=h;cases rx;have hus:=rv.zero;subst hus;obtain⟨z,NH,n,r,hl,e⟩:=I.lstM hH;obtain⟨u,hu,ru⟩:=r.get hy;have hy':NH.toArray[NH.toArray.size-1]?=some u:=by
  show NH.toArray[NH.length-1]?=some u;rw[<- Array.getElem?_toList,<- hl];exact hu
 refine call_meets F.slot_list_pop ⟨_,e,rfl⟩ F.entry_list_pop (F.args_list_pop_1 _) (MeetsSeq.list_pop_last l NH.toArray n u hy' (by rw[zI];lia)) ⟨e,?_⟩;refine⟨y,_,I.lset (its':=NH.dropLast) hH e ?_ r.dropLast ?_,ru,q⟩
 ·show NH.toArray.eraseIdxIfInBounds (NH.toArray.size-1)=NH.dropLast.toArray
  rw[zI,List.eraseIdxIfInBounds_toArray,vK]
 ·rw[List.length_dropLast]
  lia
def KN:R2:=fun x y H Q=>∃l k xs,x=.ref l/\y=.int k/\H l=some (.lst xs)/\-(2^63)<=k/\k<2^63/\xs.length*k.toNat<=sizeLine /\
 ∀p,H p=none->Q (.ref p) (ae H p (.lst (List.replicate k.toNat xs).flatten))
theorem Dp{α:Type}(xs:List α)(k:Nat):(List.replicate k xs).flatten.length=k*xs.length:=by
 induction k with
 |zero=>simp
 |succ k ih=>rw[List.replicate_succ,List.flatten_cons,zV,ih,Nat.succ_mul,Nat.add_comm]
theorem FD:k9 X (binaryOp .Mult) KN:=by
 intro ND s σ H x y v u Q I rx ry h;obtain⟨l,k,xs,rfl,rfl,hH,h1,h2,hz,q⟩:=h;cases rx;obtain⟨t,rfl⟩:=ry;obtain⟨z,NH,n,r,hl,e⟩:=I.lstM hH;have hlen:NH.toArray.size*k.toNat<=sizeLine:=by rw[zI,<- hl];exact hz
 have hcap:¬NH.toArray.size*k.toNat > (2^63-1)/8:=by
  have:(sizeLine:Nat)<=(2^63-1)/8:=by decide
  lia
 have hfit:¬(!Builtin.List.listFitsIndex k)=true:=by
  rw[fitsIndex_both h1 h2];exact Bool.false_ne_true
 have hlong:¬Builtin.List.listTooLong (NH.toArray.size*k.toNat)=true:=by
  rw[notLongL hlen];exact Bool.false_ne_true
 have hnew:List.foldl (fun x1 x2=>x1++x2) #[] (List.replicate (if NH.toArray.isEmpty=true then 0 else k.toNat) NH.toArray)=(List.replicate k.toNat NH).flatten.toArray:=by
  have f0:∀m:Nat,List.foldl (fun x1 x2=>x1++x2) #[] (List.replicate m NH.toArray)=(List.replicate m NH).flatten.toArray:=fun m=>by
   have:=pQ NH m []
   rw[List.nil_append]at this;exact this
  rw[f0];cases NH with
  |nil=>simp
  |cons a r'=>rw[yG (by simp)]
 refine wpAny_binaryOp_repeat_ref (T:="list") (U:="int") dC ⟨_,e,rfl⟩ (fun s'=>typeIs_int s' k t) noFill_list_mul F.fills_int_mul F.slot_int_rmul repeat_list F.slot_int_index.lookup
  (call_meets F.slot_int_rmul (typeIs_int s k t) F.entry_int_rmul (F.args_int_rmul_2 _ _) (int___rmul___int_list k t l NH.toArray n)
   ⟨e,rfl,⟨_,e,rfl⟩,call_meets F.slot_list_mul ⟨_,e,rfl⟩ F.entry_list_mul (F.args_list_mul_2 _ _) (AutoListH.list___mul___list_int_3 l NH.toArray n k t hfit hcap hlong) ⟨e,?_⟩⟩)
 rw[hnew];exact⟨.ref _,_,I.lnew (t':=s.toks) (r.rep k.toNat) (by rw[Dp,Nat.mul_comm];exact hz),rfl,q _ I.fresh⟩
end
end L2
namespace Att
open PySem PySem.W PySem.Calls PyProof.Rows
theorem nR{P:Params}{h:Heap}:∀(ns:List Int)(vs:List Value),WellAll P h vs (ns.map WData.int)->IntsAre vs ns:=by
 intro ns
 induction ns with
 |nil =>
  intro vs w;rw[List.map_nil]at w;cases w;exact .nil
 |cons n ns ih =>
  intro vs w;rw[zO]at w;cases w with
  |cons a b =>
   cases a;exact .cons _ _ (ih _ b)
theorem ww{l:OpenLaw}{n:Nat}(hn:l.most=some n){P:Params}{h:Heap}{args:List WData}{vals:List Value}
  (hpre:l.row.toRowW.claim.pre args=true) (hwl:WellAll P h vals args) :
  ∃a vs ns,vals=[Value.ref a]/\args=[WData.list (ns.map WData.int)]/\h.get? a=some { cls:=.type "list",data:=.seq vs.toArray }/\IntsAre vs ns/\ns.length<=n:=by
 have hsh:WShape.hasAll [] args [.list .int]=true:=(pre_splitW hpre).1;have hc:l.pre.holds [] { args:=args }=true:=(pre_splitW hpre).2;obtain⟨d,r,rfl,h1,h2⟩:=hasAllW_cons hsh;obtain rfl:=hasAllW_nil h2;obtain⟨xs,rfl,h3⟩:=hasW_list h1;obtain⟨ns,rfl⟩:=items_int h3;have hlen:ns.length<=n:=by
  unfold OpenLaw.pre at hc;have h4:(WTm.not (.lt (.lit (.int (n:Int))) (.len (.arg 0)))).holds [] { args:=[.list (ns.map .int)] }=true:=by
   have h4:=(holds_andW hc).1;rw[hn]at h4;exact h4
  have h5:=condW_of h4 (w_not (w_lt w_lit (w_len_list (w_arg rfl))));rw[zH]at h5;refine Nat.le_of_not_lt fun q=>?_
  have q':(n:Int)<((ns.length:Nat):Int):=by lia
  first
   | (rw [yV q'] at h5;exact absurd h5 dC)
   | (simp at h5;lia)
 cases hwl with
 |cons w1 w2 =>
  cases w2;cases w1 with
  |list ho hall=>exact⟨_,_,ns,rfl,rfl,ho,nR ns _ hall,hlen⟩
theorem wG(l:OpenLaw)(args:List WData):l.row.toRowW.claim.post args (.bool true) args=true :=
 postW_of (r:=l.row.toRowW) (X:=(true==true))
  (show WShape.has [] (.bool true) .bool=true by first | rfl | decide | simp [WShape.has,WShape.arms,WShape.armsAll])
  (show (WTm.eq .res (.lit (.bool true))).value [] { args:=args,res:=some (.bool true),after:=args }=some (.bool (true == true)) from w_eq_bool (w_res rfl) w_lit) rfl
theorem attach_call{l:OpenLaw}{n:Nat}{q:Program}{bT:List Str}{XP:(Str->Option Value)->Heap->Prop}{YP:World->Heap->Prop}{d:DefRec}
  (hn:l.most=some n) (hdf:d.params.defaults=[])
  (call:∀(w:World)(s₀ s₁:Shared)(mg mb:Str->Option Value)(fa:Addr)(o:Obj)(pm cd doc:Value)(a:Addr)(vs:List Value)(ns:List Int),
   Ground q bT [] XP w s₀ mg mb s₁.heap->YP w s₁.heap ->
   s₁.heap.get? fa=some o->o.data=.func (docDef d.name d.params d.body d.scope pm cd doc)->s₁.heap.CodeRec cd d.name->mg d.name=some (.ref fa) ->
   s₁.heap.get? a=some { cls:=.type "list",data:=.seq vs.toArray }->IntsAre vs ns->ns.length<=n->s₁.gens=#[] ->
   codeAny (model l.prog w) callerA (.call (.ref fa) ⟨[.ref a],[]⟩) (fun r s'=>r=.ok (.ret (.bool true))/\OldK s₁.heap s'.heap/\s'.os=s₁.os/\AllBare s'.gens) s₁) :
  WalkO q bT XP YP l.row.toRowW d [] (fun f vs=>PySem.call f vs):=by
 intro w s₀ s₁ mg mb G Y fa o pm cd doc dV kV ho hd hcd hD hmg hg args vals as hpre hlay hrd hwl hlo;obtain rfl:dV=.none:=Dflts.none hD hdf;obtain rfl:kV=.none:=Dflts.noKw hD;obtain⟨a,vs,ns,rfl,rfl,hobj,hints,hlen⟩:=ww hn hpre hwl;refine enter_call (codeAny_mono (call w s₀ s₁ mg mb fa o pm cd doc a vs ns G Y ho (fd_plain hd) hcd hmg hobj hints hlen hg) fun r s' hq=>?_);obtain⟨rfl,h2,h3,h4⟩:=hq;exact⟨.inl ⟨.bool true,.bool true,[],rfl,fun _=>rfl,.bool true,wG l _,fun _=>⟨List.Pairwise.nil,fun _ hm=>(nomatch hm)⟩⟩,h2,h3,h4⟩
end Att
namespace L2
open PySem PySem.Spec PyProof.Rows
theorem v6:∀{vs:List Value}{ns:List Int},IntsAre vs ns->Vals (ns.map V.int) vs:=by
 intro vs ns h
 induction h with
 |nil=>exact .nil
 |cons n t h ih=>exact .cons ⟨t,rfl⟩ ih
noncomputable def dF(s:Stmt):Arguments:=match s with
 |.FunctionDef _ a _ _ _ _ _ _ _ _=>a
 |_=>{ posonlyargs:=[],args:=[],vararg:=none,kwonlyargs:=[],kw_defaults:=[],kwarg:=none,defaults:=[] }
noncomputable def dE(s:Stmt):List Stmt:=match s with
 |.FunctionDef _ _ b _ _ _ _ _ _ _=>b
 |_=>[]
noncomputable def cM(s:Stmt):Scope:=match s with
 |.FunctionDef _ _ _ _ _ _ sc _ _ _=>sc
 |_=>{ kind:=.function,names:=[],isGenerator:=false,isCoroutine:=false }
abbrev eO:lj:=fun _ _ _ _ _ _=>False
abbrev E0:XK:=fun _ _ _=>False
theorem nk{X:Cx}:gX eO X E0:=fun _ _ _ _ _ _ _ h=>h.elim
structure Fun(K:Frag)(x qual:Str)(st:Stmt)(f:Addr)(fd:FuncData):Prop where
 ex:∃(oc:Value)(od:Option Addr)(kV doc pm:Value)(an:Option Addr)(cdv ct:Value)(osl:Array (Option Value)),
  fd=fnOf x qual (dF st) (dE st) (cM st) .none kV doc pm an cdv ct/\K.lookup f=some ⟨oc,od,.func fd,osl⟩/\codeIn K cdv qual=true
 kp:keepIn K (.ref f)=true
section
variable{P:Program}{w:World}{K:Frag}{mg:Str->Option Value}{base:Heap}
theorem Fun.binds{x qual:Str}{st:Stmt}{f:Addr}{fd:FuncData}{ps:List Str}(F:Fun K x qual st f fd)
  (h:∀(kV doc pm:Value)(an:Option Addr)(cdv ct:Value)(us:List Value),us.length=ps.length->bindArgs (fnOf x qual (dF st) (dE st) (cM st) .none kV doc pm an cdv ct) ⟨us,[]⟩=pure (ps.zip us)):Binds K fd ps []:=by
 obtain⟨oc,od,kV,doc,pm,an,cdv,ct,osl,rfl,lk,hcd⟩:=F.ex;exact .all (h kV doc pm an cdv ct)
theorem oa{x qual:Str}{st:Stmt}{f:Addr}{oc:Value}{od an:Option Addr}{osl:Array (Option Value)}{kV doc pm cdv ct:Value}(l:K.lookup f=some ⟨oc,od,.func (fnOf x qual (dF st) (dE st) (cM st) .none kV doc pm an cdv ct),osl⟩)
  (c:codeIn K cdv qual=true) (k:keepIn K (.ref f)=true):Fun K x qual st f (fnOf x qual (dF st) (dE st) (cM st) .none kV doc pm an cdv ct):=⟨⟨oc,od,kV,doc,pm,an,cdv,ct,osl,rfl,l,c⟩,k⟩
end
theorem pD{n:Nat}(h:n<=1000):n<sizeLine:=yL h dC
end L2
set_option maxHeartbeats 4000000
namespace DD
open PySem PySem.Spec PyProof.Rows L2
abbrev St:=L2.St
section
variable{X:Cx}{e:Expr}{es:List Expr}{st:Stmt}{sts:List Stmt}
theorem PE_imp{t t':TE}(h:PE X e t)(i:∀σ H Q,t' σ H Q->t σ H Q):PE X e t':=fun ND s σ H Q I h'=>h ND s σ H Q I (i σ H Q h')
theorem PT_imp{t t':TT}(h:PT X e t)(i:∀σ H Q,t' σ H Q->t σ H Q):PT X e t':=fun ND s σ H Q I h'=>h ND s σ H Q I (i σ H Q h')
theorem PW_imp{t t':TT}(h:PW X e t)(i:∀σ H Q,t' σ H Q->t σ H Q):PW X e t':=fun wh ND s σ H Q I h'=>h wh ND s σ H Q I (i σ H Q h')
theorem PA_imp{t t':TA}(h:PA X es t)(i:∀σ H Q,t' σ H Q->t σ H Q):PA X es t':=fun p ND s σ H Q I h'=>h p ND s σ H Q I (i σ H Q h')
theorem PS_imp{t t':TS}(h:PS X st t)(i:∀D σ H,t' D σ H->t D σ H):PS X st t':=fun ND s σ H D I h'=>h ND s σ H D I (i D σ H h')
theorem PSs_imp{t t':TS}(h:PSs X sts t)(i:∀D σ H,t' D σ H->t D σ H):PSs X sts t':=fun ND s σ H D I h'=>h ND s σ H D I (i D σ H h')
theorem OpR_imp{f:Value->Value->Sem Value}{r r':R2}(h:k9 X f r)(i:∀x y H Q,r' x y H Q->r x y H Q):k9 X f r':=fun ND s σ H x y v u Q I a b h'=>h ND s σ H x y v u Q I a b (i x y H Q h')
end
theorem PG_imp{X:Cx}{tg:Expr}{t t':TG}(h:PG X tg t)(i:∀v σ H Q,t' v σ H Q->t v σ H Q):PG X tg t':=fun ND s σ H v u Q I rv h'=>h ND s σ H v u Q I rv (i v σ H Q h')
end DD
namespace L2
open PySem PySem.Spec PyProof.Rows
theorem ot:∀(names:List (Str×NameKind))(n:Nat)(acc:List (Str×Addr)),∃own,cellsFrom n names acc=own++acc/\(∀p∈own,n<=p.2/\(p.1,NameKind.cell)∈names) /\
  (∀x,(x,NameKind.cell)∈names->∃c,(x,c)∈own)/\own.Pairwise fun x y=>x.2≠y.2
 |[],n,acc=>⟨[],rfl,(fun _ h=>by cases h),(fun _ h=>by cases h),List.Pairwise.nil⟩
 |(name,kind)::r,n,acc=>by
  unfold cellsFrom;by_cases hk:kind=.cell
  ·subst hk
   obtain⟨own,e,h1,h2,h3⟩:=ot r (n+1) ((name,n)::acc);refine⟨own++[(name,n)],?_,?_,?_,?_⟩
   ·rw[yH dC,e,yM];rfl
   ·intro p hp
    rcases zZ.mp hp with hp|hp
    ·exact⟨Nat.le_of_succ_le (h1 p hp).1,zQ _ (h1 p hp).2⟩
    ·rw[zM.mp hp];exact⟨zP _,z7⟩
   ·intro x hx
    rcases zT.mp hx with hx|hx
    ·cases hx;exact⟨n,zK _ z7⟩
    ·obtain⟨c,hc⟩:=h2 x hx;exact⟨c,zL _ hc⟩
   ·refine List.pairwise_append.mpr ⟨h3,List.pairwise_singleton _ _,fun a ha b hb e=>?_⟩
    rw[zM.mp hb]at e;have h5:=(h1 a ha).1;rw[show a.2=n from e]at h5;exact absurd h5 (Nat.not_succ_le_self n)
  ·obtain⟨own,e,h1,h2,h3⟩:=ot r n acc
   have hk':(kind==NameKind.cell)=false:=by cases kind<;>first|rfl|exact absurd rfl hk
   refine⟨own,by rw[hk'];exact e,fun p hp=>⟨(h1 p hp).1,zQ _ (h1 p hp).2⟩,fun x hx=>?_,h3⟩;rcases zT.mp hx with hx|hx
   ·cases hx;exact absurd rfl hk
   ·exact h2 x hx
theorem j4{scope:Scope}{env:Env}(h:∀x,(x,NameKind.free)∈scope.names->∃c,env.cells.lookup x=some c) :
  ∃cl,closureFor scope env=pure cl/\(∀p∈cl,env.cells.lookup p.1=some p.2)/\∀x,(x,NameKind.free)∈scope.names->∃c,(x,c)∈cl:=by
 have all:∀(names:List (Str×NameKind))(acc:List (Str×Addr)),(∀x,(x,NameKind.free)∈names->∃c,env.cells.lookup x=some c)->(∀p∈acc,env.cells.lookup p.1=some p.2) ->
   ∃cl,(forIn (m:=Sem) names acc fun(p:Str×NameKind)(cs:List (Str×Addr))=>if(p.2==NameKind.free)=true then do let __do_lift <- cellOf env p.1;pure (ForInStep.yield ((p.1,__do_lift)::cs)) else pure (ForInStep.yield cs))=pure cl /\
    (∀p∈cl,env.cells.lookup p.1=some p.2)/\(∀p∈acc,p∈cl)/\∀x,(x,NameKind.free)∈names->∃c,(x,c)∈cl:=by
  intro names
  induction names with
  |nil=>intro acc _ ha;exact⟨acc,by rw[List.forIn_nil],ha,fun _ h=>h,(fun _ h=>by cases h)⟩
  |cons p r ih =>
   obtain⟨name,kind⟩:=p;intro acc hn ha;by_cases hk:kind=.free
   ·subst hk
    obtain⟨c,hc⟩:=hn name z7;obtain⟨cl,e,h1,h2,h3⟩:=ih ((name,c)::acc) (fun x hx=>hn x (zQ _ hx)) (fun p hp=>by
     rcases zT.mp hp with rfl|hp
     ·exact hc
     ·exact ha p hp)
    refine⟨cl,?_,h1,fun p hp=>h2 p (zQ _ hp),fun x hx=>?_⟩
    ·rw[List.forIn_cons]
     have ec:cellOf env name=pure c:=by unfold cellOf;rw[hc]
     simp only[ec];exact e
    ·rcases zT.mp hx with hx|hx
     ·cases hx;exact⟨c,h2 _ z7⟩
     ·exact h3 x hx
   ·obtain⟨cl,e,h1,h2,h3⟩:=ih acc (fun x hx=>hn x (zQ _ hx)) ha
    have hk':(kind==NameKind.free)=false:=by cases kind<;>first|rfl|exact absurd rfl hk
    refine⟨cl,?_,h1,h2,fun x hx=>?_⟩
    ·rw[List.forIn_cons];simp only[hk',yA,if_false];exact e
    ·rcases zT.mp hx with hx|hx
     ·cases hx;exact absurd rfl hk
     ·exact h3 x hx
 obtain⟨cl,e,h1,_,h3⟩:=all scope.names [] h (fun _ h=>by cases h);refine⟨cl,?_,h1,h3⟩;simp only[closureFor];rw[e];rfl
theorem Ag{M:Model}{A:Around}{E:Value->Shared->Prop}{s:Shared}{scope:Scope}{env:Env}{cl:List (Str×Addr)}{Q:Env->Shared->Prop}
  (hQ:Q (newEnv scope s.heap.objs.size env.globals (cellsFrom (s.heap.objs.size+1) scope.names cl) env.qual none .none (some env) builtinsNs) { s with heap:=pushCells (s.heap.push { cls:=.type "dict",data:=.dict #[] }) scope.names }) :
  wpAny M A (newFunctionEnv scope env.globals cl [] env.qual none .none (some env)) Q E s:=by
 simp only[newFunctionEnv,Option.isSome_some,if_true];refine yE (wpAny_alloc ?_);refine yE (wpAny_layCells _ (fun name kind cells=>by cases hkc:kind==NameKind.cell<;>simp[hkc]) _ _ _ _ ?_);rw[show({ s with heap:=s.heap.push { cls:=.type "dict",data:=.dict #[] } }:Shared).heap.objs.size=s.heap.objs.size+1 from Heap.size_push ..];refine yE ?_;rw[List.forIn_nil];exact yF (yF hQ)
def cx(X:Cx)(N':List Str)(scope:Scope)(cl:List (Str×Addr))(s:Shared)(H:Hp)(fp:List Addr)(ND:List (Addr×Obj)):Cx :=
 { X with N:=N',s₀:=s,H₀:=H,env:=compEnvC scope (cellsFrom (s.heap.objs.size+1) scope.names cl) s.heap.objs.size X.env,outer:=X.stack,stack:=X.stack,ex:=fp,
          fn:=fun x=>scope.names.lookup x==some .cell,pn:=X.pn++ND,xe:=fun _ _=>False }
structure jC(X:Cx)(N':List Str)(scope:Scope):Prop where
 kind:scope.kind=.function
 nd:(scope.names.map (·.1)).Nodup
 len:X.N.length<=N'.length
 free:∀x,(x,NameKind.free)∈scope.names->X.env.kindOf x=some .cell\/X.env.kindOf x=some .free
 same:∀i x,i<X.N.length->N'[i]?=some x->(x,NameKind.free)∈scope.names->X.N[i]?=some x
 hid:∀i x,i<X.N.length->N'[i]?=some x->(∃k,(x,k)∈scope.names)->(x,NameKind.free)∈scope.names
theorem cY{α:Type}:∀{l:List (Str×α)}{x:Str}{k:α},(l.map (·.1)).Nodup->(x,k)∈l->l.lookup x=some k
 |(y,j)::r,x,k,nd,h=>by
  rw[zO,List.nodup_cons]at nd;rcases zT.mp h with h|h
  ·cases h;rw[yN];simp
  ·have ne:x≠y:=fun e=>nd.1 (e▸List.mem_map_of_mem (f:=(·.1)) h)
   rw[yN];have:(x==y)=false:=by simpa using ne
   rw[this];exact cY nd.2 h
theorem fJ{α:Type}:∀{l:List (Str×α)}{x:Str}{k:α},(x,k)∈l->∃k',l.lookup x=some k'
 |(y,j)::r,x,k,h=>by
  rw[yN];cases hb:x==y with
  |true=>exact⟨j,rfl⟩
  |false =>
   rcases zT.mp h with h|h
   ·cases h;simp at hb
   ·exact fJ h
theorem gF{scope:Scope}{env:Env}{x:Str}{k:NameKind}(h:(relabel scope env).names.lookup x=some k):(x,k)∈scope.names\/((x,NameKind.free)∈scope.names/\k=.cell):=by
 have h1:=mem_of_lookup h;unfold relabel at h1;obtain⟨⟨n,j⟩,hm,e⟩:=yC.mp h1;dsimp only at e;split at e
 ·rename_i hc
  cases e;refine .inr ⟨?_,rfl⟩;have:j=.free:=by
   cases j<;>simp at hc<;>rfl
  subst this;exact hm
 ·cases e;exact .inl hm
theorem p9{α:Type}{a b:List (Str×α)}{x:Str}(h:∀p∈a,p.1≠x):(a++b).lookup x=b.lookup x:=by
 induction a with
 |nil=>rfl
 |cons p r ih =>
  obtain⟨y,j⟩:=p;rw[List.cons_append,yN];have:(x==y)=false:=by
   have:=h (y,j) z7
   simpa using fun e:x=y=>this e.symm
  rw[this];exact ih fun p hp=>h p (zQ _ hp)
section
variable{X:Cx}{N':List Str}{scope:Scope}{cl:List (Str×Addr)}{s:Shared}{H:Hp}{fp:List Addr}{ND:List (Addr×Obj)}{σ:St}
theorem AL(T:jC X N' scope)(I:Inv X ND σ H s)(hcl:∀p∈cl,X.env.cells.lookup p.1=some p.2)(hfr:∀x,(x,NameKind.free)∈scope.names->∃c,(x,c)∈cl)
  (hf:∀b∈fp,dJ X ND H b) (ho:∀b∈fp,∃o,s.heap.get? b=some o) :
  Inv (cx X N' scope cl s H fp ND) [] (σ++List.replicate (N'.length-X.N.length) none) H { s with heap:=pushCells (s.heap.push { cls:=.type "dict",data:=.dict #[] }) scope.names }:=by
 obtain⟨own,eo,o1,o2,o3⟩:=ot scope.names (s.heap.objs.size+1) cl;have keep:∀b o,s.heap.get? b=some o->(pushCells (s.heap.push { cls:=.type "dict",data:=.dict #[] }) scope.names).get? b=some o:=fun b o e=>pushCells_keeps _ _ b o (zG _ e)
 have clt:∀x c,(x,c)∈cl->c<s.heap.objs.size:=fun x c h=>by
  obtain⟨v,z⟩:=I.cell x c (hcl _ h);exact z.lt
 -- what a cell of the block is
 have cases_:∀x c,(own++cl).lookup x=some c->(s.heap.objs.size+1<=c/\(x,c)∈own)\/X.env.cells.lookup x=some c:=fun x c h=>by
  rcases zZ.mp (mem_of_lookup h) with h|h
  ·exact .inl ⟨(o1 _ h).1,h⟩
  ·exact .inr (hcl _ h)
 have hst:∀b∈fp,b∉jN X.stack:=fun b hb z=>by
  rcases zT.mp (I.stkSub b z) with e|e
  ·exact(hf b hb).2.1 e
  ·exact(hf b hb).2.2.1 e
 have okc:CellsOk (pushCells (s.heap.push { cls:=.type "dict",data:=.dict #[] }) scope.names) (s.heap.objs.size+1) (cellsFrom (s.heap.objs.size+1) scope.names []):=by
  have q:=cellsFrom_ok scope.names (s.heap.push { cls:=.type "dict",data:=.dict #[] }) (s.heap.objs.size+1) [] ⟨(fun _ _ hm=>by cases hm),List.Pairwise.nil⟩ (by rw[Heap.size_push];exact zP _);rw[Heap.size_push]at q;exact q
 have eown:cellsFrom (s.heap.objs.size+1) scope.names []=own:=by
  obtain⟨own',e',_⟩:=ot scope.names (s.heap.objs.size+1) [];have gen:∀(names:List (Str×NameKind))(n:Nat)(acc:List (Str×Addr)),cellsFrom n names acc=cellsFrom n names []++acc:=by
   intro names
   induction names with
   |nil=>intro n acc;rfl
   |cons p r ih =>
    obtain⟨name,kind⟩:=p;intro n acc;unfold cellsFrom;split
    ·rw[ih (n+1) ((name,n)::acc),ih (n+1) [(name,n)],yM];rfl
    ·exact ih n acc
  have:=gen scope.names (s.heap.objs.size+1) cl
  rw[eo]at this;exact(List.append_cancel_right this).symm
 have ok:(cx X N' scope cl s H fp ND).Ok:=by
  refine⟨I.ok.mod,T.kind,I.ok.glob,I.ok.blt,zP _,fun x y c h1 h2=>?_,fun x h=>?_,fun x c h1 h2=>?_,I.ok.hd,I.ok.frames,.inl rfl,fun b hb=>⟨?_,fun x c h=>?_⟩,I.bs,z5 I.ok.bsz I.sz,fun b o e hb=>?_,hst,I.stack,I.stkFree⟩
  ·have h1:(own++cl).lookup x=some c:=eo▸h1
   have h2:(own++cl).lookup y=some c:=eo▸h2;rcases cases_ x c h1 with⟨l1,m1⟩|e1
   ·rcases cases_ y c h2 with⟨l2,m2⟩|e2
    ·exact name_of_addr o3 m1 m2
    ·obtain⟨v,z⟩:=I.cell y c e2
     exact absurd (zJ z.lt (Nat.le_of_succ_le (by first|exact l2|exact l1))) (y0 _)
   ·rcases cases_ y c h2 with⟨l2,m2⟩|e2
    ·obtain⟨v,z⟩:=I.cell x c e1
     exact absurd (zJ z.lt (Nat.le_of_succ_le (by first|exact l2|exact l1))) (y0 _)
    ·exact I.ok.inj x y c e1 e2
  ·show ∃c,(cellsFrom (s.heap.objs.size+1) scope.names cl).lookup x=some c
   rw[eo];have fromFree:(x,NameKind.free)∈scope.names->∃c,(own++cl).lookup x=some c:=fun hm=>by
    obtain⟨c,hc⟩:=hfr x hm;exact fJ (zK own hc)
   have fromCell:(x,NameKind.cell)∈scope.names->∃c,(own++cl).lookup x=some c:=fun hm=>by
    obtain⟨c,hc⟩:=o2 x hm;exact fJ (zL cl hc)
   rcases h with h|h
   ·rcases gF h with h|⟨h,_⟩
    ·exact fromCell h
    ·exact fromFree h
   ·rcases gF h with h|⟨h,e⟩
    ·exact fromFree h
    ·cases e
  ·have h2:(own++cl).lookup x=some c:=eo▸h2
   have hc:scope.names.lookup x=some .cell:=by
    have:(scope.names.lookup x==some NameKind.cell)=true:=h1;simpa using this
   rcases cases_ x c h2 with⟨l1,m1⟩|e1
   ·exact Nat.le_of_succ_le l1
   ·-- x is one of the block's own: NH cell stands ahead
    obtain⟨c',hc'⟩:=o2 x (mem_of_lookup hc);obtain⟨c2,hc2⟩:=fJ hc';have:(own++cl).lookup x=some c2:=by
     have gen:∀l:List (Str×Addr),l.lookup x=some c2->(l++cl).lookup x=some c2:=by
      intro l
      induction l with
      |nil=>intro h;cases h
      |cons p r ih =>
       obtain⟨y,j⟩:=p;intro h;rw[List.cons_append,yN];rw[yN]at h;cases hb:x==y with
       |true=>rw[hb]at h;exact h
       |false=>rw[hb]at h;exact ih h
     exact gen own hc2
    rw[this]at h2;cases h2;exact Nat.le_of_succ_le (o1 _ (mem_of_lookup hc2)).1
  ·obtain⟨o,e⟩:=ho b hb
   exact zU (yI e)
  ·have h:(own++cl).lookup x=some c:=eo▸h
   obtain⟨o,e⟩:=ho b hb;have hlt:=yI e;rcases cases_ x c h with⟨l1,m1⟩|e1
   ·intro z
    rw[z]at l1;exact absurd (zJ hlt (Nat.le_of_succ_le l1)) (y0 _)
   ·exact(hf b hb).2.2.2.2.1 x c e1
  ·rcases(hf b hb).2.2.2.1 with z|z
   ·exact I.ok.noex b o e z
   ·exact absurd (zJ (yI e) (z5 I.ok.bsz z)) (y0 _)
 refine⟨ok,rfl,I.bare,Un.kept keep,⟨fun _=>none,(Heap.Ns.new s.heap (.type "dict")).keeps (pushCells_keeps _ _),fun i x v e1 e2 e3=>?_⟩,fun x c h=>?_,I.NM.fresh (zP _),fun x c h=>?_,fun p hp=>?_,I.NM.kept keep,?_⟩
 ·-- a name of the code around
  have hlen:=I.len;have hi:i<σ.length:=by
   rcases yT i σ.length with h|h
   ·exact h
   ·rw[z6 h]at e2
    rw[List.getElem?_replicate]at e2;split at e2<;>cases e2
  rw[zN hi]at e2;have hmem:∃k,(x,k)∈scope.names:=by
   have:∃k,(relabel scope X.env).names.lookup x=some k:=by
    rcases e3 with h|h|h<;>exact⟨_,h⟩
   obtain⟨k,h⟩:=this;rcases gF h with h|⟨h,_⟩<;>exact⟨_,h⟩
  have hfree:=T.hid i x oM e1 hmem;have eX:=T.same i x oM e1 hfree;have kX:=T.free x hfree;obtain⟨m,hn,hl⟩:=I.loc;obtain⟨u,ru,lk⟩:=hl i x v eX e2 (by rcases kX with h|h;exact .inr (.inl h);exact .inr (.inr h));refine⟨u,ru,.inr ⟨?_,?_⟩⟩
  ·-- NH kind in the block
   have:∃k,(relabel scope X.env).names.lookup x=some k:=by
    rcases e3 with h|h|h<;>exact⟨_,h⟩
   obtain⟨k,h⟩:=this;rcases gF h with h'|⟨h',e⟩
   ·have e5:=cY T.nd h'
    have e6:=cY T.nd hfree;rw[e5]at e6;cases e6;exact .inr h
   ·subst e;exact .inl h
  ·rcases lk with⟨k1,_⟩|⟨_,c,hc,z⟩
   ·rcases kX with h|h<;>rw[h]at k1<;>cases k1
   ·refine⟨c,?_,z.keeps keep⟩
    show(cellsFrom (s.heap.objs.size+1) scope.names cl).lookup x=some c;rw[eo,p9 fun p hp e=>?_]
    ·obtain⟨c',hc'⟩:=hfr x hfree
     obtain⟨c2,hc2⟩:=fJ hc'
     have:=hcl _ (mem_of_lookup hc2)
     rw[hc]at this;cases this;exact hc2
    ·have e5:=cY T.nd (o1 p hp).2
     rw[e]at e5;have e6:=cY T.nd hfree;rw[e5]at e6;cases e6
 ·have h:(own++cl).lookup x=some c:=eo▸h
  rcases cases_ x c h with⟨l1,m1⟩|e1
  ·exact⟨none,(okc.empty x c (eown▸m1)).1⟩
  ·obtain⟨v,z⟩:=I.cell x c e1
   exact⟨v,z.keeps keep⟩
 ·have h:(own++cl).lookup x=some c:=eo▸h
  rcases cases_ x c h with⟨l1,m1⟩|e1
  ·exact I.NM.fresh (Nat.le_of_succ_le l1)
  ·exact I.freeC x c e1
 ·rw[List.append_nil]at hp
  obtain⟨e,n,ne,nf,d⟩:=I.pin p hp;refine⟨keep _ _ e,n,zU (yI e),fun z=>?_,d⟩;rcases zT.mp (I.stkSub p.1 z) with z|z
  ·exact ne z
  ·exact nf z
 ·show(σ++List.replicate (N'.length-X.N.length) none).length=N'.length
  rw[zV,List.length_replicate,I.len]
  have:=T.len
  lia
theorem GN{σ1:St}{H1:Hp}{s1:Shared}{h':Heap}{pins1:List (Addr×Obj)}(I:Inv X ND σ H s)(hf:∀b∈fp,dJ X ND H b)(I1:Inv (cx X N' scope cl s H fp ND) pins1 σ1 H1 s1)(hs:Heap.SameBut s.heap.objs.size s1.heap h') :
  Inv X ND σ H1 { s1 with heap:=h' }:=by
 have hC:∀b o,s.heap.get? b=some o->b≠s.heap.objs.size:=fun b o e=>zU (yI e)
 have u:=I1.base;have u2:Un (jN X.stack) fp H H1 s.heap h':=by
  refine⟨fun b o e n hb hx=>?_,fun b o e n hb hx=>?_,u.free,fun b o e hx=>?_,u.tups,u.frzs,u.tbls⟩
  ·rw[hs.2 b (hC b o e)];exact u.keep b o e n hb hx
  ·obtain⟨sl,q⟩:=u.slot b o e n hb hx
   exact⟨sl,by rw[hs.2 b (hC b o e)];exact q⟩
  ·obtain⟨o',q⟩:=u.there b o e hx
   exact⟨o',by rw[hs.2 b (hC b o e)];exact q⟩
 have hCf:H1 s.heap.objs.size=none:=I1.free;refine I.call' (s':={ s1 with heap:=h' }) I1.os u2 (fun b o e=>?_) I1.bare fun b hb=>⟨(hf b hb).2.2.2.1,(hf b hb).2.1,(hf b hb).2.2.2.2.1,(hf b hb).2.2.2.2.2⟩
 refine(I1.NM b o e).stay (fun c v hc q=>(hs.2 c ?_).trans q) (fun _ q=>q) fun _ _ q=>q
 rintro rfl;rcases hc with z|z
 ·rw[<- z,hCf]at e;cases e
 ·rw[hCf]at z;cases z
def ux(X:Cx)(ifs:List Expr)(t:TT):Prop :=
 ∀(ND:List (Addr×Obj))(s:Shared)(σ:St)(H:Hp)(Q:Bool->Hp->Prop),Inv X ND σ H s->t σ H Q ->
  wpAny (model X.prog X.w) X.A (forIn ifs true fun c r=>if r=true then do let ok <- isTrue c X.env (eval c X.env);pure (ForInStep.yield ok) else pure (ForInStep.yield r)) (TP X ND σ Q) X.xe s
theorem C1:ux X [] (fun _ H Q=>Q true H):=fun ND s σ H Q I h=>wpAny_tests_nil ⟨H,I,h⟩
theorem CZ{c:Expr}{t:TT}(h:PT X c t):ux X [c] t:=fun ND s σ H Q I h'=>wpAny_tests_one (h ND s σ H Q I h')
def Em(k:Nat)(wi:TI)(g:TG)(tt:TT)(te:TE):TE:=fun σ H Q=>wi σ H fun J H1=>∀p,H1 p=none ->
 ∃W:Nat->Nat->St->Hp->Prop,(∃m,W 0 m (σ++List.replicate k none) (ae H1 p (.lst [])))/\∀i m σ' H',W i m σ' H' ->
  (J.stop i H'/\Q (.ref p) H')\/(J.go i H'/\∀x H2,J.yld i H' x H2->g x σ' H2 fun σ2 H3=>tt σ2 H3 fun ok H4=>if ok=true then
   te σ2 H4 fun y H5=>∃ys,H5 p=some (.lst ys)/\ys.length<sizeLine/\∃m',m'<m/\W (i+1) m' σ2 (ae H5 p (.lst (ys++[y])))
   else ∃m',m'<m/\W (i+1) m' σ2 H4)
theorem sH{prog:Program}{w:World}{A:Around}{R:Result->Shared->Prop}{s:Shared}{elt target iter:Expr}{ifs:List Expr}{scope:Scope}{pos:Pos}{it acc:Value}{env:Env}(I:Nat->Shared->Prop)
  (turn:∀n s,I n s->wpAny (model prog w) A (pyNext it) (fun r s₁=>match r with
   |none=>R (.ok .next) s₁
   |some v=>wpAny (model prog w) A (letOwnedTupleGo target it v) (fun _ s₁'=>wpAny (model prog w) A (assign target env v) (fun _ s₂ =>
     wpAny (model prog w) A (forIn ifs true fun c r=>if r=true then do let ok <- isTrue c env (eval c env);pure (ForInStep.yield ok) else pure (ForInStep.yield r)) (fun ok s₃ =>
      if ok=true then wpAny (model prog w) A (eval elt env) (fun x s₄ =>
       wpAny (model prog w) A (call (.builtin "list.append") [acc,x]) (fun _ s₅=>∃m,m<n/\I m s₅) (fun _ _=>False) s₄) (fun _ _=>False) s₃
      else ∃m,m<n/\I m s₃) (fun _ _=>False) s₂) (fun _ _=>False) s₁') (fun _ _=>False) s₁) (fun _ _=>False) s)
  (n:Nat) (h:I n s):codeAny (model prog w) A (.compLoop (.ListComp elt [⟨target,iter,ifs,0⟩] scope pos) 0 it acc env) R s:=by
 refine codeAny_loop rfl I (fun n s hI=>?_) n h;show wpAny _ A ((compTurn (.ListComp elt [⟨target,iter,ifs,0⟩] scope pos) 0 it acc env).onRaise (fun x=>do noteFrame x env;theTreesLotGoes x)) _ _ s;refine wpAny_noted ?_;rw[compTurn_list];refine yE (wpAny_standAt (yE (yS (turn n s hI) (fun r s₁ h₁=>?_) fun _ _ h'=>h'.elim)));cases r with
 |none=>exact yF h₁
 |some v =>
  refine yE (yS h₁ (fun _ s₁' h₁'=>?_) fun _ _ h'=>h'.elim);refine yE (yS h₁' (fun _ s₂ h₂=>yE (yS h₂ (fun ok s₃ h₃=>?_) fun _ _ h'=>h'.elim)) fun _ _ h'=>h'.elim);cases ok with
  |false=>exact yF ⟨rfl,h₃⟩
  |true =>
   exact yE (yE (yS h₃ (fun x s₄ h₄=>yE (yS h₄ (fun _ s₅ h₅=>yF (yF ⟨rfl,h₅⟩)) fun _ _ h'=>h'.elim)) fun _ _ h'=>h'.elim))
theorem rF{elt iter tg:Expr}{ifs:List Expr}{pos:Pos}{g:TG}{tt:TT}{te:TE}{J:It}{it:Addr}{tn:Nat->Heap->Prop}{Q:VK}{E:Value->Shared->Prop}{RR:Value->Addr->Result->Shared->Prop}
  (hc:X.calm=true) (T:jC X N' scope) (hcl:∀p∈cl,X.env.cells.lookup p.1=some p.2) (hfr:∀x,(x,NameKind.free)∈scope.names->∃c,(x,c)∈cl)
  (hg:∀cl s H fp ND,PG (cx X N' scope cl s H fp ND) tg g) (ht:∀cl s H fp ND,ux (cx X N' scope cl s H fp ND) ifs tt) (he:∀cl s H fp ND,PE (cx X N' scope cl s H fp ND) elt te)
  (I:Inv X ND σ H s) (Tn:jA X.prog X.w X.K tg J fp it tn) (st0:tn 0 s.heap) (hf:∀b∈fp,dJ X ND H b)
  (h:∀p,H p=none->∃W:Nat->Nat->St->Hp->Prop,(∃m,W 0 m (σ++List.replicate (N'.length-X.N.length) none) (ae H p (.lst [])))/\∀i m σ' H',W i m σ' H' ->
   (J.stop i H'/\Q (.ref p) H')\/(J.go i H'/\∀x H2,J.yld i H' x H2->g x σ' H2 fun σ2 H3=>tt σ2 H3 fun ok H4=>if ok=true then
    te σ2 H4 fun y H5=>∃ys,H5 p=some (.lst ys)/\ys.length<sizeLine/\∃m',m'<m/\W (i+1) m' σ2 (ae H5 p (.lst (ys++[y])))
    else ∃m',m'<m/\W (i+1) m' σ2 H4))
  (hRR:∀p C s1 H1,Inv X ND σ H1 s1->Q (.ref p) H1->(∃m,s1.heap.Ns C m)->H1 C=none->s.heap.objs.size<=C->RR (.ref p) C (.ok .next) s1) :
  wpAny (model X.prog X.w) X.A (newList []) (fun acc s₃=>wpAny (model X.prog X.w) X.A (newFunctionEnv scope X.env.globals cl [] X.env.qual none .none (some X.env)) (fun cenv s₄ =>
   codeAny (model X.prog X.w) X.A (.compStart (.ListComp elt [⟨tg,iter,ifs,0⟩] scope pos) 0 (.ref it) acc { cenv with scope:=relabel scope X.env }) (RR acc cenv.locals) s₄) E s₃) E s:=by
 refine wpAny_newObj_type (Ag ?_);have hp:H s.heap.objs.size=none:=I.fresh;obtain⟨W,⟨m0,w0⟩,turn⟩:=h _ hp;have I2:Inv X ND σ (ae H s.heap.objs.size (.lst [])) { s with heap:=s.heap.push { cls:=.type "list",data:=.seq ([]:List Value).toArray } }:=Inv.lnew (t':=s.toks) (NH:=[]) (ys:=[]) I .nil (Nat.zero_le _);have hf2:∀b∈fp,dJ X ND (ae H s.heap.objs.size (.lst [])) b:=fun b hb=>by
  obtain⟨o,e,_⟩:=Tn.obj _ _ st0 b hb;exact⟨by rw[ad (zU (yI e))];exact(hf b hb).1,(hf b hb).2⟩
 have ho2:∀b∈fp,∃o,(s.heap.push { cls:=.type "list",data:=.seq ([]:List Value).toArray }:Heap).get? b=some o:=fun b hb=>by
  obtain⟨o,e,_⟩:=Tn.obj _ _ st0 b hb;exact⟨o,zG _ e⟩
 have I3:=AL T I2 hcl hfr hf2 ho2;have st3:tn 0 (pushCells ((s.heap.push { cls:=.type "list",data:=.seq ([]:List Value).toArray }).push { cls:=.type "dict",data:=.dict #[] }) scope.names) :=
  Tn.keep _ _ _ st0 fun b hb o e=>pushCells_keeps _ _ b o (zG _ (zG _ e))
 generalize hs2:({ s with heap:=s.heap.push { cls:=.type "list",data:=.seq ([]:List Value).toArray } }:Shared)=s2 at I2 I3;have hC:s.heap.objs.size<=s2.heap.objs.size:=by rw[<- hs2];exact yY (by show _<(s.heap.push _).objs.size;rw[Heap.size_push];exact Nat.lt_succ_self _)
 have stat:∀{H':Hp},(∀b∈fp,H' b=none)->∀b∈fp,dJ (cx X N' scope cl s2 (ae H s.heap.objs.size (.lst [])) fp ND) [] H' b:=fun {H'} hn b hb=>by
  refine⟨hn b hb,(I3.ok.exf b hb).1,I3.ok.exfs b hb,.inl hb,(I3.ok.exf b hb).2,fun p hp=>?_⟩;rw[List.append_nil]at hp;exact(hf b hb).2.2.2.2.2 p hp
 have loop:∀s4,s4=({ s2 with heap:=pushCells (s2.heap.push { cls:=.type "dict",data:=.dict #[] }) scope.names }:Shared) ->
   codeAny (model X.prog X.w) X.A (.compLoop (.ListComp elt [⟨tg,iter,ifs,0⟩] scope pos) 0 (.ref it) (.ref s.heap.objs.size) (cx X N' scope cl s2 (ae H s.heap.objs.size (.lst [])) fp ND).env) (RR (.ref s.heap.objs.size) s2.heap.objs.size) s4:=by
  rintro s4 rfl;refine sH (fun n s'=>∃i σ' H',Inv (cx X N' scope cl s2 (ae H s.heap.objs.size (.lst [])) fp ND) [] σ' H' s'/\tn i s'.heap/\(∀b∈fp,H' b=none)/\W i n σ' H') ?_ m0
   ⟨0,_,_,I3,by subst hs2;exact st3,fun b hb=>(hf2 b hb).1,w0⟩
  rintro n s3 ⟨i,σ3,H3,I4,st4,fr4,w4⟩;rcases turn i n σ3 H3 w4 with⟨stop,qn⟩|⟨go,step⟩
  ·refine aB (Tn.done (cx X N' scope cl s2 (ae H s.heap.objs.size (.lst [])) fp ND) rfl rfl rfl hc i [] s3 σ3 H3 (fun _ _=>False) I4 (stat fr4) st4 stop) fun r s5 hq0=>?_
   obtain⟨hr,I5⟩:=hq0;subst hr;obtain⟨m,hn,_⟩:=I5.loc;exact hRR _ _ s5 H3 (GN I2 hf2 I5 (Heap.SameBut.refl _ _)) qn ⟨m,hn⟩ I5.free hC
  ·refine aB (Tn.item (cx X N' scope cl s2 (ae H s.heap.objs.size (.lst [])) fp ND) rfl rfl rfl hc i [] s3 σ3 H3 (fun _ _=>False) I4 (stat fr4) st4 go) fun r s5 hq0=>?_
   obtain⟨u,hr,h5⟩:=hq0;subst hr;refine aB h5 fun _ s6 hq0=>?_
   obtain⟨x,H6,I6,r6,y6,st6,fr6⟩:=hq0;have I6':=I6.pinned (stat fr6) (Tn.obj _ _ st6);have again:∀{σ7:St}{H7:Hp}{s7:Shared}{m':Nat},Inv (cx X N' scope cl s2 (ae H s.heap.objs.size (.lst [])) fp ND) ([]++fW fp s6.heap) σ7 H7 s7->m'<n->W (i+1) m' σ7 H7 ->
     ∃m,m<n/\∃i σ' H',Inv (cx X N' scope cl s2 (ae H s.heap.objs.size (.lst [])) fp ND) [] σ' H' s7/\tn i s7.heap/\(∀b∈fp,H' b=none)/\W i m σ' H':=fun {σ7 H7 s7 m'} I7 hm w7=>by
    refine⟨m',hm,i+1,σ7,H7,I7.unpinned,Tn.keep _ _ _ st6 fun b hb o e=>(I7.pin (b,o) (zK _ (zK _ (df hb e)))).1,fun b hb=>?_,w7⟩;obtain⟨o,e,d⟩:=Tn.obj _ _ st6 b hb;exact(I7.pin (b,o) (zK _ (zK _ (df hb e)))).2.1
   refine aB (hg _ _ _ _ _ _ s6 σ3 H6 x u _ I6' r6 (step x H6 y6)) fun _ s7 hq0=>?_
   obtain⟨σ7,H7,I7,q7⟩:=hq0;refine aB (ht _ _ _ _ _ _ s7 σ7 H7 _ I7 q7) fun ok s8 hq0=>?_
   obtain⟨H8,I8,q8⟩:=hq0;cases ok with
   |false =>
    simp only[yA,if_false]at q8 ⊢;obtain⟨m',hm,w8⟩:=q8;exact again I8 hm w8
   |true =>
    simp only[if_true]at q8 ⊢;refine aB (he _ _ _ _ _ _ s8 σ7 H8 _ I8 q8) fun y s9 hq0=>?_
    obtain⟨yv,H9,I9,r9,ys,e9,l9,m',hm,w9⟩:=hq0;refine aB (pH _ s9 σ7 H9 (.ref s.heap.objs.size) [yv] (.ref s.heap.objs.size) [y] (fun _ H'=>H'=ae H9 s.heap.objs.size (.lst (ys++[yv]))) I9 rfl (.cons r9 .nil) ⟨_,ys,yv,rfl,rfl,e9,l9,rfl⟩) fun _ s10 hq0=>?_
    obtain⟨_,H10,I10,_,e10⟩:=hq0;subst e10;exact again I10 hm w9
 have st5:tn 0 (pushCells (s2.heap.push { cls:=.type "dict",data:=.dict #[] }) scope.names):=by subst hs2;exact st3
 have ay:=codeAny_compStart_list (loop _ rfl) (Tn.self X.A 0 _ _ (notedBy (model X.prog X.w) X.A (cx X N' scope cl s2 (ae H s.heap.objs.size (.lst [])) fp ND).env fun x s'=>RR (.ref s.heap.objs.size) s2.heap.objs.size (.error x) s') st5 (loop _ rfl));subst hs2;exact ay
end
section
variable{X:Cx}{N':List Str}{scope:Scope}{ND:List (Addr×Obj)}{σ:St}{elt iter tg:Expr}{ifs:List Expr}{pos:Pos}{wi:TI}{g:TG}{tt:TT}{te:TE}
theorem rD(T:jC X N' scope):∀x∈scope.names,x.2=.local->scope.names.lookup x.1=some .local:=fun x hx e=>by
 obtain⟨n,k⟩:=x;cases e;exact cY T.nd hx
theorem HX(hc:X.calm=true)(T:jC X N' scope)(hi:PI X tg iter wi)(hg:∀cl s H fp ND,PG (cx X N' scope cl s H fp ND) tg g)(ht:∀cl s H fp ND,ux (cx X N' scope cl s H fp ND) ifs tt)
  (he:∀cl s H fp ND,PE (cx X N' scope cl s H fp ND) elt te) (hs:∀x,foldedSetIterable iter X.env x=pure x:=by intro _;rfl) :
  PE X (.ListComp elt [⟨tg,iter,ifs,0⟩] scope pos) (Em (N'.length-X.N.length) wi g tt te):=by
 intro ND s σ H Q I h;obtain⟨cl,hclos,hcl,hfr⟩:=j4 (scope:=scope) (env:=X.env) fun x hx=>I.ok.has x (T.free x hx)
 rw[eval_ListComp];refine wpAny_comprehension_free (use:=none) rfl hs hclos T.kind (rD T) (yS (hi ND s σ H _ I h) (fun xv s1 h1=>yS h1 (fun itv s2 h2=>?_) fun _ _ e=>e) fun _ _ e=>e);obtain⟨it,fp,tn,J,H2,rfl,I2,Tn,st2,f2,R⟩:=h2;refine rF (Q:=Q) (RR:=fun acc C=>compPost (model X.prog X.w) X.A X.xe none (EP X ND σ Q) acc C) hc T hcl hfr hg ht he I2 Tn st2 f2 R ?_;rintro p C s3 H3 I3 q ⟨m,hn⟩ hC hle;refine⟨m,hn,fun h' hs'=>⟨.ref p,H3,?_,rfl,q⟩⟩;refine I3.turned (t':=s3.toks) (it:=C) (fun b o hb e=>(hs'.2 b hb).trans e) hC ?_ (.inr (z5 I2.sz hle)) (fun x c e=>?_) fun p hp=>?_
 ·exact Ne.symm (zU (zJ I2.lt hle))
 ·obtain⟨v,z⟩:=I2.cell x c e
  exact zU (zJ z.lt hle)
 ·exact zU (zJ (yI (I2.pin p hp).1) hle)
theorem wE{i:Nat}{y:Str}{py spos:Pos}(hN:X.N.Nodup)(hiN:X.N[i]?=some y)(hx:Loc X.env.scope y)(hsw:swapsWith (.ListComp elt [⟨tg,iter,ifs,0⟩] scope pos) (some (.Name y py)) spos.line X.env=pure true)
  (hc:X.calm=true) (T:jC X N' scope) (hi:PI X tg iter wi) (hg:∀cl s H fp ND,PG (cx X N' scope cl s H fp ND) tg g) (ht:∀cl s H fp ND,ux (cx X N' scope cl s H fp ND) ifs tt)
  (he:∀cl s H fp ND,PE (cx X N' scope cl s H fp ND) elt te) (hs:∀x,foldedSetIterable iter X.env x=pure x:=by intro _;rfl) (hf:X.fn y=true\/X.env.scope.names.lookup y=some .local:=by first|exact .inl rfl|exact .inr rfl|assumption) :
  PS X (.Assign [.Name y py] (.ListComp elt [⟨tg,iter,ifs,0⟩] scope pos) spos) (u0 (Em (N'.length-X.N.length) wi g tt te) (nY i)):=by
 intro ND s σ H D I h;obtain⟨cl,hclos,hcl,hfr⟩:=j4 (scope:=scope) (env:=X.env) fun x hx=>I.ok.has x (T.free x hx)
 rw[exec_Assign_Name_used _ _ _ _ hsw];refine yE (wpAny_standAt (yE ?_));show wpAny _ X.A (do let _ <- comprehension (.ListComp elt [⟨tg,iter,ifs,0⟩] scope pos) scope X.env _ (newList []) false (eval iter X.env) (some (assign (.Name y py) X.env))) _ _ s;refine yE (yS (wpAny_comprehension_free (use:=some (assign (.Name y py) X.env)) (Q:=fun _ s'=>SP X ND D .next s') rfl hs hclos T.kind (rD T)
  (yS (hi ND s σ H _ I h) (fun xv s1 h1=>yS h1 (fun itv s2 h2=>?_) fun _ _ e=>e) fun _ _ e=>e)) (fun _ s' hq=>yF (yF hq)) fun _ _ e=>e)
 obtain⟨it,fp,tn,J,H2,rfl,I2,Tn,st2,f2,R⟩:=h2;refine rF (Q:=fun x H1=>nY i x σ H1 D.nx) (RR:=fun acc C=>compPost (model X.prog X.w) X.A X.xe (some (assign (.Name y py) X.env)) (fun _ s'=>SP X ND D .next s') acc C) hc T hcl hfr hg ht he I2 Tn st2 f2 R ?_;rintro p C s3 H3 I3 q ⟨m,hn⟩ hC hle;have hCL:C≠X.env.locals:=Ne.symm (zU (zJ I2.lt hle));have hCc:∀x c,X.env.cells.lookup x=some c->c≠C:=fun x c e=>by
  obtain⟨v,z⟩:=I2.cell x c e;exact zU (zJ z.lt hle)
 show wpAny _ X.A (assign (.Name y py) X.env (.ref p)) _ _ _;refine wpAny_assign_Name (pC (v:=.ref p) I3 hN hiN hx rfl (fun s4 I4 hq0=>?_) hf);obtain⟨a,sb,ha⟩:=hq0;have hne:C≠a:=by
  rcases ha with e|e
  ·rw[e];exact hCL
  ·exact(hCc _ _ e).symm
 refine⟨m,hn.sameBut sb hne,fun h' hs'=>⟨_,H3,?_,q⟩⟩;refine I4.turned (t':=s4.toks) (it:=C) (fun b o hb e=>(hs'.2 b hb).trans e) hC hCL (.inr (z5 I2.sz hle)) hCc fun p hp=>?_
 exact zU (zJ (yI (I2.pin p hp).1) hle)
end
end L2
namespace DD
open PySem PySem.Spec PyProof.Rows L2
section
variable{X:Cx}{ND:List (Addr×Obj)}{σ:St}{H:Hp}{s:Shared}{F:Addr->Prop}
theorem obj_list(I:L2.Inv X ND σ H s){a:Addr}{vs:List V}(h:bK X.K H a vs):∃NH o n,Vals vs NH/\s.heap.get? a=some o/\o.cls=.type "list"/\o.data=.seq NH.toArray n:=by
 obtain⟨NH,r,⟨o,n,e,c,_,d⟩,_⟩:=I.list h;exact⟨NH,o,n,r,e,c,d⟩
theorem obj_tup(I:L2.Inv X ND σ H s){a:Addr}{vs:List V}(h:gk X.K H a vs):∃NH o n,Vals vs NH/\s.heap.get? a=some o/\o.cls=.type "tuple"/\o.data=.seq NH.toArray n:=by
 obtain⟨NH,r,⟨o,e,c,n,d⟩,_⟩:=I.tuple h;exact⟨NH,o,n,r,e,c,d⟩
end
noncomputable def pyOk(p q:PyData):Bool:=p.canLay0&&q.canLay0&&decide (min p.depth q.depth<=50)
section
variable{X:Cx}
noncomputable def isiA:List String:=["NoneType","bool","int","str","list","tuple"]
noncomputable def isiB:List String:=["int","bool","str","list","tuple"]
def isiT(a b:String):Option Bool:=if(isiA.contains a&&isiB.contains b)=true then some (a==b||(a=="bool"&&b=="int")) else none
theorem isiT_kit{K:Frag}{a b:String}{k:Bool}(h:isiT a b=some k):kitOne K (.type a) (.type b)=some k:=by
 unfold isiT at h;split at h
 ·rename_i hc
  rw [zC,List.contains_iff_mem,List.contains_iff_mem] at hc;obtain ⟨ha,hb⟩:=hc;simp only [isiA,isiB,zT,zX,or_false] at ha hb;rcases ha with rfl | rfl | rfl | rfl | rfl | rfl <;> rcases hb with rfl | rfl | rfl | rfl | rfl <;> (cases h;rfl)
 ·cases h
end
end DD
namespace L2
open PySem PySem.Spec PyProof.Rows
def Kf(K:Frag)(a b:Addr):It :=
 ⟨fun i H=>∃xs ys x y,bK K H a xs/\bK K H b ys/\xs[i]?=some x/\ys[i]?=some y,
  fun i H x H'=>∃p u w,(∀xs,bK K H a xs->xs[i]?=some u)/\(∀ys,bK K H b ys->ys[i]?=some w)/\H p=none/\H'=ae H p (.tup [u,w])/\x=.ref p,
  fun i H=>∃xs ys,bK K H a xs/\bK K H b ys/\(xs.length<=i\/ys.length<=i)⟩
theorem Inv.turnT{X:Cx}{ND:List (Addr×Obj)}{σ:St}{H:Hp}{s:Shared}{h':Heap}{ch:List Addr}{u w:V}{x y:Value}(I:Inv X ND σ H s)(hf:∀b∈ch,dJ X ND H b)(ru:RelV u x)(rw':RelV w y)
  (hk:∀c o,c∉ch->s.heap.get? c=some o->h'.get? c=some o) (hT:IsPair h' s.heap.objs.size x y) (hth:∀b∈ch,∃o,h'.get? b=some o):Inv X ND σ (ae H s.heap.objs.size (.tup [u,w])) { s with heap:=h' }:=by
 have hfr:H s.heap.objs.size=none:=I.fresh;have nch:∀b o,H b=some o->b∉ch:=fun b o e hb=>by rw[(hf b hb).1]at e;cases e
 have ne:∀b o,s.heap.get? b=some o->b≠s.heap.objs.size:=fun b o e=>zU (yI e)
 refine I.step (g':=s.gens) (d':=s.drawn) (t':=s.toks) (ch:=ch) (fun b hb=>⟨(hf b hb).2.2.2.1,(hf b hb).2.1,(hf b hb).2.2.2.2.1,(hf b hb).2.2.2.2.2⟩) (fun b o _ _ hc e _=>hk b o hc e)
  (fun b o _ _ hc e _=>⟨o.slots,hk b o hc e⟩) (fun b o _ e n=>by rw[ad (ne b o e)];exact n) (fun b o hc e=>⟨o,hk b o hc e⟩) (fun b xs e=>by rw[ad (ba e hfr)];exact e)
  (fun b o v e=>by rw[ad (ba e hfr)];exact e) (fun b ps e=>⟨#[],by rw[ad (ba e hfr),e];simp⟩) (fun m hm=>?_) (fun b o e=>?_) I.bare
 ·obtain⟨o,es,ep,ho,r⟩:=hm
  exact⟨o,es,ep,hk _ o (fun z=>(hf _ z).2.1 rfl) ho,r⟩
 ·by_cases hb:b=s.heap.objs.size
  ·subst hb
   rw[aw]at e;cases e;refine⟨by show 2<=sizeLine;decide,[x,y],.cons ru (.cons rw' .nil),⟨_,hT,rfl,_,rfl⟩⟩
  ·rw[ad hb]at e
   refine(I.NM b o e).stay (fun c v hc q=>hk c v ?_ q) (fun c q=>by rw[ad (ba q hfr)];exact q) fun c xs q=>by rw[ad (ba q hfr)];exact q
   rcases hc with rfl|hc
   ·exact nch _ _ e
   ·exact nch _ _ hc
theorem Inv.turnN{X:Cx}{ND:List (Addr×Obj)}{σ:St}{H:Hp}{s:Shared}{h':Heap}{ch:List Addr}(I:Inv X ND σ H s)(hf:∀b∈ch,dJ X ND H b)
  (hk:∀c o,c∉ch->s.heap.get? c=some o->h'.get? c=some o):Inv X ND σ H { s with heap:=h' }:=by
 have nch:∀b o,H b=some o->b∉ch:=fun b o e hb=>by rw[(hf b hb).1]at e;cases e
 refine I.step (g':=s.gens) (d':=s.drawn) (t':=s.toks) (ch:=ch) (fun b hb=>⟨(hf b hb).2.2.2.1,(hf b hb).2.1,(hf b hb).2.2.2.2.1,(hf b hb).2.2.2.2.2⟩) (fun b o _ _ hc e _=>hk b o hc e)
  (fun b o _ _ hc e _=>⟨o.slots,hk b o hc e⟩) (fun b o _ e n=>n) (fun b o hc e=>⟨o,hk b o hc e⟩) (fun b xs e=>e)
  (fun b o v e=>e) (fun b ps e=>⟨#[],by rw[e];simp⟩) (fun m hm=>?_) (fun b o e=>?_) I.bare
 ·obtain⟨o,es,ep,ho,r⟩:=hm
  exact⟨o,es,ep,hk _ o (fun z=>(hf _ z).2.1 rfl) ho,r⟩
 ·refine(I.NM b o e).stay (fun c v hc q=>hk c v ?_ q) (fun c q=>q) fun c xs q=>q
  rcases hc with rfl|hc
  ·exact nch _ _ e
  ·exact nch _ _ hc
theorem c7{X:Cx}{ND:List (Addr×Obj)}{σ:St}{H:Hp}{s:Shared}{a b:Addr}{xs:List V}(I:Inv X ND σ H s)(h:bK X.K H a xs)(hb:dJ X ND H b)(hob:∃o,s.heap.get? b=some o/\o.cls≠.type "list"):a≠b:=by
 rintro rfl;obtain⟨NH,r,⟨o,n,e,c,_⟩,_⟩:=I.list h;obtain⟨o',e',c'⟩:=hob;rw[e]at e';cases e';exact c' c
theorem yh{P:Program}{w:World}{K:Frag}{elts:List Expr}{x1:Nat}{tpos:Pos}(a b z TI TO i1 i2:Addr)(D1:TI≠z)(D2:TO≠z)(D3:i1≠z)(D4:i2≠z)(D5:TI≠TO)(D6:TI≠i1)(D7:TI≠i2)(D8:TO≠i1)(D9:TO≠i2)(D10:i1≠i2) :
  jA P w K (.Tuple elts x1 tpos) (Kf K a b) [z,TI,TO,i1,i2] z (fun i h=>IsZip h z TI TO .none/\IsPair h TI (.ref i1) (.ref i2)/\(∃u v,IsPair h TO u v)/\h.IsListIter i1 a i/\h.IsListIter i2 b i) where
 mem:=by simp
 obj:=fun i h hq0 c hc=>by
  obtain⟨hz,hTI,⟨u,v,hTO⟩,⟨o1,e1,c1,d1⟩,⟨o2,e2,c2,d2⟩⟩:=hq0;simp only[zT,zX,or_false]at hc;rcases hc with rfl|rfl|rfl|rfl|rfl
  ·exact⟨_,hz,fun v z=>nomatch z⟩
  ·exact⟨_,hTI,fun v z=>nomatch z⟩
  ·exact⟨_,hTO,fun v z=>nomatch z⟩
  ·exact⟨_,e1,fun v z=>by rw[d1]at z;cases z⟩
  ·exact⟨_,e2,fun v z=>by rw[d2]at z;cases z⟩
 keep:=fun i h h' ⟨hz,hTI,⟨u,v,hTO⟩,h1,h2⟩ k=>⟨k z (by simp) _ hz,k TI (by simp) _ hTI,⟨u,v,k TO (by simp) _ hTO⟩,h1.at fun o e=>k i1 (by simp) o e,h2.at fun o e=>k i2 (by simp) o e⟩
 item:=by
  rintro X hP hw hK hc i ND s σ H E I hf ⟨hz,hTI,⟨ua,ub,hTO⟩,h1,h2⟩ ⟨xs,ys,x,y,hq1,hq2,hx,hy⟩;subst hP hw hK;obtain⟨its1,rv1,p1,_⟩:=I.list hq1;obtain⟨its2,rv2,p2,_⟩:=I.list hq2;obtain⟨u1,hu1,ru1⟩:=rv1.get hx;obtain⟨u2,hu2,ru2⟩:=rv2.get hy;have ob:∀c∈[z,TO,i1,i2],∃o,s.heap.get? c=some o/\o.cls≠.type "list":=fun c hc=>by
   obtain⟨o1,e1,c1,d1⟩:=id h1;obtain⟨o2,e2,c2,d2⟩:=id h2;simp only[zT,zX,or_false]at hc;rcases hc with rfl|rfl|rfl|rfl
   ·exact⟨_,hz,by simp⟩
   ·exact⟨_,hTO,by simp⟩
   ·exact⟨_,e1,by rw[c1];simp⟩
   ·exact⟨_,e2,by rw[c2];simp⟩
  have na:∀c∈[z,TO,i1,i2],a≠c:=fun c hc=>c7 I hq1 (hf c (by simp at hc ⊢;rcases hc with h|h|h|h<;>simp[h])) (ob c hc)
  have nb:∀c∈[z,TO,i1,i2],b≠c:=fun c hc=>c7 I hq2 (hf c (by simp at hc ⊢;rcases hc with h|h|h|h<;>simp[h])) (ob c hc)
  have D:ZipApart z TI TO i1 i2 a b:=⟨D1,D2,D3,D4,D5,D6,D7,D8,D9,D10,na z (by simp),na TO (by simp),na i1 (by simp),na i2 (by simp),nb z (by simp),nb TO (by simp),nb i1 (by simp),nb i2 (by simp)⟩;refine wpAny_pyNext_zip_item D hz hTI hTO h1 h2 p1.isList p2.isList (x:=u1) (y:=u2) (by simpa using hu1) (by simpa using hu2) fun h' a1 a2 a3 a4 a5 a6 hk=>?_
  have hf4:∀c∈[z,TO,i1,i2],dJ X ND H c:=fun c hc=>hf c (by simp at hc ⊢;rcases hc with h|h|h|h<;>simp[h])
  have hk':∀c o,c∉[z,TO,i1,i2]->s.heap.get? c=some o->h'.get? c=some o:=fun c o hc e=>hk c o (fun q=>hc (by simp[q])) (fun q=>hc (by simp[q])) (fun q=>hc (by simp[q])) (fun q=>hc (by simp[q])) e
  have I1:Inv X ND σ (ae H s.heap.objs.size (.tup [x,y])) { s with heap:=h' }:=I.turnT hf4 ru1 ru2 hk' a5 (fun c hc=>by
   obtain⟨o1,e1,_⟩:=id a3;obtain⟨o2,e2,_⟩:=id a4;simp only[zT,zX,or_false]at hc;rcases hc with rfl|rfl|rfl|rfl
   ·exact⟨_,a1⟩
   ·exact⟨_,a2⟩
   ·exact⟨_,e1⟩
   ·exact⟨_,e2⟩)
  have hfr:H s.heap.objs.size=none:=I.fresh;refine⟨_,rfl,wpAny_letOwnedTupleGo_zip (s:={ s with heap:=h' }) a1 fun h'' z1 sb=>?_⟩;have hf5:∀c∈[z,TI,TO,i1,i2],(ae H s.heap.objs.size (.tup [x,y])) c=none:=fun c hc=>by
   have lt:c<s.heap.objs.size:=by
    obtain⟨o1,e1,_⟩:=id h1;obtain⟨o2,e2,_⟩:=id h2;simp only[zT,zX,or_false]at hc;rcases hc with rfl|rfl|rfl|rfl|rfl
    ·exact yI hz
    ·exact yI hTI
    ·exact yI hTO
    ·exact yI e1
    ·exact yI e2
   rw[ad (zU lt)];exact(hf c hc).1
  have I2:Inv X ND σ (ae H s.heap.objs.size (.tup [x,y])) { s with heap:=h'' }:=Inv.turnN (s:={ s with heap:=h' }) (ch:=[z]) I1 (fun c hc=>by
   have:c=z:=by simpa using hc
   subst this;exact⟨hf5 c (by simp),(hf c (by simp)).2⟩) (fun c o hc e=>(sb.2 c (fun q=>hc (by simp[q]))).trans e)
  refine⟨.ref s.heap.objs.size,_,I2,rfl,⟨_,x,y,fun zs hzs=>by rw[I.list_inj hzs hq1];exact hx,fun zs hzs=>by rw[I.list_inj hzs hq2];exact hy,hfr,rfl,rfl⟩,⟨z1,?_,⟨u1,u2,?_⟩,?_,?_⟩,hf5⟩
  ·exact(sb.2 TI D1).trans (hk' TI _ (by simp[D1,D5,D6,D7]) hTI)
  ·exact(sb.2 TO D2).trans a2
  ·exact a3.at fun o e=>(sb.2 i1 D3).trans e
  ·exact a4.at fun o e=>(sb.2 i2 D4).trans e
 done:=by
  rintro X hP hw hK hc i ND s σ H E I hf ⟨hz,hTI,⟨ua,ub,hTO⟩,h1,h2⟩ ⟨xs,ys,hq1,hq2,hend⟩;subst hP hw hK;obtain⟨its1,rv1,p1,_⟩:=I.list hq1;obtain⟨its2,rv2,p2,_⟩:=I.list hq2;have ob:∀c∈[z,TO,i1,i2],∃o,s.heap.get? c=some o/\o.cls≠.type "list":=fun c hc=>by
   obtain⟨o1,e1,c1,d1⟩:=id h1;obtain⟨o2,e2,c2,d2⟩:=id h2;simp only[zT,zX,or_false]at hc;rcases hc with rfl|rfl|rfl|rfl
   ·exact⟨_,hz,by simp⟩
   ·exact⟨_,hTO,by simp⟩
   ·exact⟨_,e1,by rw[c1];simp⟩
   ·exact⟨_,e2,by rw[c2];simp⟩
  have hf4:∀c∈[z,TO,i1,i2],dJ X ND H c:=fun c hc=>hf c (by simp at hc ⊢;rcases hc with h|h|h|h<;>simp[h])
  have na:∀c∈[z,TO,i1,i2],a≠c:=fun c hc=>c7 I hq1 (hf4 c hc) (ob c hc)
  have nb:∀c∈[z,TO,i1,i2],b≠c:=fun c hc=>c7 I hq2 (hf4 c hc) (ob c hc)
  have D:ZipApart z TI TO i1 i2 a b:=⟨D1,D2,D3,D4,D5,D6,D7,D8,D9,D10,na z (by simp),na TO (by simp),na i1 (by simp),na i2 (by simp),nb z (by simp),nb TO (by simp),nb i1 (by simp),nb i2 (by simp)⟩;have hl1:=rv1.length;have hl2:=rv2.length;refine wpAny_pyNext_zip_end (I.ok.hd hc) D hz hTI hTO h1 h2 p1.isList p2.isList (by rcases hend with h|h;(left;simp;lia);(right;simp;lia)) fun h' hk=>⟨rfl,?_⟩
  exact I.turnN hf4 fun c o hc e=>hk c o (fun q=>hc (by simp[q])) (fun q=>hc (by simp[q])) (fun q=>hc (by simp[q])) (fun q=>hc (by simp[q])) e
 self:=fun _ _ _ _ _ ⟨hz,_⟩ h=>wpAny_pyIter_zip hz h
def Lb(K:Frag)(ta:TA):TI:=fun σ H R=>ta σ H fun vs H1=>∃a b,vs=[.ref a,.ref b]/\(∃xs,bK K H1 a xs)/\(∃ys,bK K H1 b ys)/\R (Kf K a b) H1
theorem Fh{X:Cx}{elts:List Expr}{x1:Nat}{tpos:Pos}{a b:Expr}{ta:TA}{p pos:Pos}(hg:Gl X "zip")(hm:X.mg "zip"=none)(ha:PA X [a,b] ta)(hs:starEach [a,b] X.env=[(false,eval a X.env),(false,eval b X.env)]:=by rfl)(hs2:starEach [b] X.env=[(false,eval b X.env)]:=by rfl) :
  PI X (.Tuple elts x1 tpos) (.Call (.Name "zip" p) [a,b] [] pos) (Lb X.K ta):=by
 intro ND s σ H R I h;refine Call_ (c8 I hg hm boot_zip (PyProof.Rows.callWith_type1 (aB (ha pos ND s σ H _ I h) fun us s1 ⟨vs,H1,I1,r1,q1⟩=>?_) (by rw[hs,hs2]) (by rw[hs2];rfl)));obtain⟨l1,l2,e,⟨xs,hq1⟩,⟨ys,hq2⟩,q⟩:=q1;subst e;cases r1 with
 |cons r rr =>
  cases rr with
  |cons r' rr =>
   cases rr;cases r;cases r';obtain⟨its1,rv1,p1,_⟩:=I1.list hq1;obtain⟨its2,rv2,p2,_⟩:=I1.list hq2;refine call_zip_2 p1.isList p2.isList fun h' hz hTI hTO h1 h2 hsz hk=>?_
   have I2:Inv X ND σ H1 { s1 with heap:=h' }:=I1.kept (t':=s1.toks) hk;refine wpAny_pyIter_zip (s:={ s1 with heap:=h' }) hz ?_;have lt:∀k:Nat,s1.heap.objs.size<=s1.heap.objs.size+k:=fun k=>Nat.le_add_right _ _
   refine⟨_,[s1.heap.objs.size+4,s1.heap.objs.size+2,s1.heap.objs.size+3,s1.heap.objs.size,s1.heap.objs.size+1],_,_,H1,rfl,I2,
    yh l1 l2 (s1.heap.objs.size+4) (s1.heap.objs.size+2) (s1.heap.objs.size+3) s1.heap.objs.size (s1.heap.objs.size+1) ?_ ?_ ?_ ?_ ?_ ?_ ?_ ?_ ?_ ?_,⟨hz,hTI,⟨_,_,hTO⟩,h1,h2⟩,fun c hc=>?_,q⟩
   all_goals first
    | (show _ + _ ≠ _ + _;intro z;exact absurd (Nat.add_left_cancel z) dC)
    | (show _ ≠ _ + _;intro z;exact absurd z (by have:=Nat.lt_add_of_pos_right (n:=s1.heap.objs.size) (k:=4) dC;have:=Nat.lt_add_of_pos_right (n:=s1.heap.objs.size) (k:=1) dC;exact zU (by assumption)))
    | (show _ + _ ≠ _;exact Nat.ne_of_gt (Nat.lt_add_of_pos_right dC))
    |skip
   have hle:s1.heap.objs.size<=c:=by
    simp only[zT,zX,or_false]at hc;rcases hc with rfl|rfl|rfl|rfl|rfl
    ·exact lt 4
    ·exact lt 2
    ·exact lt 3
    ·exact zP _
    ·exact lt 1
   obtain⟨f0,f1,f2,f3,f4,f5⟩:=I1.fpOk hle (I1.NM.fresh hle);exact⟨f0,f1,f2,f3,f4,f5⟩
theorem Az{X:Cx}:AW X (fun o i H Q=>∃p xs k v,o=.ref p/\i=.int k/\bK X.K H p xs/\gh xs k=some v/\Q v H):=by
 rintro ND s σ H o i ov iv Q I ro ri ⟨p,xs,k,v,e1,e2,hq,he,q⟩;subst e1 e2;cases ro;obtain⟨t,rfl⟩:=ri;obtain⟨NH,r,pl,hz⟩:=I.list hq;obtain⟨j,h1,h2,h3,h4,h5⟩:=lR he;obtain⟨w,ew,rw'⟩:=r.get h2;have hl:=r.length;have hn:=gK;have ay:EP X ND σ Q w s:=⟨v,H,I,rw',q⟩;by_cases h0:0<=k
 ·have hj:k.toNat=j:=by
   rw[seqIndex_of h0 h5]at h1;exact yD h1
  exact wpAny_getItem_list pl.isList h0 oM (by rw[hj];simpa using ew) ay
 ·have hj:(k+(NH.toArray.size:Int)).toNat=j:=by
   rw[seqIndex_neg oM h4]at h1;rw[zI,<- hl];exact yD h1
  exact wpAny_getItem_list_neg pl.isList oM (by rw[zI]<;>lia) oM (by rw[hj];simpa using ew) ay
end L2
namespace DD
open PySem PySem.Spec PyProof.Rows L2
section
variable{X:Cx}{e o a b:Expr}{es:List Expr}{p q:DP}{c c':DE}{pos apos cpos:Pos}{i:Nat}{js:List DP}
theorem cnt_vals{h:Heap}{q:PyData}{e:Value->Bool}(he:∀v p as,Reads h v p as->e v=PyData.eqv p q):∀{vs:List Value}{ps:List PyData}{as:List Addr},ReadsAll h vs ps as->vs.countP e=ps.countP fun r=>PyData.eqv r q:=by
 intro vs
 induction vs with
 |nil=>intro ps as h;cases h;rfl
 |cons v vs ih =>
  intro ps as h;cases h with
  |cons r rs=>rw[List.countP_cons,List.countP_cons,ih rs,he _ _ _ r]
theorem reads_each{h:Heap}:∀{vs:List Value}{ps:List PyData}{as:List Addr},ReadsAll h vs ps as->∀v∈vs,∃p as',p∈ps/\Reads h v p as':=by
 intro vs
 induction vs with
 |nil=>intro ps as h v hv;cases hv
 |cons v vs ih =>
  intro ps as h v hv;cases h with
  |cons r rs =>
   rcases zT.mp hv with rfl|hv
   ·exact⟨_,_,z7,r⟩
   ·obtain⟨p,as',hp,h⟩:=ih rs v hv
    exact⟨p,as',zQ _ hp,h⟩
noncomputable def minL:List Int->Option Int
 |[]=>none
 |x::xs=>some (xs.foldl (fun a b=>if b<a then b else a) x)
theorem minF:∀(xs:List Int)(x:Int),(xs.foldl (fun a b=>if b<a then b else a) x∈x::xs)/\∀a∈x::xs,xs.foldl (fun a b=>if b<a then b else a) x<=a
 |[],x=>⟨by simp,by simp⟩
 |y::xs,x=>by
  obtain⟨h1,h2⟩:=minF xs (if y<x then y else x);rw[List.foldl_cons];constructor
  ·rcases zT.mp h1 with h|h
   ·rw[h];split<;>simp
   ·simp[h]
  ·intro a ha
   have hm:=h2 (if y<x then y else x) (by simp);have hx:(if y<x then y else x)<=x:=by split<;>lia
   have hy:(if y<x then y else x)<=y:=by split<;>lia
   rcases zT.mp ha with rfl|ha
   ·exact Int.le_trans hm hx
   ·rcases zT.mp ha with rfl|ha
    ·exact Int.le_trans hm hy
    ·exact h2 a (by simp[ha])
theorem minL_eq{ns:List Int}{m M:Int}(h:minL ns=some m)(h1:M∈ns)(h2:∀a∈ns,M<=a):M=m:=by
 cases ns with
 |nil=>cases h1
 |cons x xs =>
  cases h;obtain⟨g1,g2⟩:=minF xs x;have a1:=g2 M h1;have a2:=h2 _ g1;lia
end
section
variable{X:Cx}{e o a b:Expr}{es:List Expr}{p q:DP}{c c':DE}{pos apos cpos:Pos}{i:Nat}{js:List DP}
theorem any_vals{h:Heap}{q:PyData}{e:Value->Bool}(he:∀v p as,Reads h v p as->e v=PyData.eqv p q):∀{vs:List Value}{ps:List PyData}{as:List Addr},ReadsAll h vs ps as->vs.any e=ps.any fun r=>PyData.eqv r q
 |_,_,_,.nil=>rfl
 |_,_,_,.cons r rs=>by rw[List.any_cons,List.any_cons,any_vals he rs,he _ _ _ r]
end
end DD
namespace L2
open PySem PySem.Spec PyProof.Rows
def xW(K:Frag)(a:Addr)(n0:Nat):It :=
 ⟨fun i H=>∃xs x,bK K H a xs/\xs[i]?=some x,
  fun i H x H'=>∃p u,(∀xs,bK K H a xs->xs[i]?=some u)/\H p=none/\H'=ae H p (.tup [.int ((n0+i:Nat):Int),u])/\x=.ref p,
  fun i H=>∃xs,bK K H a xs/\xs.length=i⟩
theorem pU{prog:Program}{w:World}{A:Around}(hh:A.handled=none)(it l:Addr)(hne:l≠it)(items:Array Value)(n0:Nat) :
  Draws prog w A it [it,l] (n0+items.size) (fun i v=>n0<=i/\items[i-n0]?=some v) (fun i h=>n0<=i/\h.IsListIter it l (i-n0)/\h.IsList l items) where
 live:=fun _ _ q=>by obtain⟨o,ho,_⟩:=q.2.1;exact⟨o,ho⟩
 frame:=fun _ _ _ q hk=>⟨q.1,q.2.1.at fun o e=>hk it (by simp) o e,q.2.2.at fun o e=>hk l (by simp) o e⟩
 item:=fun i s Q E hi q hQ=>by
  have hl:i-n0<items.size:=by have:=q.1;lia
  refine wpAny_nextOf_list_item q.2.1 q.2.2 (x:=items[i-n0]) (by simp[hl]) fun h' hit' hs'=>?_
  refine hQ _ h' s.toks ⟨q.1,by simp[hl]⟩ ⟨Nat.le_succ_of_le q.1,?_,q.2.2.extBut hs'.extBut hne⟩ hs';rw[show i+1-n0=i-n0+1 by have:=q.1;lia];exact hit'
 done:=fun s Q E q hE=>wpAny_nextOf_list_end hh q.2.1 q.2.2 (by simp) hE
theorem we{P:Program}{w:World}{K:Frag}{elts:List Expr}{x1:Nat}{tpos:Pos}(a z it:Addr)(n0:Nat)(D:z≠it) :
  jA P w K (.Tuple elts x1 tpos) (xW K a n0) [z,it] z (fun i h=>(∃old,IsEnum h z it ((n0+i:Nat):Int) old)/\h.IsListIter it a i) where
 mem:=by simp
 obj:=fun i h hq0 c hc=>by
  obtain⟨⟨old,hz⟩,⟨o1,e1,c1,d1⟩⟩:=hq0;simp only[zT,zX,or_false]at hc;rcases hc with rfl|rfl
  ·exact⟨_,hz,fun v z=>nomatch z⟩
  ·exact⟨_,e1,fun v z=>by rw[d1]at z;cases z⟩
 keep:=fun i h h' ⟨⟨old,hz⟩,h1⟩ k=>⟨⟨old,k z (by simp) _ hz⟩,h1.at fun o e=>k it (by simp) o e⟩
 item:=by
  rintro X hP hw hK hc i ND s σ H E I hf ⟨⟨old,hz⟩,h1⟩ ⟨xs,x,hq,hx⟩;subst hP hw hK;obtain⟨NH,rv,p1,_⟩:=I.list hq;obtain⟨u,hu,ru⟩:=rv.get hx;have na:a≠z:=c7 I hq (hf z (by simp)) ⟨_,hz,by simp⟩;have nb:a≠it:=c7 I hq (hf it (by simp)) (by obtain⟨o1,e1,c1,d1⟩:=id h1;exact⟨_,e1,by rw[c1];simp⟩);have hil:i<NH.length:=(zB.mp hu).1;refine wpAny_pyNext_enum_itemD (pU (A:=X.A.in1) (I.ok.hd hc) it a nb NH.toArray n0) hz ⟨Nat.le_add_right _ _,by rw[Nat.add_sub_cancel_left];exact h1,p1.isList⟩ (by simp[hil]) D (by simp[D,na.symm]) fun v h' tk hv ho hst hT hsz hk=>?_
  have ev:v=u:=by
   have h2:=hv.2;rw[Nat.add_sub_cancel_left]at h2;simp only[List.getElem?_toArray]at h2;rw[hu]at h2;exact(yD h2).symm
  subst ev;have hf2:∀c∈[z,it],dJ X ND H c:=fun c hc=>hf c hc
  have hk':∀c o,c∉[z,it]->s.heap.get? c=some o->h'.get? c=some o:=fun c o hc e=>hk c o (fun q=>hc (by simp[q])) (fun q=>hc (by simp[q])) e
  have I0:Inv X ND σ (ae H s.heap.objs.size (.tup [.int ((n0+i:Nat):Int),x])) { s with heap:=h' }:=I.turnT hf2 (u:=.int ((n0+i:Nat):Int)) ⟨tk,rfl⟩ ru hk' hT (fun c hc=>by
   obtain⟨o1,e1,_⟩:=id hst.2.1;simp only[zT,zX,or_false]at hc;rcases hc with rfl|rfl
   ·exact⟨_,ho⟩
   ·exact⟨_,e1⟩)
  have I1:Inv X ND σ (ae H s.heap.objs.size (.tup [.int ((n0+i:Nat):Int),x])) { s with heap:=h',toks:=tk+1 }:=I0.kept (t':=tk+1) (fun _ _ e=>e);have hfr:H s.heap.objs.size=none:=I.fresh;refine⟨_,rfl,wpAny_letOwnedTupleGo_enum (s:={ s with heap:=h',toks:=tk+1 }) ho fun h'' z1 sb=>?_⟩;have hf5:∀c∈[z,it],(ae H s.heap.objs.size (.tup [.int ((n0+i:Nat):Int),x])) c=none:=fun c hc=>by
   have lt:c<s.heap.objs.size:=by
    obtain⟨o1,e1,_⟩:=id h1;simp only[zT,zX,or_false]at hc;rcases hc with rfl|rfl
    ·exact yI hz
    ·exact yI e1
   rw[ad (zU lt)];exact(hf c hc).1
  have I2:Inv X ND σ (ae H s.heap.objs.size (.tup [.int ((n0+i:Nat):Int),x])) { s with heap:=h'',toks:=tk+1 }:=Inv.turnN (s:={ s with heap:=h',toks:=tk+1 }) (ch:=[z]) I1 (fun c hc=>by
   have:c=z:=by simpa using hc
   subst this;exact⟨hf5 c (by simp),(hf c (by simp)).2⟩) (fun c o hc e=>(sb.2 c (fun q=>hc (by simp[q]))).trans e)
  refine⟨.ref s.heap.objs.size,_,I2,rfl,⟨_,x,fun zs hzs=>by rw[I.list_inj hzs hq];exact hx,hfr,rfl,rfl⟩,⟨⟨_,by rw[show((n0+(i+1):Nat):Int)=((n0+i:Nat):Int)+1 by lia];exact z1⟩,?_⟩,hf5⟩;have h3:=hst.2.1;rw[show n0+i+1-n0=i+1 by lia]at h3;exact h3.at fun o e=>(sb.2 it D.symm).trans e
 done:=by
  rintro X hP hw hK hc i ND s σ H E I hf ⟨⟨old,hz⟩,h1⟩ ⟨xs,hq,hend⟩;subst hP hw hK;obtain⟨NH,rv,p1,_⟩:=I.list hq;have nb:a≠it:=c7 I hq (hf it (by simp)) (by obtain⟨o1,e1,c1,d1⟩:=id h1;exact⟨_,e1,by rw[c1];simp⟩);have hl:=rv.length;refine wpAny_pyNext_enum_endD (pU (A:=X.A.in1) (I.ok.hd hc) it a nb NH.toArray n0) hz ⟨Nat.le_add_right _ _,?_,p1.isList⟩ fun h' hk=>⟨rfl,?_⟩
  ·rw[Nat.add_sub_cancel_left,zI,<- hl,hend];exact h1
  ·exact I.turnN (ch:=[z,it]) (fun c hc=>hf c hc) fun c o hc e=>hk c o (fun q=>hc (by simp[q])) e
 self:=fun _ _ _ _ _ ⟨⟨_,hz⟩,_⟩ h=>wpAny_pyIter_enum hz h
theorem pW:bootBuiltins "enumerate"=some (.type "enumerate"):=by decide +kernel
def IE(K:Frag)(n0:Nat)(ta:TA):TI:=fun σ H R=>ta σ H fun vs H1=>∃a,vs=[.ref a]/\(∃xs,bK K H1 a xs)/\R (xW K a n0) H1
theorem sB{X:Cx}{ND:List (Addr×Obj)}{σ:St}{H1:Hp}{s1:Shared}{h':Heap}{t':Nat}{l:Addr}{n0:Nat}{elts:List Expr}{x1:Nat}{tpos:Pos}{R:It->Hp->Prop}(I1:Inv X ND σ H1 s1)(he:IsEnum h' (s1.heap.objs.size+1) s1.heap.objs.size (n0:Int) .none)(hi:h'.IsListIter s1.heap.objs.size l 0)
  (hk:∀b o,s1.heap.get? b=some o->h'.get? b=some o) (q:R (xW X.K l n0) H1):G3 X ND σ (.Tuple elts x1 tpos) R (.ref (s1.heap.objs.size+1)) { s1 with heap:=h',toks:=t' }:=by
 have I2:Inv X ND σ H1 { s1 with heap:=h',toks:=t' }:=I1.kept (t':=t') hk;refine⟨_,[s1.heap.objs.size+1,s1.heap.objs.size],_,_,H1,rfl,I2,we l (s1.heap.objs.size+1) s1.heap.objs.size n0 (Nat.ne_of_gt (Nat.lt_succ_self _)),⟨⟨_,by simpa using he⟩,hi⟩,fun c hc=>?_,q⟩;have hle:s1.heap.objs.size<=c:=by
  simp only[zT,zX,or_false]at hc;rcases hc with rfl|rfl
  ·exact Nat.le_succ _
  ·exact zP _
 obtain⟨f0,f1,f2,f3,f4,f5⟩:=I1.fpOk hle (I1.NM.fresh hle);exact⟨f0,f1,f2,f3,f4,f5⟩
theorem C2{X:Cx}{elts:List Expr}{x1:Nat}{tpos:Pos}{a:Expr}{ta:TA}{p pos:Pos}(hg:Gl X "enumerate")(hm:X.mg "enumerate"=none)(ha:PA X [a] ta)(hs:starEach [a] X.env=[(false,eval a X.env)]:=by rfl) :
  PI X (.Tuple elts x1 tpos) (.Call (.Name "enumerate" p) [a] [] pos) (IE X.K 0 ta):=by
 intro ND s σ H R I h;refine Call_ (c8 I hg hm pW (PyProof.Rows.callWith_type1 (aB (ha pos ND s σ H _ I h) fun us s1 ⟨vs,H1,I1,r1,q1⟩=>?_) (by rw[hs];rfl) (by rfl)));obtain⟨l,e,⟨xs,hq⟩,q⟩:=q1;subst e;cases r1 with
 |cons r rr =>
  cases rr;cases r;obtain⟨NH,rv,p1,_⟩:=I1.list hq;refine call_enumerate_list p1.isList fun h' he hi hsz hk=>?_
  refine wpAny_pyIter_enum (s:={ s1 with heap:=h' }) he ?_;exact sB (t':=s1.toks) (n0:=0) I1 he hi hk q
section
variable{prog:Program}{w:World}{A:Around}{E:Value->Shared->Prop}{s:Shared}
theorem yo{α:Type}{x:Sem α}{Q Q1:α->Shared->Prop}{M:Model}(h:wpAny M A x Q E s)(hQ:∀a s,Q a s->Q1 a s):wpAny M A x Q1 E s:=yS h hQ fun _ _ x=>x
theorem qz(a v:Value):checkTypeCall "enumerate" ⟨[a],[("start",v)]⟩=pure ():=by kernel_rfl
theorem p8(a v:Value):checkBuiltinCall "enumerate.__new__" ⟨[.type "enumerate",a],[("start",v)]⟩=pure ():=by kernel_rfl
theorem o0(o a v:Value):argsOk "object.__init__" ⟨[o,a],[("start",v)]⟩:=by
 unfold argsOk;rw[signature?_of (id:="object.__init__") (n:=['_','_','t','i','n','i','_','_']) (o:=['t','c','e','j','b','o']) (by kernel_rfl) F.owner_object]
 kernel_rfl
theorem vG{T newId:String}{self a v:Value}(hl:typeLookup (.type T) "__init__"=pure (some (.builtin "object.__init__")))(hm:Bind.madeBy (.type T)=pure (some newId))(hne:(some newId !=some "object.__new__")=true) :
  Meets (Builtin.«object.__init__» ⟨[self,a],[("start",v)]⟩) (fun _ R s=>s.TypeIs self T/\R (.ok (.ret .none)) s):=Meets.of_wp fun prog w A R s hs=>by
 obtain⟨hT,hq⟩:=hs
 repeat (any_goals (first | assumption | wp_step))
 exact⟨_,rfl,hq⟩
theorem sM{M:Model}{pos:Pos}{T:String}{args:List (Bool×Sem Value)}{kws:List (Option Str×Sem Value)}{Q:Value->Shared->Prop}(hp:args.any (·.1)=false)(hk:kws.any (·.1.isNone)=false)
  (h:wpAny M A (evalArgs (.type T) true args kws) (fun a s₁=>wpAny M A (call (.type T) a.pos a.kw) Q E s₁) E s):wpAny M A (callWith pos (.type T) [] args kws) Q E s:=by
 unfold callWith;refine yE (yR (yo h fun a s₁ h₁=>yE (wpAny_standAt ?_)));simp only[hp,hk,Bool.or_false];refine yE (yF (yE (yo h₁ fun r s₂ hr=>yE (yR (wpAny_point (yF hr))))))
end
section
variable{prog:Program}{w:World}{A:Around}{E:Value->Shared->Prop}{s:Shared}
theorem BE{it t:Addr}{items:Array Value}(hne:t≠it):∀(n i:Nat)(s:Shared)(Q:List Value->Shared->Prop),s.heap.IsListIter it t i->s.heap.IsList t items->i+n<=items.size ->
  (∀h',h'.IsListIter it t (i+n)->Heap.SameBut it s.heap h'->Q ((items.toList.drop i).take n) { s with heap:=h' })->wpAny (model prog w) A (draw (.ref it) n) Q E s
 |0,i,s,Q,hit,_,_,hQ=>yF (by simpa using hQ s.heap hit (Heap.SameBut.refl ..))
 |n+1,i,s,Q,hit,ht,hle,hQ=>by
  have hlt:i<items.size:=by lia
  refine yE (m:=pyNext (.ref it)) (wpAny_pyNext_list_item hit ht (x:=items[i]) (by simp[hlt]) fun h₁ hit₁ hs₁=>?_);refine yE (yR (BE hne n (i+1) _ _ hit₁ (ht.extBut hs₁.extBut hne) oM fun h₂ hit₂ hs₂=>yF ?_));have q:=hQ h₂ (by rw[show i+(n+1)=i+1+n by lia];exact hit₂) (hs₁.trans hs₂);rw[show items.toList.drop i=items[i]::items.toList.drop (i+1) by simp[List.drop_eq_getElem_cons,hlt],List.take_succ_cons]at q;exact q
theorem Ce{t:Addr}{items:Array Value}{targets:List (Bool×(Value->Sem Unit))}{Q:Unit->Shared->Prop}(hh:A.handled=none)(ht:s.heap.IsList t items)(hn:targets.length=items.size)(hstar:targets.findIdx? (·.1)=none)
  (h:∀h',Heap.ExtBut s.heap.objs.size s.heap h'->wpAny (model prog w) A (assignInOrder (targets.map (·.2)) items.toList) Q E { s with heap:=h' }):wpAny (model prog w) A (unpack (.ref t) targets) Q E s:=by
 have hlt:t≠s.heap.objs.size:=by obtain⟨o,ho,_⟩:=ht;exact zU (yI ho)
 unfold unpack;rw[hn,hstar];refine yE (yR ?_);unfold unpackItems;refine yE ?_;unfold notIterableAtAll;refine yE (wpAny_specialOf ht.typeIs slot_list_iter.lookup (yF ?_));simp only[yA,if_false];refine yE (yR (wpAny_pyIter_list ht (yE (yR (BE hlt items.size 0 _ _ ⟨_,zY _ rfl,rfl,rfl⟩ (ht.push _) oM fun h₁ hit₁ hs₁=>?_)))));rw[show List.take items.size (List.drop 0 items.toList)=items.toList by rw[List.drop_zero];exact List.take_of_length_le (by simp),yG (by simp)];refine yE (yR (wpAny_pyNext_list_end hh hit₁ ((ht.push _).extBut hs₁.extBut hlt) (by simp) fun h₂ he₂=>?_));simp only[Option.isSome_none,yA,if_false];exact yF (h h₂ fun b o hb e=>he₂ b o hb (hs₁.extBut b o hb (zG _ e)))
end
section
variable{X:Cx}{pos:Pos}
noncomputable def IK(K:Frag)(n:Nat)(t:mF):TG:=fun v σ H Q=>∃a xs,v=.ref a/\bK K H a xs/\xs.length=n/\t xs σ H Q
theorem C5{es:List Expr}{k:Nat}{t:mF}{n:Nat}(hc:X.calm=true)(h:p6 X es t)(hn:(assignEach es X.env).length=n:=by rfl)(hst:(assignEach es X.env).findIdx? (·.1)=none:=by rfl):PG X (.Tuple es k pos) (IK X.K n t):=by
 intro ND s σ H v u Q I r hw;obtain⟨a,xs,e1,hq,hl,hw⟩:=hw;subst e1;cases r;obtain⟨NH,rv,pl,hz⟩:=I.list hq;rw[arm_assign_Tuple];refine yE (wpAny_standAt (Ce (I.ok.hd hc) pl.isList (by simp[hn,<- hl,rv.length]) hst fun h' hx=>?_));have I1:Inv X ND σ H { s with heap:=h' }:=I.kept (t':=s.toks) fun b o e=>hx b o (zU (yI e)) e
 exact h ND _ σ H xs _ Q I1 (by simpa using rv) hw
theorem jT:∀(l:List Value)(k:Nat),(∀(j:Nat)(v:Value),l[j]?=some v->∃t,v=.int ((k+j:Nat):Int) t)->Vals ((List.range' k l.length).map fun(q:Nat)=>V.int (q:Int)) l
 |[],_,_=>.nil
 |u::l,k,h=>by
  rw[yX,List.range'_succ,zO];refine .cons ?_ (jT l (k+1) fun j v e=>?_)
  ·obtain⟨t,e⟩:=h 0 u rfl
   exact⟨t,e⟩
  ·obtain⟨t,e2⟩:=h (j+1) v (by simpa using e)
   exact⟨t,by rw[e2,show k+(j+1)=k+1+j by lia]⟩
theorem j5:bootBuiltins "list"=some (.type "list"):=by decide +kernel
def El(ta:TE):TE:=fun σ H Q=>Ba ta uV σ H fun vs H1=>∃j:Nat,vs=[.int (j:Int)]/\j<=1000/\∀p,H1 p=none->Q (.ref p) (ae H1 p (.lst ((List.range' 0 j).map fun(q:Nat)=>V.int (q:Int))))
theorem Aa{a:Expr}{ta:TE}{p1 p2 pos2:Pos}(hc:X.calm=true)(hgl:Gl X "list")(hml:X.mg "list"=none)(hgr:Gl X "range")(hmr:X.mg "range"=none)(ha:PE X a ta)
  (hs:starEach [a] X.env=[(false,eval a X.env)]:=by rfl) (hs1:starEach [.Call (.Name "range" p2) [a] [] pos2] X.env=[(false,eval (.Call (.Name "range" p2) [a] [] pos2) X.env)]:=by rfl) :
  PE X (.Call (.Name "list" p1) [.Call (.Name "range" p2) [a] [] pos2] [] pos) (El ta):=by
 intro ND s σ H Q I h;refine Call_ (c8 I hgl hml j5 (PyProof.Rows.callWith_type1 ?_ (by rw[hs1];rfl) (by rfl)));rw[hs1];refine Calls.spliced_cons (Call_ (c8 I hgr hmr boot_range (PyProof.Rows.callWith_type1 (aB ((lE ha qP hs) pos2 ND s σ H _ I h) fun us s1 ⟨vs,H1,I1,r1,q1⟩=>?_) (by rw[hs];rfl) (by rfl))));cases r1 with
 |nil=>obtain⟨j,e,_⟩:=q1;cases e
 |cons r rr =>
  obtain⟨j,e,hj,q⟩:=q1;cases e;cases rr;obtain⟨t,rfl⟩:=r;refine call_range_1 (Calls.spliced_nil ?_);have I2:Inv X ND σ H1 { s1 with heap:=s1.heap.push { cls:=.type "range",data:=.fields #[.int 0 s1.toks,.int (j:Int) t,.int 1 (s1.toks+1)] },toks:=s1.toks+1+1 }:=I1.kept fun b o e=>zG _ e
  refine call_list_range (n:=j) (I.ok.hd hc) (IsRange.new ..) (small_one oM oM oM oM) (by rw[rangeSize_one];split<;>lia) oM fun h' tk acc' c' hk hS hacc=>?_
  have hv:=jT acc'.toList 0 (fun i v e=>by
   obtain⟨t,e2⟩:=hacc.2 i v (by simpa using e);exact⟨t,by rw[e2];congr 1;lia⟩)
  rw[show acc'.toList.length=j by simpa using hacc.1]at hv;exact⟨.ref _,_,I2.laid (o:=.lst ((List.range' 0 j).map fun(q:Nat)=>V.int (q:Int))) hk (zP _) ⟨yY (pD (by simp;lia)),acc'.toList,c',hv,hS⟩,rfl,q _ I2.fresh⟩
end
end L2
namespace PySem.AutoSeq1
theorem vJ(l:Addr)(items:Array Value)(n:Nat)(b:Addr)(items2:Array Value)(n2:Nat)(sl:Array (Option Value))(hc0:¬(!items.isEmpty&&Builtin.List.listTooLong (items.size+items2.size))=true)(hc1:items.size<=sizeLine)(hs2:items.size+items2.size<=sizeLine+1) :
  Meets (Builtin.«list.extend» ⟨[.ref l,.ref b],[]⟩) (fun _ R s=>s.heap.get? l=some { cls:=.type "list",dict:=none,data:=.seq items n,slots:=#[] }/\s.heap.get? b=some { cls:=.type "list",dict:=none,data:=.seq items2 n2,slots:=sl }/\R (.ok (.ret Value.none)) { s with heap:=s.heap.update l (Obj.mapSeq fun x=>x++items2),toks:=s.toks }) :=
 .of_wp fun prog w A R s h=>by
  obtain⟨hp,g,d,tk,os⟩:=s;obtain⟨hl,hb,h⟩:=h;have f1:=idx_int;have f2:=sub_tuple_tuple;have f3:=sub_list_list;have f4:=sub_tuple_list;have f5:=sub_list_tuple;have hz':(items++items2).size<=sizeLine+1:=by rw[Array.size_append];exact hs2
  wp_walk using (wpAny_updateSeq hl rfl (hz:=hc1) (_hz':=hz')),wpAny_loadPart' hl,wpAny_loadPart' hb;exact⟨_,rfl,h⟩
end PySem.AutoSeq1
namespace L2
open PySem PySem.Spec PyProof.Rows
section
variable{X:Cx}
def Hx(K:Frag):V->List V->Hp->VK->Prop:=fun x vs H Q=>∃l b xs zs,x=.ref l/\vs=[.ref b]/\H l=some (.lst xs)/\bK K H b zs/\xs.length+zs.length<=sizeLine/\Q .non (ae H l (.lst (xs++zs)))
theorem Dk:B3 X "list.extend" (Hx X.K):=by
 intro ND s σ H x vs v us Q I rx rv h;obtain⟨l,b,xs,zs,rfl,rfl,hH,hB,hz,q⟩:=h;cases rx;obtain⟨u,rfl,ru⟩:=rv.one;cases ru;obtain⟨z,NH,n,r,hl,e⟩:=I.lstM hH;obtain⟨its2,r2,pl,hz2⟩:=I.list hB;obtain⟨o,n2,e2,c2,d2,s2⟩:=pl;obtain⟨oc,od,odt,osl⟩:=o;dsimp only at c2 d2 s2;subst c2;subst d2;subst s2;have hl2:=r2.length;have hsz:NH.toArray.size+its2.toArray.size<=sizeLine:=by rw[zI,zI];lia
 have hlong:¬(!NH.toArray.isEmpty&&Builtin.List.listTooLong (NH.toArray.size+its2.toArray.size))=true:=by
  rw[notLongL hsz,Bool.and_false];exact Bool.false_ne_true
 refine call_meets F.slot_list_extend ⟨_,e,rfl⟩ F.entry_list_extend (F.args_list_extend_2 _ _)
  (PySem.AutoSeq1.vJ l NH.toArray n b its2.toArray n2 osl hlong (by rw[zI];lia) oM) ⟨e,e2,?_⟩
 refine⟨.non,_,I.lset (its':=NH++its2) hH e (by simp) (r.append r2) ?_,rfl,q⟩;rw[zV];lia
end
end L2
namespace PySem.AutoSeq1
theorem DM(l:Addr)(items:Array Value)(n:Nat)(sl1:Array (Option Value))(b:Addr)(items2:Array Value)(n2:Nat)(sl:Array (Option Value))(hs2:items.size+items2.size<=sizeLine) :
  Meets (Builtin.«list.__add__» ⟨[.ref l,.ref b],[]⟩) (fun _ R s=>s.heap.get? l=some { cls:=.type "list",dict:=none,data:=.seq items n,slots:=sl1 }/\s.heap.get? b=some { cls:=.type "list",dict:=none,data:=.seq items2 n2,slots:=sl }/\R (.ok (.ret (Value.ref s.heap.objs.size))) { s with heap:=s.heap.push { cls:=.type "list",data:=.seq (items++items2) },toks:=s.toks }) :=
 .of_wp fun prog w A R s h=>by
  obtain⟨hp,g,d,tk,os⟩:=s;obtain⟨hl,hb,h⟩:=h;have f1:=idx_int;have f2:=sub_tuple_tuple;have f3:=sub_list_list;have f4:=sub_tuple_list;have f5:=sub_list_tuple;have hz':(items++items2).size<=sizeLine+1:=by rw[Array.size_append];lia
  have hlong:Builtin.List.listTooLong (items.size+items2.size)=false:=L2.notLongL hs2
  wp_walk using wpAny_loadPart' hl,wpAny_loadPart' hb
  all_goals first|exact⟨_,rfl,h⟩|skip
end PySem.AutoSeq1
namespace L2
open PySem PySem.Spec PyProof.Rows
section
variable{X:Cx}
def Hy(K:Frag):R2:=fun x y H Q=>∃l b xs zs,x=.ref l/\y=.ref b/\bK K H l xs/\bK K H b zs/\xs.length+zs.length<=sizeLine/\∀p,H p=none->Q (.ref p) (ae H p (.lst (xs++zs)))
theorem Dd:k9 X (binaryOp .Add) (Hy X.K):=by
 intro ND s σ H x y v u Q I rx ry h;obtain⟨l,b,xs,zs,rfl,rfl,hH,hB,hz,q⟩:=h;cases rx;cases ry;obtain⟨NH,r,⟨o1,n1,e1,c1,d1,s1⟩,_⟩:=I.list hH;obtain⟨its2,r2,⟨o2,n2,e2,c2,d2,s2⟩,_⟩:=I.list hB;obtain⟨oc,od,odt,osl⟩:=o1;obtain⟨pc,pd,pdt,psl⟩:=o2;dsimp only at c1 d1 s1 c2 d2 s2;subst c1;subst d1;subst s1;subst c2;subst d2;subst s2;have hl1:=r.length;have hl2:=r2.length;have hsz:NH.toArray.size+its2.toArray.size<=sizeLine:=by rw[zI,zI];lia
 refine wpAny_binaryOp_concat (T:="list") (id:="list.__add__") ⟨_,e1,rfl⟩ ⟨_,e2,rfl⟩ noFill_list_add (by rfl) ?_;refine call_meets F.slot_list_add ⟨_,e1,rfl⟩ F.entry_list_add (F.args_list_add_2 _ _) (PySem.AutoSeq1.DM l NH.toArray n1 osl b its2.toArray n2 psl hsz) ⟨e1,e2,?_⟩;have ea:NH.toArray++its2.toArray=(NH++its2).toArray:=by simp
 rw[ea];exact⟨.ref _,_,I.lnew (t':=s.toks) (r.append r2) (by rw[zV];lia),rfl,q _ I.fresh⟩
end
section
variable{κ:Type}[DecidableEq κ]
noncomputable def eP(NE:List (κ×V))(k:κ):Option V:=(NE.find? fun kv=>decide (kv.1=k)).map (·.2)
noncomputable def eS(NE:List (κ×V))(k:κ)(v:V):List (κ×V) :=
 if(NE.any fun kv=>decide (kv.1=k))=true then NE.map (fun kv=>if kv.1=k then(kv.1,v) else kv) else NE++[(k,v)]
theorem mI{p:κ×V}{r:List (κ×V)}{k:κ}(e:p.1=k):eP (p::r) k=some p.2:=by simp[eP,List.find?_cons,e]
theorem mJ{p:κ×V}{r:List (κ×V)}{k:κ}(e:¬p.1=k):eP (p::r) k=eP r k:=by simp[eP,List.find?_cons,e]
theorem qy(k:κ):∀NE:List (κ×V),(NE.any fun kv=>decide (kv.1=k))=(eP NE k).isSome
 |[]=>rfl
 |p::r=>by
  rw[List.any_cons];by_cases e:p.1=k
  ·simp only[mI e,yV e,Bool.true_or,Option.isSome_some]
  ·rw[mJ e,z9 e,Bool.false_or];exact qy k r
theorem md(NE:List (κ×V))(k:κ)(v:V):(eS NE k v).length<=NE.length+1:=by
 unfold eS;split
 ·rw[zH];lia
 ·rw[zV,yX,List.length_nil];lia
theorem RelO.isSome_eq{o:Option V}{u:Option Value}(r:RelO o u):o.isSome=u.isSome:=by
 cases o with
 |none=>cases u with
  |none=>rfl
  | some _=>exact (show False from r).elim
 |some _=>cases u with
  | none=>exact (show False from r).elim
  |some _=>rfl
theorem KV.val{NE:List (κ×V)}{vs:List (κ×Value)}(r:KV NE vs)(k:κ):RelO (eP NE k) (valueAt vs k):=by
 unfold KV at r
 induction r with
 |nil=>exact True.intro
 |@cons p q ps qs h t ih =>
  obtain⟨h1,h2⟩:=h;by_cases e:p.1=k
  ·have e':q.1=k:=h1.symm.trans e
   have b:valueAt (q::qs) k=some q.2:=by simp[valueAt,List.find?_cons,e']
   rw[mI e,b];exact h2
  ·have e':¬q.1=k:=fun z=>e (h1.trans z)
   have b:valueAt (q::qs) k=valueAt qs k:=by simp[valueAt,List.find?_cons,e']
   rw[mJ e,b];exact ih
theorem KV.any{NE:List (κ×V)}{vs:List (κ×Value)}(r:KV NE vs)(k:κ):(NE.any fun kv=>decide (kv.1=k))=vs.any fun kv=>decide (kv.1=k):=by
 unfold KV at r
 induction r with
 |nil=>rfl
 |cons h t ih=>rw[List.any_cons,List.any_cons,ih,h.1]
theorem KV.repl{NE:List (κ×V)}{vs:List (κ×Value)}(r:KV NE vs)(k:κ){y:V}{u:Value}(ry:RelV y u) :
  KV (NE.map fun kv=>if kv.1=k then(kv.1,y) else kv) (vs.map fun kv=>if kv.1=k then(kv.1,u) else kv):=by
 unfold KV at r ⊢
 induction r with
 |nil=>exact .nil
 |@cons p q ps qs h t ih =>
  rw[zO,zO];refine .cons ?_ ih;obtain⟨h1,h2⟩:=h;by_cases e:p.1=k
  ·rw[yH e,yH (h1.symm.trans e)];exact⟨h1,ry⟩
  ·rw[yG e,yG (fun z=>e (h1.trans z))];exact⟨h1,h2⟩
theorem KV.put{NE:List (κ×V)}{vs:List (κ×Value)}(r:KV NE vs)(k:κ){y:V}{u:Value}(ry:RelV y u):KV (eS NE k y) (stored vs k u):=by
 unfold eS stored;rw[r.any k];by_cases e:(vs.any fun kv=>decide (kv.1=k))=true
 ·rw[yH e,yH e];exact r.repl k ry
 ·rw[yG e,yG e];exact Paired.snoc r ⟨rfl,ry⟩
theorem KV.length{NE:List (κ×V)}{vs:List (κ×Value)}(r:KV NE vs):NE.length=vs.length:=Paired.length r
end
theorem nM{P:Program}{w:World}{k:aT}{u:Value}(r:RelV (kV k) u):(b8 P w).is k u=true:=by
 cases k with
 | inl i=>obtain ⟨t,e⟩:=(show ∃ t,u=Value.int i t from r);subst e;exact tx P w i t
 | inr x=>obtain ⟨t,e⟩:=(show ∃ t,u=Value.str x t from r);subst e;exact tm P w x t
theorem pL{P:Program}{w:World}:∀{ks:List aT}{us:List Value},Vals (ks.map kV) us->ItemsAre (b8 P w) ks us
 |[],_,r=>by rw[List.map_nil]at r;cases r;exact .nil
 |k::ks,_,r=>by
  rw[zO]at r;cases r with
  |cons h t=>exact .cons (nM h) (pL t)
abbrev KT(H:Hp):List (List aT×V)->List (List aT×Addr×Value)->Prop:=Paired fun p q=>p.1=q.1/\H q.2.1=some (.tup (p.1.map kV))/\RelV p.2 q.2.2
theorem KT.val{H:Hp}{NE:List (List aT×V)}{xs:List (List aT×Addr×Value)}(r:KT H NE xs)(k:List aT):RelO (eP NE k) ((atKey xs k).map (·.2)):=by
 induction r with
 |nil=>exact True.intro
 |@cons p q ps qs h t ih =>
  obtain⟨h1,_,h2⟩:=h;by_cases e:p.1=k
  ·have e':q.1=k:=h1.symm.trans e
   have b:atKey (q::qs) k=some q.2:=by simp[atKey,List.find?_cons,e']
   rw[mI e,b];exact h2
  ·have e':¬q.1=k:=fun z=>e (h1.trans z)
   have b:atKey (q::qs) k=atKey qs k:=by simp[atKey,List.find?_cons,e']
   rw[mJ e,b];exact ih
theorem KT.repl{H:Hp}{NE:List (List aT×V)}{xs:List (List aT×Addr×Value)}(r:KT H NE xs)(k:List aT){y:V}{u:Value}(ry:RelV y u) :
  KT H (NE.map fun kv=>if kv.1=k then(kv.1,y) else kv) (xs.map (putAt k u)):=by
 induction r with
 |nil=>exact .nil
 |@cons p q ps qs h t ih =>
  rw[zO,zO];refine .cons ?_ ih;obtain⟨h1,h2,h3⟩:=h;unfold putAt;by_cases e:p.1=k
  ·rw[yH e,yH (h1.symm.trans e)];exact⟨h1,h2,ry⟩
  ·rw[yG e,yG (fun z=>e (h1.trans z))];exact⟨h1,h2,h3⟩
theorem KT.put{H:Hp}{NE:List (List aT×V)}{xs:List (List aT×Addr×Value)}(r:KT H NE xs)(k:List aT){b:Addr}{y:V}{u:Value}(hb:H b=some (.tup (k.map kV)))(ry:RelV y u) :
  KT H (eS NE k y) (storedH xs k b u):=by
 have e:(NE.any fun kv=>decide (kv.1=k))=(atKey xs k).isSome:=by
  rw[qy,(r.val k).isSome_eq,Option.isSome_map]
 unfold eS storedH;rw[e];by_cases q:(atKey xs k).isSome=true
 ·rw[yH q,yH q];exact r.repl k ry
 ·rw[yG q,yG q];exact Paired.snoc r ⟨rfl,hb,ry⟩
theorem KT.keeps{H H':Hp}{NE:List (List aT×V)}{xs:List (List aT×Addr×Value)}(r:KT H NE xs)(ht:∀b ys,H b=some (.tup ys)->H' b=some (.tup ys)):KT H' NE xs :=
 Paired.mapP r fun _ _ z=>⟨z.1,ht _ _ z.2.1,z.2.2⟩
section
variable{P:Program}{w:World}{H:Hp}{h:Heap}{a:Addr}
theorem Bg{u:HO}(ok:HOk P w H h)(e:Rd H a u):ObjOk P w H h a u:=e.ok ok
theorem om{NE:List (aT×V)}(ok:HOk P w H h)(e:Rd H a (.dK NE)):NE.length<=sizeLine/\(a==sysModules)=false/\∃vs,KV NE vs/\h.DictOf (b8 P w) a vs :=
 show ObjOk P w H h a (.dK NE) from Bg ok e
theorem BG{NE:List (aT×V)}(ok:HOk P w H h)(e:H a=some (.dK NE)):NE.length<=sizeLine/\(a==sysModules)=false/\∃vs,KV NE vs/\h.DictOf (b8 P w) a vs:=om ok (.inl e)
theorem kR{ks:List aT}(ok:HOk P w H h)(e:H a=some (.tup (ks.map kV))):(tupleKind (b8 P w)).is h ks a:=by
 obtain ⟨_,NH,r,o,h1,h2,n,h3⟩:=(show ObjOk P w H h a (.tup (ks.map kV)) from ok a _ e);exact ⟨o,NH.toArray,n,h1,h2,h3,by simpa using pL r⟩
theorem oj{NE:List (List aT×V)}(ok:HOk P w H h)(e:Rd H a (.dT NE)):NE.length<=sizeLine/\(a==sysModules)=false /\
  ∃xs,KT H NE xs/\h.DictOfH (tupleKind (b8 P w)) a xs:=by
 obtain ⟨z,y,xs,r,o,es,ep,h1,h2,h3,h4,h5⟩:=(show ObjOk P w H h a (.dT NE) from Bg ok e);refine ⟨z,y,xs,r,o,es,ep,h1,h2,h3,h4,fun x hx=>?_,h5⟩;have all:∀ {l:List (List aT × V)}{m:List (List aT × Addr × Value)},KT H l m->∀ x ∈ m,(tupleKind (b8 P w)).is h x.1 x.2.1:=by
  intro l m q
  induction q with
  |nil=>intro x hx;exact nomatch hx
  |@cons p q ps qs hq t ih =>
   intro x hx;rcases zT.mp hx with e|hx
   ·subst e
    exact kR ok (by rw[<- hq.1];exact hq.2.1)
   ·exact ih x hx
 exact all r x hx
theorem BD{NE:List (List aT×V)}(ok:HOk P w H h)(e:H a=some (.dT NE)):NE.length<=sizeLine/\(a==sysModules)=false /\
  ∃xs,KT H NE xs/\h.DictOfH (tupleKind (b8 P w)) a xs:=oj ok (.inl e)
end
def DGet(H:Hp)(a:Addr)(y:V)(r:Option V):Prop :=
 (∃NE k,Rd H a (.dK NE)/\y=kV k/\r=eP NE k)\/∃NE k b,Rd H a (.dT NE)/\y=.ref b/\H b=some (.tup (k.map kV))/\r=eP NE k
def DPut(H:Hp)(a:Addr)(y v:V)(H':Hp):Prop :=
 (∃NE k,H a=some (.dK NE)/\y=kV k/\NE.length<sizeLine/\H'=ae H a (.dK (eS NE k v))) \/
 ∃NE k b,H a=some (.dT NE)/\y=.ref b/\H b=some (.tup (k.map kV))/\NE.length<sizeLine/\H'=ae H a (.dT (eS NE k v))
theorem DGet.k{H:Hp}{a:Addr}{NE:List (aT×V)}{k:aT}(e:H a=some (.dK NE)):DGet H a (kV k) (eP NE k):=.inl ⟨NE,k,.inl e,rfl,rfl⟩
theorem DGet.t{H:Hp}{a b:Addr}{NE:List (List aT×V)}{k:List aT}(e:H a=some (.dT NE))(eb:H b=some (.tup (k.map kV))):DGet H a (.ref b) (eP NE k):=.inr ⟨NE,k,b,.inl e,rfl,eb,rfl⟩
theorem DPut.k{H:Hp}{a:Addr}{NE:List (aT×V)}{k:aT}{v:V}(e:H a=some (.dK NE))(hl:NE.length<sizeLine):DPut H a (kV k) v (ae H a (.dK (eS NE k v))):=.inl ⟨NE,k,e,rfl,hl,rfl⟩
theorem DPut.t{H:Hp}{a b:Addr}{NE:List (List aT×V)}{k:List aT}{v:V}(e:H a=some (.dT NE))(eb:H b=some (.tup (k.map kV)))(hl:NE.length<sizeLine) :
  DPut H a (.ref b) v (ae H a (.dT (eS NE k v))):=.inr ⟨NE,k,b,e,rfl,eb,hl,rfl⟩
section
variable{X:Cx}{ND:List (Addr×Obj)}{σ:St}{H:Hp}{s:Shared}{a:Addr}{y v:V}{u r:Value}{o:Option V}{A:Around}{E:Value->Shared->Prop}
theorem Inv.big(I:Inv X ND σ H s):sysModules<s.heap.objs.size:=by
 have h:mainGlobals<s.heap.objs.size:=(I.mod.glob.keeps I.bk).lt;exact Nat.lt_trans dC h
theorem xG{Q:Value->Shared->Prop}(hu:A.units+1<cLine)(I:Inv X ND σ H s)(g:DGet H a y (some v))(ry:RelV y u)(h:∀w' s',Inv X ND σ H s'->RelV v w'->Q w' s') :
  wpAny (model X.prog X.w) A (getItem (.ref a) u) Q E s:=by
 rcases g with⟨NE,k,e,ey,l⟩|⟨NE,k,b,e,ey,eb,l⟩
 ·subst ey
  obtain⟨z,hd,vs,rel,dd⟩:=om I.NM e;obtain⟨w',hw,rw'⟩:=RelO.some_of (v:=v) (o:=valueAt vs k) (by rw[l];exact rel.val k);exact wpAny_getItem_of (nM ry) dd.mapOf hw (h w' _ (I.tok _) rw')
 ·subst ey
  cases (show u=Value.ref b from ry);obtain ⟨z,hd,xs,rel,dd⟩:=oj I.NM e;obtain ⟨w',hw,rw'⟩:=RelO.some_of (v:=v) (o:=(atKey xs k).map (·.2)) (by rw [l];exact rel.val k);obtain ⟨p,hp,hp2⟩:=zE.mp hw;refine wpAny_getItem_heap (tupleKind_room_in1 hu) (kR I.NM eb) dd hp ?_;rw [hp2];exact h w' _ (I.tok _) rw'
theorem Li{Q:Value->Shared->Prop}(hu:A.units+1<cLine)(I:Inv X ND σ H s)(g:DGet H a y o)(ry:RelV y u)(h:∀s',Inv X ND σ H s'->Q (.bool o.isSome) s') :
  wpAny (model X.prog X.w) A (compareOp .In u (.ref a)) Q E s:=by
 rcases g with⟨NE,k,e,ey,l⟩|⟨NE,k,b,e,ey,eb,l⟩
 ·subst ey
  obtain⟨z,hd,vs,rel,dd⟩:=om I.NM e;refine wpAny_in_of (nM ry) hd dd.mapOf ?_;rw[<- (rel.val k).isSome_eq,<- l];exact h _ (I.tok _)
 ·subst ey
  cases (show u=Value.ref b from ry);obtain ⟨z,hd,xs,rel,dd⟩:=oj I.NM e;refine wpAny_in_heap (tupleKind_room_in1 hu) (kR I.NM eb) hd dd ?_;have q:=(rel.val k).isSome_eq;rw [Option.isSome_map] at q;rw [<- q,<- l];exact h _ (I.tok _)
theorem DF{Q:Value->Shared->Prop}(hu:A.units+1<cLine)(I:Inv X ND σ H s)(g:DGet H a y o)(ry:RelV y u)(h:∀s',Inv X ND σ H s'->Q (.bool (!o.isSome)) s') :
  wpAny (model X.prog X.w) A (compareOp .NotIn u (.ref a)) Q E s:=by
 rcases g with⟨NE,k,e,ey,l⟩|⟨NE,k,b,e,ey,eb,l⟩
 ·subst ey
  obtain⟨z,hd,vs,rel,dd⟩:=om I.NM e;refine wpAny_notIn_of (nM ry) hd dd.mapOf ?_;rw[<- (rel.val k).isSome_eq,<- l];exact h _ (I.tok _)
 ·subst ey
  cases (show u=Value.ref b from ry);obtain ⟨z,hd,xs,rel,dd⟩:=oj I.NM e;refine wpAny_notIn_heap (tupleKind_room_in1 hu) (kR I.NM eb) hd dd ?_;have q:=(rel.val k).isSome_eq;rw [Option.isSome_map] at q;rw [<- q,<- l];exact h _ (I.tok _)
theorem uo{h':Heap}{t':Nat}{ob:HO}(I:Inv X ND σ H s)(mu:xU (H a))(hs:Heap.SameBut a s.heap h')(he:∃q,h'.get? a=some q)(new:ObjOk X.prog X.w (ae H a ob) h' a ob) :
  Inv X ND σ (ae H a ob) { s with heap:=h',toks:=t' } :=
 I.write (x:=a) (e:=a) mu (.inl rfl) (fun b q hb z=>(hs.2 b hb).trans z) he new
theorem GM{P:Program}{w:World}{H':Hp}{h':Heap}{NE:List (aT×V)}{vs:List (aT×Value)}(z:NE.length<=sizeLine)(hd:(a==sysModules)=false)(rel:KV NE vs)(dd:h'.DictOf (b8 P w) a vs) :
  ObjOk P w H' h' a (.dK NE):=⟨z,hd,vs,rel,dd⟩
theorem pV{H':Hp}{Q:Unit->Shared->Prop}(hu:A.units+1<cLine)(I:Inv X ND σ H s)(g:DPut H a y v H')(ry:RelV y u)(rv:RelV v r)(h:∀s',Inv X ND σ H' s'->Q () s') :
  wpAny (model X.prog X.w) A (setItem (.ref a) u r) Q E s:=by
 rcases g with⟨NE,k,e,ey,l,eH⟩|⟨NE,k,b,e,ey,eb,l,eH⟩
 ·subst ey eH
  obtain⟨z,hd,vs,rel,dd⟩:=BG I.NM e;have hz:vs.length<=sizeLine:=by rw[<- rel.length];exact z
  have hl:(eS NE k v).length<=sizeLine:=by have:=md NE k v;lia
  refine wpAny_setItem_pairs (hsz:=hz) (nM ry) dd fun h' dd' hs=>h _ ?_
  have he:∃q,h'.get? a=some q:=let⟨q,_,_,hq,_⟩:=dd';⟨q,hq⟩;exact uo I (by rw[e];exact True.intro) hs he (GM hl hd (rel.put k rv) dd')
 ·subst ey eH
  cases (show u=Value.ref b from ry);obtain ⟨z,hd,xs,rel,dd⟩:=BD I.NM e;have hz:xs.length <= sizeLine:=by rw [<- Paired.length rel];exact z
  have hl:(eS NE k v).length<=sizeLine:=by have:=md NE k v;lia
  refine wpAny_setItem_heap (hsz:=hz) (tupleKind_room_in1 hu) (kR I.NM eb) dd fun h' dd' hs=>h _ ?_
  obtain⟨q,es,ep,hq,h2,h3,h4,_,h5⟩:=dd';refine uo I (by rw[e];exact True.intro) hs ⟨q,hq⟩ ⟨hl,hd,_,(rel.put k eb rv).keeps fun c ys ec=>?_,q,es,ep,hq,h2,h3,h4,h5⟩;rw[ad (vh ec e (fun z=>nomatch z))];exact ec
end
theorem tB{X:Cx}{ND:List (Addr×Obj)}{σ:St}{H:Hp}{s:Shared}{a:Addr}{y:V}{o:Option V}(I:Inv X ND σ H s)(g:DGet H a y o):s.TypeIs (.ref a) "dict":=by
 rcases g with⟨NE,k,e,_,_⟩|⟨NE,k,b,e,_,_,_⟩
 ·obtain⟨_,_,vs,_,dd⟩:=om I.NM e
  exact dd.typeIs
 ·obtain⟨_,_,xs,_,dd⟩:=oj I.NM e
  exact dd.typeIs
theorem AH{P:Program}{w:World}{H:Hp}(h:Heap)(hb:sysModules<h.objs.size):ObjOk P w H (h.push { cls:=.type "dict",data:=.dict #[] }) h.objs.size (.dK []) :=
 ⟨Nat.zero_le _,beq_eq_false_iff_ne.mpr (Ne.symm (zU hb)),[],.nil,Heap.DictOf.new h⟩
def wu:TE:=fun _ H Q=>∀p,H p=none->Q (.ref p) (ae H p (.dK []))
section
variable{X:Cx}{pos:Pos}
theorem Ac:PE X (.Dict [] [] pos) wu:=fun ND s σ H Q I h =>
 wpAny_Dict_empty ⟨.ref s.heap.objs.size,_,I.laid (a:=s.heap.objs.size) (o:=.dK []) (t':=s.toks) (fun _ _ q=>zG _ q) (zP _) (AH s.heap I.big),rfl,h _ (I.NM.fresh (zP _))⟩
end
open PySem.Calls
section
variable{prog:Program}{w:World}{A:Around}{E:Value->Shared->Prop}{s:Shared}
theorem vn(d:Addr)(hd:(d==sysModules)=false) :
  MeetsIn prog w (Builtin.«dict.__len__» ⟨[.ref d],[]⟩) (fun _ R s=>∃xs:List (List aT×Addr×Value),s.heap.DictOfH (tupleKind (b8 prog w)) d xs/\R (.ok (.ret (.int xs.length s.toks))) { s with toks:=s.toks+1 }) :=
 .of_wp fun A R s hq0=>by
  obtain⟨NE,hm,h⟩:=hq0;obtain⟨o,es,ep,ho,hc,hdat,hk,hp,hn⟩:=hm;show wpAny _ _ (dictSize d>>=_) _ _ s;unfold dictSize;refine yE (yE (wpAny_dictEntries ho hdat (yF ?_)));show wpAny _ _ (Builtin.Dict.pendingCount d>>=_) _ _ s;refine yE (wpAny_pendingCount_other hd ?_);refine wpAny_ret_mkInt ?_;have:es.size=NE.length:=size_of_entries hk;simpa [this] using h
theorem vN{d:Addr}{xs:List (List aT×Addr×Value)}{Q:Value->Shared->Prop}(hd:(d==sysModules)=false)(hm:s.heap.DictOfH (tupleKind (b8 prog w)) d xs)(hfit:(xs.length:Int)<2^63)
  (h:Q (.int xs.length (s.toks+1)) { s with toks:=s.toks+1+1 }):wpAny (model prog w) A (call (.builtin "len") [.ref d]) Q E s:=by
 refine Calls.call_function_entry kind_len plain_len entry_len (args_len1 _) ?_;unfold Builtin.«len»;refine yE (m:=oneArg "len" _) (yF ?_);refine yE (m:=callSpecial? (.ref d) (Str.ofString "__len__")) (wpAny_callSpecial?_slot (name:=Str.ofString "__len__") hm.typeIs PySem.F.slot_dict_len
  (call_meetsIn PySem.F.slot_dict_len hm.typeIs PySem.F.entry_dict_len (PySem.F.args_dict_len_1 _) (vn d hd) ⟨xs,hm,?_⟩))
 show wpAny _ _ _ _ _ { s with toks:=s.toks+1 };refine yE (yR (yF ?_));refine yE (wpAny_letGo ?_);show wpAny _ _ (if((xs.length:Nat):Int)<0 then _ else _) _ _ _;rw[yG oM];show wpAny _ _ (if((xs.length:Nat):Int) ≥ 2^63 then _ else _) _ _ _;rw[yG oM];exact yE (wpAny_mkInt (yF ⟨_,rfl,h⟩))
end
section
variable{X:Cx}
theorem xM:cJ X (.builtin "len") (fun xs H Q=>∃a NE,xs=[V.ref a]/\H a=some (.dT NE)/\Q (.int NE.length) H):=by
 intro ND s σ H xs us Q I r h;obtain⟨a,NE,rfl,ha,q⟩:=h;obtain⟨u,rfl,ru⟩:=eI r;cases ru;obtain⟨z,hd,xs,rel,dd⟩:=BD I.NM ha;have hl:=Paired.length rel;refine vN hd dd (by rw[<- hl];rw[sizeLine_eq]at z;lia) ?_;rw[<- hl];exact⟨.int NE.length,H,I.tok _,⟨_,rfl⟩,q⟩
end
end L2
namespace DD
open PySem PySem.Spec PyProof.Rows L2
section
variable{K:Frag}{F F':Addr->Prop}{H H':Hp}{A:List Addr}
open Classical in
variable{σD:DSt}{σ:L2.St}{R:Ro}{d:D}{v:V}
end
end DD
namespace L2
open PySem PySem.Spec PyProof.Rows
noncomputable def B5(x:Str):It:=⟨fun i _=>∃c,x.cps[i]?=some c,fun i H v H'=>H'=H/\∃c,x.cps[i]?=some c/\v=.str ⟨#[c]⟩,fun i _=>x.cps[i]?=none⟩
theorem yi{P:Program}{w:World}{K:Frag}{tg:Expr}(x:Str)(t:Tok)(it:Addr):jA P w K tg (B5 x) [it] it (fun i h=>h.IsStrIter it "str_ascii_iterator" x t i) where
 mem:=by simp
 obj:=fun i h st b hb=>by
  have e:b=it:=by simpa using hb
  subst e;obtain⟨o,e,c,d⟩:=st;exact⟨o,e,fun v z=>by rw[d]at z;cases z⟩
 keep:=fun i h h' st k=>by
  obtain⟨o,e,r⟩:=st;exact⟨o,k it (by simp) o e,r⟩
 item:=by
  intro X hP hw hK hc i ND s σ H E I hf st hg;subst hP hw hK;obtain⟨c,hx⟩:=hg;obtain⟨f0,f1,f2,f3,f4,f5⟩:=hf it (by simp);refine wpAny_pyNext_ascii_item st hx fun h' st' sb=>?_
  have I1:Inv X ND σ H { s with heap:=h',toks:=s.toks+1 }:=I.turned (fun b o hb e=>(sb.2 b hb).trans e) f0 f1 f3 f4 f5;obtain⟨o,e,cl,d⟩:=id st';exact⟨_,rfl,lI (s:={ s with heap:=h',toks:=s.toks+1 }) e cl d dC ⟨.str ⟨#[c]⟩,H,I1,⟨_,rfl⟩,⟨rfl,c,hx,rfl⟩,st',fun b hb=>(hf b hb).1⟩⟩
 done:=by
  intro X hP hw hK hc i ND s σ H E I hf st hg;subst hP hw hK;obtain⟨f0,f1,f2,f3,f4,f5⟩:=hf it (by simp);exact wpAny_pyNext_ascii_end (I.ok.hd hc) st hg fun h' eb=>⟨rfl,I.turned (t':=s.toks) (fun b o hb e=>eb b o hb e) f0 f1 f3 f4 f5⟩
 self:=fun _ _ _ _ _ st h=>wpAny_pyIter_striter_ascii st h
section
variable{X:Cx}{pos:Pos}
def Cn(ta:TA):TE:=fun σ H Q=>ta σ H fun vs H1=>∃i j:Nat,vs=[.int (i:Int),.int (j:Int)]/\i<=j/\j<=1000/\∀p,H1 p=none->Q (.ref p) (ae H1 p (.lst ((List.range' i (j-i)).map fun(q:Nat)=>V.int (q:Int))))
theorem wN{a b:Expr}{ta:TA}{p1 p2 pos2:Pos}(hc:X.calm=true)(hgl:Gl X "list")(hml:X.mg "list"=none)(hgr:Gl X "range")(hmr:X.mg "range"=none)(ha:PA X [a,b] ta)
  (hs:starEach [a,b] X.env=[(false,eval a X.env),(false,eval b X.env)]:=by rfl) (hs2:starEach [b] X.env=[(false,eval b X.env)]:=by rfl) (hs1:starEach [.Call (.Name "range" p2) [a,b] [] pos2] X.env=[(false,eval (.Call (.Name "range" p2) [a,b] [] pos2) X.env)]:=by rfl) :
  PE X (.Call (.Name "list" p1) [.Call (.Name "range" p2) [a,b] [] pos2] [] pos) (Cn ta):=by
 intro ND s σ H Q I h;refine Call_ (c8 I hgl hml j5 (PyProof.Rows.callWith_type1 ?_ (by rw[hs1];rfl) (by rfl)));rw[hs1];refine Calls.spliced_cons (Call_ (c8 I hgr hmr boot_range (PyProof.Rows.callWith_type1 (aB (ha pos2 ND s σ H _ I h) fun us s1 hq0=>?_) (by rw[hs,hs2]) (by rw[hs2];rfl))));obtain⟨vs,H1,I1,r1,i,j,e,hij,hj,q⟩:=hq0;subst e;obtain⟨u1,us1,rfl,ru1,r2⟩:∃u us',us=u::us'/\RelV (.int (i:Int)) u/\Vals [.int (j:Int)] us':=by cases r1 with|cons r rr=>exact⟨_,_,rfl,r,rr⟩
 obtain⟨u2,us2,rfl,ru2,r3⟩:∃u us',us1=u::us'/\RelV (.int (j:Int)) u/\Vals [] us':=by cases r2 with|cons r rr=>exact⟨_,_,rfl,r,rr⟩
 cases r3;obtain⟨t1,rfl⟩:=ru1;obtain⟨t2,rfl⟩:=ru2;refine call_range_2 (Calls.spliced_nil ?_);have I2:Inv X ND σ H1 { s1 with heap:=s1.heap.push { cls:=.type "range",data:=.fields #[.int (i:Int) t1,.int (j:Int) t2,.int 1 s1.toks] },toks:=s1.toks+1 }:=I1.kept fun b o e=>zG _ e
 refine call_list_range (n:=j-i) (I.ok.hd hc) (IsRange.new ..) (small_one oM oM oM oM) (by rw[rangeSize_one];split<;>lia) oM fun h' tk acc' c' hk hS hacc=>?_
 have hv:=jT acc'.toList i (fun k v e=>by
  obtain⟨t,e2⟩:=hacc.2 k v (by simpa using e);exact⟨t,by rw[e2];congr 1;lia⟩)
 rw[show acc'.toList.length=j-i by simpa using hacc.1]at hv;exact⟨.ref _,_,I2.laid (o:=.lst ((List.range' i (j-i)).map fun(q:Nat)=>V.int (q:Int))) hk (zP _) ⟨yY (pD (by simp;lia)),acc'.toList,c',hv,hS⟩,rfl,q _ I2.fresh⟩
end
def B7(X:Cx)(ND:List (Addr×Obj))(b:Addr):Prop:=b≠X.env.locals/\b∉X.fs/\(b∈X.ex\/X.s₀.heap.objs.size<=b)/\(∀x c,X.env.cells.lookup x=some c->c≠b)/\∀p∈X.pn++ND,p.1≠b
section
variable{X:Cx}{ND:List (Addr×Obj)}{σ:St}{key:Value}{kw:List (Str×Value)}{l I S:Addr}{ns:List Int}{R:Result->Shared->Prop}
theorem Ai(hh:X.A.handled=none)(kf:Nat->Int)(J:Nat->Hp->Prop)(hl:∀i H,J i H->bK X.K H l (ns.map V.int))
  (turn:∀(i:Nat)(n:Int)(u:Value)(pl:List (Addr×Obj))(s:Shared)(H:Hp),ns[i]?=some n->RelV (V.int n) u->J i H->Inv X (ND++pl) σ H s->(key=.none/\kf i=n/\J (i+1) H) \/
   ∃q,key=.ref q/\wpAny (model X.prog X.w) X.A.in1 (call (.ref q) [u]) (EP X (ND++pl) σ (fun y H'=>y=.int (kf i)/\J (i+1) H')) (fun _ _=>False) s)
  (hR:∀(i:Nat)(n:Int)(u:Value)(H:Hp)(s:Shared),ns[i]?=some n->(∀j,j<ns.length->kf i<=kf j/\(j<i->kf i<kf j))->J ns.length H->Inv X ND σ H s->RelV (V.int n) u->R (.ok (.ret u)) s)
  (fI:B7 X ND I) (fS:B7 X ND S) (hIS:I≠S) :
  ∀(r j i:Nat)(H:Hp)(s:Shared)(vb:Value)(tb:Tok)(c:Nat),ns.length-(j+1)=r->j+1<=ns.length->Inv X ND σ H s->H I=none->H S=none ->
   s.heap.get? S=some (seqObj "list" #[vb,.int (kf i) tb] c)->s.heap.IsListIter I l (j+1)->(∃n,ns[i]?=some n/\RelV (V.int n) vb)->i<=j->J (j+1) H->(∀j',j'<=j->kf i<=kf j'/\(j'<i->kf i<kf j')) ->
   codeAny (model X.prog X.w) X.A (.builtin "min.loop" ⟨[.ref I,key,.ref S],kw⟩) R s:=by
 have hname:(toString "min"++toString ".loop":String)="min.loop":=by decide
 intro r
 induction r with
 |zero =>
  intro j i H s vb tb c hr hj Iv nI nS gS it hvb hij hJ hb;have hin:j+1=ns.length:=by lia
  obtain⟨NH,rv,pl,_⟩:=Iv.list (hl _ _ hJ);have hlen:NH.length=ns.length:=by rw[<- rv.length,zH]
  have hL:s.heap.IsList l NH.toArray:=pl.isList;have hlI:l≠I:=fun e=>by
   obtain⟨o,e1,e2,_⟩:=hL;obtain⟨o',e3,e4,_⟩:=it;rw[e,e3]at e1;cases e1;rw[e4]at e2;simp at e2
  have W:=Walks.list (prog:=X.prog) (w:=X.w) (A:=X.A.in1) hh I l hlI NH.toArray;have hsz:NH.toArray.size=NH.length:=zI ..;refine codeAny_builtin PySem.F.entry_min_loop ?_;rw[Around.under_plainId PySem.F.plain_min_loop _];show wpAny _ X.A.in1 (seqItems? (.ref S)>>=_) _ _ _;refine yE (wpAny_seqItems gS rfl ?_);show wpAny _ X.A.in1 (tryCatch (pyNext (.ref I)) _>>=_) _ _ _;refine yE (wpAny_tryCatch (W.done _ _ _ ⟨by rw[hsz,hlen,<- hin];exact it,hL⟩ fun h' tk' hk'=>?_));have V1:Inv X ND σ H { s with heap:=h',toks:=tk' }:=Iv.turned (fun b o hb' e=>hk' b o (by simpa using hb') e) nI fI.1 fI.2.2.1 fI.2.2.2.1 fI.2.2.2.2;have gS':=hk' S _ (by simpa using hIS.symm) gS;show wpAny _ X.A.in1 (updateSeq S (fun _=>#[])>>=_) _ _ _;refine yE ?_;refine wpAny_updateSeq gS' rfl (yE (wpAny_letGo (yF ?_)));obtain⟨n,e1,e2⟩:=hvb;have s1:=Heap.SameBut.update h' S (Obj.mapSeq fun _=>(#[]:Array Value));exact hR i n vb H _ e1 (fun j' hj'=>hb j' oM) (hin▸hJ) (V1.turned (t':=tk') (fun b o hb' e=>(s1.2 b hb').trans e) nS fS.1 fS.2.2.1 fS.2.2.2.1 fS.2.2.2.2) e2
 |succ r ih =>
  intro j i H s vb tb c hr hj Iv nI nS gS it hvb hij hJ hb;have hlt:j+1<ns.length:=by lia
  obtain⟨NH,rv,pl,_⟩:=Iv.list (hl _ _ hJ);have hlen:NH.length=ns.length:=by rw[<- rv.length,zH]
  have hL:s.heap.IsList l NH.toArray:=pl.isList;have hlI:l≠I:=fun e=>by
   obtain⟨o,e1,e2,_⟩:=hL;obtain⟨o',e3,e4,_⟩:=it;rw[e,e3]at e1;cases e1;rw[e4]at e2;simp at e2
  have W:=Walks.list (prog:=X.prog) (w:=X.w) (A:=X.A.in1) hh I l hlI NH.toArray;have hsz:NH.toArray.size=NH.length:=zI ..;refine codeAny_builtin PySem.F.entry_min_loop ?_;rw[Around.under_plainId PySem.F.plain_min_loop _];show wpAny _ X.A.in1 (seqItems? (.ref S)>>=_) _ _ _;refine yE (wpAny_seqItems gS rfl ?_);show wpAny _ X.A.in1 (tryCatch (pyNext (.ref I)) _>>=_) _ _ _;refine yE (wpAny_tryCatch (W.item (j+1) _ _ _ (by rw[hsz];lia) ⟨it,hL⟩ fun u h' tk' hP hst' hk'=>?_));have hu:NH[j+1]?=some u:=by simpa using hP
  obtain⟨n,hn⟩:∃n,ns[j+1]?=some n:=⟨_,zF hlt⟩;have ru:RelV (V.int n) u:=by
   obtain⟨u',e1,e2⟩:=rv.get (i:=j+1) (x:=V.int n) (by rw[zR,hn];rfl);rw[hu]at e1;cases e1;exact e2
  have V1:Inv X ND σ H { s with heap:=h',toks:=tk' }:=Iv.turned (fun b o hb' e=>hk' b o (by simpa using hb') e) nI fI.1 fI.2.2.1 fI.2.2.2.1 fI.2.2.2.2;have gS':=hk' S _ (by simpa using hIS.symm) gS;have hf:∀b∈[I,S],dJ X ND H b:=fun b hb'=>by
   rcases zT.mp hb' with rfl|hb'
   ·exact⟨nI,fI⟩
   ·rw[zM.mp hb'];exact⟨nS,fS⟩
  obtain⟨oI,goI,coI,doI⟩:=hst'.1;have ho:∀b∈[I,S],∃o,h'.get? b=some o/\∀v:Option Value,o.data≠.cell v:=fun b hb'=>by
   rcases zT.mp hb' with rfl|hb'
   ·exact⟨_,goI,fun v z=>by rw[doI]at z;cases z⟩
   ·rw[zM.mp hb'];exact⟨_,gS',fun v z=>nomatch z⟩
  have V2:Inv X (ND++fW [I,S] h') σ H { s with heap:=h',toks:=tk' }:=V1.pinned hf ho
  -- what follows the key's value
  have rest:∀(t2:Tok)(H2:Hp)(s2:Shared),Inv X (ND++fW [I,S] h') σ H2 s2->J (j+1+1) H2->∀(Rf:PySem.Fin->Shared->Prop)(Ef:Value->Shared->Prop),
    (∀s3 H3 vb3 i3 t3 c3,Inv X ND σ H3 s3->H3 I=none->H3 S=none->s3.heap.get? S=some (seqObj "list" #[vb3,.int (kf i3) t3] c3)->s3.heap.IsListIter I l (j+1+1)->(∃n,ns[i3]?=some n/\RelV (V.int n) vb3)->i3<=j+1->J (j+1+1) H3->(∀j',j'<=j+1->kf i3<=kf j'/\(j'<i3->kf i3<kf j')) ->
     Rf (.again (.builtin "min.loop" ⟨[.ref I,key,.ref S],kw⟩)) s3) ->
    wpAny (model X.prog X.w) X.A.in1 ((do
     let better <- tryCatch (holding [u,.int (kf (j+1)) t2] do
      let answer <- richCompare .Lt (.int (kf (j+1)) t2) (.int (kf i) tb)
      let yes <- holding [answer] (truthy answer)
      letGo [answer]
      pure yes) fun e=>do
       updateSeq S fun _=>#[]
       letGo ([.int (kf (j+1)) t2,u]++[vb,.int (kf i) tb].reverse) [e]
       throw e
     if better=true then do
      updateSeq S fun _=>#[u,.int (kf (j+1)) t2]
      letGo [.int (kf i) tb,vb]
      again (.builtin "min.loop" ⟨[.ref I,key,.ref S],kw⟩)
     else do
      letGo [u,.int (kf (j+1)) t2]
      again (.builtin "min.loop" ⟨[.ref I,key,.ref S],kw⟩)):Sem PySem.Fin) Rf Ef s2:=by
   intro t2 H2 s2 V3 J3 Rf Ef ay;have pI:=V3.pin (I,oI) (zK _ (zK _ (df (by simp) goI)));have pS:=V3.pin (S,seqObj "list" #[vb,.int (kf i) tb] c) (zK _ (zK _ (df (by simp) gS')));have V4:Inv X ND σ H2 s2:=V3.unpinned;refine yE (wpAny_tryCatch (yR (yE (CmpOf.ints_lt (prog:=X.prog) (w:=X.w) (A:=X.A.in1) (P:=fun i v=>∃t,v=.int (kf i) t) kf (fun i v h=>h) (j+1) i _ _ _ _ _ ⟨t2,rfl⟩ ⟨tb,rfl⟩ ?_))));refine yE (yR (wpAny_truthy_bool ?_));refine yE (wpAny_letGo (yF ?_));have it2:s2.heap.IsListIter I l (j+1+1):=⟨oI,pI.1,coI,doI⟩;by_cases hb':kf (j+1)<kf i
   ·simp only[hb',decide_true,if_true]
    have s1:=Heap.SameBut.update s2.heap S (Obj.mapSeq fun _=>#[u,.int (kf (j+1)) t2]);obtain⟨c2,hc2⟩:∃c2,(s2.heap.update S (Obj.mapSeq fun _=>#[u,.int (kf (j+1)) t2])).get? S=some (seqObj "list" #[u,.int (kf (j+1)) t2] c2):=⟨_,get?_update_seq pS.1 fun _=>#[u,.int (kf (j+1)) t2]⟩;refine yE ?_;refine wpAny_updateSeq pS.1 rfl (yE (wpAny_letGo (yF ?_)));obtain⟨sh,sg,sd,stk,sos⟩:=s2;refine ay _ H2 u (j+1) t2 c2 (V4.turned (t':=stk) (fun b o hb'' e=>(s1.2 b hb'').trans e) pS.2.1 fS.1 fS.2.2.1 fS.2.2.2.1 fS.2.2.2.2) pI.2.1 pS.2.1 hc2 ⟨oI,(s1.2 I hIS).trans pI.1,coI,doI⟩ ⟨n,hn,ru⟩ (zP _) J3 fun j' hj'=>?_
    by_cases e:j'=j+1
    ·subst e
     exact⟨by lia,fun _=>by lia⟩
    ·have hb1:=hb j' oM
     have hb2:=hb1.1;exact⟨by lia,fun _=>by lia⟩
   ·simp only[hb',decide_false,yA,if_false]
    refine yE (wpAny_letGo (yF ?_));refine ay _ H2 vb i tb c V4 pI.2.1 pS.2.1 pS.1 it2 hvb oM J3 fun j' hj'=>?_
    by_cases e:j'=j+1
    ·subst e
     exact⟨by lia,fun _=>by lia⟩
    ·exact hb j' oM
  have ay:∀s3 H3 vb3 i3 t3 c3,Inv X ND σ H3 s3->H3 I=none->H3 S=none->s3.heap.get? S=some (seqObj "list" #[vb3,.int (kf i3) t3] c3)->s3.heap.IsListIter I l (j+1+1)->(∃n,ns[i3]?=some n/\RelV (V.int n) vb3)->i3<=j+1->J (j+1+1) H3->(∀j',j'<=j+1->kf i3<=kf j'/\(j'<i3->kf i3<kf j')) ->
    ((Code.builtin "min.loop" ⟨[.ref I,key,.ref S],kw⟩).quiet=true/\codeAny (model X.prog X.w) X.A (.builtin "min.loop" ⟨[.ref I,key,.ref S],kw⟩) R s3):=fun s3 H3 vb3 i3 t3 c3 a1 a2 a3 a4 a5 a6 a7 a8 a9 =>
   ⟨plainId_quiet PySem.F.plain_min_loop _,ih (j+1) i3 H3 s3 vb3 t3 c3 oM hlt a1 a2 a3 a4 a5 a6 a7 a8 a9⟩
  rcases turn (j+1) n u _ _ H hn ru hJ V2 with⟨hk0,hkf,J2⟩|⟨q,hkq,call0⟩
  ·subst hk0
   obtain⟨t2,rfl⟩:=ru;refine yE (yF ?_)
   have:=rest t2 H _ V2 J2
   rw[hkf]at this;exact this _ _ ay
  ·subst hkq
   refine yE (wpAny_tryCatch (yR (yS call0 (fun x s'' he=>?_) fun _ _ hF=>hF.elim)));obtain⟨y,H3,V3,ry,rfl,J3⟩:=he;obtain⟨t2,rfl⟩:=ry;exact rest t2 H3 s'' V3 J3 _ _ ay
end
section
variable{X:Cx}{ND:List (Addr×Obj)}{σ:St}{ko:Option Value}{kws:List (Str×Value)}{l:Addr}{ns:List Int}{H:Hp}{s:Shared}{Q:VK}{E:Value->Shared->Prop}
theorem qY(hh:X.A.handled=none)(kf:Nat->Int)(J:Nat->Hp->Prop)(hl:∀i H,J i H->bK X.K H l (ns.map V.int))
  (hb:Builtin.Builtins.bindParams "min" ["key","default"] 0 ⟨[],kws⟩=pure [ko,some .none]) (ha:argsOk "min" ⟨[.ref l],kws⟩)
  (turn:∀(i:Nat)(n:Int)(u:Value)(pl:List (Addr×Obj))(s:Shared)(H:Hp),ns[i]?=some n->RelV (V.int n) u->J i H->Inv X (ND++pl) σ H s->(ko.getD .none=.none/\kf i=n/\J (i+1) H) \/
   ∃q,ko.getD .none=.ref q/\wpAny (model X.prog X.w) X.A.in1 (call (.ref q) [u]) (EP X (ND++pl) σ (fun y H'=>y=.int (kf i)/\J (i+1) H')) (fun _ _=>False) s)
  (hQ:∀(i:Nat)(n:Int)(H:Hp),ns[i]?=some n->(∀j,j<ns.length->kf i<=kf j/\(j<i->kf i<kf j))->J ns.length H->Q (.int n) H) (hE:ns=[]->Q .non H)
  (Iv:Inv X ND σ H s) (J0:J 0 H):wpAny (model X.prog X.w) X.A (call (.builtin "min") [.ref l] kws) (EP X ND σ Q) E s:=by
 have hname:(toString "min"++toString ".loop":String)="min.loop":=by decide
 obtain⟨NH,rv,pl,_⟩:=Iv.list (hl _ _ J0);have hlen:NH.length=ns.length:=by rw[<- rv.length,zH]
 have hL:s.heap.IsList l NH.toArray:=pl.isList;obtain⟨ol,hol,_⟩:=id hL;have hll:l<s.heap.objs.size:=yI hol;refine kmk_tree PySem.F.kind_min PySem.F.plain_min PySem.F.entry_min ha ?_;show wpAny _ X.A.in1 (Builtin.Builtins.bindParams "min" ["key","default"] 0 ⟨[],kws⟩>>=_) _ _ s;refine yE (wpAny_of_eq hb ?_);refine yE (yF ?_);refine yE (wpAny_pyIter_list hL ?_);refine yE (wpAny_newList ?_ (Nat.zero_le _));rw[hname];have hS:(s.heap.push { cls:=.type "list_iterator",data:=.fields #[.ref l,.int 0 0] }).objs.size=s.heap.objs.size+1:=size_push' ..;have hlI:l≠s.heap.objs.size:=zU hll;refine yF ⟨plainId_quiet PySem.F.plain_min_loop _,?_⟩;generalize hI:s.heap.objs.size=I at *;generalize hSS:(s.heap.push { cls:=.type "list_iterator",data:=.fields #[.ref l,.int 0 0] }).objs.size=S at *;have nI:H I=none:=by rw[<- hI];exact Iv.fresh
 have nS:H S=none:=Iv.NM.fresh (by rw[hS,hI];lia);have hIS:I≠S:=by rw[hS];lia
 have gI:((s.heap.push { cls:=.type "list_iterator",data:=.fields #[.ref l,.int 0 0] }).push (seqObj "list" #[] 0)).get? I=some { cls:=.type "list_iterator",data:=.fields #[.ref l,.int 0 0] }:=by
  rw[<- hI];exact zG _ (zY _ rfl)
 have gS:((s.heap.push { cls:=.type "list_iterator",data:=.fields #[.ref l,.int 0 0] }).push (seqObj "list" #[] 0)).get? S=some (seqObj "list" #[] 0):=by
  rw[<- hSS];exact zY _ rfl
 have kp:∀b o,s.heap.get? b=some o->((s.heap.push { cls:=.type "list_iterator",data:=.fields #[.ref l,.int 0 0] }).push (seqObj "list" #[] 0)).get? b=some o:=fun b o e=>zG _ (zG _ e)
 have fI:B7 X ND I:=(Iv.fpOk (b:=I) (Nat.le_of_eq hI) nI).2;have fS:B7 X ND S:=(Iv.fpOk (b:=S) (by rw[hS,hI];lia) nS).2;generalize hH1:((s.heap.push { cls:=.type "list_iterator",data:=.fields #[.ref l,.int 0 0] }).push (seqObj "list" #[] 0))=h1 at gI gS kp;have V1:Inv X ND σ H { s with heap:=h1,toks:=s.toks }:=Iv.kept kp;have hL1:h1.IsList l NH.toArray:=⟨ol,kp _ _ hol,by obtain⟨o2,e2,r2⟩:=hL;rw[hol]at e2;cases e2;exact r2⟩;have it0:h1.IsListIter I l 0:=⟨_,gI,rfl,rfl⟩;have W:=Walks.list (prog:=X.prog) (w:=X.w) (A:=X.A.in1) hh I l hlI NH.toArray;have hsz:NH.toArray.size=NH.length:=zI ..;have ay:∀(i:Nat)(n:Int)(u:Value)(H:Hp)(s:Shared),ns[i]?=some n->(∀j,j<ns.length->kf i<=kf j/\(j<i->kf i<kf j))->J ns.length H->Inv X ND σ H s->RelV (V.int n) u->EP X ND σ Q u s :=
  fun i n u H s e1 e2 e3 e4 e5=>⟨_,H,e4,e5,hQ i n H e1 e2 e3⟩
 show codeAny _ X.A (.builtin "min.loop" ⟨[.ref I,ko.getD .none,.ref S],[("default",.none)]⟩) _ { s with heap:=h1,toks:=s.toks };refine codeAny_builtin PySem.F.entry_min_loop ?_;rw[Around.under_plainId PySem.F.plain_min_loop _];show wpAny _ X.A.in1 (seqItems? (.ref S)>>=_) _ _ _;refine yE (wpAny_seqItems gS rfl ?_);show wpAny _ X.A.in1 (tryCatch (pyNext (.ref I)) _>>=_) _ _ _;by_cases hn:ns=[]
 ·subst hn
  refine yE (wpAny_tryCatch (W.done _ _ _ ⟨by rw[hsz,hlen];exact it0,hL1⟩ fun h' tk' hk'=>?_));refine yE (wpAny_rule (yF ?_));exact⟨.non,H,V1.turned (fun b o hb' e=>hk' b o (by simpa using hb') e) nI fI.1 fI.2.2.1 fI.2.2.2.1 fI.2.2.2.2,rfl,hE rfl⟩
 ·have hlt:0<ns.length:=List.length_pos_iff.mpr hn
  refine yE (wpAny_tryCatch (W.item 0 _ _ _ (by rw[hsz];lia) ⟨it0,hL1⟩ fun u h' tk' hP hst' hk'=>?_));have hu:NH[0]?=some u:=by simpa using hP
  obtain⟨n,hn⟩:∃n,ns[0]?=some n:=⟨_,zF hlt⟩;have ru:RelV (V.int n) u:=by
   obtain⟨u',e1,e2⟩:=rv.get (i:=0) (x:=V.int n) (by rw[zR,hn];rfl);rw[hu]at e1;cases e1;exact e2
  have V2:Inv X ND σ H { s with heap:=h',toks:=tk' }:=V1.turned (fun b o hb' e=>hk' b o (by simpa using hb') e) nI fI.1 fI.2.2.1 fI.2.2.2.1 fI.2.2.2.2;have gS':=hk' S _ (by simpa using hIS.symm) gS;have hf:∀b∈[I,S],dJ X ND H b:=fun b hb'=>by
   rcases zT.mp hb' with rfl|hb'
   ·exact⟨nI,fI⟩
   ·rw[zM.mp hb'];exact⟨nS,fS⟩
  obtain⟨oI,goI,coI,doI⟩:=hst'.1;have ho:∀b∈[I,S],∃o,h'.get? b=some o/\∀v:Option Value,o.data≠.cell v:=fun b hb'=>by
   rcases zT.mp hb' with rfl|hb'
   ·exact⟨_,goI,fun v z=>by rw[doI]at z;cases z⟩
   ·rw[zM.mp hb'];exact⟨_,gS',fun v z=>nomatch z⟩
  have V3:Inv X (ND++fW [I,S] h') σ H { s with heap:=h',toks:=tk' }:=V2.pinned hf ho;have rest:∀(t2:Tok)(H2:Hp)(s2:Shared),Inv X (ND++fW [I,S] h') σ H2 s2->J 1 H2 ->
    wpAny (model X.prog X.w) X.A.in1 ((do
     updateSeq S fun _=>#[u,.int (kf 0) t2]
     again (.builtin "min.loop" ⟨[.ref I,ko.getD .none,.ref S],[("default",.none)]⟩)):Sem PySem.Fin) (fun ay s'=>match ay with
      |.done f=>(match (Except.ok f:Result) with|.ok (.ret v)=>EP X ND σ Q v s'|.ok _=>False|.error e=>E e s')
      |.again c'=>c'.quiet=true/\codeAny (model X.prog X.w) X.A c' (fun r s'=>match r with|.ok (.ret v)=>EP X ND σ Q v s'|.ok _=>False|.error e=>E e s') s') (fun e s'=>E e s') s2:=by
   intro t2 H2 s2 V4 J2;have pI:=V4.pin (I,oI) (zK _ (zK _ (df (by simp) goI)));have pS:=V4.pin (S,seqObj "list" #[] 0) (zK _ (zK _ (df (by simp) gS')));have V5:Inv X ND σ H2 s2:=V4.unpinned;have s1:=Heap.SameBut.update s2.heap S (Obj.mapSeq fun _=>#[u,.int (kf 0) t2]);obtain⟨c2,hc2⟩:∃c2,(s2.heap.update S (Obj.mapSeq fun _=>#[u,.int (kf 0) t2])).get? S=some (seqObj "list" #[u,.int (kf 0) t2] c2):=⟨_,get?_update_seq pS.1 fun _=>#[u,.int (kf 0) t2]⟩;refine yE ?_;refine wpAny_updateSeq pS.1 rfl (yF ⟨plainId_quiet PySem.F.plain_min_loop _,?_⟩);obtain⟨sh,sg,sd,stk,sos⟩:=s2;refine Ai hh kf J hl turn ay fI fS hIS _ 0 0 H2 _ u t2 c2 rfl hlt (V5.turned (t':=stk) (fun b o hb'' e=>(s1.2 b hb'').trans e) pS.2.1 fS.1 fS.2.2.1 fS.2.2.2.1 fS.2.2.2.2) pI.2.1 pS.2.1 hc2 ⟨oI,(s1.2 I hIS).trans pI.1,coI,doI⟩ ⟨n,hn,ru⟩ (zP _) J2 fun j' hj'=>?_
   have e:j'=0:=by lia
   subst e;exact⟨by lia,fun h=>absurd h (y0 _)⟩
  rcases turn 0 n u _ _ H hn ru J0 V3 with⟨hk0,hkf,J2⟩|⟨q,hkq,call0⟩
  ·rw[hk0]at rest ⊢
   obtain⟨t2,rfl⟩:=ru;refine yE (yF ?_)
   have:=rest t2 H _ V3 J2
   rw[hkf]at this;exact this
  ·rw[hkq]at rest ⊢
   refine yE (wpAny_tryCatch (yR (yS call0 (fun x s'' he=>?_) fun _ _ hF=>hF.elim)));obtain⟨y,H3,V4,ry,rfl,J3⟩:=he;obtain⟨t2,rfl⟩:=ry;exact rest t2 H3 s'' V4 J3
end
end L2
namespace R
open PySem PySem.Spec PyProof.Rows L2
theorem xZ:∀{ps:List Str}{us:List Value},ps.Nodup->us.length=ps.length->ps.filterMap (fun n=>((ps.zip us).lookup n).map fun v=>(n,v))=ps.zip us/\ps.filter (fun n=>((ps.zip us).lookup n).isNone)=[]:=by
 have key:∀{ps:List Str}{us:List Value},us.length=ps.length->∀n∈ps,((ps.zip us).lookup n).isSome=true:=by
  intro ps
  induction ps with
  |nil=>intro us _ n hn;cases hn
  |cons p ps ih =>
   intro us hl n hn;cases us with
   |nil=>cases hl
   |cons u us =>
    rw[List.zip_cons_cons,yN];cases hb:n==p with
    |true=>rfl
    |false =>
     rcases zT.mp hn with rfl|hn
     ·simp at hb
     ·exact ih (by simpa using hl) n hn
 intro ps us nd hl;refine⟨?_,List.filter_eq_nil_iff.mpr fun n hn=>by
  have:=key hl n hn
  cases h:(ps.zip us).lookup n with
  |none=>rw[h]at this;cases this
  |some v=>simp⟩
 -- the names ahead don't matter
 have gen:∀(qs:List Str)(vs:List Value),qs.Nodup->vs.length=qs.length->∀l:List (Str×Value),(∀q∈qs,l.lookup q=(qs.zip vs).lookup q)->qs.filterMap (fun n=>(l.lookup n).map fun v=>(n,v))=qs.zip vs:=by
  intro qs
  induction qs with
  |nil=>intro vs _ _ l _;rfl
  |cons q qs ih =>
   intro vs nd hl l h;cases vs with
   |nil=>cases hl
   |cons v vs =>
    have h0:=h q z7;rw[List.zip_cons_cons,yN]at h0;simp only[beq_self_eq_true]at h0;rw[List.filterMap_cons,h0];rw[List.nodup_cons]at nd
    have:=ih vs nd.2 (by simpa using hl) l fun p hp=>by
     have:=h p (zQ _ hp)
     rw[List.zip_cons_cons,yN]at this;have ne:(p==q)=false:=by
      have:p≠q:=fun e=>nd.1 (e▸hp)
      simpa using this
     rw[ne]at this;exact this
    simp only[map_some];rw[this];rfl
 exact gen ps us nd hl _ fun _ _=>rfl
noncomputable def plainA(a:Arguments):Bool:=a.posonlyargs.isEmpty&&a.vararg.isNone&&a.kwonlyargs.isEmpty&&a.kwarg.isNone
theorem bind_plain(hp:plainA fd.params=true)(hd:fd.defaults=.none)(nd:(fd.params.args.map (·.arg)).Nodup)(hl:us.length=(fd.params.args.map (·.arg)).length):bindArgs fd ⟨us,[]⟩=pure ((fd.params.args.map (·.arg)).zip us):=by
 unfold plainA at hp;simp only[zC,List.isEmpty_iff,Option.isNone_iff_eq_none]at hp;obtain⟨⟨⟨h1,h2⟩,h3⟩,h4⟩:=hp;obtain⟨z1,z2⟩:=xZ nd hl;have hs:seqItems? fd.defaults=(do notAStandIn Value.none;pure none):=by rw[hd];rfl
 have hn:notAStandIn Value.none=pure ():=rfl;unfold bindArgs;simp only[h1,h2,h3,h4,hs,hn];simp only[List.map_nil,List.nil_append,List.forIn_nil,pure_bind,List.append_nil];rw[yG (by simp[hl])];simp only[Option.getD_none,List.length_nil,Nat.sub_zero,List.drop_nil,List.take_length,z2,List.isEmpty_nil,Bool.not_true,yA,if_false,List.drop_length,List.zip_nil_left,List.forIn_nil,pure_bind,z1]
end R
namespace L2
open PySem PySem.Spec PyProof.Rows
def jq(mg:Str->Option Value)(base:Heap):Prop:=∃bm o,mg "__builtins__"=some (.ref bm)/\bm≠builtinsNs/\bm≠mainGlobals/\base.get? bm=some o/\o.cls=.type "module"/\o.dict=some builtinsNs/\o.data=.plain
noncomputable def fZ(c:Addr)(q:Str):HO:=.ext fun h=>h.CodeRec (.ref c) q
section
variable{X:Cx}{ND:List (Addr×Obj)}{σ:St}{H:Hp}{s:Shared}
theorem Inv.grown{t':Nat}(I:Inv X ND σ H s)(hP:H P=some (.tbl ps))(hx:Heap.ExtBut P s.heap h')(hc:s.heap.objs.size<=c')(hr:h'.CodeRec (.ref c') q)
  (gP:h'.get? P=some (tabObj (ps++more))):Inv X ND σ (ae (ae H P (.tbl (ps++more))) c' (fZ c' q)) { s with heap:=h',toks:=t' }:=by
 have gP0:s.heap.get? P=some (tabObj ps):=I.NM P _ hP;have hcn:H c'=none:=I.NM.fresh hc;have hPc:P≠c':=zU (zJ (yI gP0) hc);have nb:∀b u,H b=some u->b≠c':=fun b u e z=>by rw[z,hcn]at e;cases e
 have hH:∀b,b≠P->b≠c'->ae (ae H P (.tbl (ps++more))) c' (fZ c' q) b=H b:=fun b h1 h2=>by rw[ad h2,ad h1]
 refine I.un ⟨fun b o e n _ _=>hx b o (fun z=>by rw[z,hP]at n;cases n) e,fun b o e n _ _=>⟨o.slots,hx b o (fun z=>by rw[z,hP]at n;cases n) e⟩,fun b o e n _=>?_,fun b o e _=>?_,fun b xs e=>?_,fun b o u e=>?_,fun b qs e=>?_⟩ fun b u e=>?_
 ·rw[hH b (fun z=>by rw[z,hP]at n;cases n) (zU (zJ (yI e) hc))];exact n
 ·by_cases hb:b=P
  ·exact⟨_,hb▸gP⟩
  ·exact⟨o,hx b o hb e⟩
 ·rw[hH b (fun z=>by rw[z,hP]at e;cases e) (nb _ _ e)];exact e
 ·rw[hH b (fun z=>by rw[z,hP]at e;cases e) (nb _ _ e)];exact e
 ·by_cases hb:b=P
  ·subst hb
   rw[hP]at e;cases e;exact⟨more,by rw[ad hPc,aw]⟩
  ·exact⟨#[],by rw[hH b hb (nb _ _ e),e];simp⟩
 ·by_cases h1:b=c'
  ·subst h1
   rw[aw]at e;cases e;obtain⟨c,oc,vs,t,e1,e2,e3⟩:=id hr;cases e1;refine⟨hr,⟨oc,e2⟩,fun h1 h2 hq0 k=>?_⟩;obtain⟨c,oc,vs,t,e1,e2,e3⟩:=hq0;cases e1;exact⟨_,oc,vs,t,rfl,k _ e2,e3⟩
  ·rw[ad h1]at e
   by_cases h2:b=P
   ·subst h2
    rw[aw]at e;cases e;exact gP
   ·rw[ad h2]at e
    refine(I.NM b u e).stay (fun d v hd q=>hx d v (fun z=>?_) q) (fun d q=>?_) fun d xs q=>?_
    ·rcases hd with z2|z2
     ·exact h2 (z2.symm.trans z)
     ·rw[z,hP]at z2;cases z2
    ·rw[hH d (fun z=>by rw[z,hP]at q;cases q) (nb _ _ q)];exact q
    ·rw[hH d (fun z=>by rw[z,hP]at q;cases q) (nb _ _ q)];exact q
abbrev vB(mg:Str->Option Value)(qual:Str)(params:Arguments)(body:Expr)(scope:Scope)(cl:List (Str×Addr))(cv ctv:Value):Obj :=
 { cls:=.type "function",data:=.func (kla_fn "<lambda>" qual params body scope cl ((mg "__name__").getD .none) cv ctv) }
def fP(H:Hp)(P:Addr)(pos:Pos)(q:Str):Prop:=∃ps,H P=some (.tbl ps)/\TriplesOk ps.toList/\(codeAmong pos ps.toList=none\/∃c,codeAmong pos ps.toList=some (.ref c)/\H c=some (fZ c q))
theorem Ar(I:Inv X ND σ H s)(hdef:defaultsOf params X.env=([],[]))(hcode:X.env.code=.ref c)
  (C:CodeHd X.base c P) (B:jq X.mg X.base) (hcl:closureFor scope X.env=pure cl) (T:fP H P pos (X.env.qual++"<lambda>"))
  (h:∀f c' ctv H' s',(H'=H\/∃ps more,H P=some (.tbl ps)/\H c'=none/\P≠c'/\H'=ae (ae H P (.tbl (ps++more))) c' (fZ c' (X.env.qual++"<lambda>")))->fP H' P pos (X.env.qual++"<lambda>")->H' c'=some (fZ c' (X.env.qual++"<lambda>")) ->
   Inv X (ND++[(f,vB X.mg (X.env.qual++"<lambda>") params body scope cl (.ref c') ctv)]) σ H' s'->Q (.ref f) s') :
  wpAny (model X.prog X.w) X.A (eval (.Lambda params body scope pos) X.env) Q E s:=by
 refine kla_eval hdef ?_;obtain⟨ps,hP,ht,hc⟩:=T;have gP:s.heap.get? P=some (tabObj ps):=I.NM P _ hP;have hg:s.heap.Ns mainGlobals X.mg:=I.mod.glob.keeps I.bk;have hgP:mainGlobals≠P:=fun q=>by
  obtain⟨o,es,ep,e,hd,_⟩:=hg;rw[q,gP]at e;cases e;cases hd
 obtain⟨bm,ob,b1,b2,b3,b4,b5,b6,b7⟩:=B;have hbP:bm≠P:=fun q=>by
  have:=(I.bs bm ob b4).2
  rw[q,hP]at this;cases this
 have hb:s.heap.BuiltinsAt X.mg P:=⟨bm,ob,b1,b2,b3,hbP,I.bk _ _ b4,b5,b6,b7⟩;have C':CodeHd s.heap c P:=C.keeps I.bk
 -- the function's object,laid over h1
 have last:∀(H1:Hp)(h1:Heap)(tk1:Nat)(o:Obj),Inv X ND σ H1 { s with heap:=h1,toks:=tk1 }->(∀v,o.data≠.cell v)->o.isFreed=false->Inv X (ND++[(h1.objs.size,o)]) σ H1 { s with heap:=h1.push o,toks:=tk1 }:=by
  intro H1 h1 tk1 o J hd hfr;have J2:Inv X ND σ H1 { s with heap:=h1.push o,toks:=tk1 }:=J.kept fun b u e=>zG _ e
  have fp:=J.fpOk (b:=h1.objs.size) (zP _) J.fresh;refine J2.pins_of fun p hp=>?_
  rcases zZ.mp hp with hp|hp
  ·exact J2.pin p (zK _ hp)
  ·rw[zM.mp hp]
   exact⟨zY _ hfr,fp.1,fp.2.1,fp.2.2.1,hd⟩
 rcases hc with hn|⟨c',hc,hx⟩
 ·refine kla_makeFunction (mg:=X.mg) hcl I.ok.glob hg hcode C' gP ht hn hgP hb fun c' ctv h' tk hx hge hlt hrec htb=>?_
  have hPc:P≠c':=zU (zJ (yI gP) hge);have J:=I.grown (t':=tk) hP hx hge hrec htb;have e1:ae (ae H P (.tbl (ps++#[rawInt pos.line,rawInt pos.col,.ref c']))) c' (fZ c' (X.env.qual++"<lambda>")) P=some (.tbl (ps++#[rawInt pos.line,rawInt pos.col,.ref c'])):=by rw[ad hPc,aw]
  refine h _ c' ctv _ _ (.inr ⟨ps,_,hP,I.NM.fresh hge,hPc,rfl⟩) ⟨_,e1,?_,.inr ⟨c',?_,aw⟩⟩ aw (last _ h' tk _ J (fun v z=>nomatch z) rfl)
  ·rw[Array.toList_append];exact TriplesOk_snoc _ _ _ _ ht
  ·rw[Array.toList_append];exact codeAmong_snoc _ ht hn
 ·refine kla_makeFunctionHit (mg:=X.mg) hcl I.ok.glob hg hcode C' gP ht hc hb fun ctv h' tk hk hge=>?_
  exact h _ c' ctv H _ (.inl rfl) ⟨ps,hP,ht,.inr ⟨c',hc,hx⟩⟩ hx (last H h' tk _ (I.kept hk) (fun v z=>nomatch z) rfl)
def sF(X:Cx)(N':List Str)(scope:Scope)(cl:List (Str×Addr))(f:Addr)(qual:Str)(cd:Value)(A:Around)(s:Shared)(H:Hp):Cx :=
 { X with N:=N',s₀:=s,H₀:=H,env:=newEnv scope s.heap.objs.size mainGlobals cl (qual++".<locals>.") (some f) cd none builtinsNs,outer:=X.stack,stack:=newEnv scope s.heap.objs.size mainGlobals cl (qual++".<locals>.") (some f) cd none builtinsNs::X.stack,
          A:=A.deeper (newEnv scope s.heap.objs.size mainGlobals cl (qual++".<locals>.") (some f) cd none builtinsNs),ex:=[],fn:=fun _=>false,calm:=true,pn:=[],xe:=fun _ _=>False }
structure vX(X:Cx)(N':List Str)(scope:Scope)(x:Str):Prop where
 cy:jC X N' scope
 co:scope.isCoroutine=false
 gen:scope.isGenerator=false
 len:N'.length=X.N.length+1
 own:N'[X.N.length]?=some x
 loc:scope.names.lookup x=some .local
 nc:∀y∈scope.names,y.2≠.cell
theorem AK{t':Nat}(T:vX X N' scope x)(I:Inv X ND σ H s)(hfm:A.frames=some X.stack)(hh:A.handled=none)
  (hcl:∀p∈cl,X.env.cells.lookup p.1=some p.2) (hfr:∀x,(x,NameKind.free)∈scope.names->∃c,(x,c)∈cl) (r:RelV v u)
  (hn:h'.Ns s.heap.objs.size (fun y=>[(x,u)].reverse.lookup y)) (hs:Heap.SameBut s.heap.objs.size (s.heap.push { cls:=.type "frame",data:=.dict #[] }) h') :
  Inv (sF X N' scope cl f qual cd A s H) [] (σ++[some v]) H { s with heap:=h',toks:=t' }:=by
 have keep:∀b o,s.heap.get? b=some o->h'.get? b=some o:=fun b o e=>(hs.2 b (zU (yI e))).trans (zG _ e)
 have look:∀x,(x,NameKind.free)∈scope.names->∃c,cl.lookup x=some c/\X.env.cells.lookup x=some c:=fun x hx=>by
  obtain⟨c,hc⟩:=hfr x hx;obtain⟨c2,hc2⟩:=fJ hc;exact⟨c2,hc2,hcl _ (mem_of_lookup hc2)⟩
 have noA:∀ b:Addr,b ∉ (sF X N' scope cl f qual cd A s H).ex:=fun b z=>absurd (show b ∈ ([]:List Addr) from z) (by simp)
 refine⟨⟨I.ok.mod,T.cy.kind,rfl,rfl,zP _,fun y z c h1 h2=>?_,fun y hy=>?_,fun y c h=>(by cases h),fun _=>hh,Around.frames_deeper hfm,.inr ⟨rfl,rfl⟩,fun b z=>absurd z (noA b),I.bs,z5 I.ok.bsz I.sz,fun b _ _=>noA b,fun b z=>absurd z (noA b),I.stack,I.stkFree⟩,
  rfl,I.bare,Un.kept keep,⟨_,hn,fun i y w e1 e2 e3=>?_⟩,fun y c h=>?_,I.NM.fresh (zP _),fun y c h=>?_,fun p hp=>absurd (show p∈([]:List (Addr×Obj)) from hp) (by simp),I.NM.kept keep,?_⟩
 ·exact I.ok.inj y z c (hcl _ (mem_of_lookup h1)) (hcl _ (mem_of_lookup h2))
 ·have hy:scope.names.lookup y=some .cell\/scope.names.lookup y=some .free:=hy
  rcases hy with hy|hy
  ·exact absurd rfl (T.nc _ (mem_of_lookup hy))
  ·obtain⟨c,hc,_⟩:=look y (mem_of_lookup hy)
   exact⟨c,hc⟩
 ·have hlen:=I.len
  rcases yT i σ.length with hi|hi
  ·rw[zN hi]at e2
   have hmem:∃k,(y,k)∈scope.names:=by
    rcases e3 with h|h|h<;>exact⟨_,mem_of_lookup h⟩
   have hfree:=T.cy.hid i y oM e1 hmem;have eX:=T.cy.same i y oM e1 hfree;have kX:=T.cy.free y hfree;obtain⟨m,hn2,hl⟩:=I.loc;obtain⟨u2,ru,lk⟩:=hl i y w eX e2 (by rcases kX with h|h;exact .inr (.inl h);exact .inr (.inr h));refine⟨u2,ru,.inr ⟨.inr (cY T.cy.nd hfree),?_⟩⟩;rcases lk with⟨k1,_⟩|⟨_,c,hc,z⟩
   ·rcases kX with h|h<;>rw[h]at k1<;>cases k1
   ·obtain⟨c2,q1,q2⟩:=look y hfree
    rw[hc]at q2;cases q2;exact⟨c,q1,z.keeps keep⟩
  ·rw[z6 hi]at e2
   have hi0:i-σ.length=0:=by
    rcases Nat.eq_zero_or_pos (i-σ.length) with z|z
    ·exact z
    ·rw [List.getElem?_eq_none (show [some v].length <= _ from z)] at e2;cases e2
   rw[hi0]at e2;cases e2;have hi1:i=X.N.length:=by lia
   subst hi1;have e1:N'[X.N.length]?=some y:=e1;rw[T.own]at e1;cases e1;exact⟨u,r,.inl ⟨T.loc,by simp⟩⟩
 ·obtain⟨w,z⟩:=I.cell y c (hcl _ (mem_of_lookup h))
  exact⟨w,z.keeps keep⟩
 ·exact I.freeC y c (hcl _ (mem_of_lookup h))
 ·show(σ++[some v]).length=N'.length
  rw[zV,I.len,T.len];rfl
theorem As(T:vX X N' scope x)(I:Inv X ND σ H s)(hfm:A.frames=some X.stack)(hh:A.handled=none)
  (hd:A.depth<recursionLimit) (hcl:∀p∈cl,X.env.cells.lookup p.1=some p.2) (hfr:∀x,(x,NameKind.free)∈scope.names->∃c,(x,c)∈cl) (hp:R.plainA params=true) (hps:params.args.map (·.arg)=[x])
  (hf:s.heap.get? f=some (vB X.mg qual params body scope cl (.ref c') ctv)) (hr:s.heap.CodeRec (.ref c') qual)
  (he:∀s H,PE (sF X N' scope cl f qual (.ref c') A s H) body te) (r:RelV v u) (h:te (σ++[some v]) H Q) :
  wpAny (model X.prog X.w) A (call (.ref f) [u]) (EP X ND σ Q) E s:=by
 refine wpAny_call (kla_callFunE hd hf rfl T.co T.gen rfl hr ?_);have hb:bindArgs (kla_fn "<lambda>" qual params body scope cl ((X.mg "__name__").getD .none) (.ref c') ctv) ⟨[u],[]⟩=pure [(x,u)]:=by
  have:=R.bind_plain (fd:=kla_fn "<lambda>" qual params body scope cl ((X.mg "__name__").getD .none) (.ref c') ctv) (us:=[u]) hp rfl (by show(params.args.map (·.arg)).Nodup;rw[hps];simp) (by show _=(params.args.map (·.arg)).length;rw[hps];rfl)
  rw[this];show pure ((params.args.map (·.arg)).zip [u])=_;rw[hps];rfl
 rw[hb];refine yF ?_;refine wpAny_newFunctionEnv (around:=none) (fun y hy=>T.nc y hy) (fun y hy=>by rw[zM.mp hy];exact T.loc) (fun h' hn hs=>?_) T.cy.kind;have hs:Heap.SameBut s.heap.objs.size (s.heap.push { cls:=.type "frame",data:=.dict #[] }) h':=hs;have keep:∀b o,s.heap.get? b=some o->h'.get? b=some o:=fun b o e=>(hs.2 b (zU (yI e))).trans (zG _ e)
 refine⟨I.nolimit.keeps keep,kla_codeExpr ?_⟩;have J:=AK (cd:=.ref c') (f:=f) (qual:=qual) (t':=s.toks+[(x,u)].length) T I hfm hh hcl hfr r hn hs;refine yS (he s H [] _ (σ++[some v]) H Q J h) (fun w s' hq0=>?_) fun e s' z=>z.elim
 obtain⟨y,H',J',ry,q⟩:=hq0;exact I.after ⟨y,H',J'.os,J'.bare,J'.base,J'.NM,ry,q⟩
end
theorem xk(h:ip k v=true):RelV (kV k) v:=by
 cases k with
 |inl i =>
  cases v <;> first | (cases h;done) | skip
  rename_i j t;have e:j=i:=by simpa [ip,Value.isInt] using h
  subst e;exact⟨t,rfl⟩
 |inr x =>
  cases v <;> first | (cases h;done) | skip
  rename_i y t;have e:y=x:=by simpa [ip,Value.isStrOf] using h
  subst e;exact⟨t,rfl⟩
theorem Dq{κ:Type}{NE:List (κ×V)}{vs:List (κ×Value)}(r:KV NE vs):NE.map (·.1)=vs.map (·.1):=by
 induction r with
 |nil=>rfl
 |cons h t ih=>simp only[zO];rw[h.1,ih]
def Kg(d:Addr)(o:Obj)(NE:List (aT×V)):It :=
 ⟨fun i H=>H d=some (.frz o (.dK NE))/\i<NE.length,fun i H x H'=>H'=H/\(NE.map fun p=>kV p.1)[i]?=some x,fun i H=>H d=some (.frz o (.dK NE))/\NE.length<=i⟩
theorem rZ{ep:Nat}(I:Inv X ND σ H s)(h:H d=some (.frz o (.dK NE)))(ho:o.data=.dict es ep) :
  ∃vs,KV NE vs/\s.heap.DictAt (b8 X.prog X.w) d vs ep:=by
 obtain⟨e1,_,_,vs,r,ob,es',ep',e2,c1,c2,c3⟩:=I.NM d _ h;rw[e1]at e2;cases e2;rw[ho]at c2;cases c2;exact⟨vs,r,o,es,e1,c1,ho,c3⟩
theorem wf{P:Program}{w:World}{K:Frag}{tg:Expr}{d:Addr}{o:Obj}{NE:List (aT×V)}{es:Array DictEntry}{ep:Nat}(it:Addr)(hd:o.data=.dict es ep):jA P w K tg (Kg d o NE) [it] it (fun i h=>h.IsKeyIter it d i NE.length ep) where
 mem:=by simp
 obj:=fun i h st b hb=>by
  obtain rfl:b=it:=by simpa using hb
  obtain⟨o,e,c,d⟩:=st;exact⟨o,e,fun v z=>by rw[d]at z;cases z⟩
 keep:=fun i h h' st k=>let⟨o,e,r⟩:=st;⟨o,k it (by simp) _ e,r⟩
 item:=by
  intro X hP hw hK hc i ND s σ H E I hf st hg;subst hP hw hK;obtain⟨hg,hi⟩:=hg;obtain⟨vs,r,da⟩:=rZ I hg hd;have hl:NE.length=vs.length:=Paired.length r;obtain⟨f0,f1,f2,f3,f4,f5⟩:=hf it (by simp);obtain⟨q,hq⟩:∃q,vs[i]?=some q:=⟨_,zF oM⟩;have hk:NE[i]?.map (·.1)=vs[i]?.map (·.1):=by
   rw[<- zR,<- zR,Dq r]
  rw[hl]at st;refine wpAny_pyNext_dict_item st da (k:=q.1) (v:=q.2) hq fun key h' hkey st' sb=>?_
  have I1:Inv X ND σ H { s with heap:=h' }:=I.turned (t':=s.toks) (fun b o hb e=>(sb.2 b hb).trans e) f0 f1 f3 f4 f5;obtain⟨o',e,c,dd⟩:=id st';refine⟨key,rfl,lI (s:={ s with heap:=h' }) e c dd dC ⟨kV q.1,H,I1,xk hkey,⟨rfl,?_⟩,by rw[hl];exact st',fun b hb=>(hf b hb).1⟩⟩;rw[zR];rw[hq]at hk;cases hkv:NE[i]? with
  |none=>rw[hkv]at hk;cases hk
  |some p=>rw[hkv]at hk;simp at hk;simp[hk]
 done:=by
  intro X hP hw hK hc i ND s σ H E I hf st hg;subst hP hw hK;obtain⟨hg,hi⟩:=hg;obtain⟨vs,r,da⟩:=rZ I hg hd;have hl:NE.length=vs.length:=Paired.length r;obtain⟨f0,f1,f2,f3,f4,f5⟩:=hf it (by simp);rw[hl]at st;exact wpAny_pyNext_dict_end (I.ok.hd hc) st da (List.getElem?_eq_none oM) fun h' eb=>⟨rfl,I.turned (t':=s.toks) (fun b o hb e=>eb b o hb e) f0 f1 f3 f4 f5⟩
 self:=fun A i s Q E st h=>wpAny_pyIter_keyiter st h
section
variable{X:Cx}{ND:List (Addr×Obj)}{σ:St}{H:Hp}{s:Shared}{d:Addr}{NE:List (aT×V)}{o:Obj}
theorem Inv.frzD(I:Inv X ND σ H s)(h:H d=some (.dK NE))(e:s.heap.get? d=some o):Inv X ND σ (ae H d (.frz o (.dK NE))) { s with toks:=s.toks }:=by
 have ne:∀b u,H b=some u->(∀NE,u≠.dK NE)->b≠d:=fun b u q n z=>by rw[z,h]at q;cases q;exact n _ rfl
 refine I.un (h':=s.heap) ⟨fun b o e _ _ _=>e,fun b o e _ _ _=>⟨o.slots,e⟩,fun b o e n _=>by rw[ad (fun z=>by rw[z,h]at n;cases n)];exact n,fun b o e _=>⟨o,e⟩,fun b xs q=>by rw[ad (ne b _ q fun _ z=>nomatch z)];exact q,fun b o u q=>by rw[ad (ne b _ q fun _ z=>nomatch z)];exact q,
  fun b ps q=>⟨#[],by rw[ad (ne b _ q fun _ z=>nomatch z),q];simp⟩⟩ fun b u q=>?_
 have st:∀b u,H b=some u->ObjOk X.prog X.w (ae H d (.frz o (.dK NE))) s.heap b u:=fun b u q=>(I.NM b u q).stay (fun _ _ _ z=>z) (fun c z=>by rw[ad (ne c _ z fun _ y=>nomatch y)];exact z) fun c xs z=>by rw[ad (ne c _ z fun _ y=>nomatch y)];exact z
 by_cases hb:b=d
 ·subst hb;rw[aw]at q;cases q;exact⟨e,st _ _ h⟩
 ·rw[ad hb]at q;exact st b u q
theorem Inv.thawD(I:Inv X ND σ H s)(h:H d=some (.frz o (.dK NE)))(hn:∀o u,X.H₀ d≠some (.frz o u)):Inv X ND σ (ae H d (.dK NE)) s:=by
 have ne:∀b u,H b=some u->(∀o u',u≠.frz o u')->b≠d:=fun b u q n z=>by rw[z,h]at q;cases q;exact n _ _ rfl
 have nn:∀b,H b=none->b≠d:=fun b q z=>by rw[z,h]at q;cases q
 have NM:HOk X.prog X.w (ae H d (.dK NE)) s.heap:=fun b u q=>by
  have st:∀b u,H b=some u->ObjOk X.prog X.w (ae H d (.dK NE)) s.heap b u:=fun b u q=>(I.NM b u q).stay (fun _ _ _ z=>z) (fun c z=>by rw[ad (ne c _ z fun _ _ y=>nomatch y)];exact z) fun c xs z=>by rw[ad (ne c _ z fun _ _ y=>nomatch y)];exact z
  by_cases hb:b=d
  ·subst hb;rw[aw]at q;cases q;exact(st _ _ h).2
  ·rw[ad hb]at q;exact st b u q
 refine⟨I.ok,I.os,I.bare,⟨I.base.keep,I.base.slot,fun b o e n hx=>by rw[ad (nn b (I.base.free b o e n hx))];exact I.base.free b o e n hx,I.base.there,fun b xs e=>by rw[ad (ne b _ (I.base.tups b xs e) fun _ _ y=>nomatch y)];exact I.base.tups b xs e,
  fun b o u e=>by rw[ad (fun z=>hn o u (by rw[<- z];exact e))];exact I.base.frzs b o u e,fun b ps e=>?_⟩,I.loc,I.cell,by rw[ad (nn _ I.free)];exact I.free,fun x c e=>by rw[ad (nn _ (I.freeC x c e))];exact I.freeC x c e,
  fun p hp=>by obtain⟨a1,a2,a3⟩:=I.pin p hp;exact⟨a1,by rw[ad (nn _ a2)];exact a2,a3⟩,NM,I.len⟩
 obtain⟨more,q⟩:=I.base.tbls b ps e;exact⟨more,by rw[ad (ne b _ q fun _ _ y=>nomatch y)];exact q⟩
end
section
variable{X:Cx}{tg iter:Expr}{te:TE}
def IG(n0:Hp)(te:TE):TI:=fun σ H R=>te σ H fun x H1=>∃d NE,x=.ref d/\H1 d=some (.dK NE)/\∀o,(∀o u,n0 d≠some (.frz o u))->R (Kg d o NE) (ae H1 d (.frz o (.dK NE)))
theorem C3(hl:PE X iter te):PI X tg iter (IG X.H₀ te):=by
 intro ND s σ H R I h;refine aB (hl ND s σ H _ I h) fun v s1 hq0=>?_
 obtain⟨x,H1,I1,r1,d,NE,e,hd,q⟩:=hq0;subst e;cases r1;obtain⟨hz,hsys,vs,rv,ob,es,ep,e1,c1,c2,c3⟩:=I1.NM d _ hd;have hl:NE.length=vs.length:=Paired.length rv;have hn:∀o u,X.H₀ d≠some (.frz o u):=fun o u z=>by
  have:=I1.base.frzs d o u z
  rw[hd]at this;cases this
 have I2:=I1.frzD hd e1;refine wpAny_pyIter_dict hsys (knd:=b8 X.prog X.w) ⟨ob,es,e1,c1,c2,c3⟩ ?_;have I3:Inv X ND σ (ae H1 d (.frz ob (.dK NE))) { s1 with heap:=s1.heap.push { cls:=.type "dict_keyiterator",data:=.fields #[.ref d,.int 0 0,.int vs.length 0,.int ep 0] },toks:=s1.toks }:=I2.kept fun b o e=>zG _ e
 refine⟨s1.heap.objs.size,[s1.heap.objs.size],_,_,_,rfl,I3,wf (NE:=NE) _ c2,⟨_,zY _ rfl,rfl,by rw[hl];rfl⟩,fun b hb=>?_,q ob hn⟩;obtain rfl:b=s1.heap.objs.size:=by simpa using hb
 exact I2.fpOk (zP _) I2.fresh
def qa(n0:Hp)(D:jB):jB:={ nx:=fun σ H=>∃d o NE,H d=some (.frz o (.dK NE))/\(∀o u,n0 d≠some (.frz o u))/\D.nx σ (ae H d (.dK NE)),rt:=fun v H=>∃d o NE,H d=some (.frz o (.dK NE))/\(∀o u,n0 d≠some (.frz o u))/\D.rt v (ae H d (.dK NE)) }
theorem CT{st:Stmt}{t:TS}(h:PS X st t):PS X st (fun D σ H=>t (qa X.H₀ D) σ H):=by
 intro ND s σ H D I q;refine aB (h ND s σ H (qa X.H₀ D) I q) fun f s' hs=>?_
 cases f with
 |next=>obtain⟨σ',H',J,d,o,NE,e,n,q⟩:=hs;exact⟨σ',_,J.thawD e n,q⟩
 |ret u=>obtain⟨v,σ',H',J,r,d,o,NE,e,n,q⟩:=hs;exact⟨v,σ',_,J.thawD e n,r,q⟩
 |brk=>obtain⟨_,_,_,q⟩:=hs;exact q.elim
 |cont=>obtain⟨_,_,_,q⟩:=hs;exact q.elim
end
end L2
namespace R
open PySem L2
inductive AV where
 |non|bl (b:Bool)|int (i:Int)|str (x:Str)|ref (k:Nat)|tup (xs:List AV)|fz (xs:List AV)
inductive NG where
 |lst (xs:List AV)|al (t:AV)|dK (NE:List (aT×AV))|dT (NE:List (List aT×AV))|ins (c:Str) (fs:List (Str×AV))|wk (NE:List (aT×AV))
abbrev aa:=List NG
abbrev Sl:=List (Option AV)
abbrev Pr:=Addr->Prop
class NI where
 tb:List (Addr×Pos×Str)
structure Gm where
 K:Frag
 mg:Str->Option Value
def FLk(mg:Gm)(P:Pr)(H:Hp)(a:Addr)(vs:List V):Prop:=(P a/\Rd H a (.lst vs))\/∀H',bK mg.K H' a vs
mutual
def RA(mg:Gm)(P:Pr)(H:Hp)(φ:List Addr):AV->V->Prop
 |.non,v=>v=.non
 |.bl b,v=>v=.bl b
 |.int i,v=>v=.int i
 |.str x,v=>v=.str x
 |.ref k,v=>∃a,φ[k]?=some a/\v=.ref a
 |.tup xs,v=>∃a vs,v=.ref a/\P a/\H a=some (.tup vs)/\NJ mg P H φ xs vs
 |.fz xs,v=>∃a vs,v=.ref a/\FLk mg P H a vs/\NJ mg P H [] xs vs
def NJ(mg:Gm)(P:Pr)(H:Hp)(φ:List Addr):List AV->List V->Prop
 |[],vs=>vs=[]
 |x::xs,vs=>∃v ws,vs=v::ws/\RA mg P H φ x v/\NJ mg P H φ xs ws
end
theorem bj:NJ mg P H φ [] []:=by simp only[NJ]
theorem aU(h:RA mg P H φ x v)(t:NJ mg P H φ xs vs):NJ mg P H φ (x::xs) (v::vs):=by simp only[NJ];exact⟨v,vs,rfl,h,t⟩
structure Frm(P:Pr)(φ:List Addr)(H:Hp)(P':Pr)(φ':List Addr)(H':Hp):Prop where
 ext:∀a,P a->P' a/\H' a=H a
 new:∃more,φ'=φ++more/\∀a∈more,H a=none
 keep:∀a,H a≠none->a∉φ->(∀ps,H a≠some (.tbl ps))->H' a=H a
 pn:∀a,P' a->P a\/H a=none\/a∈φ
 sm:∀a,H a≠none->H' a≠none
 fz:∀a o u,H a=some (.frz o u)->H' a=some (.frz o u)
theorem Frm.refl:Frm P φ H P φ H:=⟨fun _ h=>⟨h,rfl⟩,⟨[],by simp,by simp⟩,fun _ _ _ _=>rfl,fun _ h=>.inl h,fun _ h=>h,fun _ _ _ h=>h⟩
theorem Frm.trans{P P1 P2:Pr}{φ φ1 φ2:List Addr}{H H1 H2:Hp}(a:Frm P φ H P1 φ1 H1)(b:Frm P1 φ1 H1 P2 φ2 H2):Frm P φ H P2 φ2 H2:=by
 obtain⟨m1,e1,n1⟩:=a.new;obtain⟨m2,e2,n2⟩:=b.new;have nn:∀x,H1 x=none->H x=none:=fun x h=>by
  cases e:H x with
  |none=>rfl
  |some o=>exact absurd h (a.sm x (by rw[e];exact fun z=>nomatch z))
 refine⟨fun x h=>?_,⟨m1++m2,by rw[e2,e1,yM],fun x h=>?_⟩,fun x h1 h2 h3=>?_,fun x h=>?_,fun x h=>b.sm x (a.sm x h),fun x o u h=>b.fz x o u (a.fz x o u h)⟩
 ·obtain⟨h1,e⟩:=a.ext x h
  obtain⟨h2,e'⟩:=b.ext x h1;exact⟨h2,e'.trans e⟩
 ·rcases zZ.mp h with h|h
  ·exact n1 x h
  ·exact nn x (n2 x h)
 ·have e:=a.keep x h1 h2 h3
  refine(b.keep x (by rw[e];exact h1) (fun z=>?_) (by rw[e];exact h3)).trans e;rw[e1]at z;rcases zZ.mp z with z|z
  ·exact h2 z
  ·exact h1 (n1 x z)
 ·rcases b.pn x h with h|h|h
  ·exact a.pn x h
  ·exact .inr (.inl (nn x h))
  ·rw[e1]at h
   rcases zZ.mp h with h|h
   ·exact .inr (.inr h)
   ·exact .inr (.inl (n1 x h))
theorem Rd.at(h:Rd H a u)(e:H' a=H a):Rd H' a u:=by
 rcases h with h|⟨o,h⟩
 ·exact .inl (e.trans h)
 ·exact .inr ⟨o,e.trans h⟩
theorem FLk.mono{mg:Gm}{P P':Pr}{H H':Hp}{a:Addr}{vs:List V}(h:FLk mg P H a vs)(x:∀a,P a->P' a/\H' a=H a):FLk mg P' H' a vs:=by
 rcases h with⟨p,r⟩|h
 ·exact .inl ⟨(x a p).1,Rd.at r (x a p).2⟩
 ·exact .inr h
theorem FLk.sq(h:FLk mg P H a vs):bK mg.K H a vs:=by
 rcases h with⟨_,r⟩|h
 ·exact .inl r
 ·exact h H
section
variable{mg:Gm}{P P':Pr}{H H':Hp}{φ φ':List Addr}
mutual
theorem RA.mono'(x:∀a,P a->P' a/\H' a=H a):∀{t:AV}{v:V}{φ φ':List Addr},(∀(k:Nat) a,φ[k]?=some a->φ'[k]?=some a)->RA mg P H φ t v->RA mg P' H' φ' t v
 |.non,_,_,_,_,h=>by simp only[RA]at h ⊢;exact h
 |.bl _,_,_,_,_,h=>by simp only[RA]at h ⊢;exact h
 |.int _,_,_,_,_,h=>by simp only[RA]at h ⊢;exact h
 |.str _,_,_,_,_,h=>by simp only[RA]at h ⊢;exact h
 |.ref k,_,_,_,hφ,h=>by simp only[RA]at h ⊢;obtain⟨a,e,r⟩:=h;exact⟨a,hφ k a e,r⟩
 |.tup xs,_,_,_,hφ,h=>by
  simp only[RA]at h ⊢;obtain⟨a,vs,r,p,e,q⟩:=h;exact⟨a,vs,r,(x a p).1,(x a p).2.trans e,NJ.mono' x hφ q⟩
 |.fz xs,_,_,_,hφ,h=>by
  simp only[RA]at h ⊢;obtain⟨a,vs,r,e,q⟩:=h;exact⟨a,vs,r,e.mono x,NJ.mono' x (fun _ _ z=>z) q⟩
theorem NJ.mono'(x:∀a,P a->P' a/\H' a=H a):∀{ts:List AV}{vs:List V}{φ φ':List Addr},(∀(k:Nat) a,φ[k]?=some a->φ'[k]?=some a)->NJ mg P H φ ts vs->NJ mg P' H' φ' ts vs
 |[],_,_,_,_,h=>by simp only[NJ]at h ⊢;exact h
 |t::ts,_,_,_,hφ,h=>by
  simp only[NJ]at h ⊢;obtain⟨v,ws,e,r,q⟩:=h;exact⟨v,ws,e,RA.mono' x hφ r,NJ.mono' x hφ q⟩
end
theorem RA.mono{t:AV}{v:V}(h:RA mg P H φ t v)(x:∀a,P a->P' a/\H' a=H a)(hφ:∀(k:Nat) a,φ[k]?=some a->φ'[k]?=some a):RA mg P' H' φ' t v:=RA.mono' x hφ h
theorem NJ.mono{ts:List AV}{vs:List V}(h:NJ mg P H φ ts vs)(x:∀a,P a->P' a/\H' a=H a)(hφ:∀(k:Nat) a,φ[k]?=some a->φ'[k]?=some a):NJ mg P' H' φ' ts vs:=NJ.mono' x hφ h
theorem Frm.ix(f:Frm P φ H P' φ' H'):∀(k:Nat) a,φ[k]?=some a->φ'[k]?=some a:=fun k a e=>by
 obtain⟨m,rfl,_⟩:=f.new;rw[zN (zB.mp e).1];exact e
theorem RA.frm(h:RA mg P H φ t v)(f:Frm P φ H P' φ' H'):RA mg P' H' φ' t v:=h.mono f.ext f.ix
theorem NJ.frm(h:NJ mg P H φ ts vs)(f:Frm P φ H P' φ' H'):NJ mg P' H' φ' ts vs:=h.mono f.ext f.ix
theorem RA.lift(h:RA mg P H [] t v):RA mg P H φ t v:=h.mono (fun _ h=>⟨h,rfl⟩) fun k a e=>by simp at e
theorem NJ.lift(h:NJ mg P H [] ts vs):NJ mg P H φ ts vs:=h.mono (fun _ h=>⟨h,rfl⟩) fun k a e=>by simp at e
theorem NJ.length:∀{ts:List AV}{vs:List V},NJ mg P H φ ts vs->ts.length=vs.length
 |[],_,h=>by simp only[NJ]at h;subst h;rfl
 |t::ts,_,h=>by
  simp only[NJ]at h;obtain⟨v,ws,rfl,_,q⟩:=h;rw[yX,yX,NJ.length q]
theorem NJ.get:∀{ts:List AV}{vs:List V}{i:Nat}{t:AV},NJ mg P H φ ts vs->ts[i]?=some t->∃v,vs[i]?=some v/\RA mg P H φ t v
 |[],_,_,_,_,e=>by simp at e
 |x::ts,_,i,t,h,e=>by
  simp only[NJ]at h;obtain⟨v,ws,rfl,r,q⟩:=h;cases i with
  |zero=>simp at e;subst e;exact⟨v,rfl,r⟩
  |succ i=>simpa using NJ.get (i:=i) q (by simpa using e)
theorem NJ.app:∀{xs ys:List AV}{vs ws:List V},NJ mg P H φ xs vs->NJ mg P H φ ys ws->NJ mg P H φ (xs++ys) (vs++ws)
 |[],_,_,_,h,g=>by simp only[NJ]at h;subst h;exact g
 |x::xs,_,_,_,h,g=>by
  simp only[NJ]at h;obtain⟨v,ws,rfl,r,q⟩:=h;exact aU r (NJ.app q g)
theorem NJ.take:∀{xs:List AV}{vs:List V} (n:Nat),NJ mg P H φ xs vs->NJ mg P H φ (xs.take n) (vs.take n)
 |xs,vs,0,_=>by rw[List.take_zero,List.take_zero];exact bj
 |[],vs,n+1,h=>by simp only[NJ]at h;subst h;exact bj
 |x::xs,vs,n+1,h=>by
  simp only[NJ]at h;obtain⟨v,ws,rfl,r,q⟩:=h;exact aU r (NJ.take n q)
theorem NJ.drop:∀{xs:List AV}{vs:List V} (n:Nat),NJ mg P H φ xs vs->NJ mg P H φ (xs.drop n) (vs.drop n)
 |xs,vs,0,h=>h
 |[],vs,n+1,h=>by simp only[NJ]at h;subst h;exact bj
 |x::xs,vs,n+1,h=>by
  simp only[NJ]at h;obtain⟨v,ws,rfl,r,q⟩:=h;exact NJ.drop n q
theorem NJ.set(r:RA mg P H φ x v):∀{xs:List AV}{vs:List V} (n:Nat),NJ mg P H φ xs vs->NJ mg P H φ (xs.set n x) (vs.set n v)
 |[],vs,_,h=>by simp only[NJ]at h;subst h;exact bj
 |y::xs,vs,n,h=>by
  simp only[NJ]at h;obtain⟨w,ws,rfl,q,t⟩:=h;cases n with
  |zero=>exact aU r t
  |succ n=>exact aU q (NJ.set r n t)
theorem NJ.ints:∀{ns:List Int}{vs:List V},NJ mg P H φ (ns.map .int) vs->vs=ns.map .int
 |[],_,h=>by simpa only[List.map_nil,NJ] using h
 |n::ns,_,h=>by
  simp only[zO,NJ,RA]at h;obtain⟨v,ws,rfl,rfl,q⟩:=h;rw[NJ.ints q];rfl
theorem NJ.of_ints:∀{ns:List Int},NJ mg P H φ (ns.map .int) (ns.map V.int)
 |[]=>bj
 |n::ns=>aU (by simp only[RA]) NJ.of_ints
end
def KVR(mg:Gm)(P:Pr)(H:Hp)(φ:List Addr){κ:Type}(NE:List (κ×AV))(ws:List (κ×V)):Prop:=NE.map (·.1)=ws.map (·.1)/\NJ mg P H φ (NE.map (·.2)) (ws.map (·.2))
def CellR(mg:Gm)(P:Pr)(H:Hp)(φ:List Addr)(a:Addr):NG->Prop
 |.lst xs=>¬P a/\∃vs,H a=some (.lst vs)/\NJ mg P H φ xs vs
 |.al t=>P a/\RA mg P H [] t (.ref a)
 |.dK NE=>¬P a/\∃ws,H a=some (.dK ws)/\KVR mg P H φ NE ws
 |.dT NE=>¬P a/\∃ws,H a=some (.dT ws)/\KVR mg P H φ NE ws
 |.ins c fs=>¬P a/\∃C dx ws,mg.mg c=some (.ref C)/\H a=some (.ins C dx ws)/\KVR mg P H φ fs ws
 |.wk NE=>¬P a/\∃o ws,H a=some (.frz o (.dK ws))/\KVR mg P H φ NE ws
def G5(o:Option HO):Prop:=(∀ps,o≠some (.tbl ps))/\∀f,o≠some (.ext f)
theorem _root_.L2.fP.new(h:fP H P pos q)(hp:H p=none):fP (ae H p o) P pos q:=by
 obtain⟨ps,e,t,c⟩:=h;refine⟨ps,by rw[ad (ba e hp)];exact e,t,?_⟩;rcases c with c|⟨c',c1,c2⟩
 ·exact .inl c
 ·exact .inr ⟨c',c1,by rw[ad (ba c2 hp)];exact c2⟩
theorem _root_.L2.fP.ne(h:fP H P pos q)(hp:H p=none):P≠p:=by
 obtain⟨ps,e,_⟩:=h;exact ba e hp
theorem _root_.L2.fP.wr(h:fP H P pos q)(hp:G5 (H p)):fP (ae H p o) P pos q:=by
 obtain⟨ps,e,t,c⟩:=h;refine⟨ps,by rw[ad fun z=>hp.1 ps (by rw[<- z];exact e)];exact e,t,?_⟩;rcases c with c|⟨c',c1,c2⟩
 ·exact .inl c
 ·exact .inr ⟨c',c1,by rw[ad fun z=>hp.2 _ (by rw[<- z];exact c2)];exact c2⟩
structure Sim[NI](mg:Gm)(P:Pr)(φ:List Addr)(st:aa)(H:Hp):Prop where
 len:φ.length=st.length
 nd:φ.Nodup
 dom:∀a,P a->H a≠none
 cd:∀a∈φ,H a≠none
 cell:∀(k:Nat) c a,st[k]?=some c->φ[k]?=some a->CellR mg P H φ a c
 tb:∀t∈NI.tb,fP H t.1 t.2.1 t.2.2/\¬P t.1
section
variable{mg:Gm}{P P':Pr}{H H':Hp}{φ φ':List Addr}{st st':aa}{a:Addr}
theorem KVR.mono{κ:Type}{NE:List (κ×AV)}{ws:List (κ×V)}(h:KVR mg P H φ NE ws)(x:∀a,P a->P' a/\H' a=H a)(hφ:∀(k:Nat) a,φ[k]?=some a->φ'[k]?=some a):KVR mg P' H' φ' NE ws:=⟨h.1,h.2.mono x hφ⟩
theorem CellR.mono{c:NG}(h:CellR mg P H φ a c)(x:∀a,P a->P' a/\H' a=H a)(hφ:∀(k:Nat) a,φ[k]?=some a->φ'[k]?=some a)(e:H' a=H a)(np:¬P a->¬P' a):CellR mg P' H' φ' a c:=by
 cases c with
 |lst xs=>obtain⟨n,vs,r,q⟩:=h;exact⟨np n,vs,e.trans r,q.mono x hφ⟩
 |al t=>exact⟨(x a h.1).1,h.2.mono x fun _ _ z=>z⟩
 |dK NE=>obtain⟨n,vs,r,q⟩:=h;exact⟨np n,vs,e.trans r,q.mono x hφ⟩
 |dT NE=>obtain⟨n,vs,r,q⟩:=h;exact⟨np n,vs,e.trans r,q.mono x hφ⟩
 |ins c fs=>obtain⟨n,C,dx,ws,m,r,q⟩:=h;exact⟨np n,C,dx,ws,m,e.trans r,q.mono x hφ⟩
 |wk NE=>obtain⟨n,o,ws,r,q⟩:=h;exact⟨np n,o,ws,e.trans r,q.mono x hφ⟩
theorem Sim.at[NI](s:Sim mg P φ st H){k:Nat}(e:st[k]?=some c):∃a,φ[k]?=some a/\CellR mg P H φ a c:=by
 have hk:k<φ.length:=by rw[s.len];exact(zB.mp e).1
 exact⟨φ[k],zF hk,s.cell k c _ e (zF hk)⟩
theorem Sim.notb[NI](s:Sim mg P φ st H){k:Nat}(ea:φ[k]?=some a)(na:¬P a):G5 (H a):=by
 obtain⟨c,hc⟩:∃c,st[k]?=some c:=⟨_,zF (by rw[<- s.len];exact(zB.mp ea).1)⟩;have h:=s.cell k c a hc ea;cases c with
 |lst xs=>obtain⟨n,vs,r,q⟩:=h;rw[r];exact⟨fun _ z=>(nomatch z),fun _ z=>(nomatch z)⟩
 |al t=>exact absurd h.1 na
 |dK NE=>obtain⟨n,vs,r,q⟩:=h;rw[r];exact⟨fun _ z=>(nomatch z),fun _ z=>(nomatch z)⟩
 |dT NE=>obtain⟨n,vs,r,q⟩:=h;rw[r];exact⟨fun _ z=>(nomatch z),fun _ z=>(nomatch z)⟩
 |ins c fs=>obtain⟨n,C,dx,ws,m,r,q⟩:=h;rw[r];exact⟨fun _ z=>(nomatch z),fun _ z=>(nomatch z)⟩
 |wk NE=>obtain⟨n,o,ws,r,q⟩:=h;rw[r];exact⟨fun _ z=>(nomatch z),fun _ z=>(nomatch z)⟩
theorem Sim.tnc[NI](s:Sim mg P φ st H)(ht:t∈NI.tb):t.1∉φ:=fun h=>by
 obtain⟨j,hj⟩:=z8 h;obtain⟨ps,e,_⟩:=(s.tb t ht).1;exact(s.notb hj (s.tb t ht).2).1 ps e
theorem Sim.okeep[NI](s:Sim mg P φ st H)(f:Frm P φ H P' φ' H')(h:H c=some (fZ c q)):H' c=some (fZ c q):=by
 by_cases hP:P c
 ·exact(f.ext c hP).2.trans h
 ·refine(f.keep c (by rw[h];exact fun z=>nomatch z) (fun z=>?_) fun ps z=>by rw[h]at z;cases z).trans h
  obtain⟨j,hj⟩:=z8 z;exact(s.notb hj hP).2 _ h
theorem Sim.ckeep[NI](s:Sim mg P φ st H)(x:∀a,P a->H' a=H a)(k:∀a,H a≠none->(∀ps,H a≠some (.tbl ps))->H' a=H a):∀a∈φ,H' a=H a:=fun a h=>by
 by_cases hP:P a
 ·exact x a hP
 ·obtain⟨j,hj⟩:=z8 h
  exact k a (s.cd a h) (s.notb hj hP).1
theorem Sim.stay[NI](s:Sim mg P φ st H)(x:∀a,P a->P' a/\H' a=H a)(hc:∀a∈φ,H' a=H a)(np:∀a∈φ,¬P a->¬P' a)(dm:∀a,P' a->H' a≠none)(tb:∀t∈NI.tb,fP H' t.1 t.2.1 t.2.2/\¬P' t.1):Sim mg P' φ st H' :=
 ⟨s.len,s.nd,dm,fun a h=>by rw[hc a h];exact s.cd a h,fun k c a e1 e2=>(s.cell k c a e1 e2).mono x (fun _ _ z=>z) (hc a (zW e2)) (np a (zW e2)),tb⟩
theorem Sim.nil[NI](dm:∀a,P a->H a≠none)(tb:∀t∈NI.tb,fP H t.1 t.2.1 t.2.2/\¬P t.1):Sim mg P [] [] H:=⟨rfl,List.nodup_nil,dm,fun _ h=>by simp at h,fun k c a e _=>by simp at e,tb⟩
theorem nq[NI](s:Sim mg P φ st H)(hp:H p=none):Frm P φ H (fun a=>P a\/a=p) φ (ae H p o)/\Sim mg (fun a=>P a\/a=p) φ st (ae H p o):=by
 have ne:∀a,H a≠none->a≠p:=fun a h e=>h (by rw[e];exact hp)
 have f:Frm P φ H (fun a=>P a\/a=p) φ (ae H p o):=by
  refine⟨fun a h=>⟨.inl h,ad (ne a (s.dom a h))⟩,⟨[],by simp,by simp⟩,fun a h _ _=>ad (ne a h),fun a h=>?_,fun a h=>by rw[ad (ne a h)];exact h,fun a o u h=>by rw[ad (ba h hp)];exact h⟩;rcases h with h|h
  ·exact .inl h
  ·exact .inr (.inl (by rw[h];exact hp))
 refine⟨f,s.stay f.ext (fun a h=>ad (ne a (s.cd a h))) (fun a h n z=>?_) (fun a h=>?_) fun t ht=>⟨(s.tb t ht).1.new hp,fun z=>z.elim (s.tb t ht).2 (fun e=>(s.tb t ht).1.ne hp e)⟩⟩
 ·rcases z with z|z
  ·exact n z
  ·exact ne a (s.cd a h) z
 ·rcases h with h|h
  ·rw[ad (ne a (s.dom a h))];exact s.dom a h
  ·rw[h,aw];exact fun z=>nomatch z
theorem mO[NI](s:Sim mg P φ st H)(hp:H p=none)(hc:CellR mg P (ae H p o) (φ++[p]) p c):Frm P φ H P (φ++[p]) (ae H p o)/\Sim mg P (φ++[p]) (st++[c]) (ae H p o):=by
 have ne:∀a,H a≠none->a≠p:=fun a h e=>h (by rw[e];exact hp)
 have ex:∀a,P a->P a/\ae H p o a=H a:=fun a h=>⟨h,ad (ne a (s.dom a h))⟩
 have ix:∀(k:Nat) a,φ[k]?=some a->(φ++[p])[k]?=some a:=fun k a e=>by rw[zN (zB.mp e).1];exact e
 have sm:∀a,H a≠none->ae H p o a≠none:=fun a h=>by rw[ad (ne a h)];exact h
 refine⟨⟨ex,⟨[p],rfl,fun a h=>by rw[zM.mp h];exact hp⟩,fun a h _ _=>ad (ne a h),fun a h=>.inl h,sm,fun a o u h=>by rw[ad (ba h hp)];exact h⟩,?_,?_,fun a h=>sm a (s.dom a h),fun a h=>?_,fun k d a e1 e2=>?_,fun t ht=>⟨(s.tb t ht).1.new hp,(s.tb t ht).2⟩⟩
 ·rw[zV,zV,s.len];rfl
 ·exact List.nodup_append.mpr ⟨s.nd,(by simp),fun a h b hb e=>ne a (s.cd a h) (by rw[e];exact zM.mp hb)⟩
 ·rcases zZ.mp h with h|h
  ·exact sm a (s.cd a h)
  ·rw[zM.mp h,aw];exact fun z=>nomatch z
 ·by_cases hk:k<st.length
  ·rw[zN hk]at e1
   rw[zN (by rw[s.len];exact hk)]at e2;exact(s.cell k d a e1 e2).mono ex ix (ad (ne a (s.cd a (zW e2)))) fun z=>z
  ·have hk':k=st.length:=by
    have:=(zB.mp e1).1
    rw[zV]at this;simp at this;lia
   subst hk';simp at e1;rw[<- s.len]at e2;simp at e2;subst e1;subst e2;exact hc
theorem iy[NI]{k:Nat}(s:Sim mg P φ st H)(ea:φ[k]?=some a)(na:¬P a)(hc:CellR mg P (ae H a o) φ a c)(nz:∀o u,H a≠some (.frz o u)):Frm P φ H P φ (ae H a o)/\Sim mg P φ (st.set k c) (ae H a o):=by
 have hm:a∈φ:=zW ea;have ne:∀b,P b->b≠a:=fun b h e=>na (by rw[<- e];exact h)
 have sm:∀b,H b≠none->ae H a o b≠none:=fun b h=>by
  by_cases e:b=a
  ·rw[e,aw];exact fun z=>nomatch z
  ·rw[ad e];exact h
 have ex:∀b,P b->P b/\ae H a o b=H b:=fun b h=>⟨h,ad (ne b h)⟩
 refine⟨⟨ex,⟨[],by simp,by simp⟩,fun b _ h _=>ad fun e=>h (by rw[e];exact hm),fun b h=>.inl h,sm,fun b o u h=>by rw[ad (fun e=>nz o u (by rw[<- e];exact h))];exact h⟩,by rw[List.length_set];exact s.len,s.nd,fun b h=>sm b (s.dom b h),fun b h=>sm b (s.cd b h),fun j d b e1 e2=>?_,fun t ht=>⟨(s.tb t ht).1.wr (s.notb ea na),(s.tb t ht).2⟩⟩;by_cases hj:j=k
 ·subst hj
  rw[ea]at e2;cases e2;rw[List.getElem?_set_self (by rw[<- s.len];exact(zB.mp ea).1)]at e1;cases e1;exact hc
 ·rw[List.getElem?_set_ne (Ne.symm hj)]at e1
  have hb:b≠a:=fun e=>hj (by
   subst e;exact nodup_ix' s.nd e2 ea)
  exact(s.cell j d b e1 e2).mono ex (fun _ _ z=>z) (ad hb) fun z=>z
where
 nodup_ix' {l:List Addr} (hN:l.Nodup) {i j:Nat}{x:Addr} (a:l[i]?=some x) (b:l[j]?=some x):i=j:=by
  obtain⟨h1,e1⟩:=zB.mp a;obtain⟨h2,e2⟩:=zB.mp b;exact(List.getElem_inj hN).mp (e1.trans e2.symm)
end
open PySem.Spec PyProof.Rows
open DD (PE_imp PT_imp PA_imp PS_imp PSs_imp OpR_imp PW_imp PG_imp)
abbrev St:=L2.St
abbrev _root_.L2.Cx.gm(X:Cx):Gm:=⟨X.K,X.mg⟩
def KG[NI]{α β:Type}(mg:Gm)(Rl:Gm->Pr->Hp->List Addr->α->β->Prop)(P:Pr)(φ:List Addr)(H:Hp)(r:Option (α×aa))(Q:β->Hp->Prop):Prop :=
 ∃a st',r=some (a,st')/\∀P' φ' H' b,Frm P φ H P' φ' H'->Sim mg P' φ' st' H'->Rl mg P' H' φ' a b->Q b H'
def RB{α:Type}(_:Gm)(_:Pr)(_:Hp)(_:List Addr)(a b:α):Prop:=a=b
section
variable{α β γ δ:Type}{mg:Gm}{Ra:Gm->Pr->Hp->List Addr->α->β->Prop}{Rc:Gm->Pr->Hp->List Addr->γ->δ->Prop}{P:Pr}{φ:List Addr}{H:Hp}
theorem KG.bind[NI]{m:Option (α×aa)}{k:α×aa->Option (γ×aa)}{Q:δ->Hp->Prop}(h:KG mg Rc P φ H (m.bind k) Q) :
  KG mg Ra P φ H m fun b H1=>∃P1 φ1 st1 a,Frm P φ H P1 φ1 H1/\Sim mg P1 φ1 st1 H1/\Ra mg P1 H1 φ1 a b/\KG mg Rc P1 φ1 H1 (k (a,st1)) Q:=by
 obtain⟨c,st',e,q⟩:=h;cases m with
 |none=>cases e
 |some p =>
  obtain⟨a,st1⟩:=p;refine⟨a,st1,rfl,fun P1 φ1 H1 b f s r=>⟨P1,φ1,st1,a,f,s,r,c,st',e,fun P' φ' H' d f' s' r'=>q P' φ' H' d (f.trans f') s' r'⟩⟩
theorem KG.pure[NI]{a:α}{st:aa}{Q:β->Hp->Prop}{b:β}(h:KG mg Ra P φ H (some (a,st)) Q)(s:Sim mg P φ st H)(r:Ra mg P H φ a b):Q b H:=by
 obtain⟨_,_,e,q⟩:=h;cases e;exact q P φ H b Frm.refl s r
theorem KG.map[NI]{m:Option α}{st:aa}{Q:β->Hp->Prop}(h:KG mg Ra P φ H (m.map fun a=>(a,st)) Q):∃a,m=some a/\KG mg Ra P φ H (some (a,st)) Q:=by
 obtain⟨b,st',e,q⟩:=h;cases m with
 |none=>cases e
 |some a=>exact⟨a,rfl,b,st',e,q⟩
end
def NO(mg:Gm)(P:Pr)(H:Hp)(φ:List Addr)(sl:Sl)(σ:St):Prop:=sl.length=σ.length/\∀(i:Nat) v,sl[i]?=some (some v)->∃w,σ[i]?=some (some w)/\RA mg P H φ v w
section
variable{mg:Gm}{P P':Pr}{H H':Hp}{φ φ':List Addr}{sl:Sl}{σ:St}
theorem NO.frm(h:NO mg P H φ sl σ)(f:Frm P φ H P' φ' H'):NO mg P' H' φ' sl σ:=⟨h.1,fun i v e=>let⟨w,e',r⟩:=h.2 i v e;⟨w,e',r.frm f⟩⟩
theorem NO.set(h:NO mg P H φ sl σ)(r:RA mg P H φ v w)(i:Nat):NO mg P H φ (sl.set i (some v)) (σ.set i (some w)):=by
 refine⟨by rw[List.length_set,List.length_set];exact h.1,fun j u e=>?_⟩;by_cases hj:i=j
 ·subst hj
  by_cases hi:i<sl.length
  ·rw[List.getElem?_set_self hi]at e
   cases e;exact⟨w,List.getElem?_set_self (by rw[<- h.1];exact hi),r⟩
  ·rw[List.getElem?_eq_none (by rw[List.length_set];lia)]at e;cases e
 ·rw[List.getElem?_set_ne hj]at e
  rw[List.getElem?_set_ne hj];exact h.2 j u e
end
abbrev EF:=Sl->aa->Option (AV×aa)
abbrev TF:=Sl->aa->Option (Bool×aa)
abbrev AF:=Sl->aa->Option (List AV×aa)
def rE[NI](mg:Gm)(f:EF):TE:=fun σ H Q=>∃P φ sl st,NO mg P H φ sl σ/\Sim mg P φ st H/\KG mg RA P φ H (f sl st) Q
def rT[NI](mg:Gm)(f:TF):TT:=fun σ H Q=>∃P φ sl st,NO mg P H φ sl σ/\Sim mg P φ st H/\KG mg RB P φ H (f sl st) Q
def rA[NI](mg:Gm)(f:AF):TA:=fun σ H Q=>∃P φ sl st,NO mg P H φ sl σ/\Sim mg P φ st H/\KG mg NJ P φ H (f sl st) Q
def QE[NI](X:Cx)(e:Expr)(f:EF):Prop:=PE X e (rE X.gm f)
def QT[NI](X:Cx)(e:Expr)(f:TF):Prop:=PT X e (rT X.gm f)
def QW[NI](X:Cx)(e:Expr)(f:TF):Prop:=PW X e (rT X.gm f)
def QA[NI](X:Cx)(es:List Expr)(f:AF):Prop:=PA X es (rA X.gm f)
def aV(i:Nat):EF:=fun sl st=>match sl[i]? with
 |some (some v)=>some (v,st)
 |_=>none
def aC(v:AV):EF:=fun _ st=>some (v,st)
def d4:AF:=fun _ st=>some ([],st)
def dz(f:EF)(g:AF):AF:=fun sl st=>(f sl st).bind fun p=>(g sl p.2).bind fun q=>some (p.1::q.1,q.2)
noncomputable def pE:AV->Option V
 |.non=>some .non
 |.bl b=>some (.bl b)
 |.int i=>some (.int i)
 |.str x=>some (.str x)
 |_=>none
theorem RA.sc(h:pE v=some w):RA mg P H φ v w:=by
 cases v<;>simp only[pE]at h<;>cases h<;>simp only[RA]
section
variable{X:Cx}{e:Expr}{es:List Expr}{pos:Pos}
theorem EZ[NI]{i:Nat}(hN:X.N[i]?=some x)(hv:xR X.env.scope x)(hd:(x==("__debug__":Str))=false)(hcd:(x==("__classdict__":Str))=false):QE X (.Name x pos) (aV i) :=
 PE_imp (Fm hN hv hd hcd) fun σ H Q hq0=>by
  obtain⟨P,φ,sl,st,r,s,k⟩:=hq0;unfold aV at k;cases h:sl[i]? with
  |none=>rw[h]at k;obtain⟨_,_,e,_⟩:=k;cases e
  |some o =>
   cases o with
   |none=>rw[h]at k;obtain⟨_,_,e,_⟩:=k;cases e
   |some v =>
    rw[h]at k;obtain⟨w,e,ra⟩:=r.2 i v h;exact⟨w,e,k.pure s ra⟩
theorem qM[NI](hw:pE v=some w)(h:PE X e t)(ht:∀σ H Q,Q w H->t σ H Q):QE X e (aC v) :=
 PE_imp h fun σ H Q ⟨P,φ,sl,st,r,s,k⟩=>ht σ H Q (k.pure s (RA.sc hw))
theorem d8[NI]:QA X [] d4:=PA_imp qP fun σ H Q ⟨P,φ,sl,st,r,s,k⟩=>k.pure s bj
theorem cF[NI](ha:QE X e f)(hr:QA X es g)(hs:starEach (e::es) X.env=(false,eval e X.env)::starEach es X.env):QA X (e::es) (dz f g) :=
 PA_imp (lE ha hr hs) fun σ H Q ⟨P,φ,sl,st,r,s,k⟩=>⟨P,φ,sl,st,r,s,by
  obtain⟨a,st',e1,q⟩:=k.bind (Ra:=RA);refine⟨a,st',e1,fun P1 φ1 H1 b f1 s1 r1=>?_⟩;obtain⟨P2,φ2,st2,a2,f2,s2,r2,k2⟩:=q P1 φ1 H1 b f1 s1 r1;refine⟨P2,φ2,sl,st2,r.frm f2,s2,?_⟩;obtain⟨xs,st3,e3,q3⟩:=k2.bind (Ra:=NJ);refine⟨xs,st3,e3,fun P4 φ4 H4 bs f4 s4 r4=>?_⟩;obtain⟨P5,φ5,st5,a5,f5,s5,r5,k5⟩:=q3 P4 φ4 H4 bs f4 s4 r4;exact k5.pure s5 (aU (r2.frm f5) r5)⟩
end
def a2(f g:EF)(k:AV->AV->aa->Option (AV×aa)):EF:=fun sl st=>(f sl st).bind fun p=>(g sl p.2).bind fun q=>k p.1 q.1 q.2
def a1(f:EF)(k:AV->aa->Option (AV×aa)):EF:=fun sl st=>(f sl st).bind fun p=>k p.1 p.2
def r2[NI](mg:Gm)(k:AV->AV->aa->Option (AV×aa)):R2:=fun v w H Q=>∃P φ st x y,Sim mg P φ st H/\RA mg P H φ x v/\RA mg P H φ y w/\KG mg RA P φ H (k x y st) Q
def r1[NI](mg:Gm)(k:AV->aa->Option (AV×aa)):V->Hp->VK->Prop:=fun v H Q=>∃P φ st x,Sim mg P φ st H/\RA mg P H φ x v/\KG mg RA P φ H (k x st) Q
section
variable{mg:Gm}{k:AV->AV->aa->Option (AV×aa)}{k1:AV->aa->Option (AV×aa)}{f g:EF}
theorem vT[NI](q:rE mg (a2 f g k) σ H Q):wq (r2 mg k) (rE mg f) (rE mg g) σ H Q:=by
 obtain⟨P,φ,sl,st,rs,s,kk⟩:=q;refine⟨P,φ,sl,st,rs,s,?_⟩;obtain⟨a,st',e1,q⟩:=kk.bind (Ra:=RA);refine⟨a,st',e1,fun P1 φ1 H1 b f1 s1 r1=>?_⟩;obtain⟨P2,φ2,st2,x,f2,s2,r2,k2⟩:=q P1 φ1 H1 b f1 s1 r1;refine⟨P2,φ2,sl,st2,rs.frm f2,s2,?_⟩;obtain⟨a',st3,e3,q3⟩:=k2.bind (Ra:=RA);refine⟨a',st3,e3,fun P4 φ4 H4 b' f4 s4 r4=>?_⟩;obtain⟨P5,φ5,st5,y,f5,s5,r5,k5⟩:=q3 P4 φ4 H4 b' f4 s4 r4;exact⟨P5,φ5,st5,x,y,s5,r2.frm f5,r5,k5⟩
theorem Lo[NI](q:rE mg (a1 f k1) σ H Q):Jz (r1 mg k1) (rE mg f) σ H Q:=by
 obtain⟨P,φ,sl,st,rs,s,kk⟩:=q;refine⟨P,φ,sl,st,rs,s,?_⟩;obtain⟨a,st',e1,q⟩:=kk.bind (Ra:=RA);refine⟨a,st',e1,fun P1 φ1 H1 b f1 s1 r1=>?_⟩;obtain⟨P2,φ2,st2,x,f2,s2,r2,k2⟩:=q P1 φ1 H1 b f1 s1 r1;exact⟨P2,φ2,st2,x,s2,r2,k2⟩
end
def kF(h:aa->AV->AV->Option AV):AV->AV->aa->Option (AV×aa):=fun x y st=>(h st x y).map fun z=>(z,st)
def Ey(h:aa->AV->Option AV):AV->aa->Option (AV×aa):=fun x st=>(h st x).map fun z=>(z,st)
noncomputable def dD(a b:Int):Bool:=(Nat.ble a.natAbs.log2 62||Nat.ble b.natAbs.log2 62)||(Nat.ble a.natAbs.log2 1000000&&Nat.ble b.natAbs.log2 1000000)
noncomputable def eC(b:Int):Bool:=!(b==0)&&Nat.ble b.natAbs.log2 8999
noncomputable def u9(a b:Int):Bool:=decide (0<=b)&&Nat.ble b.natAbs 100000&&Nat.ble a.natAbs.log2 62
noncomputable def uk(a b:Int):Int:=if 0<b then a/b else a.fdiv b
noncomputable def oe(a b:Int):Int:=if 0<b then a%b else a.fmod b
def sP:Operator->Int->Int->Option Int
 |.Add,a,b=>some (a+b)
 |.Sub,a,b=>some (a-b)
 |.Mult,a,b=>if dD a b=true then some (a*b) else none
 |.FloorDiv,a,b=>if eC b=true then some (uk a b) else none
 |.Mod,a,b=>if b=0 then none else some (oe a b)
 |.Pow,a,b=>if u9 a b=true then some (a^b.toNat) else none
 |.LShift,a,b=>if u9 a b=true then some (a*2^b.toNat) else none
 |.RShift,a,b=>if 0<=b then some (a/2^b.toNat) else none
 |.BitAnd,a,b=>some (Builtin.bitAnd a b)
 |.BitOr,a,b=>some (Builtin.bitOr a b)
 |.BitXor,a,b=>some (Builtin.bitXor a b)
 |_,_,_=>none
def aY(o:Operator)(_:aa):AV->AV->Option AV
 |.int a,.int b=>(sP o a b).map .int
 |.str a,.str b=>if(decide (o=.Add)&&Nat.ble (a.length+b.length) 1000000)=true then some (.str (a++b)) else none
 |_,_=>none
theorem log2_lt{n k:Nat}(h:Nat.ble n.log2 k=true):n<2^(k+1):=by
 by_cases h0:n=0
 ·subst h0;exact Nat.two_pow_pos _
 ·exact(Nat.log2_lt h0).mp (Nat.lt_succ_of_le (zS h))
theorem lP{a:Int}{k:Nat}(h:a.natAbs<2^k):Builtin.Int.intBits a<=k:=by
 unfold Builtin.Int.intBits;split
 ·lia
 ·rename_i h0
  have:a.natAbs.log2<k:=(Nat.log2_lt (by simpa using h0)).mpr h;lia
theorem Dj{a b:Int}(h:dD a b=true):IntMulOk a b:=by
 unfold dD at h;rcases Bool.or_eq_true_iff.mp h with h|h
 ·rcases Bool.or_eq_true_iff.mp h with h|h
  ·exact .of_left (z5 (lP (log2_lt h)) dC)
  ·exact .of_right (z5 (lP (log2_lt h)) dC)
 ·obtain⟨h1,h2⟩:=Bool.and_eq_true_iff.mp h
  exact .of_bits (z5 (lP (log2_lt h1)) dC) (z5 (lP (log2_lt h2)) dC)
theorem DC{b:Int}(h:eC b=true):b≠0/\b.natAbs.log2<9000:=by
 unfold eC at h;obtain⟨h1,h2⟩:=Bool.and_eq_true_iff.mp h;exact⟨by simpa using h1,Nat.lt_succ_of_le (zS h2)⟩
theorem GK(a b:Int):a.fdiv b=uk a b:=by
 unfold uk;split
 ·exact Int.fdiv_eq_ediv_of_nonneg _ oM
 ·rfl
theorem GD(a b:Int):a.fmod b=oe a b:=by
 unfold oe;split
 ·exact Int.fmod_eq_emod_of_nonneg _ oM
 ·rfl
theorem tS{a b:Int}(h:u9 a b=true):Lr a b:=by
 unfold u9 at h;simp only[zC,yB]at h;obtain⟨⟨h1,h2⟩,h3⟩:=h;have h2:=zS h2;exact⟨h1,by lia,zJ (log2_lt h3) dC⟩
def KR(o:Operator):R2:=fun x y H Q=>(∃i j k,x=.int i/\y=.int j/\sP o i j=some k/\Q (.int k) H)\/(o=.Add/\∃i j,x=.str i/\y=.str j/\i.length+j.length<=sizeLine/\Q (.str (i++j)) H)
section
variable{X:Cx}
theorem FF(o:Operator):k9 X (binaryOp o) (KR o):=by
 have hI:∀(h:∀i j k t u s (Q:Value->Shared->Prop) (E:Value->Shared->Prop),sP o i j=some k->Q (.int k s.toks) { s with toks:=s.toks+1 }->wpAny (model X.prog X.w) X.A (binaryOp o (.int i t) (.int j u)) Q E s)
   (ND:List (Addr×Obj)) (s:Shared) (σ:St) (H:Hp) (x y:V) (v u:Value) (Q:VK),Inv X ND σ H s->RelV x v->RelV y u->(∃i j k,x=.int i/\y=.int j/\sP o i j=some k/\Q (.int k) H) ->
   wpAny (model X.prog X.w) X.A (binaryOp o v u) (EP X ND σ Q) X.xe s:=by
  rintro h ND s σ H x y v u Q I rx ry ⟨i,j,k,e1,e2,e3,q⟩;subst e1;subst e2;obtain⟨t,rfl⟩:=rx;obtain⟨t',rfl⟩:=ry;exact h i j k t t' s _ _ e3 ⟨.int k,H,I.tok _,⟨_,rfl⟩,q⟩
 intro ND s σ H x y v u Q I rx ry h;rcases h with h|⟨rfl,h⟩
 ·refine hI ?_ ND s σ H x y v u Q I rx ry h
  intro i j k t u s Q E e q;cases o<;>simp only[sP]at e
  case Add=>cases e;exact add_int q
  case Sub=>cases e;exact sub_int q
  case Mult =>
   split at e
   ·rename_i hm;cases e;exact mul_int q (Dj hm)
   ·cases e
  case FloorDiv =>
   split at e
   ·rename_i hm;cases e
    obtain⟨h1,h2⟩:=DC hm;exact floordiv_int h1 (by rw[GK];exact q) (.inl (PyProof.noPylong_of_log2 h2))
   ·cases e
  case Mod =>
   split at e
   ·cases e
   ·rename_i hm;cases e
    exact mod_int' hm (by rw[GD];exact q)
  case Pow =>
   split at e
   ·rename_i hm;cases e
    have c:=tS hm;exact pow_int_small c.1 c.2.1 c.2.2 q
   ·cases e
  case LShift =>
   split at e
   ·rename_i hm;cases e
    have c:=tS hm;exact lshift_int_small c.1 c.2.1 c.2.2 q
   ·cases e
  case RShift =>
   split at e
   ·rename_i hm;cases e
    exact rshift_int hm (by rw[Int.fdiv_eq_ediv_of_nonneg _ (uB _)];exact q)
   ·cases e
  case BitAnd=>cases e;exact and_int q
  case BitOr=>cases e;exact or_int q
  case BitXor=>cases e;exact xor_int q
  all_goals cases e
 ·exact vf ND s σ H x y v u Q I rx ry h
theorem FI[NI](o:Operator):k9 X (binaryOp o) (r2 X.gm (kF (aY o))):=OpR_imp (FF o) fun v w H Q hq0=>by
 obtain ⟨P,φ,st,x,y,s,r1,r2,k⟩:=hq0;obtain ⟨z,e,k⟩:=k.map;cases x <;> cases y <;> simp only [aY] at e <;> first | (cases e;done) | skip
 ·rename_i a b
  simp only[RA]at r1 r2;obtain⟨c,e1,e2⟩:=zE.mp e;subst e2;exact .inl ⟨a,b,c,r1,r2,e1,k.pure s (by simp only[RA])⟩
 ·rename_i a b
  simp only[RA]at r1 r2;split at e
  ·rename_i hc
   cases e;simp only[zC,yB]at hc;exact .inr ⟨hc.1,a,b,r1,r2,z5 (zS hc.2) dC,k.pure s (by simp only[RA])⟩
  ·cases e
theorem E7[NI](ha:QE X a f)(hb:QE X b g):QE X (.BinOp a o b pos) (a2 f g (kF (aY o))) :=
 PE_imp (ve (FI o) ha hb) fun _ _ _ q=>vT q
end
open DD (pyOk reads_each any_vals obj_list obj_tup)
def dr(st:aa):AV->AV
 |.ref k=>match st[k]? with
  |some (.al t)=>t
  |_=>.ref k
 |v=>v
def bL(st:aa)(v:AV):Option (List AV):=match dr st v with
 |.fz xs=>some xs
 |.ref k=>match st[k]? with
  |some (.lst xs)=>some xs
  |_=>none
 |_=>none
def iU(st:aa)(v:AV):Option (List AV):=match dr st v with
 |.tup xs=>some xs
 |_=>none
section
variable{mg:Gm}{P:Pr}{φ:List Addr}{st:aa}{H:Hp}{v:AV}{w:V}{xs:List AV}
theorem RA.dr[NI](s:Sim mg P φ st H)(r:RA mg P H φ v w):RA mg P H φ (dr st v) w:=by
 cases v with
 |ref k =>
  unfold R.dr;dsimp only;split
  ·rename_i t h
   obtain⟨a,e,c⟩:=s.at h;simp only[RA]at r;obtain⟨a',e',rfl⟩:=r;rw[e]at e';cases e';exact c.2.lift
  ·exact r
 |_=>exact r
theorem RA.ls[NI](s:Sim mg P φ st H)(r:RA mg P H φ v w)(h:bL st v=some xs):∃a vs,w=.ref a/\bK mg.K H a vs/\NJ mg P H φ xs vs:=by
 have r:=r.dr s;unfold bL at h;split at h
 ·rename_i ys e
  cases h;rw[e]at r;simp only[RA]at r;obtain⟨a,vs,e1,e2,q⟩:=r;exact⟨a,vs,e1,e2.sq,q.lift⟩
 ·rename_i k e
  rw[e]at r;simp only[RA]at r;obtain⟨a,e1,e2⟩:=r;split at h
  ·rename_i ys e3
   cases h;obtain⟨a',e4,c⟩:=s.at e3;rw[e1]at e4;cases e4;obtain⟨_,vs,q1,q2⟩:=c;exact⟨a,vs,e2,.inl (.inl q1),q2⟩
  ·cases h
 ·cases h
theorem RA.tp[NI](s:Sim mg P φ st H)(r:RA mg P H φ v w)(h:iU st v=some xs):∃a vs,w=.ref a/\H a=some (.tup vs)/\NJ mg P H φ xs vs:=by
 have r:=r.dr s;unfold iU at h;split at h
 ·rename_i ys e
  cases h;rw[e]at r;simp only[RA]at r;obtain⟨a,vs,e1,_,e2,q⟩:=r;exact⟨a,vs,e1,e2,q⟩
 ·cases h
end
noncomputable def aP{α β:Type}(f:α->Option β):List α->Option (List β)
 |[]=>some []
 |x::xs=>(f x).bind fun y=>(aP f xs).map fun ys=>y::ys
theorem c6{α β γ:Type}{f:α->Option β}{i:γ->α}{g:γ->β}(h:∀x,f (i x)=some (g x))(xs:List γ):aP f (xs.map i)=some (xs.map g):=by
 induction xs with
 |nil=>rfl
 |cons x xs ih=>simp only[zO,aP,h,ih,bind_some,map_some]
def bU:Nat->aa->AV->Option PyData
 |_,_,.non=>some .none
 |_,_,.bl b=>some (.bool b)
 |_,_,.int i=>some (.int i)
 |_,_,.str x=>some (.str x)
 |n+1,st,.fz xs=>(aP (bU n st) xs).map .list
 |n+1,st,.tup xs=>(aP (bU n st) xs).map .tuple
 |n+1,st,.ref k=>match st[k]? with
  |some (.lst xs)=>(aP (bU n st) xs).map .list
  |some (.al t)=>bU n st t
  |_=>none
 |0,_,_=>none
section
variable{X:Cx}{ND:List (Addr×Obj)}{σ:St}{H:Hp}{s:Shared}{P:Pr}{φ:List Addr}{st:aa}
theorem qI[NI]{n:Nat}(ih:∀t v p u,RA mg P H φ t v->bU n st t=some p->RelV v u->∃as,Reads s.heap u p as) :
  ∀{xs:List AV}{vs:List V}{ps:List PyData}{us:List Value},NJ mg P H φ xs vs->aP (bU n st) xs=some ps->Vals vs us->∃as,ReadsAll s.heap us ps as:=by
 intro xs
 induction xs with
 |nil =>
  intro vs ps us r e q;simp only[NJ]at r;subst r;cases e;cases q;exact⟨_,.nil⟩
 |cons x xs ihx =>
  intro vs ps us r e q;simp only[NJ]at r;obtain⟨v,ws,rfl,r1,r2⟩:=r;simp only[aP]at e;obtain⟨p,e1,e2⟩:=zA e;obtain⟨qs,e3,e4⟩:=zE.mp e2;subst e4;cases q with
  |cons q1 q2 =>
   obtain⟨as,ra⟩:=ih x v p _ r1 e1 q1;obtain⟨bs,rb⟩:=ihx r2 e3 q2;exact⟨_,.cons ra rb⟩
theorem gJ[NI](I:L2.Inv X ND σ H s)(sm:Sim X.gm P φ st H):∀(n:Nat)(t:AV)(v:V)(p:PyData)(u:Value),RA X.gm P H φ t v->bU n st t=some p->RelV v u->∃as,Reads s.heap u p as:=by
 have lst:∀{a:Addr}{vs:List V}{u:Value}{ps:List PyData},bK X.K H a vs->RelV (.ref a) u->(∀{us:List Value},Vals vs us->∃as,ReadsAll s.heap us ps as)->∃as,Reads s.heap u (.list ps) as:=by
  intro a vs u ps h ru k;cases ru;obtain⟨NH,ob,m,rv,e1,e2,e3⟩:=obj_list I h;obtain⟨as,ra⟩:=k rv;exact⟨_,.list e1 e2 e3 ra⟩
 have flat:∀(n:Nat)(t:AV)(v:V)(p:PyData)(u:Value)(w:V),pE t=some w->RA X.gm P H φ t v->bU n st t=some p->RelV v u->∃as,Reads s.heap u p as:=by
  intro n t v p u w hs r e ru;cases t with
  | non=>cases n <;> (simp only [bU] at e;cases e;simp only [RA] at r;subst r;cases ru;exact ⟨_,.none⟩)
  | bl b=>cases n <;> (simp only [bU] at e;cases e;simp only [RA] at r;subst r;cases ru;exact ⟨_,.bool b⟩)
  | int i=>cases n <;> (simp only [bU] at e;cases e;simp only [RA] at r;subst r;obtain ⟨t,rfl⟩:=ru;exact ⟨_,.int i t⟩)
  | str x=>cases n <;> (simp only [bU] at e;cases e;simp only [RA] at r;subst r;obtain ⟨t,rfl⟩:=ru;exact ⟨_,.str x t⟩)
  |_=>cases hs
 intro n
 induction n with
 |zero =>
  intro t v p u r e ru;cases t with
  |non=>exact flat 0 _ v p u _ rfl r e ru
  |bl b=>exact flat 0 _ v p u _ rfl r e ru
  |int i=>exact flat 0 _ v p u _ rfl r e ru
  |str x=>exact flat 0 _ v p u _ rfl r e ru
  |_=>simp only[bU]at e;cases e
 |succ n ih =>
  intro t v p u r e ru;cases t with
  |non=>exact flat _ _ v p u _ rfl r e ru
  |bl b=>exact flat _ _ v p u _ rfl r e ru
  |int i=>exact flat _ _ v p u _ rfl r e ru
  |str x=>exact flat _ _ v p u _ rfl r e ru
  |fz xs =>
   simp only[bU]at e;obtain⟨ps,e1,e2⟩:=zE.mp e;subst e2;simp only[RA]at r;obtain⟨a,vs,rfl,h,q⟩:=r;exact lst h.sq ru fun rv=>qI ih q.lift e1 rv
  |tup xs =>
   simp only [bU] at e;obtain ⟨ps,e1,e2⟩:=zE.mp e;subst e2;simp only [RA] at r;obtain ⟨a,vs,rfl,_,h,q⟩:=r;cases ru;obtain ⟨NH,ob,m,rv,h1,h2,h3⟩:=obj_tup I (show gk X.K H a vs from .inl (.inl h));obtain ⟨as,ra⟩:=qI ih q e1 rv;exact ⟨_,.tuple h1 h2 h3 ra⟩
  |ref k =>
   simp only[bU]at e;simp only[RA]at r;obtain⟨a,ea,rfl⟩:=r;split at e
   ·rename_i xs hk
    obtain⟨ps,e1,e2⟩:=zE.mp e;subst e2;obtain⟨a',ea',c⟩:=sm.at hk;rw[ea]at ea';cases ea';obtain⟨_,vs,h,q⟩:=c;exact lst (.inl (.inl h)) ru fun rv=>qI ih q e1 rv
   ·rename_i t hk
    obtain⟨a',ea',c⟩:=sm.at hk;rw[ea]at ea';cases ea';exact ih t _ p u c.2.lift e ru
   ·cases e
end
noncomputable def yr:PyData->Option Str
 |.str a=>some a
 |_=>none
theorem tP{p:PyData}{a:Str}(h:yr p=some a):p=.str a:=by
 cases p with
 |str b=>cases h;rfl
 |_=>cases h
def KF(p q:PyData):Option Bool:=(yr p).bind fun a=>(yr q).map fun b=>a==b
def je(st:aa)(x y:AV):Option Bool:=(bU 9 st x).bind fun p=>(bU 9 st y).bind fun q=>if pyOk p q=true then some (PyData.eqv p q) else KF p q
def jZ:AV->Option aT
 |.int i=>some (.inl i)
 |.str x=>some (.inr x)
 |_=>none
noncomputable def mK{κ:Type}[DecidableEq κ](NE:List (κ×AV))(k:κ):Option AV:=(NE.find? fun kv=>decide (kv.1=k)).map (·.2)
def jg(st:aa):AV->Option (List (aT×AV))
 |.ref k=>match st[k]? with
  |some (.dK NE)=>some NE
  |_=>none
 |_=>none
def my(st:aa):AV->Option (List (List aT×AV))
 |.ref k=>match st[k]? with
  |some (.dT NE)=>some NE
  |_=>none
 |_=>none
def mU(st:aa)(y x:AV):Option (Option AV):=match jg st y with
 |some NE=>(jZ x).map fun k=>mK NE k
 |none=>match my st y with
  |some NE=>match x with
   |.tup xs=>(aP jZ xs).map fun k=>mK NE k
   |_=>none
  |none=>none
def rR(st:aa)(x y:AV):Option Bool:=match mU st y x with
 |some o=>some o.isSome
 |none=>match x,y with
  |.str a,.str b=>some (!(Builtin.Str.occurrences b a 0 b.length 1).isEmpty)
  |_,_=>(bU 9 st x).bind fun q=>(bU 9 st y).bind fun p=>match p with
   |.list ps=>if(ps.all fun r=>pyOk r q)=true then some (ps.any fun r=>PyData.eqv r q) else none
   |.tuple ps=>if(ps.all fun r=>pyOk r q)=true then some (ps.any fun r=>PyData.eqv r q) else none
   |_=>none
noncomputable def Af:CmpOp->Int->Int->Option Bool
 |.Lt,a,b=>some (decide (a<b))
 |.LtE,a,b=>some (decide (a<=b))
 |.Gt,a,b=>some (decide (b<a))
 |.GtE,a,b=>some (decide (b<=a))
 |_,_,_=>none
noncomputable def FK:AV->Bool
 |.non=>true
 |_=>false
def Gf(x y:AV):Option Bool:=match y with
 |.non=>some (FK x)
 |.bl b=>(match x with
  |.bl a=>some (a==b)
  |_=>none)
 |_=>none
def b9(o:CmpOp)(st:aa)(x y:AV):Option Bool:=match o with
 |.Eq=>je st x y
 |.NotEq=>(je st x y).map (!·)
 |.Is=>Gf x y
 |.IsNot=>(Gf x y).map (!·)
 |.In=>rR st x y
 |.NotIn=>(rR st x y).map (!·)
 |o=>match x,y with
  |.int a,.int b=>Af o a b
  |_,_=>none
def mW(o:CmpOp)(st:aa)(x y:AV):Option AV:=(b9 o st x y).map .bl
theorem oS(h:pyOk p q=true):p.canLay0=true/\q.canLay0=true/\min p.depth q.depth<=50:=by
 simp only[pyOk,zC,yB]at h;exact⟨h.1.1,h.1.2,h.2⟩
theorem jU{P:Pr}{H:Hp}{φ:List Addr}{κ:Type}[DecidableEq κ]{NE:List (κ×AV)}{ws:List (κ×V)}(h:KVR mg P H φ NE ws)(k:κ) :
  (mK NE k).isSome=(eP ws k).isSome/\∀v,mK NE k=some v->∃w,eP ws k=some w/\RA mg P H φ v w:=by
 induction NE generalizing ws with
 |nil =>
  have:ws=[]:=by simpa using h.1.symm
  subst this;exact⟨rfl,fun v e=>by cases e⟩
 |cons p NE ih =>
  cases ws with
  |nil=>exact absurd h.1 (by simp)
  |cons q ws =>
   obtain⟨h1,h2⟩:=h;rw[zO,zO]at h1 h2;injection h1 with h3 h4;simp only[NJ]at h2;obtain⟨v,vs,h5,h6,h7⟩:=h2;injection h5 with h8 h9;subst h8;subst h9;by_cases e:q.1=k
   ·have e':p.1=k:=h3.trans e
    simp only[mK,eP,List.find?_cons,e,e',decide_true,map_some];refine⟨rfl,fun v hv=>?_⟩;cases hv;exact⟨_,rfl,h6⟩
   ·have e':¬p.1=k:=fun z=>e (h3.symm.trans z)
    have:=ih (ws:=ws) ⟨h4,h7⟩
    simp only[mK,eP,List.find?_cons,e,e',decide_false]at this ⊢;exact this
section
variable{X:Cx}{ND:List (Addr×Obj)}{σ:St}{H:Hp}{s:Shared}{P:Pr}{φ:List Addr}{st:aa}
theorem mS(h:jZ x=some k)(r:RA mg P H φ x v):v=kV k:=by
 cases x <;> simp only [jZ] at h <;> first | (cases h;done) | skip
 ·cases h;simp only[RA]at r;exact r
 ·cases h;simp only[RA]at r;exact r
theorem pK[NI]:∀{xs:List AV}{vs:List V}{k:List aT},aP jZ xs=some k->NJ mg P H φ xs vs->vs=k.map kV:=by
 intro xs
 induction xs with
 |nil=>intro vs k e r;cases e;simp only[NJ]at r;exact r
 |cons x xs ih =>
  intro vs k e r;simp only[aP]at e;obtain⟨p,e1,e2⟩:=zA e;obtain⟨qs,e3,e4⟩:=zE.mp e2;subst e4;simp only[NJ]at r;obtain⟨v,ws,rfl,r1,r2⟩:=r;rw[mS e1 r1,ih e3 r2];rfl
theorem rX[NI](sm:Sim X.gm P φ st H){x y:AV}{v w:V}{o:Option AV}(h:mU st y x=some o)(rx:RA X.gm P H φ x v)(ry:RA X.gm P H φ y w) :
  ∃a o',w=.ref a/\DGet H a v o'/\o.isSome=o'.isSome/\∀t,o=some t->∃u,o'=some u/\RA X.gm P H φ t u:=by
 unfold mU at h;split at h
 ·rename_i NE e
  obtain ⟨k,e1,e2⟩:=zE.mp h;subst e2;cases y <;> simp only [jg] at e <;> first | (cases e;done) | skip
  split at e
  ·rename_i j kvs' e3
   cases e;simp only[RA]at ry;obtain⟨a,ea,rfl⟩:=ry;obtain⟨a',ea',c⟩:=sm.at e3;rw[ea]at ea';cases ea';obtain⟨_,ws,q1,q2⟩:=c
   have:=mS e1 rx
   subst this;exact⟨a,_,rfl,DGet.k q1,(jU q2 k).1,(jU q2 k).2⟩
  ·cases e
 ·split at h
  ·rename_i NE e
   split at h
   ·rename_i xs
    obtain ⟨k,e1,e2⟩:=zE.mp h;subst e2;cases y <;> simp only [my] at e <;> first | (cases e;done) | skip
    split at e
    ·rename_i j kvs' e3
     cases e;simp only[RA]at ry;obtain⟨a,ea,rfl⟩:=ry;obtain⟨a',ea',c⟩:=sm.at e3;rw[ea]at ea';cases ea';obtain⟨_,ws,q1,q2⟩:=c;simp only[RA]at rx;obtain⟨b,vs,rfl,_,hb,rr⟩:=rx;rw[pK e1 rr]at hb;exact⟨a,_,rfl,DGet.t q1 hb,(jU q2 k).1,(jU q2 k).2⟩
    ·cases e
   ·cases h
  ·cases h
theorem rQ(hu:X.A.units+64<cLine){v:Value}{q:PyData}{as bs:List Addr}{ps:List PyData}{items:Array Value}(ra:Reads s.heap v q as)(rb:ReadsAll s.heap items.toList ps bs)(hk:(ps.all fun r=>pyOk r q)=true) :
  ∃e:Value->Bool,(∀z∈items,SeqAt.EqAt X.A.in1 s z v (e z))/\items.any e=ps.any fun r=>PyData.eqv r q:=by
 classical
 have uq:∀z p' az,Reads s.heap z p' az->decide (∃p as,Reads s.heap z p as/\PyData.eqv p q=true)=PyData.eqv p' q:=by
  intro z p' az rz;rcases he:PyData.eqv p' q with _|_
  ·refine z9 ?_
   rintro⟨p2,as',r',e'⟩
   have:=(PySem.Reads.unique rz p2 as' r').1
   rw[<- this,he]at e';cases e'
  ·exact yV ⟨p',az,rz,he⟩
 refine⟨fun z=>decide (∃p as,Reads s.heap z p as/\PyData.eqv p q=true),fun z hz=>?_,?_⟩
 ·obtain⟨pz,az,hpz,rz⟩:=reads_each rb z (by simpa using hz)
  obtain⟨k1,k2,k3⟩:=oS (yQ.mp hk pz hpz);dsimp only;rw[uq z pz az rz];exact PySem.SeqAt.eqAt_reads pz q _ s z v az as rz ra k1 k2 (by simp only[Around.in1_units];lia)
 ·have hc:=any_vals (q:=q) (e:=fun z=>decide (∃p as,Reads s.heap z p as/\PyData.eqv p q=true)) (h:=s.heap) (fun v p as rv=>uq v p as rv) rb
  rw[<- hc];simp
theorem uc[NI](hu:X.A.units+64<cLine)(I:L2.Inv X ND σ H s)(sm:Sim X.gm P φ st H){x y:AV}{v w:V}{u r:Value}{b:Bool}(h:rR st x y=some b)(rx:RA X.gm P H φ x v)(ry:RA X.gm P H φ y w)(ru:RelV v u)(rr:RelV w r){E:Value->Shared->Prop}
  {Q:Value->Shared->Prop}{Q':Value->Shared->Prop} (hQ:∀s',L2.Inv X ND σ H s'->Q (.bool b) s') (hQ':∀s',L2.Inv X ND σ H s'->Q' (.bool (!b)) s') :
  wpAny (model X.prog X.w) X.A (compareOp .In u r) Q E s/\wpAny (model X.prog X.w) X.A (compareOp .NotIn u r) Q' E s:=by
 unfold rR at h;split at h
 ·rename_i o e
  cases h;obtain⟨a,o',rfl,g,eo,_⟩:=rX sm e rx ry;cases rr;exact⟨Li oM I g ru fun s' I'=>by rw[<- eo];exact hQ s' I',DF oM I g ru fun s' I'=>by rw[<- eo];exact hQ' s' I'⟩
 ·split at h
  ·rename_i a c
   cases h;simp only[RA]at rx ry;subst rx;subst ry;obtain⟨t,rfl⟩:=ru;obtain⟨t',rfl⟩:=rr;exact⟨in_str (hQ s I),notIn_str (hQ' s I)⟩
  ·obtain⟨q,e1,e2⟩:=zA h
   obtain⟨p,e3,e4⟩:=zA e2;obtain⟨as,ra⟩:=gJ I sm 9 _ _ _ _ rx e1 ru;obtain⟨bs,rb⟩:=gJ I sm 9 _ _ _ _ ry e3 rr;split at e4
   ·rename_i ps
    split at e4
    ·rename_i hk
     cases e4;cases rb with
     |@list a o items n xs as' hg hc hdt rall =>
      obtain⟨e,he,ee⟩:=rQ hu ra rall hk;have hl:s.heap.IsList a items:=⟨o,hg,hc,n,hdt⟩;exact⟨SeqAt.in_listAt e hl he (by rw[ee];exact hQ s I),SeqAt.notIn_listAt e hl he (by rw[ee];exact hQ' s I)⟩
    ·cases e4
   ·rename_i ps
    split at e4
    ·rename_i hk
     cases e4;cases rb with
     |@tuple a o items n xs as' hg hc hdt rall =>
      obtain⟨e,he,ee⟩:=rQ hu ra rall hk;have hl:IsTup s.heap a items:=⟨o,hg,hc,n,hdt⟩;exact⟨SeqAt.in_tupleAt e hl he (by rw[ee];exact hQ s I),SeqAt.notIn_tupleAt e hl he (by rw[ee];exact hQ' s I)⟩
    ·cases e4
   ·cases e4
end
section
variable{X:Cx}
theorem wR[NI](hu:X.A.units+64<cLine)(o:CmpOp):k9 X (compareOp o) (r2 X.gm (kF (mW o))):=by
 rintro ND s σ H v w u r Q I ru rr ⟨P,φ,st,x,y,sm,rx,ry,k⟩;obtain⟨z,e,k⟩:=k.map;obtain⟨b,e1,e2⟩:=zE.mp e;subst e2;have ay:∀s',L2.Inv X ND σ H s'->EP X ND σ Q (.bool b) s':=fun s' I'=>⟨.bl b,H,I',rfl,k.pure sm (by simp only[RA])⟩
 have neg:∀{o:Option Bool},o.map (!·)=some b->∃c,o=some c/\b=!c:=fun h=>by
  obtain⟨c,h1,h2⟩:=zE.mp h;exact⟨c,h1,h2.symm⟩
 have eq:∀{c:Bool},je st x y=some c->∀{Q:Value->Shared->Prop}{E:Value->Shared->Prop},(Q (.bool c) s->wpAny (model X.prog X.w) X.A (compareOp .Eq u r) Q E s)/\(Q (.bool (!c)) s->wpAny (model X.prog X.w) X.A (compareOp .NotEq u r) Q E s):=by
  intro c h Q E;unfold je at h;obtain⟨p,h1,h2⟩:=zA h;obtain⟨q,h3,h4⟩:=zA h2;split at h4
  ·rename_i hk
   cases h4;obtain⟨c1,c2,hd⟩:=oS hk;obtain⟨as,ra⟩:=gJ I sm 9 _ _ _ _ rx h1 ru;obtain⟨bs,rb⟩:=gJ I sm 9 _ _ _ _ ry h3 rr;exact⟨fun q=>SeqAt.eqOverData _ _ _ _ _ _ _ _ _ _ _ _ ra rb c1 c2 oM q,fun q=>SeqAt.neOverData _ _ _ _ _ _ _ _ _ _ _ _ ra rb c1 c2 oM q⟩
  ·obtain⟨a,ha,h5⟩:=zA h4
   obtain⟨b,hb,h6⟩:=zE.mp h5;subst h6;rw[tP ha]at h1;rw[tP hb]at h3;obtain⟨as,ra⟩:=gJ I sm 9 _ _ _ _ rx h1 ru;obtain⟨bs,rb⟩:=gJ I sm 9 _ _ _ _ ry h3 rr;cases ra;cases rb;exact⟨fun q=>eq_str q,fun q=>ne_str q⟩
 have is:∀{c:Bool},Gf x y=some c->∀{Q:Value->Shared->Prop}{E:Value->Shared->Prop},(Q (.bool c) s->wpAny (model X.prog X.w) X.A (compareOp .Is u r) Q E s)/\(Q (.bool (!c)) s->wpAny (model X.prog X.w) X.A (compareOp .IsNot u r) Q E s):=by
  intro c h Q E;have nn:y=.non->c=(u==Value.none)->(Q (.bool c) s->wpAny (model X.prog X.w) X.A (compareOp .Is u r) Q E s)/\(Q (.bool (!c)) s->wpAny (model X.prog X.w) X.A (compareOp .IsNot u r) Q E s):=fun hy hc=>by
   subst hy;simp only[RA]at ry;subst ry;cases rr;exact⟨fun q=>is_none_gen (by rw[<- hc];exact q),fun q=>isnot_none_gen (by rw[<- hc];exact q)⟩
  cases y with
  |non =>
   have h:some (FK x)=some c:=h;cases h;refine nn rfl ?_;cases x with
   |non=>simp only[RA]at rx;subst rx;cases ru;rfl
   | _=>rw [RelV.none_iff ru];refine (z9 fun hv=>?_).symm;subst hv;simp only [RA] at rx;first | (cases rx;done) | (obtain ⟨_,_,z,_⟩:=rx;cases z;done) | (obtain ⟨_,_,z⟩:=rx;cases z;done)
  |bl d=>cases x with
   |bl a =>
    cases h;simp only[RA]at rx ry;subst rx;subst ry;cases ru;cases rr;cases a<;>cases d<;>exact⟨fun q=>yF q,fun q=>yF q⟩
   |_=>exact nomatch h
  |_=>exact nomatch h
 have ord:∀{a c:Int},x=.int a->y=.int c->Af o a c=some b->wpAny (model X.prog X.w) X.A (compareOp o u r) (EP X ND σ Q) X.xe s:=by
  intro a c hx hy ho;subst hx;subst hy;simp only [RA] at rx ry;subst rx;subst ry;obtain ⟨t,rfl⟩:=ru;obtain ⟨t',rfl⟩:=rr;cases o <;> simp only [Af] at ho <;> first | (cases ho;done) | skip
  ·cases ho;exact lt_int (ay s I)
  ·cases ho;exact le_int (ay s I)
  ·cases ho;exact gt_int (ay s I)
  ·cases ho;exact ge_int (ay s I)
 cases o<;>simp only[b9]at e1
 case Eq=>exact(eq e1).1 (ay s I)
 case NotEq=>obtain⟨c,h1,rfl⟩:=neg e1;exact(eq h1).2 (ay s I)
 case Is=>exact(is e1).1 (ay s I)
 case IsNot=>obtain⟨c,h1,rfl⟩:=neg e1;exact(is h1).2 (ay s I)
 case In=>exact(uc hu I sm e1 rx ry ru rr (Q':=fun _ _=>True) ay fun _ _=>trivial).1
 case NotIn=>obtain⟨c,h1,rfl⟩:=neg e1;exact(uc hu I sm h1 rx ry ru rr (Q:=fun _ _=>True) (fun _ _=>trivial) ay).2
 all_goals
  split at e1
  ·exact ord rfl rfl e1
  ·cases e1
noncomputable def lF(op:CmpOp)(b:Expr):Bool:=!(behindInMarks op b)
theorem re(h:lF op b=true):behindInMarks op b=false:=by simpa [lF] using h
theorem E6[NI](hu:X.A.units+64<cLine)(ha:QE X a f)(hb:QE X b g)(hm:lF o b=true):QE X (.Compare a [o] [b] pos) (a2 f g (kF (mW o))) :=
 PE_imp (Da (wR hu o) ha hb (re hm)) fun _ _ _ q=>vT q
def Eo(f g:EF)(o:CmpOp):TF:=fun sl st=>(f sl st).bind fun p=>(g sl p.2).bind fun q=>(b9 o q.2 p.1 q.1).map fun b=>(b,q.2)
theorem EL[NI](hu:X.A.units+64<cLine)(ha:QE X a f)(hb:QE X b g)(hm:lF o b=true):QT X (.Compare a [o] [b] pos) (Eo f g o) :=
 PT_imp (CQ (wR hu o) ha hb (re hm)) fun σ H Q hq0=>by
  obtain⟨P,φ,sl,st,rs,s,k⟩:=hq0;refine vT (k:=kF (mW o)) ⟨P,φ,sl,st,rs,s,?_⟩;obtain⟨b,st',e,q⟩:=k;unfold Eo at e;obtain⟨p,e1,e2⟩:=zA e;obtain⟨r,e3,e4⟩:=zA e2;obtain⟨c,e5,e6⟩:=zE.mp e4;injection e6 with e7 e8;subst e7;subst e8;refine⟨.bl c,r.2,by simp only[a2,e1,bind_some,e3,kF,mW,e5,map_some],fun P' φ' H' w f' s' r'=>?_⟩;simp only[RA]at r';exact⟨c,r',q P' φ' H' c f' s' rfl⟩
def kE(o:UnaryOp)(_:aa):AV->Option AV
 |.int i=>match o with
  |.USub=>some (.int (-i))
  |.Invert=>some (.int (Builtin.bitNot i))
  |_=>none
 |_=>none
theorem HH[NI](ha:QE X a f):QE X (.UnaryOp o a pos) (a1 f (Ey (kE o))):=by
 have h:xS X (unaryOp o) (r1 X.gm (Ey (kE o))):=by
  rintro ND s σ H v u Q I ru ⟨P,φ,st,x,sm,rx,k⟩;obtain ⟨z,e,k⟩:=k.map;cases x <;> simp only [kE] at e <;> first | (cases e;done) | skip
  rename_i i;simp only [RA] at rx;subst rx;cases o <;> first | (cases e;done) | skip
  ·cases e
   exact DS ND s σ H _ u Q I ru ⟨i,rfl,k.pure sm (by simp only[RA])⟩
  ·cases e
   exact DR ND s σ H _ u Q I ru ⟨i,rfl,k.pure sm (by simp only[RA])⟩
 exact PE_imp (HV h ha) fun _ _ _ q=>Lo q
def eQ(st:aa)(v:AV):Option Bool:=match bL st v with
 |some xs=>some !xs.isEmpty
 |none=>match v with
  |.non=>some false
  |.bl b=>some b
  |.int i=>some (i !=0)
  |.str x=>if Nat.ble x.length 1000000=true then some ((x.length:Int) !=0) else none
  |.tup xs=>some !xs.isEmpty
  |v=>(jg st v).map fun NE=>!NE.isEmpty
theorem pT(r:NJ mg P H φ xs vs):vs.isEmpty=xs.isEmpty:=by
 cases xs with
 |nil=>simp only[NJ]at r;subst r;rfl
 |cons x xs=>simp only[NJ]at r;obtain⟨v,ws,rfl,_⟩:=r;rfl
theorem yj[NI]{P:Pr}{H:Hp}{φ:List Addr}{st:aa}(sm:Sim X.gm P φ st H){v:AV}{w:V}{b:Bool}(h:eQ st v=some b)(r:RA X.gm P H φ v w):AT X.K w H b:=by
 unfold eQ at h;split at h
 ·rename_i xs e
  cases h;obtain⟨a,vs,rfl,rd,q⟩:=r.ls sm e;exact .inl ⟨vs,rd,by rw[pT q]⟩
 ·cases v<;>simp only at h
  case non=>cases h;simp only[RA]at r;subst r;exact rfl
  case bl=>cases h;simp only[RA]at r;subst r;exact rfl
  case int=>cases h;simp only[RA]at r;subst r;exact rfl
  case str x =>
   simp only[RA]at r;subst r;split at h
   ·rename_i hl;cases h;exact⟨z5 (zS hl) dC,rfl⟩
   ·cases h
  case tup xs =>
   cases h;simp only[RA]at r;obtain⟨a,vs,rfl,_,e,q⟩:=r;exact .inr (.inl ⟨vs,.inl (.inl e),by rw[pT q]⟩)
  case fz=>obtain⟨_,z,_⟩:=zE.mp h;simp[jg]at z
  case ref k =>
   obtain⟨NE,e1,e2⟩:=zE.mp h;subst e2;simp only[jg]at e1;split at e1
   ·rename_i kvs' hk
    cases e1;simp only[RA]at r;obtain⟨a,ea,rfl⟩:=r;obtain⟨a',ea',c⟩:=sm.at hk;rw[ea]at ea';cases ea';obtain⟨_,ws,q1,q2,q3⟩:=c;refine .inr (.inr ⟨ws,q1,?_⟩)
    have:=congrArg List.isEmpty q2
    simpa using this
   ·cases e1
def tV(f:EF):TF:=fun sl st=>(f sl st).bind fun p=>(eQ p.2 p.1).map fun b=>(b,p.2)
theorem wA[NI](ha:QE X a f)(he:∀whole,isTrue a X.env whole=(do let v <- whole;standAt a.pos;holding [v] (truthy v))):QT X a (tV f) :=
 PT_imp (zl ha he) fun σ H Q ⟨P,φ,sl,st,rs,s,k⟩=>⟨P,φ,sl,st,rs,s,by
  obtain⟨a,st',e1,q⟩:=k.bind (Ra:=RA);refine⟨a,st',e1,fun P1 φ1 H1 b f1 s1 r1=>?_⟩;obtain⟨P2,φ2,st2,x,f2,s2,r2,k2⟩:=q P1 φ1 H1 b f1 s1 r1;obtain⟨c,e2,k2⟩:=k2.map;exact⟨c,yj s2 e2 r2,k2.pure s2 rfl⟩⟩
def JE(f g:TF):TF:=fun sl st=>(f sl st).bind fun p=>if p.1=true then g sl p.2 else some (false,p.2)
def Ej(f g:TF):TF:=fun sl st=>(f sl st).bind fun p=>if p.1=true then some (true,p.2) else g sl p.2
def JC(f:TF):TF:=fun sl st=>(f sl st).bind fun p=>some (!p.1,p.2)
section
variable{a b:Expr}{rest:List Expr}{pos:Pos}{f g:TF}
theorem EI[NI](op:BoolOp)(ha:QT X a f):QW X (.BoolOp op [a] pos) f:=by
 cases op
 ·exact CP ha
 ·exact E9 ha
theorem EJ[NI](ha:QT X a f)(hb:QW X (.BoolOp .And (b::rest) pos) g):QW X (.BoolOp .And (a::b::rest) pos) (JE f g) :=
 PW_imp (Fa ha hb) fun σ H Q ⟨P,φ,sl,st,rs,s,k⟩=>⟨P,φ,sl,st,rs,s,by
  obtain⟨a,st',e1,q⟩:=k.bind (Ra:=RB);refine⟨a,st',e1,fun P1 φ1 H1 c f1 s1 r1=>?_⟩;obtain⟨P2,φ2,st2,x,f2,s2,r2,k2⟩:=q P1 φ1 H1 c f1 s1 r1;cases r2;cases c with
  |true=>exact⟨P2,φ2,sl,st2,rs.frm f2,s2,k2⟩
  |false=>exact k2.pure s2 rfl⟩
theorem Hz[NI](ha:QT X a f)(hb:QW X (.BoolOp .Or (b::rest) pos) g):QW X (.BoolOp .Or (a::b::rest) pos) (Ej f g) :=
 PW_imp (HM ha hb) fun σ H Q ⟨P,φ,sl,st,rs,s,k⟩=>⟨P,φ,sl,st,rs,s,by
  obtain⟨a,st',e1,q⟩:=k.bind (Ra:=RB);refine⟨a,st',e1,fun P1 φ1 H1 c f1 s1 r1=>?_⟩;obtain⟨P2,φ2,st2,x,f2,s2,r2,k2⟩:=q P1 φ1 H1 c f1 s1 r1;cases r2;cases c with
  |false=>exact⟨P2,φ2,sl,st2,rs.frm f2,s2,k2⟩
  |true=>exact k2.pure s2 rfl⟩
theorem EK[NI](ha:QT X a f):QT X (.UnaryOp .Not a pos) (JC f) :=
 PT_imp (Fb ha) fun σ H Q ⟨P,φ,sl,st,rs,s,k⟩=>⟨P,φ,sl,st,rs,s,by
  obtain⟨a,st',e1,q⟩:=k.bind (Ra:=RB);refine⟨a,st',e1,fun P1 φ1 H1 c f1 s1 r1=>?_⟩;obtain⟨P2,φ2,st2,x,f2,s2,r2,k2⟩:=q P1 φ1 H1 c f1 s1 r1;cases r2;exact k2.pure s2 rfl⟩
end
def BU(f g:EF):EF:=fun sl st=>(f sl st).bind fun p=>match p.1 with
 |.bl true=>g sl p.2
 |.bl false=>some (.bl false,p.2)
 |_=>none
def BQ(f g:EF):EF:=fun sl st=>(f sl st).bind fun p=>match p.1 with
 |.bl false=>g sl p.2
 |.bl true=>some (.bl true,p.2)
 |_=>none
def J8(f:EF):EF:=fun sl st=>(f sl st).bind fun p=>match p.1 with
 |.bl b=>some (.bl !b,p.2)
 |_=>none
def Ka(t:TF)(f g:EF):EF:=fun sl st=>(t sl st).bind fun p=>if p.1=true then f sl p.2 else g sl p.2
section
variable{a b c:Expr}{rest:List Expr}{pos:Pos}{f g:EF}{t:TF}
theorem KG.no[NI]{α β:Type}{Ra:Gm->Pr->Hp->List Addr->α->β->Prop}{Q:β->Hp->Prop}(h:KG mg Ra P φ H none Q):False:=by obtain⟨_,_,e,_⟩:=h;cases e
theorem E8[NI](ha:QE X a f)(hb:QE X (.BoolOp .And (b::rest) pos) g):QE X (.BoolOp .And (a::b::rest) pos) (BU f g) :=
 PE_imp (Fz ha hb) fun σ H Q ⟨P,φ,sl,st,rs,s,k⟩=>⟨P,φ,sl,st,rs,s,by
  obtain⟨a,st',e1,q⟩:=k.bind (Ra:=RA);refine⟨a,st',e1,fun P1 φ1 H1 c f1 s1 r1=>?_⟩;obtain⟨P2,φ2,st2,x,f2,s2,r2,k2⟩:=q P1 φ1 H1 c f1 s1 r1;cases x<;>first|exact k2.no.elim|skip
  rename_i d;simp only[RA]at r2;refine⟨d,r2,?_⟩;cases d with
  |true=>exact⟨P2,φ2,sl,st2,rs.frm f2,s2,k2⟩
  |false=>exact k2.pure s2 (by simp only[RA])⟩
theorem HJ[NI](ha:QE X a f)(hb:QE X (.BoolOp .Or (b::rest) pos) g):QE X (.BoolOp .Or (a::b::rest) pos) (BQ f g) :=
 PE_imp (HW ha hb) fun σ H Q ⟨P,φ,sl,st,rs,s,k⟩=>⟨P,φ,sl,st,rs,s,by
  obtain⟨a,st',e1,q⟩:=k.bind (Ra:=RA);refine⟨a,st',e1,fun P1 φ1 H1 c f1 s1 r1=>?_⟩;obtain⟨P2,φ2,st2,x,f2,s2,r2,k2⟩:=q P1 φ1 H1 c f1 s1 r1;cases x<;>first|exact k2.no.elim|skip
  rename_i d;simp only[RA]at r2;refine⟨d,r2,?_⟩;cases d with
  |false=>exact⟨P2,φ2,sl,st2,rs.frm f2,s2,k2⟩
  |true=>exact k2.pure s2 (by simp only[RA])⟩
theorem E2[NI](ha:QE X a f):QE X (.UnaryOp .Not a pos) (J8 f) :=
 PE_imp (Fu ha) fun σ H Q ⟨P,φ,sl,st,rs,s,k⟩=>⟨P,φ,sl,st,rs,s,by
  obtain⟨a,st',e1,q⟩:=k.bind (Ra:=RA);refine⟨a,st',e1,fun P1 φ1 H1 c f1 s1 r1=>?_⟩;obtain⟨P2,φ2,st2,x,f2,s2,r2,k2⟩:=q P1 φ1 H1 c f1 s1 r1;cases x<;>first|exact k2.no.elim|skip
  rename_i d;simp only[RA]at r2;exact⟨d,r2,k2.pure s2 (by simp only[RA])⟩⟩
theorem HL[NI](hc:QT X c t)(ha:QE X a f)(hb:QE X b g):QE X (.IfExp c a b pos) (Ka t f g) :=
 PE_imp (Ab hc ha hb) fun σ H Q ⟨P,φ,sl,st,rs,s,k⟩=>⟨P,φ,sl,st,rs,s,by
  obtain⟨a,st',e1,q⟩:=k.bind (Ra:=RB);refine⟨a,st',e1,fun P1 φ1 H1 c f1 s1 r1=>?_⟩;obtain⟨P2,φ2,st2,x,f2,s2,r2,k2⟩:=q P1 φ1 H1 c f1 s1 r1;cases r2;cases c with
  |true=>exact⟨P2,φ2,sl,st2,rs.frm f2,s2,k2⟩
  |false=>exact⟨P2,φ2,sl,st2,rs.frm f2,s2,k2⟩⟩
end
def aZ(st:aa)(x y:AV):Option AV:=match mU st x y with
 |some o=>o
 |none=>match y with
  |.int i=>match bL st x with
   |some xs=>gh xs i
   |none=>match iU st x with
    |some xs=>gh xs i
    |none=>match x with
     |.str z=>if Nat.ble z.length 1000000=true then(gh z.cps.toList i).map fun c=>.str ⟨#[c]⟩ else none
     |_=>none
  |_=>none
theorem pi{i:Int}(r:NJ mg P H φ xs vs)(h:gh xs i=some x):∃v,gh vs i=some v/\RA mg P H φ x v:=by
 unfold gh at h ⊢;rw[<- r.length];obtain⟨j,e1,e2⟩:=zA h;rw[e1,bind_some];exact r.get e2
theorem Ds(hu:X.A.units+64<cLine):IxR X (fun x y H Q=>∃a v,x=.ref a/\DGet H a y (some v)/\Q v H):=by
 rintro value slice ND s σ H x y v u Q I rx ry ⟨a,t,ex,g,q⟩ hs;subst ex;cases rx;have hT:=tB I g;unfold subscriptTail;refine yE ?_;rw[getitemInPython_of_ne hT.not_modules];refine yE (wpAny_specialOf hT PySem.F.slot_dict_getitem.lookup ?_);have ay:wpAny (model X.prog X.w) X.A (subscripted slice false (.ref a) u) (fun r s₃=>wpAny (model X.prog X.w) X.A (letTemporaryGo value (.ref a) r>>=fun _=>pure r) (EP X ND σ Q) X.xe s₃) X.xe s:=by
  rw[hs];exact wpAny_operating (xG oM I g ry fun w' s3 I3 rw'=>yE (wpAny_letTemporaryGo (yF ⟨t,H,I3,rw',q⟩)))
 first
  |exact yF (yE ay)
  |exact yE (yF (yE ay))
  |exact yE ay
theorem K8[NI](hu:X.A.units+64<cLine):IxR X (r2 X.gm (kF aZ)):=by
 rintro value slice ND s σ H v w u r Q I ru rr ⟨P,φ,st,x,y,sm,rx,ry,k0⟩ hs;obtain⟨z,e,k⟩:=k0.map;clear k0;unfold aZ at e;split at e
 ·rename_i o eo
  subst e;obtain⟨a,o',rfl,g,_,g2⟩:=rX sm eo ry rx;obtain⟨t,rfl,rt⟩:=g2 z rfl;exact Ds hu value slice ND s σ H _ _ u r Q I ru rr ⟨a,t,rfl,g,k.pure sm rt⟩ hs
 ·cases y with
  |int i =>
   simp only[RA]at ry;subst ry;dsimp only at e;split at e
   ·rename_i xs el
    obtain⟨a,vs,rfl,rd,q⟩:=rx.ls sm el;obtain⟨t,e2,rt⟩:=pi q e;exact rK value slice ND s σ H _ _ u r Q I ru rr (.inl ⟨a,vs,i,t,rfl,rfl,rd,e2,k.pure sm rt⟩) hs
   ·split at e
    ·rename_i xs el
     obtain⟨a,vs,rfl,rd,q⟩:=rx.tp sm el;obtain⟨t,e2,rt⟩:=pi q e;exact rK value slice ND s σ H _ _ u r Q I ru rr (.inr (.inl ⟨a,vs,i,t,rfl,rfl,.inl (.inl rd),e2,k.pure sm rt⟩)) hs
    ·cases x with
     |str x =>
      dsimp only at e;split at e
      ·rename_i hl
       obtain⟨c,e1,e2⟩:=zE.mp e;subst e2;simp only[RA]at rx;subst rx;exact rK value slice ND s σ H _ _ u r Q I ru rr (.inr (.inr ⟨x,i,c,rfl,rfl,z5 (zS hl) dC,e1,k.pure sm (by simp only[RA])⟩)) hs
      ·cases e
     |_=>cases e
  |_=>cases e
theorem HK[NI](hu:X.A.units+64<cLine)(ha:QE X a f)(hb:QE X b g)(hs:pw b):QE X (.Subscript a b pos) (a2 f g (kF aZ)) :=
 PE_imp (HY (K8 hu) ha hb hs) fun _ _ _ q=>vT q
def J7(g:AF):EF:=fun sl st=>(g sl st).bind fun p=>if Nat.ble p.1.length 1000=true then some (.tup p.1,p.2) else none
theorem E1[NI]{x1:Nat}(h:QA X es g):QE X (.Tuple es x1 pos) (J7 g) :=
 PE_imp (Fp h) fun σ H Q ⟨P,φ,sl,st,rs,s,k⟩=>⟨P,φ,sl,st,rs,s,by
  obtain⟨a,st',e1,q⟩:=k.bind (Ra:=NJ);refine⟨a,st',e1,fun P1 φ1 H1 vs f1 s1 r1=>?_⟩;obtain⟨P2,φ2,st2,xs,f2,s2,r2,k2⟩:=q P1 φ1 H1 vs f1 s1 r1;dsimp only at k2;split at k2
  ·rename_i hl
   refine⟨by rw[<- r2.length];exact z5 (zS hl) dC,fun p hp=>?_⟩;obtain⟨f3,s3⟩:=nq (o:=.tup vs) s2 hp;obtain⟨_,_,e5,q5⟩:=k2;cases e5;refine q5 _ _ _ _ f3 s3 ?_;simp only[RA];exact⟨p,vs,rfl,.inr rfl,aw,r2.frm f3⟩
  ·exact k2.no.elim⟩
end
mutual
noncomputable def cU:AV->AV->Bool
 |.non,.non=>true
 |.bl a,.bl b=>a==b
 |.int a,.int b=>a==b
 |.str a,.str b=>a==b
 |.ref a,.ref b=>a==b
 |.tup a,.tup b=>f7 a b
 |.fz a,.fz b=>f7 a b
 |_,_=>false
noncomputable def f7:List AV->List AV->Bool
 |[],[]=>true
 |x::xs,y::ys=>cU x y&&f7 xs ys
 |_,_=>false
end
mutual
theorem ut:∀{x y:AV},cU x y=true->x=y
 |.non,y,h=>by cases y<;>simp only[cU]at h<;>first|rfl|cases h
 | .bl a,y,h=>by cases y <;> simp only [cU] at h <;> first | (rw [yJ h]) | cases h
 | .int a,y,h=>by cases y <;> simp only [cU] at h <;> first | (rw [yJ h]) | cases h
 | .str a,y,h=>by cases y <;> simp only [cU] at h <;> first | (rw [yJ h]) | cases h
 | .ref a,y,h=>by cases y <;> simp only [cU] at h <;> first | (rw [yJ h]) | cases h
 | .tup a,y,h=>by cases y <;> simp only [cU] at h <;> first | (rw [lQ h]) | cases h
 | .fz a,y,h=>by cases y <;> simp only [cU] at h <;> first | (rw [lQ h]) | cases h
theorem lQ:∀{xs ys:List AV},f7 xs ys=true->xs=ys
 |[],ys,h=>by cases ys<;>simp only[f7]at h<;>first|rfl|cases h
 |x::xs,ys,h=>by
  cases ys with
  |nil=>simp only[f7]at h;cases h
  |cons y ys =>
   simp only[f7,zC]at h;rw[ut h.1,lQ h.2]
end
mutual
theorem xO:∀x:AV,cU x x=true
 |.non=>by simp only[cU]
 |.bl a=>by simp[cU]
 |.int a=>by simp[cU]
 |.str a=>by simp[cU]
 |.ref a=>by simp[cU]
 |.tup a=>by simp only[cU];exact ji a
 |.fz a=>by simp only[cU];exact ji a
theorem ji:∀xs:List AV,f7 xs xs=true
 |[]=>by simp only[f7]
 |x::xs=>by simp only[f7,xO x,ji xs,Bool.and_self]
end
abbrev Gd:=List (Nat×NG)
def vQ:NG->NG->Bool
 |.lst a,.lst b=>f7 a b
 |.dK a,.dK b=>decide (a.map (·.1)=b.map (·.1))&&f7 (a.map (·.2)) (b.map (·.2))
 |_,_=>false
def cg:Gd->aa->Bool
 |[],_=>true
 |g::gs,st=>(match st[g.1]? with|some c=>vQ c g.2|none=>false)&&cg gs st
theorem AC{k:Nat}{xs:List AV}{gs:Gd}{st:aa}(h:cg ((k,.lst xs)::gs) st=true):st[k]?=some (.lst xs)/\cg gs st=true:=by
 simp only[cg,zC]at h;refine⟨?_,h.2⟩;have h:=h.1;split at h
 ·rename_i c e
  cases c <;> simp only [vQ] at h <;> first | (cases h;done) | skip
  rw[e,lQ h]
 ·cases h
theorem ui{a b:Gd}{st:aa}(h:cg (a++b) st=true):cg a st=true/\cg b st=true:=by
 induction a with
 |nil=>exact⟨rfl,h⟩
 |cons g a ih =>
  simp only[List.cons_append,cg,zC]at h ⊢;exact⟨⟨h.1,(ih h.2).1⟩,(ih h.2).2⟩
structure Iv where
 NH:List AV
 gd:Gd
abbrev IF:=Sl->aa->Option (Iv×aa)
structure sZ[NI](mg:Gm)(J:It)(iv:Iv)(P:Pr)(φ:List Addr)(H:Hp):Prop where
 go:∀P2 φ2 H2 st2 (i:Nat) x,Frm P φ H P2 φ2 H2->Sim mg P2 φ2 st2 H2->cg iv.gd st2=true->iv.NH[i]?=some x->J.go i H2/\∀v H3,J.yld i H2 v H3->∃P3,Frm P2 φ2 H2 P3 φ2 H3/\Sim mg P3 φ2 st2 H3/\RA mg P3 H3 φ2 x v
 stop:∀P2 φ2 H2 st2,Frm P φ H P2 φ2 H2->Sim mg P2 φ2 st2 H2->cg iv.gd st2=true->J.stop iv.NH.length H2
def rI[NI](mg:Gm)(f:IF):TI:=fun σ H R=>∃P φ sl st,NO mg P H φ sl σ/\Sim mg P φ st H/\∃iv st',f sl st=some (iv,st')/\∀P' φ' H' J,Frm P φ H P' φ' H'->Sim mg P' φ' st' H'->sZ mg J iv P' φ' H'->R J H'
def QI[NI](X:Cx)(tg iter:Expr)(f:IF):Prop:=PI X tg iter (rI X.gm f)
theorem gB(h:PI X tg iter t)(i:∀σ H R,t' σ H R->t σ H R):PI X tg iter t':=fun ND s σ H R I h'=>h ND s σ H R I (i σ H R h')
def iH(st:aa)(v:AV):Option Iv:=match dr st v with
 |.fz xs=>some ⟨xs,[]⟩
 |.ref k=>match st[k]? with
  |some (.lst xs)=>some ⟨xs,[(k,.lst xs)]⟩
  |_=>none
 |_=>none
section
variable{mg:Gm}{P:Pr}{φ:List Addr}{st:aa}{H:Hp}{v:AV}{w:V}{iv:Iv}
theorem kT[NI](s:Sim mg P φ st H)(r:RA mg P H φ v w)(h:iH st v=some iv):∃a,w=.ref a/\∀P2 φ2 H2 st2,Frm P φ H P2 φ2 H2->Sim mg P2 φ2 st2 H2->cg iv.gd st2=true->∃vs,bK mg.K H2 a vs/\NJ mg P2 H2 φ2 iv.NH vs:=by
 have r:=r.dr s;unfold iH at h;split at h
 ·rename_i ys e
  cases h;rw[e]at r;simp only[RA]at r;obtain⟨a,vs,e1,e2,q⟩:=r;refine⟨a,e1,fun P2 φ2 H2 st2 f _ _=>⟨vs,(e2.mono f.ext).sq,?_⟩⟩;exact NJ.lift (q.mono f.ext fun k a e=>by simp at e)
 ·rename_i k e
  rw[e]at r;simp only[RA]at r;obtain⟨a,e1,e2⟩:=r;split at h
  ·rename_i ys e3
   cases h;refine⟨a,e2,fun P2 φ2 H2 st2 f s2 g=>?_⟩;obtain⟨g1,_⟩:=AC g;obtain⟨a',e4,c⟩:=s2.at g1;rw[f.ix k a e1]at e4;cases e4;obtain⟨_,vs,q1,q2⟩:=c;exact⟨vs,.inl (.inl q1),q2⟩
  ·cases h
 ·cases h
end
section
variable{X:Cx}{tg e a b:Expr}{es:List Expr}{pos p:Pos}
def nO(st:aa)(v:AV):Option Iv:=match v with
 |.str x=>if x.cps.all (·<128)=true then some ⟨x.cps.toList.map fun c=>.str ⟨#[c]⟩,[]⟩ else none
 |v=>match iU st v with
  |some xs=>some ⟨xs,[]⟩
  |none=>iH st v
def iE(f:EF):IF:=fun sl st=>(f sl st).bind fun p=>(nO p.2 p.1).map fun iv=>(iv,p.2)
theorem Fi[NI](hl:PE X e tl):PI X tg e (fun σ H R=>tl σ H fun x H1=>(∃a,x=.ref a/\(∃xs,bK X.K H1 a xs)/\R (B6 X.K a) H1)\/(∃a,x=.ref a/\(∃xs,gk X.K H1 a xs)/\R (B4 X.K a) H1)\/∃x':Str,x=.str x'/\x'.cps.all (·<128)=true/\R (B5 x') H1):=by
 intro ND s σ H R I h;refine aB (hl ND s σ H _ I h) fun v s1 hq0=>?_
 obtain⟨x,H1,I1,r1,q1⟩:=hq0;have fp:∀b∈[s1.heap.objs.size],dJ X ND H1 b:=fun b hb=>by
  have e:b=s1.heap.objs.size:=by simpa using hb
  subst e;exact I1.fpOk (zP _) (I1.NM.fresh (zP _))
 rcases q1 with⟨a,e,⟨xs,hq⟩,q⟩|⟨a,e,⟨xs,hq⟩,q⟩|⟨y,e,hy,q⟩
 ·subst e
  cases r1;obtain⟨NH,rv,p,hz⟩:=I1.list hq;refine wpAny_pyIter_list p.isList ?_;exact⟨s1.heap.objs.size,[s1.heap.objs.size],_,_,H1,rfl,I1.kept (t':=s1.toks) fun b o e=>zG _ e,wd a _,⟨_,zY _ rfl,rfl,rfl⟩,fp,q⟩
 ·subst e
  cases r1;obtain ⟨NH,rv,p,hz⟩:=I1.tuple hq;refine wpAny_pyIter_tuple (show s1.heap.IsTuple a NH.toArray from p) ?_;exact ⟨s1.heap.objs.size,[s1.heap.objs.size],_,_,H1,rfl,I1.kept (t':=s1.toks) fun b o e=>zG _ e,uD a _,⟨_,zY _ rfl,rfl,rfl⟩,fp,q⟩
 ·subst e
  obtain⟨t,rfl⟩:=r1;refine wpAny_pyIter_ascii hy ?_;exact⟨s1.heap.objs.size,[s1.heap.objs.size],_,_,H1,rfl,I1.kept (t':=s1.toks) fun b o e=>zG _ e,yi y t _,⟨_,zY _ rfl,rfl,rfl⟩,fp,q⟩
theorem Au[NI]{mg:Gm}{P:Pr}{φ:List Addr}{H:Hp}{K:Frag}{a:Addr}{iv:Iv}(h:∀P2 φ2 H2 st2,Frm P φ H P2 φ2 H2->Sim mg P2 φ2 st2 H2->cg iv.gd st2=true->∃vs,bK K H2 a vs/\NJ mg P2 H2 φ2 iv.NH vs):sZ mg (B6 K a) iv P φ H where
 go:=fun P2 φ2 H2 st2 i x f s g e=>by
  obtain⟨vs,rd,ra⟩:=h P2 φ2 H2 st2 f s g;obtain⟨v,e1,r1⟩:=ra.get e;refine⟨⟨vs,v,rd,e1⟩,fun w H3 hq0=>?_⟩;obtain⟨hH,hx⟩:=hq0;subst hH
  have:=hx vs rd
  rw[e1]at this;cases this;exact⟨P2,Frm.refl,s,r1⟩
 stop:=fun P2 φ2 H2 st2 f s g=>by
  obtain⟨vs,rd,ra⟩:=h P2 φ2 H2 st2 f s g;exact⟨vs,rd,by rw[<- ra.length];exact zP _⟩
theorem Dt[NI]{mg:Gm}{P:Pr}{φ:List Addr}{H:Hp}{K:Frag}{a:Addr}{xs:List AV}{vs:List V}(pa:P a)(ea:H a=some (.tup vs))(ra:NJ mg P H φ xs vs):sZ mg (B4 K a) ⟨xs,[]⟩ P φ H where
 go:=fun P2 φ2 H2 st2 i x f s g e=>by
  obtain⟨v,e1,r1⟩:=(ra.frm f).get e;have e2:gk K H2 a vs:=.inl (.inl ((f.ext a pa).2.trans ea));refine⟨⟨vs,v,e2,e1⟩,fun w H3 hq0=>?_⟩;obtain⟨hH,hx⟩:=hq0;subst hH
  have:=hx vs e2
  rw[e1]at this;cases this;exact⟨P2,Frm.refl,s,r1⟩
 stop:=fun P2 φ2 H2 st2 f s g=>⟨vs,.inl (.inl ((f.ext a pa).2.trans ea)),by rw[<- ra.length];exact zP _⟩
theorem Du[NI]:sZ mg (B5 x) ⟨x.cps.toList.map fun c=>.str ⟨#[c]⟩,[]⟩ P φ H where
 go:=fun P2 φ2 H2 st2 i y f s g e=>by
  rw[zR]at e;obtain⟨c,e1,e2⟩:=zE.mp e;rw[Array.getElem?_toList]at e1;subst e2;refine⟨⟨c,e1⟩,fun w H3 hq0=>?_⟩;obtain⟨hH,c',e3,hw⟩:=hq0;subst hH;rw[e1]at e3;cases e3;exact⟨P2,Frm.refl,s,by simp only[RA];exact hw⟩
 stop:=fun P2 φ2 H2 st2 f s g=>by
  show x.cps[_]?=none;simp
theorem kS{st:aa}{v:AV}{iv:Iv}(h:iH st v=some iv):cg iv.gd st=true:=by
 unfold iH at h;split at h
 ·cases h;rfl
 ·split at h
  ·rename_i k _ xs hk
   cases h;simp only[cg];rw[hk];simp only[vQ,ji,Bool.and_self]
  ·cases h
 ·cases h
theorem KY[NI](ha:QE X e f):QI X tg e (iE f):=gB (Fi ha) fun σ H R ⟨P,φ,sl,st,rs,s,iv,st',ef,k⟩=>⟨P,φ,sl,st,rs,s,by
 unfold iE at ef;obtain⟨p,e1,e2⟩:=zA ef;obtain⟨iv',e3,e4⟩:=zE.mp e2;cases e4;refine⟨p.1,p.2,e1,fun P1 φ1 H1 w f1 s1 r1=>?_⟩;unfold nO at e3;have gen:∀v:AV,p.1=v->(match iU p.2 v with|some xs=>some ⟨xs,[]⟩|none=>iH p.2 v)=some iv->((∃a,w=.ref a/\(∃xs,bK X.K H1 a xs)/\R (B6 X.K a) H1)\/(∃a,w=.ref a/\(∃xs,gk X.K H1 a xs)/\R (B4 X.K a) H1)\/∃x':Str,w=.str x'/\x'.cps.all (·<128)=true/\R (B5 x') H1):=by
  intro v ev e3;rw[ev]at r1;split at e3
  ·rename_i xs et
   cases e3;have r2:=r1.dr s1;unfold iU at et;split at et
   ·rename_i ys ed
    cases et;rw[ed]at r2;simp only[RA]at r2;obtain⟨a,vs,rfl,pa,ea,ra⟩:=r2;exact .inr (.inl ⟨a,rfl,⟨vs,.inl (.inl ea)⟩,k P1 φ1 H1 _ f1 s1 (Dt pa ea ra)⟩)
   ·cases et
  ·obtain⟨a,rfl,h⟩:=kT s1 r1 e3
   obtain⟨vs,rd,_⟩:=h P1 φ1 H1 p.2 Frm.refl s1 (kS e3);exact .inl ⟨a,rfl,⟨vs,rd⟩,k P1 φ1 H1 _ f1 s1 (Au h)⟩
 cases hv:p.1 with
 |str x =>
  rw[hv]at e3 r1;simp only at e3;split at e3
  ·rename_i hx
   cases e3;simp only[RA]at r1;exact .inr (.inr ⟨x,r1,hx,k P1 φ1 H1 _ f1 s1 Du⟩)
  ·cases e3
 |_=>rw[hv]at e3;exact gen _ hv e3⟩
noncomputable def eR(i:Int):Bool:=Nat.ble i.natAbs.log2 60
noncomputable def dj(i:Int)(n:Nat):List AV:=(List.range n).map fun k=>.int (i+(k:Nat))
def Bw(f:EF):IF:=fun sl st=>(f sl st).bind fun p=>match p.1 with
 |.int j=>if eR j=true then some (⟨dj 0 j.toNat,[]⟩,p.2) else none
 |_=>none
def Bv(f g:EF):IF:=fun sl st=>(f sl st).bind fun p=>(g sl p.2).bind fun q=>match p.1,q.1 with
 |.int i,.int j=>if(eR i&&eR j)=true then some (⟨dj i (j-i).toNat,[]⟩,q.2) else none
 |_,_=>none
theorem gq{i:Int}(h:eR i=true):-(2^62)<=i/\i<2^62:=by
 have:=log2_lt h
 have e:(2:Nat)^(60+1)=2305843009213693952:=by decide
 rw[e]at this;lia
theorem t0[NI]{i:Int}{n:Nat}:sZ mg (xV i n) ⟨dj i n,[]⟩ P φ H where
 go:=fun P2 φ2 H2 st2 k y f s g e=>by
  unfold dj at e;rw[zR]at e;obtain⟨c,e1,e2⟩:=zE.mp e;obtain⟨h1,h2⟩:=zB.mp e1;rw[List.getElem_range]at h2;subst h2 e2;rw[List.length_range]at h1;refine⟨h1,fun w H3 hq0=>?_⟩;obtain⟨hH,hw⟩:=hq0;subst hH;exact⟨P2,Frm.refl,s,by simp only[RA];exact hw⟩
 stop:=fun P2 φ2 H2 st2 f s g=>by
  show n<=(dj i n).length;simp[dj]
theorem wz[NI]{mg:Gm}{f:EF}{σ:St}{H:Hp}{Q:List V->Hp->Prop}{P:Pr}{φ:List Addr}{sl:Sl}{st:aa}(rs:NO mg P H φ sl σ)(s:Sim mg P φ st H)
  (h:∃v st1,f sl st=some (v,st1)/\∀P1 φ1 H1 w,Frm P φ H P1 φ1 H1->Sim mg P1 φ1 st1 H1->RA mg P1 H1 φ1 v w->Q [w] H1):rA mg (dz f d4) σ H Q:=by
 obtain⟨v,st1,e,k⟩:=h;refine⟨P,φ,sl,st,rs,s,[v],st1,by simp only[dz,d4,e,bind_some],fun P1 φ1 H1 ws f1 s1 r1=>?_⟩;simp only[NJ]at r1;obtain⟨w,us,rfl,r,rfl⟩:=r1;exact k P1 φ1 H1 w f1 s1 r
theorem EH[NI]{mg:Gm}{f g:EF}{σ:St}{H:Hp}{Q:List V->Hp->Prop}{P:Pr}{φ:List Addr}{sl:Sl}{st:aa}(rs:NO mg P H φ sl σ)(s:Sim mg P φ st H)
  (h:∃v st1 u st2,f sl st=some (v,st1)/\g sl st1=some (u,st2)/\∀P1 φ1 H1 w w',Frm P φ H P1 φ1 H1->Sim mg P1 φ1 st2 H1->RA mg P1 H1 φ1 v w->RA mg P1 H1 φ1 u w'->Q [w,w'] H1):rA mg (dz f (dz g d4)) σ H Q:=by
 obtain⟨v,st1,u,st2,e,e',k⟩:=h;refine⟨P,φ,sl,st,rs,s,[v,u],st2,by simp only[dz,d4,e,e',bind_some],fun P1 φ1 H1 ws f1 s1 r1=>?_⟩;simp only[NJ]at r1;obtain⟨w,us,rfl,r,w',us',rfl,r',rfl⟩:=r1;exact k P1 φ1 H1 w w' f1 s1 r r'
theorem HF[NI](hg:Gl X "range")(hm:X.mg "range"=none)(ha:QE X a f)(hs:starEach [a] X.env=[(false,eval a X.env)]):QI X tg (.Call (.Name "range" p) [a] [] pos) (Bw f) :=
 gB (wL hg hm (cF ha d8 (by rw[hs];rfl)) hs) fun σ H R hq0=>by
  obtain⟨P,φ,sl,st,rs,s,iv,st',ef,k⟩:=hq0;obtain⟨q,e1,e2⟩:=zA ef;refine wz rs s ⟨q.1,q.2,e1,fun P1 φ1 H1 w f1 s1 r1=>?_⟩;split at e2
  ·rename_i j ej
   rw[ej]at r1;split at e2
   ·rename_i hb
    cases e2;simp only[RA]at r1;subst r1;exact⟨j,rfl,(gq hb).1,(gq hb).2,k P1 φ1 H1 _ f1 s1 t0⟩
   ·cases e2
  ·cases e2
theorem HE[NI](hg:Gl X "range")(hm:X.mg "range"=none)(ha:QE X a f)(hb:QE X b g)(hs:starEach [a,b] X.env=[(false,eval a X.env),(false,eval b X.env)])(hs2:starEach [b] X.env=[(false,eval b X.env)]) :
  QI X tg (.Call (.Name "range" p) [a,b] [] pos) (Bv f g) :=
 gB (wK hg hm (cF ha (cF hb d8 (by rw[hs2];rfl)) (by rw[hs,hs2])) hs hs2) fun σ H R hq0=>by
  obtain⟨P,φ,sl,st,rs,s,iv,st',ef,k⟩:=hq0;obtain⟨q,e1,e2⟩:=zA ef;obtain⟨r,e3,e4⟩:=zA e2;refine EH rs s ⟨q.1,q.2,r.1,r.2,e1,e3,fun P1 φ1 H1 w w' f1 s1 r1 r2=>?_⟩;split at e4
  ·rename_i i j ei ej
   rw[ei]at r1;rw[ej]at r2;split at e4
   ·rename_i hb
    cases e4;obtain⟨h1,h2⟩:=Bool.and_eq_true_iff.mp hb;simp only[RA]at r1 r2;subst r1;subst r2;exact⟨i,j,rfl,⟨(gq h1).1,(gq h1).2,(gq h2).1,(gq h2).2⟩,k P1 φ1 H1 _ f1 s1 t0⟩
   ·cases e4
  ·cases e4
def iZ(f g:EF):IF:=fun sl st=>(f sl st).bind fun p=>(g sl p.2).bind fun q=>(iH q.2 p.1).bind fun x=>(iH q.2 q.1).bind fun y=>some (⟨(x.NH.zip y.NH).map fun z=>.tup [z.1,z.2],x.gd++y.gd⟩,q.2)
theorem tU[NI]{mg:Gm}{P:Pr}{φ:List Addr}{st:aa}{H:Hp}{p:Addr}{x y:AV}{u w:V}(s:Sim mg P φ st H)(hp:H p=none)(rx:RA mg P H φ x u)(ry:RA mg P H φ y w) :
  ∃P3,Frm P φ H P3 φ (ae H p (.tup [u,w]))/\Sim mg P3 φ st (ae H p (.tup [u,w]))/\RA mg P3 (ae H p (.tup [u,w])) φ (.tup [x,y]) (.ref p):=by
 obtain⟨f3,s3⟩:=nq (o:=.tup [u,w]) s hp;refine⟨_,f3,s3,?_⟩;simp only[RA];exact⟨p,[u,w],rfl,.inr rfl,aw,aU (rx.frm f3) (aU (ry.frm f3) bj)⟩
theorem EV[NI]{x1:Nat}(hg:Gl X "zip")(hm:X.mg "zip"=none)(ha:QE X a f)(hb:QE X b g)(hs:starEach [a,b] X.env=[(false,eval a X.env),(false,eval b X.env)])(hs2:starEach [b] X.env=[(false,eval b X.env)]) :
  QI X (.Tuple elts x1 tpos) (.Call (.Name "zip" p) [a,b] [] pos) (iZ f g) :=
 gB (Fh hg hm (cF ha (cF hb d8 (by rw[hs2];rfl)) (by rw[hs,hs2])) hs hs2) fun σ H R hq0=>by
  obtain⟨P,φ,sl,st,rs,s,iv,st',ef,k⟩:=hq0;obtain⟨q,e1,e2⟩:=zA ef;obtain⟨r,e3,e4⟩:=zA e2;obtain⟨x,e5,e6⟩:=zA e4;obtain⟨y,e7,e8⟩:=zA e6;cases e8;refine EH rs s ⟨q.1,q.2,r.1,r.2,e1,e3,fun P1 φ1 H1 w w' f1 s1 r1 r2=>?_⟩;obtain⟨a1,rfl,h1⟩:=kT s1 r1 e5;obtain⟨a2,rfl,h2⟩:=kT s1 r2 e7;obtain⟨vs,rd1,_⟩:=h1 P1 φ1 H1 r.2 Frm.refl s1 (kS e5);obtain⟨us,rd2,_⟩:=h2 P1 φ1 H1 r.2 Frm.refl s1 (kS e7);refine⟨a1,a2,rfl,⟨vs,rd1⟩,⟨us,rd2⟩,k P1 φ1 H1 _ f1 s1 ⟨fun P2 φ2 H2 st2 i t f2 s2 g2 et=>?_,fun P2 φ2 H2 st2 f2 s2 g2=>?_⟩⟩
  ·obtain⟨ga,gb⟩:=ui g2
   obtain⟨vs2,d1,q1⟩:=h1 P2 φ2 H2 st2 f2 s2 ga;obtain⟨us2,d2,q2⟩:=h2 P2 φ2 H2 st2 f2 s2 gb;rw[zR]at et;obtain⟨z,ez,et⟩:=zE.mp et;subst et;obtain⟨hx,hy⟩:=List.getElem?_zip_eq_some.mp ez;obtain⟨u1,c1,b1⟩:=q1.get hx;obtain⟨u2,c2,b2⟩:=q2.get hy;refine⟨⟨vs2,us2,u1,u2,d1,d2,c1,c2⟩,fun v H3 hq0=>?_⟩;obtain⟨pp,u,w,k1,k2,hp,hH,hv⟩:=hq0;have k1:=k1 vs2 d1;have k2:=k2 us2 d2;rw[c1]at k1;rw[c2]at k2;cases k1;cases k2;subst hH;subst hv;exact tU s2 hp b1 b2
  ·obtain⟨ga,gb⟩:=ui g2
   obtain⟨vs2,d1,q1⟩:=h1 P2 φ2 H2 st2 f2 s2 ga;obtain⟨us2,d2,q2⟩:=h2 P2 φ2 H2 st2 f2 s2 gb;refine⟨vs2,us2,d1,d2,?_⟩;rw[<- q1.length,<- q2.length];simp only[zH,List.length_zip];lia
noncomputable def eN(n0:Nat)(xs:List AV):List AV:=(xs.zipIdx n0).map fun z=>.tup [.int ((z.2:Nat):Int),z.1]
theorem rL[NI]{mg:Gm}{P:Pr}{φ:List Addr}{H:Hp}{K:Frag}{a:Addr}{iv:Iv}{n0:Nat}(h:∀P2 φ2 H2 st2,Frm P φ H P2 φ2 H2->Sim mg P2 φ2 st2 H2->cg iv.gd st2=true->∃vs,bK K H2 a vs/\NJ mg P2 H2 φ2 iv.NH vs):sZ mg (xW K a n0) ⟨eN n0 iv.NH,iv.gd⟩ P φ H where
 go:=fun P2 φ2 H2 st2 i x f s g e=>by
  obtain⟨vs,rd,ra⟩:=h P2 φ2 H2 st2 f s g;unfold eN at e;rw[zR,List.getElem?_zipIdx]at e;cases hz:iv.NH[i]? with
  |none=>rw[hz]at e;cases e
  |some y =>
   rw[hz]at e;cases e;obtain⟨v,e1,r1⟩:=ra.get hz;refine⟨⟨vs,v,rd,e1⟩,fun w H3 hq0=>?_⟩;obtain⟨pp,u,hx,hp,hH,hw⟩:=hq0
   have:=hx vs rd
   rw[e1]at this;cases this;subst hH;subst hw;exact tU s hp (by simp only[RA]) r1
 stop:=fun P2 φ2 H2 st2 f s g=>by
  obtain⟨vs,rd,ra⟩:=h P2 φ2 H2 st2 f s g;exact⟨vs,rd,by rw[<- ra.length];simp[eN]⟩
def JW(f:EF):IF:=fun sl st=>(f sl st).bind fun p=>(iH p.2 p.1).map fun iv=>(⟨eN 0 iv.NH,iv.gd⟩,p.2)
theorem HG[NI]{x1:Nat}(hg:Gl X "enumerate")(hm:X.mg "enumerate"=none)(ha:QE X a f)(hs:starEach [a] X.env=[(false,eval a X.env)]) :
  QI X (.Tuple elts x1 tpos) (.Call (.Name "enumerate" p) [a] [] pos) (JW f) :=
 gB (C2 hg hm (cF ha d8 (by rw[hs];rfl)) hs) fun σ H R hq0=>by
  obtain⟨P,φ,sl,st,rs,s,iv,st',ef,k⟩:=hq0;obtain⟨q,e1,e2⟩:=zA ef;obtain⟨iv',e3,e4⟩:=zE.mp e2;cases e4;refine wz rs s ⟨q.1,q.2,e1,fun P1 φ1 H1 w f1 s1 r1=>?_⟩;obtain⟨a1,rfl,h1⟩:=kT s1 r1 e3;obtain⟨vs,rd1,_⟩:=h1 P1 φ1 H1 q.2 Frm.refl s1 (kS e3);exact⟨a1,rfl,⟨vs,rd1⟩,k P1 φ1 H1 _ f1 s1 (rL h1)⟩
end
end R
namespace L2
open PySem PySem.Spec PyProof.Rows
section
variable{prog:Program}{w:World}{A:Around}{E:Value->Shared->Prop}{s:Shared}
theorem xE(l:Addr)(items:Array Value)(n:Nat)(dct:Option Addr)(sl:Array (Option Value))(t:Tok)(i:Int)(hf:Builtin.SmallTypes.fitsIndex i=true) :
  Meets (Builtin.«enumerate.__new__» ⟨[.type "enumerate",.ref l],[("start",.int i t)]⟩) (fun _ R s=>s.heap.get? l=some { cls:=.type "list",dict:=dct,data:=.seq items n,slots:=sl } /\
   R (.ok (.ret (.ref (s.heap.push { cls:=.type "list_iterator",data:=.fields #[.ref l,.int 0 0] }).objs.size)))
    { s with heap:=(s.heap.push { cls:=.type "list_iterator",data:=.fields #[.ref l,.int 0 0] }).push { cls:=.type "enumerate",data:=.fields #[.none,.bool false,.ref s.heap.objs.size,rawInt i,.none,.none] } }):=Meets.of_wp fun prog w A R s h=>by
  obtain⟨hp,g,d,tk,os⟩:=s;obtain⟨hl,h⟩:=h;have hsub:=sub_enumerate;have hL:Heap.IsList (Shared.heap ⟨hp,g,d,tk,os⟩) l items:=⟨_,hl,rfl,n,rfl⟩
  wp_walk using AutoSeq1.wpAny_loadPart' hl
  refine wpAny_stack_any fun st=>yF ?_
  split
  ·rename_i c _ _ _ _ _
   cases (c==Value.type "enumerate")
   ·wp_walk using AutoSeq1.wpAny_loadPart' hl,wpAny_pyIter_list hL
    exact⟨_,rfl,h⟩
   ·wp_walk using AutoSeq1.wpAny_loadPart' hl,wpAny_pyIter_list hL
    exact⟨_,rfl,h⟩
  ·wp_walk using AutoSeq1.wpAny_loadPart' hl,wpAny_pyIter_list hL
   exact⟨_,rfl,h⟩
theorem vP{l:Addr}{items:Array Value}{t:Tok}{i:Int}{Q:Value->Shared->Prop}(hf:Builtin.SmallTypes.fitsIndex i=true)(hL:s.heap.IsList l items)
  (h:∀h',IsEnum h' (s.heap.objs.size+1) s.heap.objs.size i .none->h'.IsListIter s.heap.objs.size l 0->(∀b o,s.heap.get? b=some o->h'.get? b=some o)->Q (.ref (s.heap.objs.size+1)) { s with heap:=h' }) :
  wpAny (model prog w) A (call (.type "enumerate") [.ref l] [("start",.int i t)]) Q E s:=by
 obtain⟨⟨c0,dct,dt,sl⟩,hl,hc0,n,hd⟩:=hL;dsimp only at hc0 hd;subst hc0 hd;have ft:=F.called_enumerate;obtain⟨c,tl,hmro⟩:=ft.mro;have hmade:=ft.made;have hsub:=ft.sub;have h1:=ft.notType;have h2:=ft.canCreate;have hct:=qz (.ref l) (.int i t);have hcn:=p8 (.ref l) (.int i t);refine wpAny_call (codeAny_of_tree ?_);show wpAny _ _ (callAny (.type "enumerate") _) _ _ _;refine yF ⟨Code.quiet_builtin _ (by decide +kernel),codeAny_builtin F.entry_type_call ?_⟩;rw[Around.under_plain (weight_type_call_type "enumerate" _ _) (units_type_call_type "enumerate" _ _)]
 repeat (any_goals (first | assumption | wp_step))
 have hz:(s.heap.push { cls:=.type "list_iterator",data:=.fields #[.ref l,.int 0 0] }).objs.size=s.heap.objs.size+1:=Heap.size_push ..;have he:=zY (s.heap.push { cls:=.type "list_iterator",data:=.fields #[.ref l,.int 0 0] }) (o:={ cls:=.type "enumerate",data:=.fields #[.none,.bool false,.ref s.heap.objs.size,rawInt i,.none,.none] }) rfl;rw[hz]at he;refine codeAny_mono (codeAny_call_builtin (R:=wants (fun obj s₁=>s₁.TypeIs obj "enumerate"/\Q obj s₁) E) ft.plain F.entry_enumerate_new (wpAny_of_eq hcn (xE l items n dct sl t i hf prog w A.in1 _ s ⟨hl,?_⟩))) fun r s₁ hr=>?_
 ·show _/\_
  rw[hz];exact⟨⟨_,he,rfl⟩,h _ he ⟨_,zG _ (zY _ rfl),rfl,rfl⟩ fun b o x=>zG _ (zG _ x)⟩
 ·cases r with
  |error e=>exact hr
  |ok fl =>
   cases fl with
   |ret obj =>
    obtain⟨hT,hq0⟩:=hr;have hli:=ft.init.lookup;have hbi:=ft.init.bind obj
    repeat (any_goals (first | assumption | wp_step))
    refine codeAny_mono (codeAny_call_builtin (R:=wants (fun r s₂=>r=.none/\Q obj s₂) E) ft.init.plain F.entry_object_init (ft.init.check _ _ _ _ _ _ _ _ hT (o0 obj (.ref l) (.int i t)) (vG ft.init.lookup ft.made dC prog w A.in1 _ s₁ ⟨hT,rfl,hq0⟩))) fun r₂ s₂ hr₂=>?_
    cases r₂ with
    |error e=>exact hr₂
    |ok fl₂ =>
     cases fl₂ with
     |ret r =>
      obtain⟨rfl,hq⟩:=hr₂
      repeat (any_goals (first | assumption | wp_step))
     |_=>exact hr₂.elim
   |_=>exact hr.elim
end
end L2
namespace R
open PySem PySem.Spec PyProof.Rows L2
open DD (PE_imp PT_imp PA_imp PS_imp PSs_imp OpR_imp PW_imp PG_imp pyOk)
section
variable{X:Cx}{tg e a b:Expr}{es:List Expr}{pos p kp:Pos}
theorem zt[NI]{x1:Nat}(hg:Gl X "enumerate")(hm:X.mg "enumerate"=none)(ha:PA X [a] ta)(hb:PE X b tb)(hs:starEach [a] X.env=[(false,eval a X.env)]) :
  PI X (.Tuple elts x1 tpos) (.Call (.Name "enumerate" p) [a] [⟨some "start",b,kp⟩] pos) (fun σ H R=>ta σ H fun vs H1=>tb σ H1 fun y H2=>∃l n0,vs=[.ref l]/\y=.int ((n0:Nat):Int)/\n0<=1000000/\(∃xs,bK X.K H2 l xs)/\R (xW X.K l n0) H2):=by
 intro ND s σ H R I h;refine wpAny_Call_Name_kw (c8 I hg hm pW (sM (by rw[hs];rfl) (by rfl) ?_));have hA:=ha pos ND s σ H _ I h;rw[hs]at hA ⊢;refine PyProof.Rows.evalArgs_kwB (by rfl) (yo hA fun us s1 hq0=>?_);obtain⟨vs,H1,I1,r1,q1⟩:=hq0;refine PyProof.Rows.kws_cons (aB (hb ND s1 σ H1 _ I1 q1) fun u s2 ⟨y,H2,I2,r2,l,n0,e1,e2,hn,⟨xs,hq⟩,q⟩=>PyProof.Rows.kws_nil ?_);subst e1;subst e2;obtain⟨t,rfl⟩:=r2;cases r1 with
 |cons r rr =>
  cases rr;cases r;obtain⟨NH,rv,p1,_⟩:=I2.list hq;show wpAny _ _ (call (.type "enumerate") [.ref l] [("start",.int ((n0:Nat):Int) t)]) _ _ _;refine vP (s:=s2) ?_ p1.isList fun h' he hi hk=>?_
  ·unfold Builtin.SmallTypes.fitsIndex
   simp only[zC,yB];lia
  refine wpAny_pyIter_enum (s:={ s2 with heap:=h' }) he ?_;exact sB (t':=s2.toks) (n0:=n0) I2 he hi hk q
def vH(f g:EF):IF:=fun sl st=>(f sl st).bind fun p=>(g sl p.2).bind fun q=>match q.1 with
 |.int i=>if(decide (0<=i)&&Nat.ble i.natAbs 1000000)=true then(iH q.2 p.1).map fun iv=>(⟨eN i.toNat iv.NH,iv.gd⟩,q.2) else none
 |_=>none
theorem EW[NI]{x1:Nat}(hg:Gl X "enumerate")(hm:X.mg "enumerate"=none)(ha:QE X a f)(hb:QE X b g)(hs:starEach [a] X.env=[(false,eval a X.env)]) :
  QI X (.Tuple elts x1 tpos) (.Call (.Name "enumerate" p) [a] [⟨some "start",b,kp⟩] pos) (vH f g) :=
 gB (zt hg hm (cF ha d8 (by rw[hs];rfl)) hb hs) fun σ H R hq0=>by
  obtain⟨P,φ,sl,st,rs,s,iv,st',ef,k⟩:=hq0;obtain⟨q,e1,e2⟩:=zA ef;obtain⟨r,e3,e4⟩:=zA e2;refine wz rs s ⟨q.1,q.2,e1,fun P1 φ1 H1 w f1 s1 r1=>⟨P1,φ1,sl,q.2,rs.frm f1,s1,r.1,r.2,e3,fun P2 φ2 H2 w2 f2 s2 r2=>?_⟩⟩;split at e4
  ·rename_i i ei
   rw[ei]at r2;simp only[RA]at r2;subst r2;split at e4
   ·rename_i hc
    simp only[zC,yB]at hc;have hc2:=zS hc.2;obtain⟨iv',e5,e6⟩:=zE.mp e4;cases e6;obtain⟨a1,rfl,h1⟩:=kT s2 (r1.frm f2) e5;obtain⟨vs,rd1,_⟩:=h1 P2 φ2 H2 r.2 Frm.refl s2 (kS e5);exact⟨a1,i.toNat,rfl,by rw[Int.toNat_of_nonneg hc.1],by lia,⟨vs,rd1⟩,k P2 φ2 H2 _ (f1.trans f2) s2 (rL h1)⟩
   ·cases e4
  ·cases e4
end
mutual
noncomputable def rf:AV->Bool
 |.ref _=>false
 |.tup xs=>rfs xs
 |_=>true
noncomputable def rfs:List AV->Bool
 |[]=>true
 |x::xs=>rf x&&rfs xs
end
mutual
theorem RA.rf:∀{t:AV}{v:V},R.rf t=true->RA mg P H φ t v->RA mg P H ψ t v
 |.non,_,_,h=>by simp only[RA]at h ⊢;exact h
 |.bl _,_,_,h=>by simp only[RA]at h ⊢;exact h
 |.int _,_,_,h=>by simp only[RA]at h ⊢;exact h
 |.str _,_,_,h=>by simp only[RA]at h ⊢;exact h
 |.fz _,_,_,h=>by simp only[RA]at h ⊢;exact h
 |.ref k,_,e,_=>by simp only[R.rf]at e;cases e
 |.tup xs,_,e,h=>by
  simp only[RA,R.rf]at h e ⊢;obtain⟨a,vs,r,p,e',q⟩:=h;exact⟨a,vs,r,p,e',NJ.rf e q⟩
theorem NJ.rf:∀{ts:List AV}{vs:List V},R.rfs ts=true->NJ mg P H φ ts vs->NJ mg P H ψ ts vs
 |[],_,_,h=>by simp only[NJ]at h ⊢;exact h
 |t::ts,_,e,h=>by
  simp only[NJ,R.rfs,zC]at h e ⊢;obtain⟨v,ws,e',r,q⟩:=h;exact⟨v,ws,e',RA.rf e.1 r,NJ.rf e.2 q⟩
end
abbrev NF:=Sl->aa->Option (List AV×aa)
def rN[NI](mg:Gm)(f:NF):TE:=fun σ H Q=>∃P φ sl st,NO mg P H φ sl σ/\Sim mg P φ st H/\∃xs st',f sl st=some (xs,st') /\
 ∀P' φ' H' p vs,Frm P φ H P' φ' H'->Sim mg P' φ' st' H'->H' p=none->NJ mg P' H' φ' xs vs->Q (.ref p) (ae H' p (.lst vs))
def QN[NI](X:Cx)(e:Expr)(f:NF):Prop:=PE X e (rN X.gm f)
def Mh(f:NF):EF:=fun sl st=>(f sl st).bind fun p=>if rfs p.1=true then some (.fz p.1,p.2) else none
def Mg(f:NF):EF:=fun sl st=>(f sl st).bind fun p=>some (.ref p.2.length,p.2++[.lst p.1])
theorem Gr[NI]{mg:Gm}{P:Pr}{φ:List Addr}{st:aa}{H:Hp}{p:Addr}{xs:List AV}{vs:List V}(s:Sim mg P φ st H)(hp:H p=none)(hr:rfs xs=true)(r:NJ mg P H φ xs vs) :
  ∃P3,Frm P φ H P3 φ (ae H p (.lst vs))/\Sim mg P3 φ st (ae H p (.lst vs))/\RA mg P3 (ae H p (.lst vs)) φ (.fz xs) (.ref p):=by
 obtain⟨f3,s3⟩:=nq (o:=.lst vs) s hp;refine⟨_,f3,s3,?_⟩;simp only[RA];exact⟨p,vs,rfl,.inl ⟨.inr rfl,.inl aw⟩,NJ.rf hr (r.frm f3)⟩
theorem FO[NI]{mg:Gm}{P:Pr}{φ:List Addr}{st:aa}{H:Hp}{p:Addr}{xs:List AV}{vs:List V}(s:Sim mg P φ st H)(hp:H p=none)(r:NJ mg P H φ xs vs) :
  Frm P φ H P (φ++[p]) (ae H p (.lst vs))/\Sim mg P (φ++[p]) (st++[.lst xs]) (ae H p (.lst vs))/\RA mg P (ae H p (.lst vs)) (φ++[p]) (.ref st.length) (.ref p):=by
 have ne:∀a,H a≠none->a≠p:=fun a h e=>h (by rw[e];exact hp)
 obtain⟨f3,s3⟩:=mO (c:=.lst xs) (o:=.lst vs) s hp ⟨fun z=>s.dom p z hp,vs,aw,r.mono (fun a h=>⟨h,ad (ne a (s.dom a h))⟩) fun k a e=>by rw[zN (zB.mp e).1];exact e⟩;refine⟨f3,s3,?_⟩;simp only[RA];exact⟨p,by rw[<- s.len];simp,rfl⟩
section
variable{X:Cx}{e a b:Expr}{es:List Expr}{pos:Pos}{f:NF}
noncomputable def cK(n:Nat):Bool:=Nat.ble n 1000000
theorem iC{n:Nat}(h:cK n=true):n<=sizeLine:=z5 (zS h) dC
def JO(g:AF):NF:=fun sl st=>(g sl st).bind fun p=>if cK p.1.length=true then some p else none
theorem CF[NI](h:QA X es g):QN X (.List es pos) (JO g) :=
 PE_imp (wM h) fun σ H Q hq0=>by
  obtain⟨P,φ,sl,st,rs,s,xs,st',ef,k⟩:=hq0;obtain⟨q,e1,e2⟩:=zA ef;split at e2
  ·rename_i hz
   cases e2;exact⟨P,φ,sl,st,rs,s,xs,st',e1,fun P1 φ1 H1 vs f1 s1 r1=>⟨by rw[<- r1.length];exact iC hz,fun p hp=>k P1 φ1 H1 p vs f1 s1 hp r1⟩⟩
  ·cases e2
def vm(f g:EF):NF:=fun sl st=>(f sl st).bind fun p=>(g sl p.2).bind fun q=>(bL q.2 p.1).bind fun xs=>(bL q.2 q.1).bind fun ys=>if cK (xs.length+ys.length)=true then some (xs++ys,q.2) else none
theorem EU[NI]{f g:EF}(ha:QE X a f)(hb:QE X b g):QN X (.BinOp a .Add b pos) (vm f g) :=
 PE_imp (ve Dd ha hb) fun σ H Q hq0=>by
  obtain⟨P,φ,sl,st,rs,s,xs,st',ef,k⟩:=hq0;obtain⟨q,e1,e2⟩:=zA ef;obtain⟨r,e3,e4⟩:=zA e2;obtain⟨x,e5,e6⟩:=zA e4;obtain⟨y,e7,e8⟩:=zA e6;split at e8
  ·rename_i hz
   cases e8;refine⟨P,φ,sl,st,rs,s,q.1,q.2,e1,fun P1 φ1 H1 w f1 s1 r1=>⟨P1,φ1,sl,q.2,rs.frm f1,s1,r.1,r.2,e3,fun P2 φ2 H2 w2 f2 s2 r2=>?_⟩⟩;obtain⟨a1,vs,rfl,d1,q1⟩:=(r1.frm f2).ls s2 e5;obtain⟨a2,us,rfl,d2,q2⟩:=r2.ls s2 e7;exact⟨a1,a2,vs,us,rfl,rfl,d1,d2,by rw[<- q1.length,<- q2.length];exact iC hz,fun p hp=>k P2 φ2 H2 p _ (f1.trans f2) s2 hp (q1.app q2)⟩
  ·cases e8
def vj(g:AF)(f:EF):NF:=fun sl st=>(g sl st).bind fun p=>(f sl p.2).bind fun q=>match q.1 with
 |.int k=>if(eR k&&cK (p.1.length*k.toNat)&&cK p.1.length)=true then some ((List.replicate k.toNat p.1).flatten,q.2) else none
 |_=>none
theorem NJ.rep(h:NJ mg P H φ xs vs):∀k:Nat,NJ mg P H φ (List.replicate k xs).flatten (List.replicate k vs).flatten
 |0=>bj
 |k+1=>by rw[List.replicate_succ,List.replicate_succ,List.flatten_cons,List.flatten_cons];exact h.app (NJ.rep h k)
theorem EQ[NI]{g:AF}{f:EF}{pos':Pos}(h:QA X es g)(hb:QE X b f):QN X (.BinOp (.List es pos') .Mult b pos) (vj g f) :=
 PE_imp (ve FD (wM h) hb) fun σ H Q hq0=>by
  obtain⟨P,φ,sl,st,rs,s,xs,st',ef,k⟩:=hq0;obtain⟨q,e1,e2⟩:=zA ef;obtain⟨r,e3,e4⟩:=zA e2;split at e4
  ·rename_i j ej
   split at e4
   ·rename_i hc
    cases e4;simp only[zC]at hc;refine⟨P,φ,sl,st,rs,s,q.1,q.2,e1,fun P1 φ1 H1 vs f1 s1 r1=>⟨by rw[<- r1.length];exact iC hc.2,fun p hp=>?_⟩⟩
    -- the list itself is a cell that nobody has
    obtain⟨f2,s2⟩:=nq (o:=.lst vs) s1 hp;refine⟨_,φ1,sl,q.2,(rs.frm f1).frm f2,s2,r.1,r.2,e3,fun P3 φ3 H3 w f3 s3 r3=>?_⟩;rw[ej]at r3;simp only[RA]at r3;subst r3;have hH:H3 p=some (.lst vs):=by rw[(f3.ext p (.inr rfl)).2,aw]
    have hj:=gq hc.1.1;refine⟨p,j,vs,rfl,rfl,hH,by lia,by lia,by rw[<- r1.length];exact iC hc.1.2,fun p' hp'=>?_⟩;exact k P3 φ3 H3 p' _ ((f1.trans f2).trans f3) s3 hp' (NJ.rep ((r1.frm f2).frm f3) _)
   ·cases e4
  ·cases e4
abbrev OF:=Sl->aa->Option (Option Int×aa)
def rO[NI](mg:Gm)(f:OF):TO:=fun σ H Q=>∃P φ sl st,NO mg P H φ sl σ/\Sim mg P φ st H/\KG mg RB P φ H (f sl st) Q
def QO[NI](X:Cx)(e:Option Expr)(f:OF):Prop:=PO X e (rO X.gm f)
def JN:OF:=fun _ st=>some (none,st)
def qR(f:EF):OF:=fun sl st=>(f sl st).bind fun p=>match p.1 with
 |.int i=>some (some i,p.2)
 |_=>none
theorem uw(h:PO X eo t)(i:∀σ H Q,t' σ H Q->t σ H Q):PO X eo t':=fun ND s σ H Q I h'=>h ND s σ H Q I (i σ H Q h')
theorem CD[NI]:QO X none JN:=uw CY fun σ H Q ⟨P,φ,sl,st,rs,s,k⟩=>k.pure s rfl
theorem CC[NI]{f:EF}(h:QE X e f):QO X (some e) (qR f):=uw (CW h) fun σ H Q ⟨P,φ,sl,st,rs,s,k⟩=>⟨P,φ,sl,st,rs,s,by
 obtain⟨a,st',e1,q⟩:=k.bind (Ra:=RA);refine⟨a,st',e1,fun P1 φ1 H1 c f1 s1 r1=>?_⟩;obtain⟨P2,φ2,st2,x,f2,s2,r2,k2⟩:=q P1 φ1 H1 c f1 s1 r1;cases x<;>first|exact k2.no.elim|skip
 rename_i i;simp only[RA]at r2;exact⟨i,r2,k2.pure s2 rfl⟩⟩
def cut{α:Type}(xs:List α)(lo hi:Option Int):List α:=(xs.drop (HT.NR xs.length 0 lo)).take (HT.NR xs.length xs.length hi-HT.NR xs.length 0 lo)
theorem NJ.cut(h:NJ mg P H φ xs vs)(lo hi:Option Int):NJ mg P H φ (R.cut xs lo hi) (pe vs lo hi):=by
 unfold R.cut pe;rw[h.length];exact(h.drop _).take _
theorem KH[NI]{mg:Gm}{f:EF}{l h:OF}{σ:St}{H:Hp}{P:Pr}{φ:List Addr}{sl:Sl}{st:aa}(rs:NO mg P H φ sl σ)(s:Sim mg P φ st H){r:V->Option Int->Option Int->Hp->VK->Prop}{Q:VK}
  (k:∃v st1 lo st2 hi st3,f sl st=some (v,st1)/\l sl st1=some (lo,st2)/\h sl st2=some (hi,st3)/\∀P' φ' H' w,Frm P φ H P' φ' H'->Sim mg P' φ' st3 H'->RA mg P' H' φ' v w->r w lo hi H' Q):JB r (rE mg f) (rO mg l) (rO mg h) σ H Q:=by
 obtain⟨v,st1,lo,st2,hi,st3,e1,e2,e3,k⟩:=k;refine⟨P,φ,sl,st,rs,s,v,st1,e1,fun P1 φ1 H1 w f1 s1 r1=>⟨P1,φ1,sl,st1,rs.frm f1,s1,lo,st2,e2,fun P2 φ2 H2 lo' f2 s2 r2=>⟨P2,φ2,sl,st2,(rs.frm f1).frm f2,s2,hi,st3,e3,fun P3 φ3 H3 hi' f3 s3 r3=>?_⟩⟩⟩;cases r2;cases r3;exact k P3 φ3 H3 w ((f1.trans f2).trans f3) s3 ((r1.frm f2).frm f3)
def qW(f:EF)(l h:OF):NF:=fun sl st=>(f sl st).bind fun p=>(l sl p.2).bind fun q=>(h sl q.2).bind fun r=>(bL r.2 p.1).map fun xs=>(cut xs q.1 r.1,r.2)
theorem HC[NI]{f:EF}{l h:OF}{lo hi:Option Expr}{p2:Pos}(ha:QE X a f)(hl:QO X lo l)(hh:QO X hi h):QN X (.Subscript a (.Slice lo hi none p2) pos) (qW f l h) :=
 PE_imp (zx Cq ha hl hh) fun σ H Q hq0=>by
  obtain⟨P,φ,sl,st,rs,s,xs,st',ef,k⟩:=hq0;obtain⟨q,e1,e2⟩:=zA ef;obtain⟨r,e3,e4⟩:=zA e2;obtain⟨t,e5,e6⟩:=zA e4;obtain⟨ys,e7,e8⟩:=zE.mp e6;cases e8;refine KH rs s ⟨q.1,q.2,r.1,r.2,t.1,t.2,e1,e3,e5,fun P1 φ1 H1 w f1 s1 r1=>?_⟩;obtain⟨a1,vs,rfl,d1,q1⟩:=r1.ls s1 e7;exact⟨a1,vs,rfl,d1,fun p hp=>k P1 φ1 H1 p _ f1 s1 hp (q1.cut _ _)⟩
def mP(f:EF):NF:=fun sl st=>(f sl st).bind fun p=>match bL p.2 p.1 with
 |some xs=>some (xs,p.2)
 |none=>(iU p.2 p.1).map fun xs=>(xs,p.2)
theorem ET[NI]{f:EF}{p pos:Pos}(hg:Gl X "list")(hm:X.mg "list"=none)(ha:QE X a f)(hs:starEach [a] X.env=[(false,eval a X.env)]):QN X (.Call (.Name "list" p) [a] [] pos) (mP f) :=
 PE_imp (pF sK hg hm j5 (cF ha d8 (by rw[hs];rfl)) (he:=by rw[hs];rfl) (hpl:=rfl)) fun σ H Q hq0=>by
  obtain⟨P,φ,sl,st,rs,s,xs,st',ef,k⟩:=hq0;obtain⟨q,e1,e2⟩:=zA ef;refine wz rs s ⟨q.1,q.2,e1,fun P1 φ1 H1 w f1 s1 r1=>?_⟩;split at e2
  ·rename_i ys e3
   cases e2;obtain⟨a1,vs,rfl,d1,q1⟩:=r1.ls s1 e3;exact⟨a1,vs,rfl,.inl d1,fun p hp=>k P1 φ1 H1 p vs f1 s1 hp q1⟩
  ·obtain⟨ys,e3,e4⟩:=zE.mp e2
   cases e4;obtain⟨a1,vs,rfl,d1,q1⟩:=r1.tp s1 e3;exact⟨a1,vs,rfl,.inr (.inl (.inl d1)),fun p hp=>k P1 φ1 H1 p vs f1 s1 hp q1⟩
end
abbrev GF:=AV->Sl->aa->Option (Sl×aa)
abbrev td:=List AV->Sl->aa->Option (Sl×aa)
def KS[NI](mg:Gm)(P:Pr)(φ:List Addr)(H:Hp)(r:Option (Sl×aa))(Q:St->Hp->Prop):Prop :=
 ∃sl' st',r=some (sl',st')/\∀P' φ' H' σ',Frm P φ H P' φ' H'->Sim mg P' φ' st' H'->NO mg P' H' φ' sl' σ'->Q σ' H'
def rG[NI](mg:Gm)(f:GF):TG:=fun v σ H Q=>∃P φ sl st x,NO mg P H φ sl σ/\Sim mg P φ st H/\RA mg P H φ x v/\KS mg P φ H (f x sl st) Q
def LQ[NI](mg:Gm)(f:td):mF:=fun vs σ H Q=>∃P φ sl st xs,NO mg P H φ sl σ/\Sim mg P φ st H/\NJ mg P H φ xs vs/\KS mg P φ H (f xs sl st) Q
def QG[NI](X:Cx)(tg:Expr)(f:GF):Prop:=PG X tg (rG X.gm f)
def xT[NI](X:Cx)(tgs:List Expr)(f:td):Prop:=p6 X tgs (LQ X.gm f)
def xw(i:Nat):GF:=fun x sl st=>some (sl.set i (some x),st)
def Gn:td:=fun xs sl st=>match xs with
 |[]=>some (sl,st)
 |_=>none
def Gp(f:GF)(g:td):td:=fun xs sl st=>match xs with
 |x::xs=>(f x sl st).bind fun p=>g xs p.1 p.2
 |[]=>none
def xu(n:Nat)(g:td):GF:=fun x sl st=>match iU st x with
 |some xs=>if xs.length=n then g xs sl st else none
 |none=>match bL st x with
  |some xs=>if xs.length=n then g xs sl st else none
  |none=>none
theorem sX(h:p6 X tgs t)(i:∀v σ H Q,t' v σ H Q->t v σ H Q):p6 X tgs t':=fun ND s σ H v u Q I rv h'=>h ND s σ H v u Q I rv (i v σ H Q h')
section
variable{X:Cx}{e a b:Expr}{es:List Expr}{pos:Pos}
theorem KS.pure[NI]{mg:Gm}{P:Pr}{φ:List Addr}{H:Hp}{sl:Sl}{st:aa}{σ:St}{Q:St->Hp->Prop}(h:KS mg P φ H (some (sl,st)) Q)(s:Sim mg P φ st H)(r:NO mg P H φ sl σ):Q σ H:=by
 obtain⟨_,_,e,q⟩:=h;cases e;exact q P φ H σ Frm.refl s r
theorem CJ[NI]{i:Nat}(hN:X.N.Nodup)(hi:X.N[i]?=some x)(hx:Loc X.env.scope x)(hf:X.fn x=true\/X.env.scope.names.lookup x=some .local):QG X (.Name x pos) (xw i) :=
 PG_imp (C6 hN hi hx hf) fun v σ H Q ⟨P,φ,sl,st,x,rs,s,rx,k⟩=>k.pure s (rs.set rx i)
theorem CI[NI]:xT X [] Gn:=sX C4 fun v σ H Q hq0=>by
 obtain⟨P,φ,sl,st,xs,rs,s,rx,k⟩:=hq0;cases xs with
 |nil=>simp only[NJ]at rx;exact⟨rx,k.pure s rs⟩
 |cons _ _=>obtain⟨_,_,e,_⟩:=k;cases e
theorem zh[NI](h1:QG X e f)(h2:xT X es g)(hs:(assignEach (e::es) X.env).map (·.2)=assign e X.env::(assignEach es X.env).map (·.2)):xT X (e::es) (Gp f g) :=
 sX (zu h1 h2 hs) fun v σ H Q hq0=>by
  obtain⟨P,φ,sl,st,xs,rs,s,rx,k⟩:=hq0;cases xs with
  |nil=>obtain⟨_,_,e,_⟩:=k;cases e
  |cons x xs =>
   simp only[NJ]at rx;obtain⟨w,ws,rfl,r1,r2⟩:=rx;obtain⟨sl',st',e,q⟩:=k;obtain⟨p,e1,e2⟩:=zA e;exact⟨w,ws,rfl,P,φ,sl,st,x,rs,s,r1,p.1,p.2,e1,fun P1 φ1 H1 σ1 f1 s1 rs1=>⟨P1,φ1,p.1,p.2,xs,rs1,s1,r2.frm f1,sl',st',e2,fun P2 φ2 H2 σ2 f2 s2 rs2=>q P2 φ2 H2 σ2 (f1.trans f2) s2 rs2⟩⟩
theorem HU(h:PG X tg t)(h':PG X tg t'):PG X tg (fun v σ H Q=>t v σ H Q\/t' v σ H Q):=fun ND s σ H v u Q I r q=>by
 rcases q with q|q
 ·exact h ND s σ H v u Q I r q
 ·exact h' ND s σ H v u Q I r q
theorem EX[NI]{k n:Nat}(hc:X.calm=true)(h:xT X es g)(hn:(assignEach es X.env).length=n)(hst:(assignEach es X.env).findIdx? (·.1)=none):QG X (.Tuple es k pos) (xu n g) :=
 PG_imp (HU (Fj (k:=k) hc h hn hst) (C5 (k:=k) hc h hn hst)) fun v σ H Q hq0=>by
  obtain⟨P,φ,sl,st,x,rs,s,rx,kk⟩:=hq0;obtain⟨sl',st',e,q⟩:=kk;unfold xu at e;split at e
  ·rename_i xs ex
   split at e
   ·rename_i hl
    obtain⟨a1,vs,rfl,d1,q1⟩:=rx.tp s ex;exact .inl ⟨a1,vs,rfl,.inl (.inl d1),by rw[<- q1.length];exact hl,P,φ,sl,st,xs,rs,s,q1,sl',st',e,q⟩
   ·cases e
  ·split at e
   ·rename_i xs ex
    split at e
    ·rename_i hl
     obtain⟨a1,vs,rfl,d1,q1⟩:=rx.ls s ex;exact .inr ⟨a1,vs,rfl,d1,by rw[<- q1.length];exact hl,P,φ,sl,st,xs,rs,s,q1,sl',st',e,q⟩
    ·cases e
   ·cases e
noncomputable def mN{κ:Type}[DecidableEq κ](NE:List (κ×AV))(k:κ)(v:AV):List (κ×AV) :=
 if(NE.any fun kv=>decide (kv.1=k))=true then NE.map fun kv=>if kv.1=k then(kv.1,v) else kv else NE++[(k,v)]
theorem qN{P:Pr}{H:Hp}{φ:List Addr}{κ:Type}[DecidableEq κ]{NE:List (κ×AV)}{ws:List (κ×V)}{k:κ}{v:AV}{w:V}(h:KVR mg P H φ NE ws)(r:RA mg P H φ v w):KVR mg P H φ (mN NE k v) (eS ws k w):=by
 have hany:(NE.any fun kv=>decide (kv.1=k))=(ws.any fun kv=>decide (kv.1=k)):=by
  have h1:∀{α:Type} (l:List (κ×α)),(l.any fun kv=>decide (kv.1=k))=((l.map (·.1)).any fun x=>decide (x=k)):=fun l=>by rw[List.any_map];rfl
  rw[h1 NE,h1 ws,h.1]
 unfold mN eS;rw[hany];split
 ·clear hany
  rename_i hh;clear hh
  induction NE generalizing ws with
  |nil =>
   have:ws=[]:=by simpa using h.1.symm
   subst this;exact⟨rfl,bj⟩
  |cons p NE ih =>
   cases ws with
   |nil=>exact absurd h.1 (by simp)
   |cons q ws =>
    obtain⟨h1,h2⟩:=h;rw[zO,zO]at h1 h2;injection h1 with h3 h4;simp only[NJ]at h2;obtain⟨u,us,h5,h6,h7⟩:=h2;injection h5 with h8 h9;subst h8;subst h9;have ih:=ih (ws:=ws) ⟨h4,h7⟩;have h3':p.1=q.1:=h3;by_cases e:q.1=k
    ·rw[zO,zO,yH e,yH (h3'.trans e)]
     exact⟨by rw[zO,zO,ih.1,h3'],aU r ih.2⟩
    ·rw[zO,zO,yG e,yG (fun z=>e (h3'.symm.trans z))]
     exact⟨by rw[zO,zO,ih.1,h3'],aU h6 ih.2⟩
 ·refine⟨by rw[List.map_append,List.map_append,h.1];rfl,?_⟩
  rw[List.map_append,List.map_append];exact h.2.app (aU r bj)
def g6(st:aa)(o i v:AV):Option aa:=match o with
 |.ref k=>match st[k]? with
  |some (.lst xs)=>match i with
   |.int j=>(km xs.length j).map fun n=>st.set k (.lst (xs.set n v))
   |_=>none
  |some (.dK NE)=>(jZ i).bind fun x=>if cK NE.length=true then some (st.set k (.dK (mN NE x v))) else none
  |some (.dT NE)=>match i with
   |.tup is=>(aP jZ is).bind fun x=>if cK NE.length=true then some (st.set k (.dT (mN NE x v))) else none
   |_=>none
  |_=>none
 |_=>none
theorem Bc[NI](hu:X.A.units+64<cLine):vU X (fun o i v H Q=>∃P φ st x y z st',Sim X.gm P φ st H/\RA X.gm P H φ x o/\RA X.gm P H φ y i/\RA X.gm P H φ z v/\g6 st x y z=some st'/\∀P' φ' H',Frm P φ H P' φ' H'->Sim X.gm P' φ' st' H'->Q H'):=by
 rintro ND s σ H o i v ov iv u Q I ro ri rv ⟨P,φ,st,x,y,z,st',sm,rx,ry,rz,e,k⟩;unfold g6 at e;cases x with
 |ref j =>
  simp only[RA]at rx;obtain⟨a,ea,rfl⟩:=rx;dsimp only at e;split at e
  ·rename_i xs hk
   obtain⟨a',ea',c⟩:=sm.at hk;rw[ea]at ea';cases ea';obtain⟨na,vs,q1,q2⟩:=c;cases y with
   |int n =>
    simp only[RA]at ry;subst ry;obtain⟨m,e1,e2⟩:=zE.mp e;subst e2;have hp:P a->False:=na;obtain⟨f3,s3⟩:=iy (c:=.lst (xs.set m z)) (o:=.lst (vs.set m v)) sm ea na ⟨na,_,aw,(q2.set rz m).mono (fun b h=>⟨h,ad fun e=>na (e▸h)⟩) fun _ _ z=>z⟩ (fun _ _ z=>by rw[q1]at z;cases z);exact yz ND s σ H _ _ v ov iv u Q I ro ri rv ⟨a,vs,n,m,rfl,rfl,q1,by rw[<- q2.length];exact e1,k P φ _ f3 s3⟩
   |_=>cases e
  ·rename_i NE hk
   obtain⟨a',ea',c⟩:=sm.at hk;rw[ea]at ea';cases ea';obtain⟨na,ws,q1,q2⟩:=c;obtain⟨x,e1,e2⟩:=zA e;split at e2
   ·rename_i hz
    cases e2
    have:=mS e1 ry
    subst this;cases ro;obtain⟨f3,s3⟩:=iy (c:=.dK (mN NE x z)) (o:=.dK (eS ws x v)) sm ea na ⟨na,_,aw,(qN q2 rz).mono (fun b h=>⟨h,ad fun e=>na (e▸h)⟩) fun _ _ z=>z⟩ (fun _ _ z=>by rw[q1]at z;cases z);refine pV oM I (DPut.k q1 ?_) ri rv fun s' I'=>⟨_,I',k P φ _ f3 s3⟩
    have:=congrArg List.length q2.1
    rw[zH,zH]at this;rw[<- this];have h1:=zS hz;have h2:(1000000:Nat)<sizeLine:=by decide
    lia
   ·cases e2
  ·rename_i NE hk
   obtain⟨a',ea',c⟩:=sm.at hk;rw[ea]at ea';cases ea';obtain⟨na,ws,q1,q2⟩:=c;cases y with
   |tup is =>
    dsimp only at e;obtain⟨x,e1,e2⟩:=zA e;split at e2
    ·rename_i hz
     cases e2;simp only[RA]at ry;obtain⟨b,us,rfl,_,hb,rr⟩:=ry;rw[pK e1 rr]at hb;cases ro;obtain⟨f3,s3⟩:=iy (c:=.dT (mN NE x z)) (o:=.dT (eS ws x v)) sm ea na ⟨na,_,aw,(qN q2 rz).mono (fun b h=>⟨h,ad fun e=>na (e▸h)⟩) fun _ _ z=>z⟩ (fun _ _ z=>by rw[q1]at z;cases z);refine pV oM I (DPut.t q1 hb ?_) ri rv fun s' I'=>⟨_,I',k P φ _ f3 s3⟩
     have:=congrArg List.length q2.1
     rw[zH,zH]at this;rw[<- this];have h1:=zS hz;have h2:(1000000:Nat)<sizeLine:=by decide
     lia
    ·cases e2
   |_=>cases e
  ·cases e
 |_=>cases e
def JX(f g:EF):GF:=fun x sl st=>(f sl st).bind fun p=>(g sl p.2).bind fun q=>(g6 q.2 p.1 q.1 x).map fun st'=>(sl,st')
theorem EY[NI](hu:X.A.units+64<cLine)(ho:QE X o f)(hi:QE X i g)
  (ha:∀v,assign (.Subscript o i pos) X.env v=(do
   let ov <- holding [v] (eval o X.env)
   let iv <- holding [v,ov] (eval i X.env)
   standAt pos
   holding [v,ov,iv] (setItem ov iv v)
   release [v,ov,iv] [])):QG X (.Subscript o i pos) (JX f g) :=
 PG_imp (Fl ho hi (Bc hu) ha) fun v σ H Q hq0=>by
  obtain⟨P,φ,sl,st,x,rs,s,rx,sl',st',e,k⟩:=hq0;obtain⟨q,e1,e2⟩:=zA e;obtain⟨r,e3,e4⟩:=zA e2;obtain⟨z,e5,e6⟩:=zE.mp e4;cases e6;exact⟨P,φ,sl,st,rs,s,q.1,q.2,e1,fun P1 φ1 H1 w f1 s1 r1=>⟨P1,φ1,sl,q.2,rs.frm f1,s1,r.1,r.2,e3,fun P2 φ2 H2 w2 f2 s2 r2=>⟨P2,φ2,r.2,q.1,r.1,x,st',s2,r1.frm f2,r2,(rx.frm f1).frm f2,e5,fun P3 φ3 H3 f3 s3=>k P3 φ3 H3 σ ((f1.trans f2).trans f3) s3 (((rs.frm f1).frm f2).frm f3)⟩⟩⟩
end
def hid(H:Hp)(p:Addr):Hp:=fun b=>if b=p then none else H b
theorem bC(h:b≠p):hid H p b=H b:=yG h
theorem dk:hid H p p=none:=yH rfl
theorem Cd(h:H p=some o):ae (hid H p) p o=H:=by
 funext b;by_cases e:b=p
 ·subst e;rw[aw,h]
 ·rw[ad e,bC e]
theorem ue:hid (ae H p o) p=hid H p:=by
 funext b;by_cases e:b=p
 ·subst e;rw[dk,dk]
 ·rw[bC e,bC e,ad e]
theorem Aw(h:H p=none):hid H p=H:=by
 funext b;by_cases e:b=p
 ·subst e;rw[dk,h]
 ·rw[bC e]
section
variable{mg:Gm}{P P':Pr}{φ φ':List Addr}{st st':aa}{H H':Hp}{p:Addr}
theorem _root_.L2.fP.sh{P:Addr}{pos:Pos}{q:Str}(h:fP (hid H p) P pos q):fP H P pos q:=by
 obtain⟨ps,e,t,c⟩:=h;have ne:∀{a o},hid H p a=some o->H a=some o:=fun {a o} e=>by
  by_cases z:a=p
  ·rw[z,dk]at e;cases e
  ·rw[bC z]at e;exact e
 refine⟨ps,ne e,t,?_⟩;rcases c with c|⟨c',c1,c2⟩
 ·exact .inl c
 ·exact .inr ⟨c',c1,ne c2⟩
theorem _root_.L2.fP.hd{P:Addr}{pos:Pos}{q:Str}(h:fP H P pos q)(hl:∃vs,H p=some (.lst vs)):fP (hid H p) P pos q:=by
 obtain⟨ps,e,t,c⟩:=h;obtain⟨vs,hv⟩:=hl;refine⟨ps,by rw[bC (vh e hv fun z=>nomatch z)];exact e,t,?_⟩;rcases c with c|⟨c',c1,c2⟩
 ·exact .inl c
 ·exact .inr ⟨c',c1,by rw[bC (vh c2 hv fun z=>nomatch z)];exact c2⟩
theorem Sim.sh[NI](s:Sim mg P φ st (hid H p))(o:HO)(ho:H p=some o):Sim mg P φ st H/\∀a,P a->P a/\H a=hid H p a:=by
 have nP:∀a,P a->a≠p:=fun a h e=>s.dom a h (by rw[e];exact dk)
 have nC:∀a∈φ,a≠p:=fun a h e=>s.cd a h (by rw[e];exact dk)
 have ex:∀a,P a->P a/\H a=hid H p a:=fun a h=>⟨h,(bC (nP a h)).symm⟩
 exact⟨s.stay ex (fun a h=>(bC (nC a h)).symm) (fun _ _ h=>h) (fun a h=>by rw[(ex a h).2];exact s.dom a h) fun t ht=>⟨(s.tb t ht).1.sh,(s.tb t ht).2⟩,ex⟩
theorem Frm.hd[NI](s0:Sim mg P φ st (hid H p))(hl:∃vs,H p=some (.lst vs))(f:Frm P φ H P' φ' H')(s:Sim mg P' φ' st' H'):Frm P φ (hid H p) P' φ' (hid H' p)/\Sim mg P' φ' st' (hid H' p)/\(∀a,P' a->P' a/\hid H' p a=H' a)/\H' p=H p:=by
 have nP:∀a,P a->a≠p:=fun a h e=>s0.dom a h (by rw[e];exact dk)
 have nC:∀a∈φ,a≠p:=fun a h e=>s0.cd a h (by rw[e];exact dk)
 have hp:H p≠none:=fun z=>by obtain⟨vs,e⟩:=hl;rw[z]at e;cases e
 have kp:H' p=H p:=f.keep p hp (fun h=>nC p h rfl) fun ps z=>by obtain⟨vs,e⟩:=hl;rw[z]at e;cases e
 obtain⟨m,em,nm⟩:=f.new;have nP':∀a,P' a->a≠p:=fun a h e=>by
  rcases f.pn a h with z|z|z
  ·exact nP a z e
  ·exact hp (by rw[<- e];exact z)
  ·exact nC a z e
 have nC':∀a∈φ',a≠p:=fun a h e=>by
  rw[em]at h;rcases zZ.mp h with z|z
  ·exact nC a z e
  ·exact hp (by rw[<- e];exact nm a z)
 have hn:∀a,hid H p a≠none->a≠p:=fun a h e=>h (by rw[e];exact dk)
 have ex:∀a,P' a->P' a/\hid H' p a=H' a:=fun a h=>⟨h,bC (nP' a h)⟩
 refine⟨⟨fun a h=>⟨(f.ext a h).1,by rw[bC (nP a h),bC (nP a h)];exact(f.ext a h).2⟩,⟨m,em,fun a h=>?_⟩,fun a h n z=>?_,fun a h=>?_,fun a h=>?_,fun a o u h=>?_⟩,s.stay ex (fun a h=>bC (nC' a h)) (fun _ _ h=>h) (fun a h=>by rw[(ex a h).2];exact s.dom a h) (fun t ht=>⟨(s.tb t ht).1.hd (by rw[kp];exact hl),(s.tb t ht).2⟩),ex,kp⟩
 ·rw[bC (nC' a (by rw[em];exact zK _ h))];exact nm a h
 ·rw[bC (hn a h),bC (hn a h)]
  rw[bC (hn a h)]at z;rw[bC (hn a h)]at h;exact f.keep a h n z
 ·rcases f.pn a h with z|z|z
  ·exact .inl z
  ·exact .inr (.inl (by rw[bC (nP' a h)];exact z))
  ·exact .inr (.inr z)
 ·rw[bC (hn a h)]
  rw[bC (hn a h)]at h;exact f.sm a h
 ·have ne:=hn a (by rw[h];exact fun z=>nomatch z)
  rw[bC ne]at h ⊢;exact f.fz a o u h
end
def gM(gd:Gd)(g:GF)(t:TF)(f:EF)(sl:Sl):List AV->aa->Option (List AV×aa)
 |[],st=>if cg gd st=true then some ([],st) else none
 |x::xs,st=>if cg gd st=true then(g x sl st).bind fun p=>(t p.1 p.2).bind fun q=>if q.1=true then(f p.1 q.2).bind fun r=>(gM gd g t f sl xs r.2).map fun z=>(r.1::z.1,z.2) else gM gd g t f sl xs q.2 else none
def Bn(k:Nat)(it:IF)(g:GF)(t:TF)(f:EF):NF:=fun sl st=>(it sl st).bind fun p=>if cK p.1.NH.length=true then gM p.1.gd g t f (sl++List.replicate k none) p.1.NH p.2 else none
def JA:TF:=fun _ st=>some (true,st)
theorem NO.ext0(h:NO mg P H φ sl σ)(k:Nat):NO mg P H φ (sl++List.replicate k none) (σ++List.replicate k none):=by
 refine⟨by rw[zV,zV,h.1,List.length_replicate,List.length_replicate],fun i v e=>?_⟩;have hi:i<sl.length:=by
  rcases yT i sl.length with z|z
  ·exact z
  ·rw[z6 z,List.getElem?_replicate]at e
   split at e<;>cases e
 rw[zN hi]at e;rw[zN (by rw[<- h.1];exact hi)];exact h.2 i v e
def oB(n:Nat)(g:GF):Prop:=∀x sl st sl' st',g x sl st=some (sl',st')->sl'.length=sl.length/\∀j,j<n->sl'[j]?=sl[j]?
theorem NO.back{k:Nat}(h:NO mg P H φ sl' σ)(hl:sl'.length=(sl++List.replicate k none).length)(hj:∀j,j<sl.length->sl'[j]?=(sl++List.replicate k none)[j]?):NO mg P H φ (sl++List.replicate k none) σ:=by
 refine⟨by rw[<- hl];exact h.1,fun i v e=>?_⟩;have hi:i<sl.length:=by
  rcases yT i sl.length with z|z
  ·exact z
  ·rw[z6 z,List.getElem?_replicate]at e
   split at e<;>cases e
 exact h.2 i v (by rw[hj i hi];exact e)
theorem F4[NI]{n k:Nat}(hk:oB n g)(hn:σ.length=n)(h:rN mg (Bn k it g t f) σ H Q):Em k (rI mg it) (rG mg g) (rT mg t) (rE mg f) σ H Q:=by
 obtain⟨P,φ,sl,st,rs,s,out,stE,ef,kk⟩:=h;obtain⟨q,e1,e2⟩:=zA ef;split at e2
 ·rename_i hz
  refine⟨P,φ,sl,st,rs,s,q.1,q.2,e1,fun P1 φ1 H1 J f1 s1 ij=>fun p hp=>?_⟩;have hsl:sl.length=n:=by rw[rs.1];exact hn
  refine⟨fun i m σ' H'=>m=q.1.NH.length-i/\i<=q.1.NH.length/\∃P' φ' st' xs vs zs,Frm P1 φ1 H1 P' φ' (hid H' p)/\Sim mg P' φ' st' (hid H' p)/\NO mg P' (hid H' p) φ' (sl++List.replicate k none) σ'/\H' p=some (.lst vs)/\NJ mg P' (hid H' p) φ' xs vs/\xs.length<=i /\
    gM q.1.gd g t f (sl++List.replicate k none) (q.1.NH.drop i) st'=some (zs,stE)/\out=xs++zs,⟨_,rfl,Nat.zero_le _,P1,φ1,q.2,[],[],out,?_⟩,?_⟩
  ·have e:hid (ae H1 p (.lst [])) p=H1:=by rw[ue,Aw hp]
   rw[e];exact⟨Frm.refl,s1,(rs.frm f1).ext0 k,aw,bj,zP _,by simpa using e2,rfl⟩
  ·rintro i m σ' H' ⟨rfl,hle,P2,φ2,st2,xs,vs,zs,f2,s2,rs2,hv,rx,hlen,eg,eo⟩
   obtain⟨s2v,ex2⟩:=s2.sh _ hv;have rs2v:NO mg P2 H' φ2 (sl++List.replicate k none) σ':=⟨rs2.1,fun i v e=>let⟨w,e',r⟩:=rs2.2 i v e;⟨w,e',r.mono ex2 fun _ _ z=>z⟩⟩;have hpn:H' p≠none:=by rw[hv];exact fun z=>nomatch z
   -- the iterator's rules hold at the whole heap: it keeps what is out of sight as it is
   have f2v:Frm P1 φ1 H1 P2 φ2 H':=by
    refine⟨fun a h=>⟨(f2.ext a h).1,?_⟩,f2.new,fun a h n z=>?_,fun a h=>f2.pn a h,fun a h=>?_,fun a o u h=>?_⟩
    ·have ne:a≠p:=fun e=>s1.dom a h (by rw[e];exact hp)
     rw[<- bC (H:=H') ne];exact(f2.ext a h).2
    ·have ne:a≠p:=fun e=>h (by rw[e];exact hp)
     rw[<- bC (H:=H') ne];exact f2.keep a h n z
    ·have ne:a≠p:=fun e=>h (by rw[e];exact hp)
     rw[<- bC (H:=H') ne];exact f2.sm a h
    ·have ne:a≠p:=ba h hp
     rw[<- bC (H:=H') ne];exact f2.fz a o u h
   rcases yT i q.1.NH.length with hi|hi
   ·right
    rw[List.drop_eq_getElem_cons hi]at eg;simp only[gM]at eg;split at eg
    ·rename_i hgd
     obtain⟨go,yl⟩:=ij.go P2 φ2 H' st2 i _ f2v s2v hgd (zF hi);refine⟨go,fun x H3 hy=>?_⟩;obtain⟨P3,f3,s3,r3⟩:=yl x H3 hy;obtain⟨q4,e4,e5⟩:=zA eg;obtain⟨q6,e6,e7⟩:=zA e5;obtain⟨kl,kj⟩:=hk _ _ _ _ _ e4;refine⟨P3,φ2,sl++List.replicate k none,st2,q.1.NH[i],rs2v.frm f3,s3,r3,q4.1,q4.2,e4,fun P4 φ4 H4 σ4 f4 s4 rs4=>⟨P4,φ4,q4.1,q4.2,rs4,s4,q6.1,q6.2,e6,fun P5 φ5 H5 c f5 s5 r5=>?_⟩⟩;cases r5;have f35:=(f3.trans f4).trans f5;have back:∀{P6:Pr}{φ6:List Addr}{H6:Hp},Frm P5 φ5 H5 P6 φ6 H6->NO mg P6 H6 φ6 (sl++List.replicate k none) σ4:=fun f6=>((rs4.frm f5).frm f6).back kl fun j hj=>kj j oM
     cases hc:q6.1 with
     |true =>
      rw[hc]at e7;simp only[if_true]at e7 ⊢;obtain⟨q8,e8,e9⟩:=zA e7;obtain⟨z,e10,e11⟩:=zE.mp e9;cases e11;refine⟨P5,φ5,q4.1,q6.2,rs4.frm f5,s5,q8.1,q8.2,e8,fun P6 φ6 H6 y f6 s6 r6=>?_⟩;obtain⟨fh,sh,exh,hpe⟩:=Frm.hd s2 ⟨_,hv⟩ (f35.trans f6) s6;refine⟨vs,by rw[hpe];exact hv,?_,q.1.NH.length-(i+1),by lia,rfl,hi,P6,φ6,q8.2,xs++[q8.1],vs++[y],z.1,?_⟩
      ·rw[<- rx.length]
       have h1:=zS hz;have h2:(1000000:Nat)<sizeLine:=by decide
       lia
      ·have eh:hid (ae H6 p (.lst (vs++[y]))) p=hid H6 p:=ue
       rw[eh];refine⟨f2.trans fh,sh,?_,aw,(rx.frm fh).app (aU (r6.mono exh fun _ _ z=>z) bj),by rw[zV];simp;lia,e10,by rw[eo,yM];rfl⟩
       have:=back f6
       exact⟨this.1,fun i v e=>let⟨w,e',r⟩:=this.2 i v e;⟨w,e',r.mono exh fun _ _ z=>z⟩⟩
     |false =>
      rw[hc]at e7;simp only[yA,if_false]at e7 ⊢;obtain⟨fh,sh,exh,hpe⟩:=Frm.hd s2 ⟨_,hv⟩ f35 s5;refine⟨q.1.NH.length-(i+1),by lia,rfl,hi,P5,φ5,q6.2,xs,vs,zs,f2.trans fh,sh,?_,by rw[hpe];exact hv,rx.frm fh,by lia,e7,eo⟩
      have:=back Frm.refl
      exact⟨this.1,fun i v e=>let⟨w,e',r⟩:=this.2 i v e;⟨w,e',r.mono exh fun _ _ z=>z⟩⟩
    ·cases eg
   ·left
    have ei:i=q.1.NH.length:=Nat.le_antisymm hle hi;subst ei;rw[List.drop_length]at eg;simp only[gM]at eg;split at eg
    ·rename_i hgd
     cases eg;refine⟨ij.stop P2 φ2 H' _ f2v s2v hgd,?_⟩
     have:=kk P2 φ2 (hid H' p) p vs (f1.trans f2) s2 dk (by rw[eo,List.append_nil];exact rx)
     rw[Cd hv]at this;exact this
    ·cases eg
 ·cases e2
def uv[NI](X:Cx)(ifs:List Expr)(t:TF):Prop:=ux X ifs (rT X.gm t)
section
variable{X:Cx}{elt iter tg:Expr}{ifs:List Expr}{N':List Str}{scope:Scope}{pos:Pos}{it:IF}{g:GF}{t:TF}{f:EF}
theorem CH[NI]:uv X [] JA:=fun ND s σ H Q I ⟨P,φ,sl,st,rs,sm,k⟩=>C1 ND s σ H Q I (k.pure sm rfl)
theorem CG[NI](h:QT X e t):uv X [e] t:=CZ h
theorem G4{e:Expr}{t t':TE}(h:PE X e t)(i:∀σ H Q,σ.length=X.N.length->t' σ H Q->t σ H Q):PE X e t':=fun ND s σ H Q I h'=>h ND s σ H Q I (i σ H Q I.len h')
theorem G2{st:Stmt}{t t':TS}(h:PS X st t)(i:∀D σ H,σ.length=X.N.length->t' D σ H->t D σ H):PS X st t':=fun ND s σ H D I h'=>h ND s σ H D I (i D σ H I.len h')
theorem Bh[NI](hc:X.calm=true)(T:jC X N' scope)(hi:QI X tg iter it)(hg:∀cl s H fp ND,QG (cx X N' scope cl s H fp ND) tg g)(ht:∀cl s H fp ND,uv (cx X N' scope cl s H fp ND) ifs t)
  (he:∀cl s H fp ND,QE (cx X N' scope cl s H fp ND) elt f) (hk:oB X.N.length g) (hs:∀x,foldedSetIterable iter X.env x=pure x):QN X (.ListComp elt [⟨tg,iter,ifs,0⟩] scope pos) (Bn (N'.length-X.N.length) it g t f) :=
 G4 (HX (g:=rG X.gm g) (tt:=rT X.gm t) (te:=rE X.gm f) hc T hi (fun cl s H fp ND=>hg cl s H fp ND) (fun cl s H fp ND=>ht cl s H fp ND) (fun cl s H fp ND=>he cl s H fp ND) hs) fun σ H Q hl h=>F4 hk hl h
end
inductive Out where
 |nx (sl:Sl) (st:aa)|rt (v:AV) (st:aa)|bk (sl:Sl) (st:aa)|ct (sl:Sl) (st:aa)
abbrev SF:=Sl->aa->Option Out
def ThO[NI](mg:Gm)(P:Pr)(φ:List Addr)(H:Hp)(D:jB):Out->Prop
 |.nx sl st=>∀P' φ' H' σ',Frm P φ H P' φ' H'->Sim mg P' φ' st H'->NO mg P' H' φ' sl σ'->D.nx σ' H'
 |.bk sl st=>∀P' φ' H' σ',Frm P φ H P' φ' H'->Sim mg P' φ' st H'->NO mg P' H' φ' sl σ'->D.bk σ' H'
 |.ct sl st=>∀P' φ' H' σ',Frm P φ H P' φ' H'->Sim mg P' φ' st H'->NO mg P' H' φ' sl σ'->D.ct σ' H'
 |.rt v st=>∀P' φ' H' w,Frm P φ H P' φ' H'->Sim mg P' φ' st H'->RA mg P' H' φ' v w->D.rt w H'
def KO[NI](mg:Gm)(P:Pr)(φ:List Addr)(H:Hp)(r:Option Out)(D:jB):Prop:=∃o,r=some o/\ThO mg P φ H D o
def rS[NI](mg:Gm)(f:SF):TS:=fun D σ H=>∃P φ sl st,NO mg P H φ sl σ/\Sim mg P φ st H/\KO mg P φ H (f sl st) D
def QS[NI](X:Cx)(st:Stmt)(f:SF):Prop:=PS X st (rS X.gm f)
def mG[NI](X:Cx)(sts:List Stmt)(f:SF):Prop:=PSs X sts (rS X.gm f)
theorem ThO.frm[NI](h:ThO mg P φ H D o)(f:Frm P φ H P1 φ1 H1):ThO mg P1 φ1 H1 D o:=by
 cases o with
 |nx sl st=>exact fun P' φ' H' σ' f'=>h P' φ' H' σ' (f.trans f')
 |bk sl st=>exact fun P' φ' H' σ' f'=>h P' φ' H' σ' (f.trans f')
 |ct sl st=>exact fun P' φ' H' σ' f'=>h P' φ' H' σ' (f.trans f')
 |rt v st=>exact fun P' φ' H' σ' f'=>h P' φ' H' σ' (f.trans f')
theorem KO.bindE[NI]{α β:Type}{Ra:Gm->Pr->Hp->List Addr->α->β->Prop}{m:Option (α×aa)}{k:α×aa->Option Out}(h:KO mg P φ H (m.bind k) D) :
  KG mg Ra P φ H m fun b H1=>∃P1 φ1 st1 a,Frm P φ H P1 φ1 H1/\Sim mg P1 φ1 st1 H1/\Ra mg P1 H1 φ1 a b/\KO mg P1 φ1 H1 (k (a,st1)) D:=by
 obtain⟨o,e,q⟩:=h;cases m with
 |none=>cases e
 |some p=>exact⟨p.1,p.2,rfl,fun P1 φ1 H1 b f s r=>⟨P1,φ1,p.2,p.1,f,s,r,o,e,q.frm f⟩⟩
theorem KO.nx[NI]{mg:Gm}{P:Pr}{φ:List Addr}{H:Hp}{sl:Sl}{st:aa}{D:jB}{σ:St}(h:KO mg P φ H (some (.nx sl st)) D)(s:Sim mg P φ st H)(r:NO mg P H φ sl σ):D.nx σ H:=by
 obtain⟨o,e,q⟩:=h;cases e;exact q P φ H σ Frm.refl s r
theorem KO.no[NI](h:KO mg P φ H none D):False:=by obtain⟨_,e,_⟩:=h;cases e
section
variable{X:Cx}{st:Stmt}{rest:List Stmt}{e c tg:Expr}{pos:Pos}{s t:SF}{f:EF}{g:GF}{b:TF}
def JI:SF:=fun sl st=>some (.nx sl st)
def JG(s t:SF):SF:=fun sl st=>(s sl st).bind fun o=>match o with
 |.nx sl st=>t sl st
 |o=>some o
theorem Cw[NI]:mG X [] JI:=PSs_imp CS fun D σ H ⟨P,φ,sl,st,rs,s,k⟩=>k.nx s rs
theorem zf[NI](h1:QS X st s)(h2:mG X rest t):mG X (st::rest) (JG s t):=PSs_imp (zm h1 h2) fun D σ H hq0=>by
 obtain⟨P,φ,sl,st,rs,sm,o,e,q⟩:=hq0;obtain⟨o1,e1,e2⟩:=zA e;refine⟨P,φ,sl,st,rs,sm,o1,e1,?_⟩;cases o1 with
 |nx sl1 st1=>exact fun P' φ' H' σ' f' s' rs'=>⟨P',φ',sl1,st1,rs',s',o,e2,q.frm f'⟩
 |bk sl1 st1=>cases e2;exact q
 |ct sl1 st1=>cases e2;exact q
 |rt v st1=>cases e2;exact q
def EA:SF:=fun _ _=>none
theorem CA[NI]:QS X st EA:=PS_imp zo fun D σ H ⟨P,φ,sl,st,rs,s,k⟩=>k.no
def JL(f:EF):SF:=fun sl st=>(f sl st).bind fun p=>some (.nx sl p.2)
theorem Cz[NI](he:QE X e f)(hs:swapsWith e none pos.line X.env=pure false):QS X (.Expr e pos) (JL f):=PS_imp (CU he hs) fun D σ H ⟨P,φ,sl,st,rs,s,k⟩=>⟨P,φ,sl,st,rs,s,by
 obtain⟨a,st',e1,q⟩:=k.bindE (Ra:=RA);refine⟨a,st',e1,fun P1 φ1 H1 w f1 s1 r1=>?_⟩;obtain⟨P2,φ2,st2,x,f2,s2,r2,k2⟩:=q P1 φ1 H1 w f1 s1 r1;exact k2.nx s2 (rs.frm f2)⟩
def JH(f:EF):SF:=fun sl st=>(f sl st).bind fun p=>some (.rt p.1 p.2)
theorem EM[NI](he:QE X e f):QS X (.Return (some e) pos) (JH f):=PS_imp (Fd he) fun D σ H ⟨P,φ,sl,st,rs,s,k⟩=>⟨P,φ,sl,st,rs,s,by
 obtain⟨a,st',e1,q⟩:=k.bindE (Ra:=RA);refine⟨a,st',e1,fun P1 φ1 H1 w f1 s1 r1=>?_⟩;obtain⟨P2,φ2,st2,x,f2,s2,r2,o,eo,q2⟩:=q P1 φ1 H1 w f1 s1 r1;cases eo;exact q2 P2 φ2 H1 w Frm.refl s2 r2⟩
def JJ(b:TF)(s t:SF):SF:=fun sl st=>(b sl st).bind fun p=>if p.1=true then s sl p.2 else t sl p.2
theorem HB[NI](hc:QT X c b)(ha:mG X x s)(hb:mG X y t):QS X (.If c x y pos) (JJ b s t):=PS_imp (HN hc ha hb) fun D σ H ⟨P,φ,sl,st,rs,sm,k⟩=>⟨P,φ,sl,st,rs,sm,by
 obtain⟨a,st',e1,q⟩:=k.bindE (Ra:=RB);refine⟨a,st',e1,fun P1 φ1 H1 w f1 s1 r1=>?_⟩;obtain⟨P2,φ2,st2,x,f2,s2,r2,k2⟩:=q P1 φ1 H1 w f1 s1 r1;cases r2;cases w with
 |true=>exact⟨P2,φ2,sl,st2,rs.frm f2,s2,k2⟩
 |false=>exact⟨P2,φ2,sl,st2,rs.frm f2,s2,k2⟩⟩
def wy(f:EF)(g:GF):SF:=fun sl st=>(f sl st).bind fun p=>(g p.1 sl p.2).bind fun q=>some (.nx q.1 q.2)
theorem vS[NI](h:rS mg (wy f g) D σ H):u0 (rE mg f) (rG mg g) D σ H:=by
 obtain⟨P,φ,sl,st,rs,s,o,e,q⟩:=h;obtain⟨p,e1,e2⟩:=zA e;obtain⟨r,e3,e4⟩:=zA e2;cases e4;exact⟨P,φ,sl,st,rs,s,p.1,p.2,e1,fun P1 φ1 H1 w f1 s1 r1=>⟨P1,φ1,sl,p.2,p.1,rs.frm f1,s1,r1,r.1,r.2,e3,fun P2 φ2 H2 σ2 f2 s2 rs2=>q P2 φ2 H2 σ2 (f1.trans f2) s2 rs2⟩⟩
theorem qL[NI](he:QE X e f)(hg:QG X tg g)(hs:swapsWithSole [tg] e pos.line X.env=pure false)(hw:swappedStores [tg] e X.env=pure none)(h1:(assignEach [tg] X.env).map (·.2)=[assign tg X.env]):QS X (.Assign [tg] e pos) (wy f g) :=
 PS_imp (Ff he hg hs hw h1) fun D σ H h=>vS h
theorem FM[NI]{i:Nat}(h:rG mg (xw i) v σ H Q):nY i v σ H Q:=by
 obtain⟨P,φ,sl,st,x,rs,s,rx,k⟩:=h;exact k.pure s (rs.set rx i)
theorem wC[NI]{i:Nat}(hN:X.N.Nodup)(hi:X.N[i]?=some x)(hx:Loc X.env.scope x)(he:QE X e f)(hs:swapsWith e (some (.Name x pos')) pos.line X.env=pure false)(hf:X.fn x=true\/X.env.scope.names.lookup x=some .local) :
  QS X (.Assign [.Name x pos'] e pos) (wy f (xw i)):=PS_imp (Fc hN hi hx he hs hf) fun D σ H h=>by
 obtain⟨P,φ,sl,st,rs,s,p1,p2,e1,k⟩:=vS h;exact⟨P,φ,sl,st,rs,s,p1,p2,e1,fun P1 φ1 H1 w f1 s1 r1=>FM (k P1 φ1 H1 w f1 s1 r1)⟩
def BR(m:Bool)(f:NF):EF:=if m=true then Mg f else Mh f
theorem FJ[NI]{mg:Gm}{m:Bool}{f:NF}{σ:St}{H:Hp}{Q:VK}(h:rE mg (BR m f) σ H Q):rN mg f σ H Q:=by
 obtain⟨P,φ,sl,st,rs,s,v,st',ev,k⟩:=h;cases m with
 |true =>
  obtain⟨q,e1,e2⟩:=zA ev;cases e2;refine⟨P,φ,sl,st,rs,s,q.1,q.2,e1,fun P1 φ1 H1 p vs f1 s1 hp r1=>?_⟩;obtain⟨f3,s3,r3⟩:=FO s1 hp r1;exact k P1 _ _ _ (f1.trans f3) s3 r3
 |false =>
  obtain⟨q,e1,e2⟩:=zA ev;split at e2
  ·rename_i hr
   cases e2;refine⟨P,φ,sl,st,rs,s,q.1,q.2,e1,fun P1 φ1 H1 p vs f1 s1 hp r1=>?_⟩;obtain⟨P3,f3,s3,r3⟩:=Gr s1 hp hr r1;exact k P3 φ1 _ _ (f1.trans f3) s3 r3
  ·cases e2
theorem io[NI]{m:Bool}{f:NF}(h:QN X e f):QE X e (BR m f):=PE_imp h fun _ _ _ q=>FJ q
theorem wB[NI]{i:Nat}{y:Str}{py:Pos}{elt iter tg:Expr}{ifs:List Expr}{N':List Str}{scope:Scope}{pos spos:Pos}{it:IF}{g:GF}{t:TF}{f:EF}{m:Bool}(hN:X.N.Nodup)(hiN:X.N[i]?=some y)(hx:Loc X.env.scope y)
  (hsw:swapsWith (.ListComp elt [⟨tg,iter,ifs,0⟩] scope pos) (some (.Name y py)) spos.line X.env=pure true)
  (hc:X.calm=true) (T:jC X N' scope) (hi:QI X tg iter it) (hg:∀cl s H fp ND,QG (cx X N' scope cl s H fp ND) tg g) (ht:∀cl s H fp ND,uv (cx X N' scope cl s H fp ND) ifs t)
  (he:∀cl s H fp ND,QE (cx X N' scope cl s H fp ND) elt f) (hk:oB X.N.length g) (hs:∀x,foldedSetIterable iter X.env x=pure x) (hf:X.fn y=true\/X.env.scope.names.lookup y=some .local) :
  QS X (.Assign [.Name y py] (.ListComp elt [⟨tg,iter,ifs,0⟩] scope pos) spos) (wy (BR m (Bn (N'.length-X.N.length) it g t f)) (xw i)) :=
 G2 (wE (g:=rG X.gm g) (tt:=rT X.gm t) (te:=rE X.gm f) hN hiN hx hsw hc T hi (fun cl s H fp ND=>hg cl s H fp ND) (fun cl s H fp ND=>ht cl s H fp ND) (fun cl s H fp ND=>he cl s H fp ND) hs hf) fun D σ H hl h=>by
  obtain⟨P,φ,sl,st,rs,s,p1,p2,e1,k⟩:=vS h;exact F4 hk hl (FJ (m:=m) ⟨P,φ,sl,st,rs,s,p1,p2,e1,fun P1 φ1 H1 w f1 s1 r1=>FM (k P1 φ1 H1 w f1 s1 r1)⟩)
def vR(o:Operator)(_:aa):AV->AV->Option AV
 |.int a,.int b=>match o with
  |.Add=>some (.int (a+b))
  |.Sub=>some (.int (a-b))
  |_=>none
 |_,_=>none
theorem K9[NI](o:Operator):BZ X o (fun x y H Q=>∃P φ st a b c,Sim X.gm P φ st H/\RA X.gm P H φ a x/\RA X.gm P H φ b y/\vR o st a b=some c/\∀w,RA X.gm P H φ c w->Q w H):=by
 rintro ND s σ H x y v u Q I rx ry ⟨P,φ,st,a,b,c,sm,ra,rb,e,k⟩;cases a <;> cases b <;> simp only [vR] at e <;> first | (cases e;done) | skip
 rename_i i j;simp only [RA] at ra rb;subst ra;subst rb;cases o <;> first | (cases e;done) | skip
 ·cases e
  exact Gh ND s σ H _ _ v u Q I rx ry ⟨i,j,rfl,rfl,k _ (by simp only[RA])⟩
 ·cases e
  exact Gg ND s σ H _ _ v u Q I rx ry ⟨i,j,rfl,rfl,k _ (by simp only[RA])⟩
theorem IJ[NI]:AW X (fun x y H Q=>∃P φ st a b c,Sim X.gm P φ st H/\RA X.gm P H φ a x/\RA X.gm P H φ (.int b) y/\(∃xs,bL st a=some xs/\gh xs b=some c)/\∀w,RA X.gm P H φ c w->Q w H):=by
 rintro ND s σ H x y v u Q I rx ry ⟨P,φ,st,a,b,c,sm,ra,rb,⟨xs,e1,e2⟩,k⟩;obtain⟨p,vs,rfl,d1,q1⟩:=ra.ls sm e1;obtain⟨w,e3,r3⟩:=pi q1 e2;simp only[RA]at rb;exact Az ND s σ H _ y v u Q I rx ry ⟨p,vs,b,w,rfl,rb,d1,e3,k w r3⟩
def u7(o:Operator)(f g h:EF):SF:=fun sl st=>(f sl st).bind fun p=>(g sl p.2).bind fun q=>match q.1 with
 |.int i=>(bL q.2 p.1).bind fun xs=>(gh xs i).bind fun x=>(h sl q.2).bind fun r=>(vR o r.2 x r.1).bind fun z=>(g6 r.2 p.1 (.int i) z).bind fun st'=>some (.nx sl st')
 |_=>none
theorem CB[NI]{a i:Expr}{f g h:EF}{o:Operator}{tpos:Pos}(hu:X.A.units+64<cLine)(ho:QE X a f)(hi:QE X i g)(he:QE X e h)
  (ha:∀ov iv new,augStore i ov iv new=(do holding [new,ov,iv] (setItem ov iv new);release [new,ov,iv] [];pure .next)):QS X (.AugAssign (.Subscript a i tpos) o e pos) (u7 o f g h) :=
 PS_imp (CV ho hi IJ he (K9 o) (Bc hu) ha) fun D σ H hq0=>by
  obtain⟨P,φ,sl,st,rs,s,out,eo,q⟩:=hq0;obtain⟨p,e1,e2⟩:=zA eo;obtain⟨r,e3,e4⟩:=zA e2;split at e4
  ·rename_i j hj
   obtain⟨xs,e5,e6⟩:=zA e4;obtain⟨x,e7,e8⟩:=zA e6;obtain⟨t,e9,e10⟩:=zA e8;obtain⟨z,e11,e12⟩:=zA e10;obtain⟨st',e13,e14⟩:=zA e12;cases e14;refine⟨P,φ,sl,st,rs,s,p.1,p.2,e1,fun P1 φ1 H1 w1 f1 s1 r1=>⟨P1,φ1,sl,p.2,rs.frm f1,s1,r.1,r.2,e3,fun P2 φ2 H2 w2 f2 s2 r2=>?_⟩⟩;rw[hj]at r2;refine⟨P2,φ2,r.2,p.1,j,x,s2,r1.frm f2,r2,⟨xs,e5,e7⟩,fun w3 r3=>⟨P2,φ2,sl,r.2,(rs.frm f1).frm f2,s2,t.1,t.2,e9,fun P3 φ3 H3 w4 f3 s3 r4=>⟨P3,φ3,t.2,x,t.1,z,s3,r3.frm f3,r4,e11,fun w5 r5=>⟨P3,φ3,t.2,p.1,.int j,z,st',s3,(r1.frm f2).frm f3,r2.frm f3,r5,e13,fun P4 φ4 H4 f4 s4=>?_⟩⟩⟩⟩;exact q P4 φ4 H4 σ (((f1.trans f2).trans f3).trans f4) s4 ((((rs.frm f1).frm f2).frm f3).frm f4)
  ·cases e4
end
def dq(gd:Gd)(g:GF)(s:SF):List AV->Sl->aa->Option Out
 |[],sl,st=>if cg gd st=true then some (.nx sl st) else none
 |x::xs,sl,st=>if cg gd st=true then(g x sl st).bind fun p=>(s p.1 p.2).bind fun o=>match o with
  |.nx sl st=>dq gd g s xs sl st
  |.ct sl st=>dq gd g s xs sl st
  |.bk sl st=>some (.nx sl st)
  |.rt v st=>some (.rt v st) else none
def JK(it:IF)(g:GF)(s:SF):SF:=fun sl st=>(it sl st).bind fun p=>dq p.1.gd g s p.1.NH sl p.2
def db(t:TF)(s:SF):Nat->Sl->aa->Option Out
 |0,_,_=>none
 |n+1,sl,st=>(t sl st).bind fun p=>if p.1=true then(s sl p.2).bind fun o=>match o with
  |.nx sl st=>db t s n sl st
  |.ct sl st=>db t s n sl st
  |.bk sl st=>some (.nx sl st)
  |.rt v st=>some (.rt v st) else some (.nx sl p.2)
open Classical in
def lZ(t:TF)(s:SF):SF:=fun sl st=>if h:∃n,(db t s n sl st).isSome=true then db t s (Classical.choose h) sl st else none
theorem pA:∀{n m:Nat}{sl:Sl}{st:aa}{o:Out},n<=m->db t s n sl st=some o->db t s m sl st=some o:=by
 intro n
 induction n with
 |zero=>intro m sl st o _ h;cases h
 |succ n ih =>
  intro m sl st o hm h;cases m with
  |zero=>lia
  |succ m =>
   simp only[db]at h ⊢;obtain⟨p,e1,e2⟩:=zA h;rw[e1,bind_some];split at e2
   ·rename_i hc
    rw[yH hc];obtain⟨q,e3,e4⟩:=zA e2;rw[e3,bind_some];cases q with
    |nx sl st=>exact ih oM e4
    |ct sl st=>exact ih oM e4
    |bk sl st=>exact e4
    |rt v st=>exact e4
   ·rename_i hc
    rw[yG hc];exact e2
theorem m9{t:TF}{s:SF}{n:Nat}{sl:Sl}{st:aa}{o:Out}(h:db t s n sl st=some o):lZ t s sl st=some o:=by
 have hx:∃n,(db t s n sl st).isSome=true:=⟨n,by rw[h];rfl⟩;unfold lZ;rw[dif_pos hx];obtain⟨o',e'⟩:=Option.isSome_iff_exists.mp (Classical.choose_spec hx);have h1:=pA (Nat.le_max_left n (Classical.choose hx)) h;have h2:=pA (Nat.le_max_right n (Classical.choose hx)) e';rw[e',<- h1,h2]
theorem wP{t:TF}{s:SF}{sl:Sl}{st:aa}{o:Out}(h:lZ t s sl st=some o):∃n,db t s n sl st=some o:=by
 unfold lZ at h;split at h
 ·exact⟨_,h⟩
 ·cases h
section
variable{X:Cx}{tg iter c:Expr}{body:List Stmt}{pos:Pos}{it:IF}{g:GF}{s:SF}{t:TF}
theorem EN[NI](hp:PassesOwn (model X.prog X.w) X.A X.env X.xe)(hc:X.calm=true)(hi:QI X tg iter it)(hg:QG X tg g)(hb:mG X body s)(hs:∀x,foldedSetIterable iter X.env x=pure x):QS X (.For tg iter body [] pos) (JK it g s) :=
 PS_imp (wF hp hc hi hg hb hs) fun D σ H hq0=>by
  obtain⟨P,φ,sl,st,rs,sm,o,e,q⟩:=hq0;obtain⟨p,e1,e2⟩:=zA e;refine⟨P,φ,sl,st,rs,sm,p.1,p.2,e1,fun P1 φ1 H1 J f1 s1 ij=>?_⟩;have q1:=q.frm f1;refine⟨fun i m σ' H'=>m=p.1.NH.length-i/\i<=p.1.NH.length/\∃P' φ' sl' st',Frm P1 φ1 H1 P' φ' H'/\Sim X.gm P' φ' st' H'/\NO X.gm P' H' φ' sl' σ'/\dq p.1.gd g s (p.1.NH.drop i) sl' st'=some o,⟨_,rfl,Nat.zero_le _,P1,φ1,sl,p.2,Frm.refl,s1,rs.frm f1,by simpa using e2⟩,?_⟩;rintro i m σ' H' ⟨rfl,hle,P2,φ2,sl2,st2,f2,s2,rs2,eg⟩;rcases yT i p.1.NH.length with hlt|hge
  ·right
   rw[List.drop_eq_getElem_cons hlt]at eg;simp only[dq]at eg;split at eg
   ·rename_i hgd
    obtain⟨go,yl⟩:=ij.go P2 φ2 H' st2 i _ f2 s2 hgd (zF hlt);obtain⟨q4,e4,e5⟩:=zA eg;obtain⟨o1,e6,e7⟩:=zA e5;refine⟨go,fun σ' H'=>∃P' φ' sl' st',Frm P1 φ1 H1 P' φ' H'/\Sim X.gm P' φ' st' H'/\NO X.gm P' H' φ' sl' σ'/\dq p.1.gd g s (p.1.NH.drop (i+1)) sl' st'=some o,fun σ' H' z=>⟨_,by lia,rfl,hlt,z⟩,fun x H3 hy=>?_⟩;obtain⟨P3,f3,s3,r3⟩:=yl x H3 hy;refine⟨P3,φ2,sl2,st2,_,rs2.frm f3,s3,r3,q4.1,q4.2,e4,fun P4 φ4 H4 σ4 f4 s4 rs4=>⟨P4,φ4,q4.1,q4.2,rs4,s4,o1,e6,?_⟩⟩;have fa:=(f2.trans f3).trans f4;cases o1 with
    |nx sl5 st5=>exact fun P5 φ5 H5 σ5 f5 s5 rs5=>⟨P5,φ5,sl5,st5,fa.trans f5,s5,rs5,e7⟩
    |ct sl5 st5=>exact fun P5 φ5 H5 σ5 f5 s5 rs5=>⟨P5,φ5,sl5,st5,fa.trans f5,s5,rs5,e7⟩
    |bk sl5 st5=>cases e7;exact fun P5 φ5 H5 σ5 f5 s5 rs5=>q1 P5 φ5 H5 σ5 (fa.trans f5) s5 rs5
    |rt v st5=>cases e7;exact fun P5 φ5 H5 w f5 s5 r5=>q1 P5 φ5 H5 w (fa.trans f5) s5 r5
   ·cases eg
  ·left
   have ei:i=p.1.NH.length:=Nat.le_antisymm hle hge;subst ei;rw[List.drop_length]at eg;simp only[dq]at eg;split at eg
   ·rename_i hgd
    cases eg;exact⟨ij.stop P2 φ2 H' _ f2 s2 hgd,q1 P2 φ2 H' σ' f2 s2 rs2⟩
   ·cases eg
theorem zg[NI](hp:PassesOwn (model X.prog X.w) X.A X.env X.xe)(hc:QT X c t)(hb:mG X body s):QS X (.While c body [] pos) (lZ t s) :=
 PS_imp (zn hp hc hb) fun D σ H hq0=>by
  obtain⟨P,φ,sl,st,rs,sm,o,e,q⟩:=hq0;obtain⟨n0,e0⟩:=wP e;refine⟨fun m σ' H'=>∃P' φ' sl' st',Frm P φ H P' φ' H'/\Sim X.gm P' φ' st' H'/\NO X.gm P' H' φ' sl' σ'/\db t s m sl' st'=some o,⟨n0,P,φ,sl,st,Frm.refl,sm,rs,e0⟩,?_⟩;rintro m σ' H' ⟨P2,φ2,sl2,st2,f2,s2,rs2,eg⟩;cases m with
  |zero=>cases eg
  |succ m =>
   simp only[db]at eg;obtain⟨p,e1,e2⟩:=zA eg;refine⟨P2,φ2,sl2,st2,rs2,s2,p.1,p.2,e1,fun P3 φ3 H3 b f3 s3 r3=>?_⟩;cases r3;cases hb':p.1 with
   |true =>
    rw[hb']at e2;simp only[if_true]at e2 ⊢;obtain⟨o1,e6,e7⟩:=zA e2;refine⟨fun σ' H'=>∃P' φ' sl' st',Frm P φ H P' φ' H'/\Sim X.gm P' φ' st' H'/\NO X.gm P' H' φ' sl' σ'/\db t s m sl' st'=some o,fun σ' H' z=>⟨m,Nat.lt_succ_self m,z⟩,P3,φ3,sl2,p.2,rs2.frm f3,s3,o1,e6,?_⟩;have fa:=f2.trans f3;cases o1 with
    |nx sl5 st5=>exact fun P5 φ5 H5 σ5 f5 s5 rs5=>⟨P5,φ5,sl5,st5,fa.trans f5,s5,rs5,e7⟩
    |ct sl5 st5=>exact fun P5 φ5 H5 σ5 f5 s5 rs5=>⟨P5,φ5,sl5,st5,fa.trans f5,s5,rs5,e7⟩
    |bk sl5 st5=>cases e7;exact fun P5 φ5 H5 σ5 f5 s5 rs5=>q P5 φ5 H5 σ5 (fa.trans f5) s5 rs5
    |rt v st5=>cases e7;exact fun P5 φ5 H5 w f5 s5 r5=>q P5 φ5 H5 w (fa.trans f5) s5 r5
   |false =>
    rw[hb']at e2;simp only[yA,if_false]at e2 ⊢;cases e2;exact q P3 φ3 H3 σ' (f2.trans f3) s3 (rs2.frm f3)
end
abbrev Fn:=List AV->aa->Option (AV×aa)
def dB[NI](mg:Gm)(n:Nat)(fn:Fn):Sp:=fun vs H Q _=>vs.length=n/\∃P φ args st,NJ mg P H φ args vs/\Sim mg P φ st H/\KG mg RA P φ H (fn args st) Q
def bh:Nat->aa->AV->Option AV
 |n+1,st,.ref k=>match st[k]? with
  |some (.lst xs)=>(aP (bh n st) xs).map .fz
  |some (.al t)=>some t
  |_=>none
 |n+1,st,.tup xs=>(aP (bh n st) xs).map .tup
 |0,_,.ref _=>none
 |0,_,.tup _=>none
 |_,_,t=>some t
def cQ:aa->AV->Option AV:=bh 6
mutual
noncomputable def flat:AV->Bool
 |.ref _=>false
 |.fz _=>false
 |.tup xs=>og xs
 |_=>true
noncomputable def og:List AV->Bool
 |[]=>true
 |x::xs=>flat x&&og xs
end
def pP(st:aa)(x:AV):Option (AV×aa):=if rf x=true then some (x,st) else match x with
 |.ref k=>match st[k]? with
  |some (.lst xs)=>if rfs xs=true then some (.fz xs,st.set k (.al (.fz xs))) else none
  |some (.al t)=>some (t,st)
  |_=>none
 |_=>none
def n8:aa->List AV->Option (List AV×aa)
 |st,[]=>some ([],st)
 |st,x::xs=>(pP st x).bind fun p=>(n8 p.2 xs).map fun q=>(p.1::q.1,q.2)
def pm(fn:Fn):Fn:=fun args st=>if rfs args=true then(fn args []).bind fun p=>(cQ p.2 p.1).map fun t=>(t,st)
 else(aP (cQ st) args).bind fun ts=>(fn ts []).bind fun p=>(cQ p.2 p.1).bind fun t=>if flat t=true then some (t,st) else
  (n8 st args).bind fun q=>(fn q.1 []).bind fun p=>(cQ p.2 p.1).map fun t=>(t,q.2)
section
variable{mg:Gm}{P:Pr}{φ:List Addr}{st:aa}{H:Hp}
theorem zb[NI]{n:Nat}(ih:∀v w t,bh n st v=some t->RA mg P H φ v w->RA mg P' H [] t w):∀{xs:List AV}{vs:List V}{ts:List AV},aP (bh n st) xs=some ts->NJ mg P H φ xs vs->NJ mg P' H [] ts vs:=by
 intro xs
 induction xs with
 |nil=>intro vs ts e r;cases e;simp only[NJ]at r ⊢;exact r
 |cons x xs ihx =>
  intro vs ts e r;simp only[aP]at e;obtain⟨y,e1,e2⟩:=zA e;obtain⟨ys,e3,e4⟩:=zE.mp e2;subst e4;simp only[NJ]at r;obtain⟨v,ws,rfl,r1,r2⟩:=r;exact aU (ih x v y e1 r1) (ihx e3 r2)
theorem qF[NI](s:Sim mg P φ st H):∀(n:Nat)(v:AV)(w:V)(t:AV),bh n st v=some t->RA mg P H φ v w->RA mg (fun a=>P a\/a∈φ) H [] t w:=by
 have ex:∀a,P a->(P a\/a∈φ)/\H a=H a:=fun a h=>⟨.inl h,rfl⟩
 have pl:∀{t:AV}{w:V},R.rf t=true->RA mg P H φ t w->RA mg (fun a=>P a\/a∈φ) H [] t w:=fun h r=>(RA.rf (ψ:=[]) h r).mono ex fun _ _ z=>z
 intro n
 induction n with
 |zero =>
  intro v w t e r;cases v <;> simp only [bh] at e <;> first | (cases e;done) | skip
  all_goals cases e;exact pl rfl r
 |succ n ih =>
  intro v w t e r;cases v with
  |ref k =>
   simp only[bh]at e;simp only[RA]at r;obtain⟨a,ea,rfl⟩:=r;split at e
   ·rename_i xs hk
    obtain⟨ts,e1,e2⟩:=zE.mp e;subst e2;obtain⟨a',ea',c⟩:=s.at hk;rw[ea]at ea';cases ea';obtain⟨_,vs,h1,h2⟩:=c;simp only[RA];exact⟨a,vs,rfl,.inl ⟨.inr (zW ea),.inl h1⟩,zb ih e1 h2⟩
   ·rename_i t' hk
    cases e;obtain⟨a',ea',c⟩:=s.at hk;rw[ea]at ea';cases ea';exact c.2.mono ex fun _ _ z=>z
   ·cases e
  |tup xs =>
   simp only[bh]at e;obtain⟨ts,e1,e2⟩:=zE.mp e;subst e2;simp only[RA]at r;obtain⟨a,vs,rfl,p,h1,h2⟩:=r;simp only[RA];exact⟨a,vs,rfl,.inl p,h1,zb ih e1 h2⟩
  |_=>simp only[bh]at e;cases e;exact pl rfl r
mutual
theorem RA.fl[NI](h:∀a vs,P a->H a=some (.tup vs)->P' a):∀{t:AV}{w:V},flat t=true->RA mg P H φ t w->RA mg P' H ψ t w
 |.non,_,_,r=>by simp only[RA]at r ⊢;exact r
 |.bl _,_,_,r=>by simp only[RA]at r ⊢;exact r
 |.int _,_,_,r=>by simp only[RA]at r ⊢;exact r
 |.str _,_,_,r=>by simp only[RA]at r ⊢;exact r
 |.ref _,_,e,_=>by simp only[flat]at e;cases e
 |.fz _,_,e,_=>by simp only[flat]at e;cases e
 |.tup xs,_,e,r=>by
  simp only[RA,flat]at r e ⊢;obtain⟨a,vs,rfl,p,h1,h2⟩:=r;exact⟨a,vs,rfl,h a vs p h1,h1,NJ.fl h e h2⟩
theorem NJ.fl[NI](h:∀a vs,P a->H a=some (.tup vs)->P' a):∀{ts:List AV}{ws:List V},og ts=true->NJ mg P H φ ts ws->NJ mg P' H ψ ts ws
 |[],_,_,r=>by simp only[NJ]at r ⊢;exact r
 |t::ts,_,e,r=>by
  simp only[NJ,og,zC]at r e ⊢;obtain⟨v,ws,rfl,r1,r2⟩:=r;exact⟨v,ws,rfl,RA.fl h e.1 r1,NJ.fl h e.2 r2⟩
end
theorem Gs[NI](s:Sim mg P φ st H)(e:pP st x=some (t,st'))(r:RA mg P H φ x v):∃P',Frm P φ H P' φ H/\Sim mg P' φ st' H/\RA mg P' H [] t v:=by
 unfold pP at e;split at e
 ·rename_i h
  cases e;exact⟨P,Frm.refl,s,RA.rf h r⟩
 ·cases x with
  |ref k =>
   simp only[RA]at r;obtain⟨a,ea,rfl⟩:=r;dsimp only at e;split at e
   ·rename_i xs hk
    split at e
    ·rename_i hr
     cases e;obtain⟨a',ea',c⟩:=s.at hk;rw[ea]at ea';cases ea';obtain⟨na,vs,h1,h2⟩:=c;have ex:∀b,P b->(P b\/b=a)/\H b=H b:=fun b h=>⟨.inl h,rfl⟩
     have hm:=zW ea;have rr:RA mg (fun b=>P b\/b=a) H [] (.fz xs) (.ref a):=by
      simp only[RA];exact⟨a,vs,rfl,.inl ⟨.inr rfl,.inl h1⟩,(NJ.rf hr h2).mono ex fun _ _ z=>z⟩
     have dm:∀b,(P b\/b=a)->H b≠none:=fun b h=>by
      rcases h with h|h
      ·exact s.dom b h
      ·rw[h];exact s.cd a hm
     refine⟨fun b=>P b\/b=a,⟨ex,⟨[],by simp,by simp⟩,fun _ _ _ _=>rfl,fun b h=>?_,fun _ h=>h,fun _ _ _ h=>h⟩,⟨by rw[List.length_set];exact s.len,s.nd,dm,s.cd,fun j c b e1 e2=>?_,fun t ht=>⟨(s.tb t ht).1,fun z=>z.elim (s.tb t ht).2 fun z=>s.tnc ht (by rw[z];exact hm)⟩⟩,rr⟩
     ·rcases h with h|h
      ·exact .inl h
      ·exact .inr (.inr (by rw[h];exact hm))
     ·by_cases hj:j=k
      ·subst hj
       rw[ea]at e2;cases e2;rw[List.getElem?_set_self (by rw[<- s.len];exact(zB.mp ea).1)]at e1;cases e1;exact⟨.inr rfl,rr⟩
      ·rw[List.getElem?_set_ne (Ne.symm hj)]at e1
       refine(s.cell j c b e1 e2).mono ex (fun _ _ z=>z) rfl fun n z=>?_
       rcases z with z|z
       ·exact n z
       ·refine hj ?_
        subst z;obtain⟨h1,e1⟩:=zB.mp e2;obtain⟨h2,e2⟩:=zB.mp ea;exact(List.getElem_inj s.nd).mp (e1.trans e2.symm)
    ·cases e
   ·rename_i t' hk
    cases e;obtain⟨a',ea',c⟩:=s.at hk;rw[ea]at ea';cases ea';exact⟨P,Frm.refl,s,c.2⟩
   ·cases e
  |_=>cases e
theorem Gq[NI]:∀{xs ts:List AV}{st st':aa}{P:Pr}{vs:List V},Sim mg P φ st H->n8 st xs=some (ts,st')->NJ mg P H φ xs vs->∃P',Frm P φ H P' φ H/\Sim mg P' φ st' H/\NJ mg P' H [] ts vs:=by
 intro xs
 induction xs with
 |nil=>intro ts st st' P vs s e r;cases e;simp only[NJ]at r;subst r;exact⟨P,Frm.refl,s,bj⟩
 |cons x xs ih =>
  intro ts st st' P vs s e r;simp only[n8]at e;obtain⟨p,e1,e2⟩:=zA e;obtain⟨q,e3,e4⟩:=zE.mp e2;cases e4;simp only[NJ]at r;obtain⟨v,ws,rfl,r1,r2⟩:=r;obtain⟨P1,f1,s1,q1⟩:=Gs s e1 r1;obtain⟨P2,f2,s2,q2⟩:=ih s1 e3 (r2.frm f1);exact⟨P2,f1.trans f2,s2,aU (q1.mono f2.ext fun _ _ z=>z) q2⟩
theorem JM[NI]{fn:Fn}{args:List AV}{vs:List V}{Q:VK}(s:Sim mg P φ st H)(r:NJ mg P H [] args vs)(h:KG mg RA P φ H ((fn args []).bind fun p=>(cQ p.2 p.1).map fun t=>(t,st)) Q):∃P φ args st,NJ mg P H φ args vs/\Sim mg P φ st H/\KG mg RA P φ H (fn args st) Q:=by
 obtain⟨t,st',e,k⟩:=h;obtain⟨p,e1,e2⟩:=zA e;obtain⟨t',e3,e4⟩:=zE.mp e2;cases e4;refine⟨P,[],args,[],r,Sim.nil s.dom s.tb,p.1,p.2,e1,fun P1 φ1 H1 w f1 s1 r1=>?_⟩;obtain⟨m,em,nm⟩:=f1.new;have kp:∀a,H a≠none->(∀ps,H a≠some (.tbl ps))->H1 a=H a:=fun a h=>f1.keep a h (by simp)
 have kc:=s.ckeep (fun a h=>(f1.ext a h).2) kp;have nn:∀a,(P1 a\/a∈φ1)->P a\/H a=none:=fun a h=>by
  rcases h with h|h
  ·rcases f1.pn a h with z|z|z
   ·exact .inl z
   ·exact .inr z
   ·cases z
  ·rw[em]at h;exact .inr (nm a h)
 refine k (fun a=>P1 a\/a∈φ1) φ H1 w ⟨fun a h=>⟨.inl (f1.ext a h).1,(f1.ext a h).2⟩,⟨[],by simp,by simp⟩,fun a h _ z=>kp a h z,fun a h=>?_,f1.sm,f1.fz⟩ (s.stay (fun a h=>⟨.inl (f1.ext a h).1,(f1.ext a h).2⟩) kc (fun a h n z=>?_) (fun a h=>?_) fun t ht=>⟨(s1.tb t ht).1,fun z=>z.elim (s1.tb t ht).2 (s1.tnc ht)⟩) (RA.lift (qF s1 6 _ _ _ e3 r1))
 ·rcases nn a h with z|z
  ·exact .inl z
  ·exact .inr (.inl z)
 ·rcases nn a z with z|z
  ·exact n z
  ·exact s.cd a h z
 ·rcases h with h|h
  ·exact s1.dom a h
  ·exact s1.cd a h
theorem HS[NI]{n:Nat}(h:dB mg n (pm fn) vs H Q E):dB mg n fn vs H Q E:=by
 obtain⟨hl,P,φ,args,st,r,s,k⟩:=h;refine⟨hl,?_⟩;unfold pm at k;split at k
 ·rename_i hr
  exact JM s (NJ.rf hr r) k
 ·obtain⟨t,st',e,k⟩:=k
  obtain⟨ts,e1,e2⟩:=zA e;obtain⟨p,e3,e4⟩:=zA e2;obtain⟨t',e5,e6⟩:=zA e4;split at e6
  ·rename_i hf
   cases e6;have dm:∀a,(P a\/a∈φ)->H a≠none:=fun a h=>by
    rcases h with h|h
    ·exact s.dom a h
    ·exact s.cd a h
   refine⟨fun a=>P a\/a∈φ,[],ts,[],zb (fun v w t e r=>qF s 6 v w t e r) e1 r,Sim.nil dm (fun t ht=>⟨(s.tb t ht).1,fun z=>z.elim (s.tb t ht).2 (s.tnc ht)⟩),p.1,p.2,e3,fun P1 φ1 H1 w f1 s1 r1=>?_⟩;obtain⟨m,em,nm⟩:=f1.new;have kp:∀a,H a≠none->(∀ps,H a≠some (.tbl ps))->H1 a=H a:=fun a h=>f1.keep a h (by simp)
   have kc:=s.ckeep (fun a h=>(f1.ext a (.inl h)).2) kp;have ext:∀a,P a->((P1 a\/a∈φ1)/\(a∈φ->P a))/\H1 a=H a:=fun a h=>⟨⟨.inl (f1.ext a (.inl h)).1,fun _=>h⟩,(f1.ext a (.inl h)).2⟩
   refine k (fun a=>(P1 a\/a∈φ1)/\(a∈φ->P a)) φ H1 w ⟨ext,⟨[],by simp,by simp⟩,fun a h _ z=>kp a h z,fun a h=>?_,f1.sm,f1.fz⟩ (s.stay ext kc (fun a h n z=>n (z.2 h)) (fun a h=>?_) fun t ht=>⟨(s1.tb t ht).1,fun z=>z.1.elim (s1.tb t ht).2 (s1.tnc ht)⟩) (RA.fl (fun a us hP hT=>⟨hP,fun hm=>?_⟩) hf (qF s1 6 _ _ _ e5 r1))
   ·rcases h.1 with z|z
    ·rcases f1.pn a z with z|z|z
     ·rcases z with z|z
      ·exact .inl z
      ·exact .inr (.inr z)
     ·exact .inr (.inl z)
     ·cases z
    ·rw[em]at z;exact .inr (.inl (nm a z))
   ·rcases h.1 with h|h
    ·exact s1.dom a h
    ·exact s1.cd a h
   ·obtain⟨j,hj⟩:=z8 hm
    obtain⟨c,hc⟩:∃c,st[j]?=some c:=⟨_,zF (by rw[<- s.len];exact(zB.mp hj).1)⟩;have cr:=s.cell j c a hc hj;have hT':H a=some (.tup us):=by rw[<- kc a hm];exact hT
    cases c with
    |lst xs=>obtain⟨_,_,z,_⟩:=cr;rw[hT']at z;cases z
    |al t=>exact cr.1
    |dK NE=>obtain⟨_,_,z,_⟩:=cr;rw[hT']at z;cases z
    |dT NE=>obtain⟨_,_,z,_⟩:=cr;rw[hT']at z;cases z
    |ins c fs=>obtain⟨_,_,_,_,_,z,_⟩:=cr;rw[hT']at z;cases z
    |wk NE=>obtain⟨_,_,_,z,_⟩:=cr;rw[hT']at z;cases z
  ·obtain⟨q,e7,e8⟩:=zA e6
   obtain⟨P1,f1,s1,r1⟩:=Gq s e7 r;exact JM s1 r1 ⟨t,st',e8,fun P2 φ2 H2 w f2 s2 r2=>k P2 φ2 H2 w (f1.trans f2) s2 r2⟩
end
theorem FnOk.pm[NI]{P:Program}{w:World}{K:Frag}{mg:Str->Option Value}{base:Heap}{k:Nat}{f:Addr}{fd:FuncData}{ps:List Str}{n:Nat}{fn:Fn}(F:FnOk P w K mg base eO k f fd ps (dB ⟨K,mg⟩ n fn)):FnOk P w K mg base eO k f fd ps (dB ⟨K,mg⟩ n (R.pm fn)) :=
 F.imp fun _ _ _ _ h=>HS h
def run(n:Nat)(b:SF):Fn:=fun args st=>(b (args.map some++List.replicate (n-args.length) none) st).bind fun o=>match o with
 |.rt v st=>some (v,st)
 |.nx _ st=>some (.non,st)
 |_=>none
theorem Cp[NI](h:NJ mg P H φ args vs):NO mg P H φ (args.map some++List.replicate (N.length-args.length) none) (L2.start N vs):=by
 have hl:=h.length;unfold L2.start;refine⟨by simp[hl],fun i v e=>?_⟩;have hi:i<args.length:=by
  rcases yT i args.length with z|z
  ·exact z
  ·rw[z6 (by simpa using z),List.getElem?_replicate]at e
   split at e<;>cases e
 rw[zN (by simpa using hi),zR]at e;rw[zN (by rw[zH,<- hl];exact hi),zR];cases ha:args[i]? with
 |none=>rw[ha]at e;cases e
 |some x =>
  rw[ha]at e;cases e;obtain⟨w,e1,r1⟩:=h.get ha;exact⟨w,by rw[e1];rfl,r1⟩
def BT(fn:Fn)(g:AF):EF:=fun sl st=>(g sl st).bind fun p=>fn p.1 p.2
section
variable{X:Cx}{x:Str}{p pos:Pos}{e o:Expr}{es:List Expr}{k:Nat}{f:Addr}{fd:FuncData}{ps:List Str}{fn:Fn}{g:AF}{h:EF}
theorem Ll[NI]{n:Nat}(hn:∀sl st xs st',g sl st=some (xs,st')->xs.length=n)(q:rE mg (BT fn g) σ H Q):uY (dB mg n fn) [] E (rA mg g) σ H Q:=by
 obtain⟨P,φ,sl,st,rs,s,kk⟩:=q;refine⟨P,φ,sl,st,rs,s,?_⟩;obtain⟨a,st',e1,q⟩:=kk.bind (Ra:=NJ);refine⟨a,st',e1,fun P1 φ1 H1 b f1 s1 r1=>?_⟩;obtain⟨P2,φ2,st2,xs,f2,s2,r2,k2⟩:=q P1 φ1 H1 b f1 s1 r1;rw[List.append_nil];exact⟨by rw[<- r1.length];exact hn _ _ _ _ e1,P2,φ2,xs,st2,r2,s2,k2⟩
theorem CO[NI](F:FnOk X.prog X.w X.K X.mg X.base eO k f fd ps (dB X.gm ps.length fn))(hr:Room k X.A)(hg:Gl X x)(hm:X.mg x=some (.ref f))(hk:keepIn X.K (.ref f)=true)(hb:Binds X.K fd ps [])
  (ha:QA X (e::es) g) (hn:∀sl st xs st',g sl st=some (xs,st')->xs.length=ps.length) (hdb:(x==("__debug__":Str))=false) (he:starEach (e::es) X.env=(false,eval e X.env)::starEach es X.env) (hpl:(backTo pos (starEach es X.env)).any (·.1)=false) :
  QE X (.Call (.Name x p) (e::es) [] pos) (BT fn g):=PE_imp (Db (E:=E0) F hr hg hm hk hb .nil nk ha hdb he hpl) fun _ _ _ q=>Ll hn q
theorem zk[NI](F:FnOk X.prog X.w X.K X.mg X.base eO k f fd ps (dB X.gm ps.length fn))(hr:Room k X.A)(hg:Gl X x)(hm:X.mg x=some (.ref f))(hk:keepIn X.K (.ref f)=true)(hb:Binds X.K fd ps [])
  (hn:ps.length=0) (hdb:(x==("__debug__":Str))=false):QE X (.Call (.Name x p) [] [] pos) (BT fn d4):=PE_imp (Ad (E:=E0) F hr hg hm hk hb .nil nk hdb) fun σ H Q q=>by
 obtain⟨P,φ,sl,st,rs,s,kk⟩:=q;exact⟨by simp[hn],P,φ,[],st,bj,s,kk⟩
def jv(st:aa)(c:Str):AV->Option (List (Str×AV))
 |.ref k=>match st[k]? with
  |some (.ins c' fs)=>if c'=c then some fs else none
  |_=>none
 |_=>none
theorem nG(h:KVR mg P H φ fs ws)(f:Str):(fs.lookup f=none->ws.lookup f=none)/\∀v,fs.lookup f=some v->∃w,ws.lookup f=some w/\RA mg P H φ v w:=by
 induction fs generalizing ws with
 |nil =>
  have:ws=[]:=by simpa using h.1.symm
  subst this;exact⟨fun _=>rfl,fun v e=>by cases e⟩
 |cons p fs ih =>
  cases ws with
  |nil=>exact absurd h.1 (by simp)
  |cons q ws =>
   obtain⟨h1,h2⟩:=h;rw[zO,zO]at h1 h2;injection h1 with h3 h4;simp only[NJ]at h2;obtain⟨v,vs,h5,h6,h7⟩:=h2;injection h5 with h8 h9;subst h8;subst h9;obtain⟨a,b⟩:=p;obtain⟨c,d⟩:=q;dsimp only at h3 h6;subst h3;rw[yN,yN];cases hb:f==a with
   |true=>exact⟨fun z=>(by cases z),fun v z=>(by cases z;exact⟨d,rfl,h6⟩)⟩
   |false=>exact ih ⟨h4,h7⟩
theorem mT[NI]{mg:Gm}{P:Pr}{φ:List Addr}{st:aa}{H:Hp}{c:Str}{v:AV}{w:V}{fs:List (Str×AV)}(s:Sim mg P φ st H)(h:jv st c v=some fs)(r:RA mg P H φ v w) :
  ∃k a C dx ws,v=.ref k/\φ[k]?=some a/\¬P a/\w=.ref a/\mg.mg c=some (.ref C)/\H a=some (.ins C dx ws)/\KVR mg P H φ fs ws:=by
 cases v with
 |ref k =>
  simp only[jv]at h;split at h
  ·rename_i c' fs' hk
   split at h
   ·rename_i hc
    cases h;subst hc;simp only[RA]at r;obtain⟨a,ea,rfl⟩:=r;obtain⟨a',ea',cr⟩:=s.at hk;rw[ea]at ea';cases ea';obtain⟨na,C,dx,ws,h1,h2,h3⟩:=cr;exact⟨k,a,C,dx,ws,rfl,ea,na,rfl,h1,h2,h3⟩
   ·cases h
  ·cases h
 |_=>cases h
def BS(c m:Str)(fn:Fn)(h:EF)(g:AF):EF:=fun sl st=>(h sl st).bind fun p=>(jv p.2 c p.1).bind fun fs=>if(fs.lookup m).isNone=true then(g sl p.2).bind fun q=>fn (p.1::q.1) q.2 else none
theorem FX[NI]{n:Nat}(hC:mg.mg c=some (.ref C))(hn:∀sl st xs st',g sl st=some (xs,st')->xs.length+1=n)(q:rE mg (BS c m fn h g) σ H Q):uW C m (dB mg n fn) [] E (rE mg h) (rA mg g) σ H Q:=by
 obtain⟨P,φ,sl,st,rs,s,v,st',e,k⟩:=q;obtain⟨p,e1,e2⟩:=zA e;obtain⟨fs,e3,e4⟩:=zA e2;split at e4
 ·rename_i hm
  obtain⟨q,e5,e6⟩:=zA e4;refine⟨P,φ,sl,st,rs,s,p.1,p.2,e1,fun P1 φ1 H1 w f1 s1 r1=>?_⟩;obtain⟨j,a,C',dx,ws,h1,h2,h3,rfl,h5,h6,h7⟩:=mT s1 e3 r1;rw[hC]at h5;cases h5;refine⟨a,dx,ws,rfl,h6,(nG h7 m).1 (by simpa using hm),P1,φ1,sl,p.2,rs.frm f1,s1,q.1,q.2,e5,fun P2 φ2 H2 vs f2 s2 r2=>?_⟩;show dB mg n fn (V.ref a::(vs++[])) H2 Q E;rw[List.append_nil];exact⟨by rw[yX,<- r2.length];exact hn _ _ _ _ e5,P2,φ2,p.1::q.1,q.2,aU (r1.frm f2) r2,s2,v,st',e6,fun P3 φ3 H3 w3 f3 s3 r3=>k P3 φ3 H3 w3 ((f1.trans f2).trans f3) s3 r3⟩
 ·cases e4
theorem CM[NI](ho:QE X o h)(cl:Cls X.K C)(hC:X.mg c=some (.ref C))(hm:j8 X.K C m f)(F:FnOk X.prog X.w X.K X.mg X.base eO k f fd ps (dB X.gm ps.length fn))(hr:Room k X.A)(hb:Binds X.K fd ps [])
  (ha:QA X (e::es) g) (hn:∀sl st xs st',g sl st=some (xs,st')->xs.length+1=ps.length) (hst:starEach (e::es) X.env=(false,eval e X.env)::starEach es X.env) (hpl:(backTo pos (starEach es X.env)).any (·.1)=false)
  (ht:eval (.Call (.Attribute o m apos) (e::es) [] pos) X.env=(do
   let ov <- eval o X.env
   standAt apos.atName
   let(f,first) <- holding [ov] (getMethod ov m pl)
   callWith pos f first (backTo pos (starEach (e::es) X.env)) (backToKw pos (keywordEach [] X.env)))):QE X (.Call (.Attribute o m apos) (e::es) [] pos) (BS c m fn h g) :=
 PE_imp (C7 (E:=E0) ho cl hm F hr hb .nil nk ha hst hpl ht) fun _ _ _ q=>FX hC hn q
theorem zj[NI](ho:QE X o h)(cl:Cls X.K C)(hC:X.mg c=some (.ref C))(hm:j8 X.K C m f)(F:FnOk X.prog X.w X.K X.mg X.base eO k f fd ps (dB X.gm ps.length fn))(hr:Room k X.A)(hb:Binds X.K fd ps [])
  (hn:ps.length=1)
  (ht:eval (.Call (.Attribute o m apos) [] [] pos) X.env=(do
   let ov <- eval o X.env
   standAt apos.atName
   let(f,first) <- holding [ov] (getMethod ov m pl)
   callWith pos f first (backTo pos (starEach [] X.env)) (backToKw pos (keywordEach [] X.env)))):QE X (.Call (.Attribute o m apos) [] [] pos) (BS c m fn h d4) :=
 PE_imp (zy (E:=E0) ho cl hm F hr hb .nil nk ht) fun σ H Q q=>by
  obtain⟨P,φ,sl,st,rs,s,v,st',e,k⟩:=FX (E:=E0) (C:=C) hC (g:=d4) (n:=1) (fun sl st xs st' e=>by cases e;rfl) q;refine⟨P,φ,sl,st,rs,s,v,st',e,fun P1 φ1 H1 w f1 s1 r1=>?_⟩;obtain⟨a,dx,fs,h1,h2,h3,h4⟩:=k P1 φ1 H1 w f1 s1 r1;refine⟨a,dx,fs,h1,h2,h3,?_⟩;obtain⟨P2,φ2,sl2,st2,rs2,s2,xs,st3,e3,k3⟩:=h4;cases e3
  have:=k3 P2 φ2 H1 [] Frm.refl s2 bj
  rw[hn];exact this
def xQ(c:Str)(fn:Fn)(g:AF):EF:=fun sl st=>(g sl st).bind fun p=>(fn (.ref p.2.length::p.1) (p.2++[.ins c []])).bind fun q=>match q.1 with
 |.non=>some (.ref p.2.length,q.2)
 |_=>none
theorem Dg[NI]{mg:Gm}{P:Pr}{φ:List Addr}{st:aa}{H:Hp}{c:Str}{C x dx:Addr}(s:Sim mg P φ st H)(hC:mg.mg c=some (.ref C))(hx:H x=none)(hd:H dx=none)(ne:dx≠x) :
  Frm P φ H P (φ++[x]) (ae (ae H dx (.own x)) x (.ins C dx []))/\Sim mg P (φ++[x]) (st++[.ins c []]) (ae (ae H dx (.own x)) x (.ins C dx [])):=by
 have nd:∀a,H a≠none->a≠dx:=fun a h e=>h (by rw[e];exact hd)
 have f1:Frm P φ H P φ (ae H dx (.own x)):=⟨fun a h=>⟨h,ad (nd a (s.dom a h))⟩,⟨[],by simp,by simp⟩,fun a h _ _=>ad (nd a h),fun a h=>.inl h,fun a h=>by rw[ad (nd a h)];exact h,fun a o u h=>by rw[ad (ba h hd)];exact h⟩;have s1:Sim mg P φ st (ae H dx (.own x)):=s.stay f1.ext (fun a h=>ad (nd a (s.cd a h))) (fun _ _ h=>h) (fun a h=>f1.sm a (s.dom a h)) fun t ht=>⟨(s.tb t ht).1.new hd,(s.tb t ht).2⟩
 have hx1:ae H dx (.own x) x=none:=by rw[ad (Ne.symm ne)];exact hx
 obtain⟨f2,s2⟩:=mO (c:=.ins c []) (o:=.ins C dx []) s1 hx1 ⟨fun z=>s1.dom x z hx1,C,dx,[],hC,aw,rfl,bj⟩;exact⟨f1.trans f2,s2⟩
theorem K0[NI]{mg:Gm}{c:Str}{C:Addr}{n:Nat}{E:XK}{σ:St}{H:Hp}{Q:VK}(hC:mg.mg c=some (.ref C))(hn:∀sl st xs st',g sl st=some (xs,st')->xs.length+1=n)(q:rE mg (xQ c fn g) σ H Q):A9 C (dB mg n fn) [] E (rA mg g) σ H Q:=by
 obtain⟨P,φ,sl,st,rs,s,v,st',e,k⟩:=q;obtain⟨p,e1,e2⟩:=zA e;obtain⟨q,e3,e4⟩:=zA e2;refine⟨P,φ,sl,st,rs,s,p.1,p.2,e1,fun P1 φ1 H1 vs f1 s1 r1=>fun x dx hx hd ne=>?_⟩;obtain⟨f2,s2⟩:=Dg s1 hC hx hd ne;have rx:RA mg P1 (ae (ae H1 dx (.own x)) x (.ins C dx [])) (φ1++[x]) (.ref p.2.length) (.ref x):=by simp only[RA];exact⟨x,by rw[<- s1.len];simp,rfl⟩
 rw[List.append_nil];refine⟨by rw[yX,<- r1.length];exact hn _ _ _ _ e1,P1,φ1++[x],_,_,aU rx (r1.frm f2),s2,q.1,q.2,e3,fun P3 φ3 H3 w f3 s3 r3=>?_⟩;cases hq:q.1 with
 |non =>
  rw[hq]at e4 r3;cases e4;simp only[RA]at r3;exact⟨r3,k P3 φ3 H3 (.ref x) ((f1.trans f2).trans f3) s3 (rx.frm f3)⟩
 |_=>rw[hq]at e4;cases e4
theorem E3[NI](M:Mk X.K C f)(F:FnOk X.prog X.w X.K X.mg X.base eO k f fd ps (dB X.gm ps.length fn))(hr:Room (k+1) X.A)(hg:Gl X c)(hm:X.mg c=some (.ref C))(hb:Binds X.K fd ps [])
  (ha:QA X (e::es) g) (hn:∀sl st xs st',g sl st=some (xs,st')->xs.length+1=ps.length) (hdb:(c==("__debug__":Str))=false) (he:starEach (e::es) X.env=(false,eval e X.env)::starEach es X.env) (hpl:(backTo pos (starEach es X.env)).any (·.1)=false) :
  QE X (.Call (.Name c p) (e::es) [] pos) (xQ c fn g):=PE_imp (C8 (E:=E0) M F hr hg hm hb .nil nk ha hdb he hpl) fun _ _ _ q=>K0 hm hn q
def Kb(c fl:Str)(h:EF):EF:=fun sl st=>(h sl st).bind fun p=>(jv p.2 c p.1).bind fun fs=>(fs.lookup fl).map fun v=>(v,p.2)
theorem E5[NI](ho:QE X o h)(cl:Cls X.K C)(hC:X.mg c=some (.ref C))(na:NoAttr X.K C fl)(hb:attributeBase o fl X.env (eval o X.env)=eval o X.env):QE X (.Attribute o fl apos) (Kb c fl h) :=
 PE_imp (Fx ho hb) fun σ H Q hq0=>by
  obtain⟨P,φ,sl,st,rs,s,v,st',e,k⟩:=hq0;obtain⟨p,e1,e2⟩:=zA e;obtain⟨fs,e3,e4⟩:=zA e2;obtain⟨t,e5,e6⟩:=zE.mp e4;cases e6;refine⟨P,φ,sl,st,rs,s,p.1,p.2,e1,fun P1 φ1 H1 w f1 s1 r1=>?_⟩;obtain⟨j,a,C',dx,ws,h1,h2,h3,rfl,h5,h6,h7⟩:=mT s1 e3 r1;have:C'=C:=by rw[show X.gm.mg c=X.mg c from rfl,hC]at h5;cases h5;rfl
  subst this;obtain⟨w,hw,rw'⟩:=(nG h7 fl).2 _ e5;exact⟨a,C',dx,ws,w,rfl,h6,cl,na,hw,k P1 φ1 H1 w f1 s1 rw'⟩
noncomputable def iX(f:Str)(v:AV):List (Str×AV)->List (Str×AV)
 |[]=>[(f,v)]
 |(g,x)::r=>if g=f then(g,v)::r else(g,x)::iX f v r
theorem wD{mg:Gm}{P:Pr}{H:Hp}{φ:List Addr}{f:Str}{v:AV}{w:V}(r:RA mg P H φ v w):∀{fs:List (Str×AV)}{ws:List (Str×V)},KVR mg P H φ fs ws->KVR mg P H φ (iX f v fs) (dP f w ws):=by
 intro fs
 induction fs with
 |nil =>
  intro ws h;have:ws=[]:=by simpa using h.1.symm
  subst this;exact⟨rfl,aU r bj⟩
 |cons p fs ih =>
  intro ws h;cases ws with
  |nil=>exact absurd h.1 (by simp)
  |cons q ws =>
   obtain⟨h1,h2⟩:=h;rw[zO,zO]at h1 h2;injection h1 with h3 h4;simp only[NJ]at h2;obtain⟨u,us,h5,h6,h7⟩:=h2;injection h5 with h8 h9;subst h8;subst h9;obtain⟨a,b⟩:=p;obtain⟨c,d⟩:=q;dsimp only at h3 h6;subst h3;have i:=ih (ws:=ws) ⟨h4,h7⟩;unfold iX dP;by_cases e:a=f
   ·rw[yH e,yH e]
    exact⟨by rw[zO,zO,h4],aU r h7⟩
   ·rw[yG e,yG e]
    exact⟨by rw[zO,zO,i.1],aU h6 i.2⟩
def wx(c fl:Str)(h f:EF):SF:=fun sl st=>(f sl st).bind fun p=>(h sl p.2).bind fun q=>match q.1 with
 |.ref k=>(jv q.2 c (.ref k)).bind fun fs=>if Nat.ble fs.length 900=true then some (.nx sl (q.2.set k (.ins c (iX fl p.1 fs)))) else none
 |_=>none
theorem EO[NI](ho:QE X o h)(hv:QE X e f')(cl:Cls X.K C)(hC:X.mg c=some (.ref C))(na:NoAttr X.K C fl)(hs:swapsWith e (some (.Attribute o fl pos')) pos.line X.env=pure false):QS X (.Assign [.Attribute o fl pos'] e pos) (wx c fl h f') :=
 PS_imp (Fe ho hv hs) fun D σ H hq0=>by
  obtain⟨P,φ,sl,st,rs,s,out,eo,q⟩:=hq0;obtain⟨p,e1,e2⟩:=zA eo;obtain⟨r,e3,e4⟩:=zA e2;split at e4
  ·rename_i j hj
   obtain⟨fs,e5,e6⟩:=zA e4;split at e6
   ·rename_i hl
    cases e6;refine⟨P,φ,sl,st,rs,s,p.1,p.2,e1,fun P1 φ1 H1 w1 f1 s1 r1=>⟨P1,φ1,sl,p.2,rs.frm f1,s1,r.1,r.2,e3,fun P2 φ2 H2 w2 f2 s2 r2=>?_⟩⟩;rw[hj]at r2;obtain⟨j',a,C',dx,ws,h1,h2,h3,rfl,h5,h6,h7⟩:=mT s2 e5 r2;cases h1;have:C'=C:=by rw[show X.gm.mg c=X.mg c from rfl,hC]at h5;cases h5;rfl
    subst this;have ln:ws.length<1000:=by
     have z:=congrArg List.length h7.1;rw[zH,zH]at z
     have:=zS hl
     lia
    obtain⟨f3,s3⟩:=iy (c:=.ins c (iX fl p.1 fs)) (o:=.ins C' dx (dP fl w1 ws)) s2 h2 h3 ⟨h3,C',dx,_,hC,aw,(wD (r1.frm f2) h7).mono (fun b h=>⟨h,ad fun e=>h3 (e▸h)⟩) fun _ _ z=>z⟩ (fun _ _ z=>by rw[h6]at z;cases z);exact⟨a,C',dx,ws,rfl,h6,cl,na,ln,q P2 φ2 _ σ ((f1.trans f2).trans f3) s3 (((rs.frm f1).frm f2).frm f3)⟩
   ·cases e6
  ·cases e4
end
open DD (obj_list obj_tup minL minL_eq cnt_vals)
abbrev BF:=List AV->aa->Option (AV×aa)
def rB[NI](mg:Gm)(k:BF):List V->Hp->VK->Prop:=fun vs H Q=>∃P φ st xs,Sim mg P φ st H/\NJ mg P H φ xs vs/\KG mg RA P φ H (k xs st) Q
def sU(k:BF)(g:AF):EF:=fun sl st=>(g sl st).bind fun p=>k p.1 p.2
theorem AR[NI](q:rE mg (sU k g) σ H Q):En (rB mg k) (rA mg g) σ H Q:=by
 obtain⟨P,φ,sl,st,rs,s,kk⟩:=q;refine⟨P,φ,sl,st,rs,s,?_⟩;obtain⟨a,st',e1,q⟩:=kk.bind (Ra:=NJ);refine⟨a,st',e1,fun P1 φ1 H1 b f1 s1 r1=>?_⟩;obtain⟨P2,φ2,st2,xs,f2,s2,r2,k2⟩:=q P1 φ1 H1 b f1 s1 r1;exact⟨P2,φ2,st2,xs,s2,r2,k2⟩
def bN(h:aa->List AV->Option AV):BF:=fun xs st=>(h st xs).map fun z=>(z,st)
section
variable{X:Cx}{x:Str}{p pos:Pos}{e o a:Expr}{es:List Expr}{g:AF}{k:BF}{bid T:String}
theorem nj[NI](hc:cJ X (.builtin bid) (rB X.gm k))(hg:Gl X x)(hm:X.mg x=none)(hv:bootBuiltins x=some (.builtin bid))(ha:QA X (e::es) g)(hn:x≠"__name__")(hdb:(x==("__debug__":Str))=false)
  (he:starEach (e::es) X.env=(false,eval e X.env)::starEach es X.env) (hpl:(backTo pos (starEach es X.env)).any (·.1)=false):QE X (.Call (.Name x p) (e::es) [] pos) (sU k g) :=
 PE_imp (qO hc hg hm hv ha hn hdb he hpl) fun _ _ _ q=>AR q
theorem HI[NI](hc:cJ X (.type T) (rB X.gm k))(hg:Gl X x)(hm:X.mg x=none)(hv:bootBuiltins x=some (.type T))(ha:QA X (e::es) g)(hn:x≠"__name__")(hdb:(x==("__debug__":Str))=false)
  (he:starEach (e::es) X.env=(false,eval e X.env)::starEach es X.env) (hpl:(backTo pos (starEach es X.env)).any (·.1)=false):QE X (.Call (.Name x p) (e::es) [] pos) (sU k g) :=
 PE_imp (pF hc hg hm hv ha hn hdb he hpl) fun _ _ _ q=>AR q
theorem NJ.one{mg:Gm}{P:Pr}{H:Hp}{φ:List Addr}{x:AV}{vs:List V}(h:NJ mg P H φ [x] vs):∃v,vs=[v]/\RA mg P H φ x v:=by
 simp only[NJ]at h;obtain⟨v,ws,rfl,r,rfl⟩:=h;exact⟨v,rfl,r⟩
theorem NJ.two{mg:Gm}{P:Pr}{H:Hp}{φ:List Addr}{x y:AV}{vs:List V}(h:NJ mg P H φ [x,y] vs):∃v w,vs=[v,w]/\RA mg P H φ x v/\RA mg P H φ y w:=by
 simp only[NJ]at h;obtain⟨v,ws,rfl,r,w,us,rfl,r',rfl⟩:=h;exact⟨v,w,rfl,r,r'⟩
theorem oH(h:cJ X f r)(i:∀xs H Q,r' xs H Q->r xs H Q):cJ X f r':=fun ND s σ H xs us Q I rv h'=>h ND s σ H xs us Q I rv (i xs H Q h')
def de(st:aa):List AV->Option AV
 |[v]=>match bL st v with
  |some xs=>some (.int xs.length)
  |none=>match iU st v with
   |some xs=>some (.int xs.length)
   |none=>match v with
    |.str x=>if cK x.length=true then some (.int x.length) else none
    |v=>match jg st v with
     |some NE=>some (.int NE.length)
     |none=>(my st v).map fun NE=>.int NE.length
 |_=>none
theorem vO:cJ X (.builtin "len") (fun xs H Q=>∃a NE,xs=[V.ref a]/\H a=some (.dK NE)/\Q (.int NE.length) H):=by
 intro ND s σ H xs us Q I r h;obtain⟨a,NE,rfl,ha,q⟩:=h;obtain⟨u,rfl,ru⟩:=eI r;cases ru;obtain⟨z,hd,vs,rel,dd⟩:=BG I.NM ha;have hl:NE.length=vs.length:=Paired.length rel;have hz:sizeLine=16777216:=sizeLine_eq;exact call_len_dict hd dd oM ⟨.int _,H,I.tok _,⟨_,by rw[hl]⟩,q⟩
theorem Ji[NI]:cJ X (.builtin "len") (rB X.gm (bN de)):=by
 rintro ND s σ H vs us Q I rv ⟨P,φ,st,xs,sm,r,k0⟩;obtain⟨z,e,k⟩:=k0.map;clear k0;unfold de at e;split at e
 ·rename_i v
  obtain⟨w,ew,r9⟩:=r.one;clear r;subst ew;have r:=r9;clear r9;have ay:∀n:Nat,z=.int n->Q (.int n) H:=fun n h=>by subst h;exact k.pure sm (by simp only[RA])
  split at e
  ·rename_i ys e1
   cases e;obtain⟨a,vs,rfl,d1,q1⟩:=r.ls sm e1;exact k6 ND s σ H _ us Q I rv ⟨a,vs,rfl,.inl d1,by rw[<- q1.length];exact ay _ rfl⟩
  ·split at e
   ·rename_i ys e1
    cases e;obtain⟨a,vs,rfl,d1,q1⟩:=r.tp sm e1;exact k6 ND s σ H _ us Q I rv ⟨a,vs,rfl,.inr (.inl (.inl d1)),by rw[<- q1.length];exact ay _ rfl⟩
   ·cases v with
    |str x =>
     dsimp only at e;split at e
     ·rename_i hz
      cases e;simp only[RA]at r;subst r;exact sL ND s σ H _ us Q I rv ⟨x,rfl,iC hz,ay _ rfl⟩
     ·cases e
    |ref j =>
     simp only[RA]at r;obtain⟨a,ea,rfl⟩:=r;dsimp only[jg,my]at e;cases hj:st[j]? with
     |none=>rw[hj]at e;cases e
     |some c =>
      rw[hj]at e;obtain⟨a',ea',c'⟩:=sm.at hj;rw[ea]at ea';cases ea';cases c with
      |dK NE =>
       cases e;obtain⟨_,ws,q1,q2⟩:=c'
       have:=congrArg List.length q2.1
       rw[zH,zH]at this;exact vO ND s σ H _ us Q I rv ⟨a,ws,rfl,q1,by rw[<- this];exact ay _ rfl⟩
      |dT NE =>
       cases e;obtain⟨_,ws,q1,q2⟩:=c'
       have:=congrArg List.length q2.1
       rw[zH,zH]at this;exact xM ND s σ H _ us Q I rv ⟨a,ws,rfl,q1,by rw[<- this];exact ay _ rfl⟩
      |_=>cases e
    |_=>cases e
 ·cases e
def gG:List AV->Option (List Int):=aP fun x=>match x with
 |.int i=>some i
 |_=>none
theorem pM(h:gG xs=some ns):xs=ns.map .int:=by
 unfold gG at h
 induction xs generalizing ns with
 |nil=>cases h;rfl
 |cons x xs ih =>
  simp only [aP] at h;obtain ⟨y,e1,e2⟩:=zA h;obtain ⟨ys,e3,e4⟩:=zE.mp e2;subst e4;cases x <;> first | (cases e1;done) | skip
  cases e1;rw[ih e3];rfl
theorem Av(ns:List Int):gG (ns.map .int)=some ns:=by
 have:=c6 (f:=fun x:AV=>match x with|.int i=>some i|_=>none) (i:=AV.int) (g:=fun i=>i) (fun _=>rfl) ns
 unfold gG;simpa using this
def lsI(st:aa)(v:AV):Option (List Int):=(bL st v).bind gG
theorem RA.lsI[NI]{mg:Gm}{P:Pr}{H:Hp}{φ:List Addr}{st:aa}{v:AV}{w:V}{ns:List Int}(s:Sim mg P φ st H)(r:RA mg P H φ v w)(h:R.lsI st v=some ns):∃a,w=.ref a/\bK mg.K H a (ns.map .int):=by
 obtain⟨xs,e1,e2⟩:=zA h;obtain⟨a,vs,rfl,d1,q1⟩:=r.ls s e1
 have:=pM e2
 subst this;rw[q1.ints]at d1;exact⟨a,rfl,d1⟩
def qA(st:aa):List AV->Option AV
 |[v]=>(lsI st v).map fun ns=>.int ns.sum
 |_=>none
theorem Jf[NI](hc:X.calm=true):cJ X (.builtin "sum") (rB X.gm (bN qA)):=by
 rintro ND s σ H vs us Q I rv ⟨P,φ,st,xs,sm,r,k0⟩;obtain⟨z,e,k⟩:=k0.map;clear k0;unfold qA at e;split at e
 ·rename_i v
  obtain⟨w,ew,r9⟩:=r.one;clear r;subst ew;have r:=r9;clear r9;obtain⟨ns,e1,rfl⟩:=zE.mp e;obtain⟨a,rfl,d1⟩:=r.lsI sm e1;obtain⟨u,rfl,ru⟩:=eI rv;cases ru;obtain⟨NH,r',pl,_⟩:=I.list d1;have hi:IntsAre NH ns:=iq r';obtain⟨ys,hy⟩:=hi.allInts.items;refine sum_intListG (xs:=ys) (I.ok.hd hc) (by rw[<- hy];exact pl.isList) fun h' tk t' hk=>⟨.int ns.sum,H,I.kept hk,?_,k.pure sm (by simp only[RA])⟩
  have:(preSum (numAt ys) ys.size)=ns.sum:=by
   rw[preSum_eq,List.take_of_length_le (by simp),<- nums_intItems,<- hy];rw[show NH.toArray.toList=NH from rfl,hi.numsOf]
  rw[this];exact⟨t',rfl⟩
 ·cases e
def pv(_:aa):List AV->Option AV
 |[.int i]=>some (.int (if i<0 then -i else i))
 |_=>none
theorem Jk[NI]:cJ X (.builtin "abs") (rB X.gm (bN pv)):=oH AO fun vs H Q hq0=>by
 obtain⟨P,φ,st,xs,sm,r,k0⟩:=hq0;obtain⟨z,e,k⟩:=k0.map;unfold pv at e;split at e
 ·cases e
  obtain⟨w,ew,r9⟩:=r.one;clear r;subst ew;have r:=r9;clear r9;simp only[RA]at r;exact⟨_,by rw[r],k.pure sm (by simp only[RA])⟩
 ·cases e
def qZ(st:aa):List AV->Option AV
 |[.int i,.int j]=>some (.int (if j<i then j else i))
 |[v]=>(lsI st v).bind fun ns=>(minL ns).map .int
 |_=>none
noncomputable def FZ:List Int->Option Int
 |[]=>none
 |x::xs=>some (xs.foldl (fun a b=>if a<b then b else a) x)
theorem K1:∀(xs:List Int)(x:Int),(xs.foldl (fun a b=>if a<b then b else a) x∈x::xs)/\∀a∈x::xs,a<=xs.foldl (fun a b=>if a<b then b else a) x:=by
 intro xs
 induction xs with
 |nil=>intro x;exact⟨by simp,by simp⟩
 |cons y xs ih =>
  intro x;rw[List.foldl_cons];obtain⟨h1,h2⟩:=ih (if x<y then y else x);refine⟨?_,fun a ha=>?_⟩
  ·rcases zT.mp h1 with h|h
   ·rw[h];split<;>simp
   ·exact zQ _ (zQ _ h)
  ·have h3:=h2 _ z7
   rcases zT.mp ha with rfl|ha
   ·refine Int.le_trans ?_ h3;split<;>lia
   ·rcases zT.mp ha with rfl|ha
    ·refine Int.le_trans ?_ h3;split<;>lia
    ·exact h2 a (zQ _ ha)
theorem Dl{m x:Int}(h:FZ ns=some m)(h1:x∈ns)(h2:∀a∈ns,a<=x):x=m:=by
 cases ns with
 |nil=>cases h
 |cons y ns =>
  obtain⟨a,b⟩:=K1 ns y;have e:ns.foldl (fun a b=>if a<b then b else a) y=m:=by injection h
  rw[e]at a b
  have:=h2 m a
  have:=b x h1
  lia
def oV(st:aa):List AV->Option AV
 |[.int i,.int j]=>some (.int (if j > i then j else i))
 |[v]=>(lsI st v).bind fun ns=>(FZ ns).map .int
 |_=>none
theorem Jg[NI](hc:X.calm=true):cJ X (.builtin "min") (rB X.gm (bN qZ)):=by
 rintro ND s σ H vs us Q I rv ⟨P,φ,st,xs,sm,r,k0⟩;obtain⟨z,e,k⟩:=k0.map;clear k0;unfold qZ at e;split at e
 ·rename_i i j
  cases e;obtain⟨w,w',ew,r8,r9⟩:=r.two;clear r;subst ew;have r:=r8;have r':=r9;clear r8 r9;simp only[RA]at r r';subst r;subst r';exact xJ hc ND s σ H _ us Q I rv ⟨i,j,rfl,k.pure sm (by simp only[RA])⟩
 ·rename_i v
  obtain⟨w,ew,r9⟩:=r.one;clear r;subst ew;have r:=r9;clear r9;obtain⟨ns,e1,e2⟩:=zA e;obtain⟨m,hm,rfl⟩:=zE.mp e2;obtain⟨a,rfl,d1⟩:=r.lsI sm e1;obtain⟨u,rfl,ru⟩:=eI rv;cases ru;obtain⟨NH,r',pl,_⟩:=I.list d1;have hi:IntsAre NH ns:=iq r';obtain⟨ys,hy⟩:=hi.allInts.items;have hns':ns=ys.toList.map (·.1):=by rw[<- hi.numsOf,<- nums_intItems,<- hy]
  have hsz:0<ys.size:=by
   cases ns with
   |nil=>cases hm
   |cons n ns =>
    have:(n::ns).length=ys.size:=by rw[hns',zH,Array.length_toList]
    simp at this;lia
  refine min_intList (xs:=ys) (I.ok.hd hc) (by rw[<- hy];exact pl.isList) hsz fun v h' tk hv hk=>?_
  obtain⟨t,rfl⟩:=intItems_at hv;obtain⟨h1,h2⟩:=argBest_lt (numAt ys) (ys.size-1);refine⟨.int m,H,I.kept hk,?_,k.pure sm (by simp only[RA])⟩;have e:numAt ys (argBest (fun i j=>decide (numAt ys i<numAt ys j)) (ys.size-1))=m:=by
   refine minL_eq hm ?_ fun a ha=>?_
   ·rw[hns',numAt_eq];exact getD_mem (by rw[zH,Array.length_toList];lia)
   ·rw[hns']at ha
    obtain⟨j,hj,rfl⟩:=mem_getD ha;rw[zH,Array.length_toList]at hj;rw[<- numAt_eq];exact h2 j oM
  exact⟨t,by rw[e]⟩
 ·cases e
theorem Jh[NI](hc:X.calm=true):cJ X (.builtin "max") (rB X.gm (bN oV)):=by
 rintro ND s σ H vs us Q I rv ⟨P,φ,st,xs,sm,r,k0⟩;obtain⟨z,e,k⟩:=k0.map;clear k0;unfold oV at e;split at e
 ·rename_i i j
  cases e;obtain⟨w,w',ew,r8,r9⟩:=r.two;clear r;subst ew;have r:=r8;have r':=r9;clear r8 r9;simp only[RA]at r r';subst r;subst r';exact xK hc ND s σ H _ us Q I rv ⟨i,j,rfl,k.pure sm (by simp only[RA])⟩
 ·rename_i v
  obtain⟨w,ew,r9⟩:=r.one;clear r;subst ew;have r:=r9;clear r9;obtain⟨ns,e1,e2⟩:=zA e;obtain⟨m,hm,rfl⟩:=zE.mp e2;obtain⟨a,rfl,d1⟩:=r.lsI sm e1;obtain⟨u,rfl,ru⟩:=eI rv;cases ru;obtain⟨NH,r',pl,_⟩:=I.list d1;have hi:IntsAre NH ns:=iq r';obtain⟨ys,hy⟩:=hi.allInts.items;have hns':ns=ys.toList.map (·.1):=by rw[<- hi.numsOf,<- nums_intItems,<- hy]
  have hsz:0<ys.size:=by
   cases ns with
   |nil=>cases hm
   |cons n ns =>
    have:(n::ns).length=ys.size:=by rw[hns',zH,Array.length_toList]
    simp at this;lia
  refine max_intList (xs:=ys) (I.ok.hd hc) (by rw[<- hy];exact pl.isList) hsz fun v h' tk hv hk=>?_
  obtain⟨t,rfl⟩:=intItems_at hv;obtain⟨h1,h2⟩:=argBest_gt (numAt ys) (ys.size-1);refine⟨.int m,H,I.kept hk,?_,k.pure sm (by simp only[RA])⟩;have e:numAt ys (argBest (fun i j=>decide (numAt ys i > numAt ys j)) (ys.size-1))=m:=by
   refine Dl hm ?_ fun a ha=>?_
   ·rw[hns',numAt_eq];exact getD_mem (by rw[zH,Array.length_toList];lia)
   ·rw[hns']at ha
    obtain⟨j,hj,rfl⟩:=mem_getD ha;rw[zH,Array.length_toList]at hj;rw[<- numAt_eq];exact h2 j oM
  exact⟨t,by rw[e]⟩
 ·cases e
def oZ(_:aa):List AV->Option AV
 |[.int i]=>some (.int i)
 |[.bl b]=>some (.int (if b then 1 else 0))
 |_=>none
theorem Jj[NI]:cJ X (.type "int") (rB X.gm (bN oZ)):=oH xN fun vs H Q hq0=>by
 obtain⟨P,φ,st,xs,sm,r,k0⟩:=hq0;obtain⟨z,e,k⟩:=k0.map;unfold oZ at e;split at e
 ·cases e
  obtain⟨w,ew,r9⟩:=r.one;clear r;subst ew;have r:=r9;clear r9;simp only[RA]at r;exact .inl ⟨_,by rw[r],k.pure sm (by simp only[RA])⟩
 ·cases e
  obtain⟨w,ew,r9⟩:=r.one;clear r;subst ew;have r:=r9;clear r9;simp only[RA]at r;exact .inr ⟨_,by rw[r],k.pure sm (by simp only[RA])⟩
 ·cases e
def qk(st:aa)(v:AV):Option String:=match dr st v with
 |.non=>some "NoneType"
 |.bl _=>some "bool"
 |.int _=>some "int"
 |.str _=>some "str"
 |.tup _=>some "tuple"
 |.fz _=>some "list"
 |.ref k=>match st[k]? with
  |some (.lst _)=>some "list"
  |_=>none
def J9(T:String)(f:EF):EF:=fun sl st=>(f sl st).bind fun p=>(qk p.2 p.1).bind fun a=>(DD.isiT a T).map fun b=>(.bl b,p.2)
theorem Iz[NI]{ND:List (Addr×Obj)}{σ:St}{H:Hp}{s:Shared}{P:Pr}{φ:List Addr}{st:aa}{x:AV}{v:V}{u c:Value}{t:String}{b:Bool}{Q:Value->Shared->Prop}{E:Value->Shared->Prop}(I:L2.Inv X ND σ H s)(sm:Sim X.gm P φ st H)(r:RA X.gm P H φ x v)(rv:RelV v u)(hk:qk st x=some t)
  (e:kitOne X.K (.type t) c=some b) (h:∀tk,Q (.bool b) { s with toks:=tk }):wpAny (model X.prog X.w) X.A (call (.builtin "isinstance") [u,c]) Q E s:=by
 have lst:∀{a:Addr}{vs:List V},v=.ref a->bK X.K H a vs->t="list"->wpAny (model X.prog X.w) X.A (call (.builtin "isinstance") [u,c]) Q E s:=fun ev sq et=>by
  subst ev;subst et;cases rv;obtain⟨NH,o,n,_,e1,e2,e3⟩:=obj_list I sq;exact kia_one kitx_list I.kIn ⟨_,e1,e2⟩ e (fun z=>nomatch z) h
 have rd:=r.dr sm;unfold qk at hk;cases hx:dr st x with
 |non=>rw[hx]at hk rd;cases hk;simp only[RA]at rd;subst rd;exact i5 I rv .non e h
 |bl _=>rw[hx]at hk rd;cases hk;simp only[RA]at rd;subst rd;exact i5 I rv (.bl _) e h
 |int _=>rw[hx]at hk rd;cases hk;simp only[RA]at rd;subst rd;exact i5 I rv (.int _) e h
 |str _=>rw[hx]at hk rd;cases hk;simp only[RA]at rd;subst rd;exact i5 I rv (.str _) e h
 |fz _ =>
  rw[hx]at hk rd;cases hk;simp only[RA]at rd;obtain⟨a,vs,ev,fl,_⟩:=rd;exact lst ev fl.sq rfl
 |tup _ =>
  rw [hx] at hk rd;cases hk;simp only [RA] at rd;obtain ⟨a,vs,rfl,_,h1,_⟩:=rd;cases rv;obtain ⟨NH,o,n,_,e1,e2,e3⟩:=obj_tup I (show gk X.K H a vs from .inl (.inl h1));exact kia_one kitx_tuple I.kIn ⟨_,e1,e2⟩ e (fun z=>nomatch z) h
 |ref k =>
  rw[hx]at hk rd;dsimp only at hk;split at hk
  ·rename_i ys hj
   cases hk;simp only[RA]at rd;obtain⟨a,ea,ev⟩:=rd;obtain⟨a',ea',c'⟩:=sm.at hj;rw[ea]at ea';cases ea';obtain⟨_,vs,q1,_⟩:=c';exact lst ev (.inl (.inl q1)) rfl
  ·cases hk
theorem E4[NI](hg:Gl X "isinstance")(hm:X.mg "isinstance"=none)(hgy:Gl X y)(hmy:X.mg y=none)(hvy:bootBuiltins y=some (.type T))(ha:QE X e f)(hny:y≠"__name__")(hdy:(y==("__debug__":Str))=false)
  (he:starEach [e,.Name y p2] X.env=(false,eval e X.env)::starEach [.Name y p2] X.env) (hn:bootBuiltins "isinstance"=some (.builtin "isinstance")):QE X (.Call (.Name "isinstance" p) [e,.Name y p2] [] pos) (J9 T f):=by
 have hc:cJ X (.builtin "isinstance") (fun vs H Q=>∃P φ st x v a b,Sim X.gm P φ st H/\vs=[v,.ty T]/\RA X.gm P H φ x v/\qk st x=some a/\DD.isiT a T=some b/\Q (.bl b) H):=by
  rintro ND s σ H vs us Q I rv ⟨P,φ,st,x,v,a,b,sm,ev,r,h1,h2,q⟩;subst ev;obtain⟨u1,u2,rfl,r1,r2⟩:=uz rv;cases r2;exact Iz I sm r r1 h1 (DD.isiT_kit h2) fun tk=>⟨.bl b,H,I.tok tk,rfl,q⟩
 refine PE_imp (qO hc hg hm hn (lE ha (lE (Dc (v:=.ty T) hgy hmy hvy rfl hny hdy) qP rfl) he) dC dC he (by rfl)) fun σ H Q ⟨P,φ,sl,st,rs,s,kk⟩=>⟨P,φ,sl,st,rs,s,?_⟩
 obtain⟨a,st',e1,q⟩:=kk.bind (Ra:=RA);refine⟨a,st',e1,fun P1 φ1 H1 w f1 s1 r1=>?_⟩;obtain⟨P2,φ2,st2,x,f2,s2,r2,k2⟩:=q P1 φ1 H1 w f1 s1 r1;obtain⟨z,st3,e3,q3⟩:=k2;obtain⟨t,e4,e5⟩:=zA e3;obtain⟨b,e6,e7⟩:=zE.mp e5;cases e7;exact⟨P2,φ2,st2,x,w,t,b,s2,rfl,r2,e4,e6,q3 P2 φ2 H1 _ Frm.refl s2 (by simp only[RA])⟩
end
open DD (reads_each)
abbrev MF:=AV->List AV->aa->Option (AV×aa)
def rM[NI](mg:Gm)(k:MF):V->List V->Hp->VK->Prop:=fun x vs H Q=>∃P φ st a xs,Sim mg P φ st H/\RA mg P H φ a x/\NJ mg P H φ xs vs/\KG mg RA P φ H (k a xs st) Q
def mY(T:String)(st:aa)(v:AV):Bool:=match v with
 |.str _=>T=="str"
 |.int _=>T=="int"
 |v=>if T="list" then(bL st v).isSome else if T="dict" then(jg st v).isSome||(my st v).isSome else false
def kB(T:String)(k:MF)(f:EF)(g:AF):EF:=fun sl st=>(f sl st).bind fun p=>if mY T p.2 p.1=true then(g sl p.2).bind fun q=>k p.1 q.1 q.2 else none
section
variable{X:Cx}{e o:Expr}{es:List Expr}{f:EF}{g:AF}{k:MF}{name:Str}{apos cpos:Pos}{T mid:String}
theorem Cf[NI]{P:Pr}{φ:List Addr}{st:aa}{H:Hp}{v:AV}{w:V}(s:Sim X.gm P φ st H)(r:RA X.gm P H φ v w)(h:mY T st v=true):wc X.K T w H:=by
 have gen:(if T="list" then(bL st v).isSome else if T="dict" then(jg st v).isSome||(my st v).isSome else false)=true->wc X.K T w H:=fun h=>by
  split at h
  ·rename_i hT
   obtain⟨xs,e⟩:=Option.isSome_iff_exists.mp h;obtain⟨a,vs,rfl,d1,_⟩:=r.ls s e;exact .inl ⟨hT,vs,d1⟩
  ·split at h
   ·rename_i hT
    cases v with
    |ref j =>
     simp only[RA]at r;obtain⟨a,ea,rfl⟩:=r;simp only[jg,my]at h;cases hj:st[j]? with
     |none=>rw[hj]at h;simp at h
     |some c =>
      rw[hj]at h;obtain⟨a',ea',c'⟩:=s.at hj;rw[ea]at ea';cases ea';cases c with
      |dK NE=>obtain⟨_,ws,q1,_⟩:=c';exact .inr (.inr (.inl ⟨hT,.inl ⟨ws,q1⟩⟩))
      |dT NE=>obtain⟨_,ws,q1,_⟩:=c';exact .inr (.inr (.inl ⟨hT,.inr ⟨ws,q1⟩⟩))
      |_=>simp at h
    |_=>simp[jg,my]at h
   ·cases h
 unfold mY at h;cases v with
 |str x=>simp only[RA]at r;subst r;exact yJ h
 |int x=>simp only[RA]at r;subst r;exact yJ h
 |_=>exact gen h
theorem FP[NI](q:rE X.gm (kB T k f g) σ H Q):JD X.K T (rM X.gm k) (rE X.gm f) (rA X.gm g) σ H Q:=by
 obtain⟨P,φ,sl,st,rs,s,v,st',ev,kk⟩:=q;obtain⟨p,e1,e2⟩:=zA ev;split at e2
 ·rename_i hT
  obtain⟨r,e3,e4⟩:=zA e2;exact⟨P,φ,sl,st,rs,s,p.1,p.2,e1,fun P1 φ1 H1 w f1 s1 r1=>⟨Cf s1 r1 hT,P1,φ1,sl,p.2,rs.frm f1,s1,r.1,r.2,e3,fun P2 φ2 H2 ws f2 s2 r2=>⟨P2,φ2,r.2,p.1,r.1,s2,r1.frm f2,r2,v,st',e4,fun P3 φ3 H3 w3 f3 s3 r3=>kk P3 φ3 H3 w3 ((f1.trans f2).trans f3) s3 r3⟩⟩⟩
 ·cases e2
theorem ni[NI](pa:PlainAttrs T)(slot:Slot T name mid)(hty:typeOf (.builtin mid)=pure (.type "method_descriptor"))(hm:lb X mid (rM X.gm k))(ho:QE X o f)(ha:QA X (e::es) g)
  (hbase:attributeBase o name X.env (eval o X.env)=eval o X.env)
  (hfew:((backTo cpos (starEach (e::es) X.env)).all (fun x=>!x.1)&&(backToKw cpos (keywordEach [] X.env)).all (fun x=>x.1.isSome)
   && decide ((e::es).length+([]:List Keyword).length+(if([]:List Keyword).isEmpty then 0 else 1)<30))=true)
  (hline:(apos.endLine==cpos.line)=true) (hs:starEach (e::es) X.env=(false,eval e X.env)::starEach es X.env) (hplain:(backTo cpos (starEach es X.env)).any (·.1)=false) :
  QE X (.Call (.Attribute o name apos) (e::es) [] cpos) (kB T k f g):=PE_imp (HZ pa slot hty hm ho ha hbase hfew hline hs hplain) fun _ _ _ q=>FP q
theorem kK[NI](pa:PlainAttrs T)(slot:Slot T name mid)(hty:typeOf (.builtin mid)=pure (.type "method_descriptor"))(hm:lb X mid (rM X.gm k))(ho:QE X o f)
  (hbase:attributeBase o name X.env (eval o X.env)=eval o X.env) (hline:(apos.endLine==cpos.line)=true):QE X (.Call (.Attribute o name apos) [] [] cpos) (kB T k f d4) :=
 PE_imp (Fy pa slot hty hm ho hbase hline) fun σ H Q q=>by
  obtain⟨P,φ,sl,st,rs,s,v,st',ev,kk⟩:=FP q;refine⟨P,φ,sl,st,rs,s,v,st',ev,fun P1 φ1 H1 w f1 s1 r1=>?_⟩;obtain⟨h1,P2,φ2,sl2,st2,rs2,s2,xs,st3,e3,k3⟩:=kk P1 φ1 H1 w f1 s1 r1;cases e3;exact⟨h1,k3 P2 φ2 H1 [] Frm.refl s2 bj⟩
theorem j7(h:lb X mid r)(i:∀x xs H Q,r' x xs H Q->r x xs H Q):lb X mid r':=fun ND s σ H x xs v us Q I rx rv h'=>h ND s σ H x xs v us Q I rx rv (i x xs H Q h')
def fe(st:aa):AV->Option (Nat×List AV)
 |.ref k=>match st[k]? with
  |some (.lst xs)=>some (k,xs)
  |_=>none
 |_=>none
theorem jh[NI]{mg:Gm}{P:Pr}{φ:List Addr}{st:aa}{H:Hp}{v:AV}{w:V}{j:Nat}{xs:List AV}(s:Sim mg P φ st H)(r:RA mg P H φ v w)(h:fe st v=some (j,xs)):∃a vs,w=.ref a/\φ[j]?=some a/\¬P a/\H a=some (.lst vs)/\NJ mg P H φ xs vs:=by
 cases v with
 |ref i =>
  simp only[fe]at h;split at h
  ·rename_i ys hj
   cases h;simp only[RA]at r;obtain⟨a,ea,rfl⟩:=r;obtain⟨a',ea',na,vs,h1,h2⟩:=s.at hj;rw[ea]at ea';cases ea';exact⟨a,vs,rfl,ea,na,h1,h2⟩
  ·cases h
 |_=>cases h
theorem lq[NI]{mg:Gm}{P:Pr}{φ:List Addr}{st:aa}{H:Hp}{j:Nat}{a:Addr}{ys:List AV}{us:List V}(s:Sim mg P φ st H)(ea:φ[j]?=some a)(na:¬P a)(nz:∃vs,H a=some (.lst vs))(r:NJ mg P H φ ys us) :
  Frm P φ H P φ (ae H a (.lst us))/\Sim mg P φ (st.set j (.lst ys)) (ae H a (.lst us))/\∀{t:AV}{w:V},RA mg P H φ t w->RA mg P (ae H a (.lst us)) φ t w:=by
 have ex:∀b,P b->P b/\ae H a (.lst us) b=H b:=fun b h=>⟨h,ad fun e=>na (e▸h)⟩
 obtain⟨f3,s3⟩:=iy (c:=.lst ys) (o:=.lst us) s ea na ⟨na,us,aw,r.mono ex fun _ _ z=>z⟩ (fun _ _ z=>by obtain⟨vs,q⟩:=nz;rw[q]at z;cases z);exact⟨f3,s3,fun h=>h.mono ex fun _ _ z=>z⟩
def oW:MF:=fun x xs st=>match xs with
 |[y]=>(fe st x).bind fun c=>if cK c.2.length=true then some (.non,st.set c.1 (.lst (c.2++[y]))) else none
 |_=>none
theorem Hs{n:Nat}(h:cK n=true):n<sizeLine:=yL (zS h) dC
theorem Bu[NI]:lb X "list.append" (rM X.gm oW):=j7 pH fun x vs H Q hq0=>by
 obtain⟨P,φ,st,a,xs,s,r,rr,v,st',e,kk⟩:=hq0;unfold oW at e;split at e
 ·rename_i y
  obtain⟨c,e1,e2⟩:=zA e;split at e2
  ·rename_i hz
   cases e2;obtain⟨b,us,rfl,ea,na,h1,h2⟩:=jh s r e1;obtain⟨w,rfl,r1⟩:=rr.one;obtain⟨f3,s3,_⟩:=lq s ea na ⟨_,h1⟩ (h2.app (aU r1 bj));exact⟨b,us,w,rfl,rfl,h1,by rw[<- h2.length];exact Hs hz,kk P φ _ _ f3 s3 (by simp only[RA])⟩
  ·cases e2
 ·cases e
def vv:MF:=fun x xs st=>match xs with
 |[]=>(fe st x).bind fun c=>(c.2[c.2.length-1]?).map fun y=>(y,st.set c.1 (.lst c.2.dropLast))
 |_=>none
theorem NJ.dropLast(h:NJ mg P H φ xs vs):NJ mg P H φ xs.dropLast vs.dropLast:=by
 rw[List.dropLast_eq_take,List.dropLast_eq_take,h.length];exact h.take _
theorem Br[NI]:lb X "list.pop" (rM X.gm vv):=j7 FQ fun x vs H Q hq0=>by
 obtain⟨P,φ,st,a,xs,s,r,rr,v,st',e,kk⟩:=hq0;unfold vv at e;split at e
 ·obtain⟨c,e1,e2⟩:=zA e
  obtain⟨y,e3,e4⟩:=zE.mp e2;cases e4;obtain⟨b,us,rfl,ea,na,h1,h2⟩:=jh s r e1;simp only[NJ]at rr;obtain⟨w,e5,r5⟩:=h2.get e3;obtain⟨f3,s3,lf⟩:=lq s ea na ⟨_,h1⟩ h2.dropLast;exact⟨b,us,w,rfl,rr,h1,by rw[<- h2.length];exact e5,kk P φ _ _ f3 s3 (lf r5)⟩
 ·cases e
theorem NJ.erase:∀{xs:List AV}{vs:List V} (n:Nat),NJ mg P H φ xs vs->NJ mg P H φ (xs.eraseIdx n) (vs.eraseIdx n)
 |[],_,_,h=>by simp only[NJ]at h;subst h;exact bj
 |x::xs,_,n,h=>by
  simp only[NJ]at h;obtain⟨v,ws,rfl,r,q⟩:=h;cases n with
  |zero=>exact q
  |succ n=>exact aU r (NJ.erase n q)
def vw:MF:=fun x xs st=>match xs with
 |[y]=>(fe st x).bind fun c=>(bL st y).bind fun ys=>if cK (c.2.length+ys.length)=true then some (.non,st.set c.1 (.lst (c.2++ys))) else none
 |_=>none
theorem Bs[NI]:lb X "list.extend" (rM X.gm vw):=j7 Dk fun x vs H Q hq0=>by
 obtain⟨P,φ,st,a,xs,s,r,rr,v,st',e,kk⟩:=hq0;unfold vw at e;split at e
 ·rename_i y
  obtain⟨c,e1,e2⟩:=zA e;obtain⟨ys,e3,e4⟩:=zA e2;split at e4
  ·rename_i hz
   cases e4;obtain⟨b,us,rfl,ea,na,h1,h2⟩:=jh s r e1;obtain⟨w,rfl,r1⟩:=rr.one;obtain⟨b2,us2,rfl,d2,q2⟩:=r1.ls s e3;obtain⟨f3,s3,_⟩:=lq s ea na ⟨_,h1⟩ (h2.app q2);exact⟨b,b2,us,us2,rfl,rfl,h1,d2,by rw[<- h2.length,<- q2.length];exact iC hz,kk P φ _ _ f3 s3 (by simp only[RA])⟩
  ·cases e4
 ·cases e
def Am:MF:=fun x xs st=>match xs with
 |[y]=>(bU 9 st x).bind fun p=>(bU 9 st y).bind fun q=>match p with
  |.list ps=>if(ps.all fun r=>pyOk r q)=true then some (.int ((ps.countP fun r=>PyData.eqv r q:Nat):Int),st) else none
  |_=>none
 |_=>none
theorem Bt[NI](hu:X.A.units+64<cLine):lb X "list.count" (rM X.gm Am):=by
 rintro ND s σ H x vs v us Q I rx rv ⟨P,φ,st,a,xs,sm,r,rr,z,st',e,kk⟩;unfold Am at e;split at e
 ·rename_i y
  obtain⟨p,e1,e2⟩:=zA e;obtain⟨q,e3,e4⟩:=zA e2;split at e4
  ·rename_i ps
   split at e4
   ·rename_i NM
    cases e4;obtain⟨w,rfl,r1⟩:=rr.one;obtain⟨u,rfl,ru⟩:=rv.one;obtain⟨as,ra⟩:=gJ I sm 9 _ _ _ _ r e1 rx;obtain⟨bs,rb⟩:=gJ I sm 9 _ _ _ _ r1 e3 ru;cases ra with
    |@list a o items n xs as' hg hc hdt rall =>
     obtain⟨ocl,odi,oda,osl⟩:=o;dsimp only at hc hdt;subst hc;subst hdt
     classical
     have uq:∀z p' az,Reads s.heap z p' az->decide (∃p as,Reads s.heap z p as/\PyData.eqv p q=true)=PyData.eqv p' q:=by
      intro z p' az rz;rcases he:PyData.eqv p' q with _|_
      ·refine z9 ?_
       rintro⟨p2,as',r',e'⟩
       have:=(PySem.Reads.unique rz p2 as' r').1
       rw[<- this,he]at e';cases e'
      ·exact yV ⟨p',az,rz,he⟩
     refine call_meets PySem.F.slot_list_count ⟨_,hg,rfl⟩ PySem.F.entry_list_count (PySem.F.args_list_count_2 _ _) (PySem.SeqAt.list_countAt a items n odi osl u (fun z=>decide (∃p as,Reads s.heap z p as/\PyData.eqv p q=true))) ⟨hg,?_,?_⟩
     ·intro z hz
      obtain⟨pz,az,hpz,rz⟩:=reads_each rall z (by simpa using hz);obtain⟨k1,k2,k3⟩:=oS (yQ.mp NM pz hpz);rw[uq z pz az rz];exact PySem.SeqAt.eqAt_reads pz q _ s z u az bs rz rb k1 k2 (by simp only[Around.in1_units];lia)
     ·have hc:=cnt_vals (q:=q) (e:=fun z=>decide (∃p as,Reads s.heap z p as/\PyData.eqv p q=true)) (h:=s.heap) (vs:=items.toList) (ps:=ps) (fun v p as rv=>uq v p as rv) rall
      rw[hc];exact⟨.int _,H,I.kept (fun _ _ e=>e),⟨_,rfl⟩,kk P φ H _ Frm.refl sm (by simp only[RA])⟩
   ·cases e4
  ·cases e4
 ·cases e
def Kc(t:Bool):EF:=fun _ st=>some (.ref st.length,st++[if t=true then .dT [] else .dK []])
theorem CN[NI](hm:PE X (.Dict [] [] pos) wu):QE X (.Dict [] [] pos) (Kc false):=PE_imp hm fun σ H Q hq0=>by
 obtain⟨P,φ,sl,st,rs,s,v,st',e,kk⟩:=hq0;cases e;intro d hd;obtain⟨f3,s3⟩:=mO (c:=.dK []) (o:=.dK []) s hd ⟨fun z=>s.dom d z hd,[],aw,rfl,bj⟩;refine kk P _ _ _ f3 s3 ?_;simp only[RA];exact⟨d,by rw[<- s.len];simp,rfl⟩
end
theorem sN:bootBuiltins "min"=some (.builtin "min"):=by decide +kernel
def Aj(ns:List Int):AV:=match minL ns with
 |some m=>.int m
 |none=>.non
def nB(st:aa):List AV->Option AV
 |[v]=>(lsI st v).map Aj
 |_=>none
theorem FV(a:Value):argsOk "min" ⟨[a],[(Str.ofString "default",.none)]⟩:=by unfold argsOk;kernel_rfl
theorem FT(a v:Value):argsOk "min" ⟨[a],[(Str.ofString "key",v),(Str.ofString "default",.none)]⟩:=by unfold argsOk;kernel_rfl
theorem FW{α:Type}{l:List α}{x:α}(h:x∈l):∃i:Nat,l[i]?=some x:=z8 h
section
variable{X:Cx}{a:Expr}{f:EF}{p pos kp pc:Pos}{j:Nat}
theorem CL[NI](hc:X.calm=true)(hg:Gl X "min")(hm:X.mg "min"=none)(ha:QE X a f)(hs:starEach [a] X.env=[(false,eval a X.env)]) :
  QE X (.Call (.Name "min" p) [a] [⟨some "default",.Constant .none j pc,kp⟩] pos) (sU (bN nB) (dz f d4)):=by
 intro ND s σ H Q I h;have hb:=AR h;refine wpAny_Call_Name_kw (c8 I hg hm sN (callWith_kw (aB ((cF ha d8 (by rw[hs];rfl)) pos ND s σ H _ I hb) fun us s1 ⟨vs,H1,I1,r1,q1⟩=>?_) (by rw[hs];rfl) (by rw[hs];rfl) (by rfl) (by rfl)));refine kws_cons (Constant_none (kws_nil ?_));obtain⟨P,φ,st,xs,sm,r,k0⟩:=q1;obtain⟨z,e,k⟩:=k0.map;unfold nB at e;split at e
 ·rename_i v
  obtain⟨w,rfl,rv⟩:=r.one;obtain⟨ns,e1,e2⟩:=zE.mp e;obtain⟨l,rfl,hl⟩:=rv.lsI sm e1;obtain⟨u,rfl,ru⟩:=eI r1;cases ru;refine qY (ko:=none) (ns:=ns) (I.ok.hd hc) (fun i=>ns.getD i 0) (fun _ H=>H=H1) (fun i H e=>by rw[e];exact hl) rfl (FV _) (fun i n u pl s H en ru eH I=>.inl ⟨rfl,by simp[en],eH⟩) (fun i n H en hmin eH=>?_) (fun en=>?_) I1 rfl
  ·subst eH
   have:minL ns=some n:=by
    cases hM:minL ns with
    |none =>
     cases ns with
     |nil=>simp at en
     |cons _ _=>cases hM
    |some m =>
     rw[minL_eq hM (zW en) fun b hb=>?_];obtain⟨i',hi'⟩:=FW hb;have h1:=(hmin i' (zB.mp hi').1).1;simpa [en,hi'] using h1
   have ez:z=.int n:=by rw[<- e2];unfold Aj;rw[this]
   subst ez;exact k.pure sm (by simp only[RA])
  ·subst en
   have ez:z=.non:=by rw[<- e2];rfl
   subst ez;exact k.pure sm (by simp only[RA])
 ·cases e
end
def xg(key:EF)(sl:Sl)(st:aa)(n:Int):Option Int:=match key (sl++[some (.int n)]) st with
 |some (.int k,_)=>some k
 |_=>none
noncomputable def k8:Int->Int->List (Int×Int)->Int
 |n,_,[]=>n
 |n,k,(m,j)::r=>if j<k then k8 m j r else k8 n k r
def pj:List (Int×Int)->AV
 |[]=>.non
 |(n,k)::r=>.int (k8 n k r)
def qu(f key:EF):EF:=fun sl st=>(f sl st).bind fun p=>(lsI p.2 p.1).bind fun ns=>(aP (xg key sl p.2) ns).map fun ks=>(pj (ns.zip ks),p.2)
def BY(f:EF):Prop:=∀sl st v st',f sl st=some (v,st')->st'=st
theorem lS:∀(r:List (Int×Int))(n k:Int),∃(i:Nat)(κ:Int),((n,k)::r)[i]?=some (k8 n k r,κ)/\∀(j:Nat) q,((n,k)::r)[j]?=some q->κ<=q.2/\(j<i->κ<q.2)
 |[],n,k=>⟨0,k,rfl,fun j q e=>by
   cases j with
   |zero=>cases e;exact⟨Int.le_refl _,fun h=>absurd h (y0 _)⟩
   |succ j=>simp at e⟩
 |(m,j0)::r,n,k=>by
  by_cases hb:j0<k
  ·obtain⟨i,κ,e1,e2⟩:=lS r m j0
   refine⟨i+1,κ,by rw[List.getElem?_cons_succ];simpa [k8,hb] using e1,fun j q e=>?_⟩;cases j with
   |zero =>
    cases e
    have:=(e2 0 (m,j0) rfl).1
    exact⟨by show κ<=k;lia,fun _=>by show κ<k;lia⟩
   |succ j =>
    rw[List.getElem?_cons_succ]at e;exact⟨(e2 j q e).1,fun h=>(e2 j q e).2 oM⟩
  ·obtain⟨i,κ,e1,e2⟩:=lS r n k
   have ea:k8 n k ((m,j0)::r)=k8 n k r:=by simp[k8,hb]
   have hk:=(e2 0 (n,k) rfl).1;refine⟨if i=0 then 0 else i+1,κ,?_,fun j q e=>?_⟩
   ·rw[ea]
    cases i with
    |zero=>simpa using e1
    |succ i=>simpa using e1
   ·cases j with
    |zero =>
     cases e;refine⟨hk,fun h=>?_⟩;cases i with
     |zero=>simp at h
     |succ i=>exact(e2 0 (n,k) rfl).2 (Nat.succ_pos i)
    |succ j =>
     rw[List.getElem?_cons_succ]at e;cases j with
     |zero =>
      cases e;refine⟨by show κ<=j0;lia,fun h=>?_⟩;cases i with
      |zero=>simp at h
      |succ i =>
       have:=(e2 0 (n,k) rfl).2 (Nat.succ_pos i)
       show κ<j0;have:κ<k:=this;lia
     |succ j =>
      rw[List.getElem?_cons_succ]at e
      have:=e2 (j+1) q (by rw[List.getElem?_cons_succ];exact e)
      refine⟨this.1,fun h=>this.2 ?_⟩;cases i with
      |zero=>simp at h
      |succ i=>simp at h;lia
theorem DK{ns ks:List Int}{i:Nat}{n:Int}(hl:ns.length=ks.length)(hn:ns[i]?=some n)(hm:∀j,j<ns.length->ks.getD i 0<=ks.getD j 0/\(j<i->ks.getD i 0<ks.getD j 0)):pj (ns.zip ks)=.int n:=by
 have hi:i<ns.length:=(zB.mp hn).1;obtain⟨k,hk⟩:∃k,ks[i]?=some k:=⟨_,zF oM⟩;have hz:(ns.zip ks)[i]?=some (n,k):=by rw[List.getElem?_zip_eq_some];exact⟨hn,hk⟩
 have hd:ks.getD i 0=k:=by simp[hk]
 cases e:ns.zip ks with
 |nil=>rw[e]at hz;simp at hz
 |cons q r =>
  obtain⟨n0,k0⟩:=q;obtain⟨i',κ,e1,e2⟩:=lS r n0 k0;rw[<- e]at e1 e2;have e3:=List.getElem?_zip_eq_some.mp e1;have hi':i'<ns.length:=(zB.mp e3.1).1;have hd':ks.getD i' 0=κ:=by simp[e3.2]
  have m1:=hm i' hi';have m2:=e2 i (n,k) hz;rw[hd,hd']at m1;have m2a:κ<=k:=m2.1;have m2b:i<i'->κ<k:=m2.2;have:i=i':=by
   rcases Nat.lt_trichotomy i i' with h|h|h
   ·have:=m2b h;lia
   ·exact h
   ·have:=m1.2 h;lia
  subst this;rw[hn]at e3
  have:=e3.1
  simp only[pj];cases this;rfl
theorem rk{α β:Type}{f:α->Option β}:∀{l:List α}{r:List β},aP f l=some r->l.length=r.length/\∀(i:Nat) x,l[i]?=some x->∃y,r[i]?=some y/\f x=some y
 |[],r,h=>by cases h;exact⟨rfl,fun i x e=>by simp at e⟩
 |x::l,r,h=>by
  simp only[aP]at h;obtain⟨y,e1,e2⟩:=zA h;obtain⟨ys,e3,e4⟩:=zE.mp e2;subst e4;obtain⟨h1,h2⟩:=rk e3;refine⟨by simp[h1],fun i z e=>?_⟩;cases i with
  |zero=>cases e;exact⟨y,rfl,e1⟩
  |succ i=>exact h2 i z (by simpa using e)
section
variable{X:Cx}{a body:Expr}{f key:EF}{p pos kp lp kp2 pc:Pos}{j:Nat}{params:Arguments}{scope:Scope}{N':List Str}{x:Str}{c P:Addr}
theorem NO.snoc[NI]{mg:Gm}{P:Pr}{H:Hp}{φ:List Addr}{sl:Sl}{σ:St}{v:AV}{w:V}(h:NO mg P H φ sl σ)(r:RA mg P H φ v w):NO mg P H φ (sl++[some v]) (σ++[some w]):=by
 refine⟨by rw[zV,zV,h.1];rfl,fun i u e=>?_⟩;rcases yT i sl.length with hi|hi
 ·rw[zN hi]at e
  rw[zN (by rw[<- h.1];exact hi)];exact h.2 i u e
 ·rw[z6 hi]at e
  rw[z6 (by rw[<- h.1];exact hi),<- h.1];cases hk:i-sl.length with
  |zero=>rw[hk]at e;cases e;exact⟨w,rfl,r⟩
  |succ m=>rw[hk]at e;simp at e
theorem CK[NI](hc:X.calm=true)(hg:Gl X "min")(hm:X.mg "min"=none)(ha:QE X a f)(hs:starEach [a] X.env=[(false,eval a X.env)])(hdef:defaultsOf params X.env=([],[]))(hcode:X.env.code=.ref c)(C:CodeHd X.base c P)(B:jq X.mg X.base)
  (ht:(P,lp,X.env.qual++"<lambda>")∈NI.tb) (T:vX X N' scope x) (hp:plainA params=true) (hps:params.args.map (·.arg)=[x]) (hd:X.A.in1.depth<recursionLimit) (pu:BY key)
  (he:∀cl f c' s H,QE (sF X N' scope cl f (X.env.qual++"<lambda>") (.ref c') X.A.in1 s H) body key)
  (hdj:∀t∈NI.tb,t.1=P->t=(P,lp,X.env.qual++"<lambda>")) :
  QE X (.Call (.Name "min" p) [a] [⟨some "key",.Lambda params body scope lp,kp⟩,⟨some "default",.Constant .none j pc,kp2⟩] pos) (qu f key):=by
 rintro ND s σ H Q I ⟨Pr0,φ,sl,st,rs,sm,v,st',ev,k⟩;obtain⟨p1,e1,e2⟩:=zA ev;obtain⟨ns,e3,e4⟩:=zA e2;obtain⟨ks,e5,e6⟩:=zE.mp e4;cases e6;have hra:rA X.gm (dz f d4) σ H (fun vs H1=>∃P1 φ1 w,vs=[w]/\Frm Pr0 φ H P1 φ1 H1/\Sim X.gm P1 φ1 p1.2 H1/\RA X.gm P1 H1 φ1 p1.1 w) :=
  wz rs sm ⟨p1.1,p1.2,e1,fun P1 φ1 H1 w f1 s1 r1=>⟨P1,φ1,w,rfl,f1,s1,r1⟩⟩
 refine wpAny_Call_Name_kw (c8 I hg hm sN (callWith_kw (aB ((cF ha d8 (by rw[hs];rfl)) pos ND s σ H _ I hra) fun us s1 ⟨vs,H1,I1,r1,P1,φ1,w,ew,f1,s1',rw1⟩=>?_) (by rw[hs];rfl) (by rw[hs];rfl) (by rfl) (by rfl)));subst ew;obtain⟨l,rfl,hl0⟩:=rw1.lsI s1' e3;obtain⟨u,rfl,ru⟩:=eI r1;cases ru;obtain⟨cl,hcl,hcl1,hcl2⟩:=j4 (scope:=scope) (env:=X.env) (fun y hy=>by
  rcases T.cy.free y hy with h|h
  ·exact I1.ok.has y (.inl h)
  ·exact I1.ok.has y (.inr h))
 refine kws_cons (Ar I1 hdef hcode C B hcl (s1'.tb _ ht).1 fun q c' ctv H2 s2 hH2 Eh hx2 I2=>kws_cons (Constant_none (kws_nil ?_)))
 -- the heap behind the making
 have fs:Frm P1 φ1 H1 P1 φ1 H2/\Sim X.gm P1 φ1 p1.2 H2:=by
  rcases hH2 with rfl|⟨ps,more,hP,hn,hne,rfl⟩
  ·exact⟨Frm.refl,s1'⟩
  ·have nP:∀b,P1 b->b≠P:=fun b h e=>(s1'.tb _ ht).2 (by rw[<- e];exact h)
   have nc:∀b,H1 b≠none->b≠c':=fun b h e=>h (by rw[e];exact hn)
   have ncell:∀b∈φ1,b≠P:=fun b h e=>s1'.tnc ht (by rw[<- e];exact h)
   have eq:∀b,b≠P->b≠c'->ae (ae H1 P (.tbl (ps++more))) c' (fZ c' (X.env.qual++"<lambda>")) b=H1 b:=fun b h1 h2=>by rw[ad h2,ad h1]
   have ex:∀b,P1 b->P1 b/\ae (ae H1 P (.tbl (ps++more))) c' (fZ c' (X.env.qual++"<lambda>")) b=H1 b:=fun b h=>⟨h,eq b (nP b h) (nc b (s1'.dom b h))⟩
   refine⟨⟨ex,⟨[],by simp,by simp⟩,fun b h _ z=>eq b (fun e=>z ps (by rw[e];exact hP)) (nc b h),fun b h=>.inl h,fun b h=>?_,fun b o u h=>?_⟩,s1'.stay ex (fun b h=>eq b (ncell b h) (nc b (s1'.cd b h))) (fun _ _ h=>h) (fun b h=>by rw[(ex b h).2];exact s1'.dom b h) fun t ht'=>⟨?_,(s1'.tb t ht').2⟩⟩
   ·by_cases e:b=P
    ·subst e;rw[ad hne,aw];exact fun z=>nomatch z
    ·rw[eq b e (nc b h)];exact h
   ·rw[eq b (fun e=>by rw[e,hP]at h;cases h) (nc b (by rw[h];exact fun z=>nomatch z))];exact h
   ·by_cases e:t.1=P
    ·rw[hdj t ht' e];exact Eh
    ·obtain⟨qs,g1,g2,g3⟩:=(s1'.tb t ht').1
     refine⟨qs,by rw[eq t.1 e (nc _ (by rw[g1];exact fun z=>nomatch z))];exact g1,g2,?_⟩;rcases g3 with g3|⟨c2,g4,g5⟩
     ·exact .inl g3
     ·exact .inr ⟨c2,g4,by rw[eq c2 (fun z=>by rw[z,hP]at g5;cases g5) (nc _ (by rw[g5];exact fun z=>nomatch z))];exact g5⟩
 obtain⟨hlen,hget⟩:=rk e5;have ay:∀H',(∃P' φ',Frm P1 φ1 H2 P' φ' H'/\Sim X.gm P' φ' p1.2 H')->∀z,pj (ns.zip ks)=z->∀w,(∀P' φ',RA X.gm P' H' φ' z w)->Q w H':=fun H' hq0 z hz w r=>by
  obtain⟨P',φ',f',s'⟩:=hq0;rw[hz]at k;exact k P' φ' H' w ((f1.trans fs.1).trans f') s' (r P' φ')
 have hmc:=qY (X:=X) (ND:=ND++[(q,vB X.mg (X.env.qual++"<lambda>") params body scope cl (.ref c') ctv)]) (σ:=σ) (ko:=some (.ref q)) (kws:=[(Str.ofString "key",.ref q),(Str.ofString "default",.none)]) (l:=l) (ns:=ns) (H:=H2) (s:=s2) (Q:=Q) (E:=X.xe)
  (I.ok.hd hc) (fun i=>ks.getD i 0) (fun _ H'=>∃P' φ',Frm P1 φ1 H2 P' φ' H'/\Sim X.gm P' φ' p1.2 H') (fun i H' ⟨P',φ',f',s'⟩=>?_) rfl (FT _ _) (fun i n u pl s3 H3 en ru ⟨P3,φ3,f3,s3'⟩ I3=>.inr ⟨q,rfl,?_⟩) (fun i n H' en hmin hJ=>?_) (fun en=>?_) I2 ⟨P1,φ1,Frm.refl,fs.2⟩
 ·exact aB hmc fun u s9 ⟨v9,H9,I9,r9,q9⟩=>⟨v9,H9,I9.pins_of fun p hp=>I9.pin p (zK _ (zL _ hp)),r9,q9⟩
 ·obtain⟨b,eb,hb⟩:=(rw1.frm (fs.1.trans f')).lsI s' e3
  cases eb;exact hb
 ·obtain⟨kv,ek,hk⟩:=hget i n en
  unfold xg at hk;split at hk
  ·rename_i k0 st0 ekey
   cases hk
   have:=pu _ _ _ _ ekey
   subst this;have hpin:=I3.pin (q,vB X.mg (X.env.qual++"<lambda>") params body scope cl (.ref c') ctv) (zK _ (zL _ (zK _ (zM.mpr rfl))));have hcx:H3 c'=some (fZ c' (X.env.qual++"<lambda>")):=fs.2.okeep f3 hx2;have hcr:s3.heap.CodeRec (.ref c') (X.env.qual++"<lambda>"):=(I3.NM c' _ hcx).1;refine As (te:=rE X.gm key) T I3 I.ok.frames (I.ok.hd hc) hd hcl1 hcl2 hp hps hpin.1 hcr (fun s H=>he cl q c' s H) ru ?_;have ksl:NO X.gm P3 H3 φ3 (sl++[some (.int n)]) (σ++[some (.int n)]):=NO.snoc (((rs.frm f1).frm fs.1).frm f3) (by simp only[RA]);refine⟨P3,φ3,sl++[some (.int n)],p1.2,ksl,s3',.int kv,p1.2,ekey,fun P4 φ4 H4 b f4 s4 r4=>?_⟩;simp only[RA]at r4;exact⟨by rw[r4];simp[ek],P4,φ4,f3.trans f4,s4⟩
  ·cases hk
 ·exact ay H' hJ _ (DK hlen en hmin) _ fun P' φ'=>by simp only[RA]
 ·subst en
  exact ay H2 ⟨P1,φ1,Frm.refl,fs.2⟩ _ rfl _ fun P' φ'=>by simp only[List.zip_nil_left,pj,RA]
end
section
variable{X:Cx}{a b:Expr}{f g:EF}{pos p1 p2 pos2:Pos}
noncomputable def lW(i:Int):Bool:=decide (0<=i)&&decide (i<=1000)
def oU(f:EF):NF:=fun sl st=>(f sl st).bind fun p=>match p.1 with
 |.int j=>if lW j=true then some (dj 0 j.toNat,p.2) else none
 |_=>none
def vk(f g:EF):NF:=fun sl st=>(f sl st).bind fun p=>(g sl p.2).bind fun q=>match p.1,q.1 with
 |.int i,.int j=>if(lW i&&lW j&&decide (i<=j))=true then some (dj i (j-i).toNat,q.2) else none
 |_,_=>none
theorem NJ.rng(i:Nat):∀n:Nat,NJ mg P H φ (dj (i:Int) n) ((List.range' i n).map fun(q:Nat)=>V.int (q:Int)):=by
 have key:∀(l:List Nat),NJ mg P H φ (l.map fun(k:Nat)=>AV.int ((i:Int)+(k:Int))) (l.map fun(k:Nat)=>V.int ((i:Int)+(k:Int))):=by
  intro l
  induction l with
  |nil=>exact bj
  |cons x l ih=>exact aU (by simp only[RA]) ih
 intro n;have:((List.range' i n).map fun(q:Nat)=>V.int (q:Int))=(List.range n).map fun(k:Nat)=>V.int ((i:Int)+(k:Int)):=by
  rw[List.range'_eq_map_range,List.map_map];refine List.map_congr_left fun k _=>?_
  simp
 rw[this];exact key _
theorem ES[NI](hc:X.calm=true)(hgl:Gl X "list")(hml:X.mg "list"=none)(hgr:Gl X "range")(hmr:X.mg "range"=none)(ha:QE X a f)
  (hs:starEach [a] X.env=[(false,eval a X.env)]):QN X (.Call (.Name "list" p1) [.Call (.Name "range" p2) [a] [] pos2] [] pos) (oU f) :=
 PE_imp (Aa hc hgl hml hgr hmr ha hs) fun σ H Q hq0=>by
  obtain⟨P,φ,sl,st,rs,s,xs,st',ef,k⟩:=hq0;obtain⟨q,e1,e2⟩:=zA ef;refine⟨P,φ,sl,st,rs,s,q.1,q.2,e1,fun P1 φ1 H1 w f1 s1 r1=>?_⟩;show ∃j:Nat,[w]=[.int (j:Int)]/\j<=1000/\∀p,H1 p=none->Q (.ref p) (ae H1 p (.lst ((List.range' 0 j).map fun(q:Nat)=>V.int (q:Int))));split at e2
  ·rename_i j ej
   split at e2
   ·rename_i hb
    cases e2;rw[ej]at r1;simp only[RA]at r1;subst r1;obtain⟨h1,h2⟩:=Bool.and_eq_true_iff.mp hb;have h1:=of_decide_eq_true h1;have h2:=of_decide_eq_true h2;refine⟨j.toNat,by rw[Int.toNat_of_nonneg h1],by lia,fun p hp=>?_⟩;exact k P1 φ1 H1 p _ f1 s1 hp (NJ.rng 0 j.toNat)
   ·cases e2
  ·cases e2
theorem ER[NI](hc:X.calm=true)(hgl:Gl X "list")(hml:X.mg "list"=none)(hgr:Gl X "range")(hmr:X.mg "range"=none)(ha:QE X a f)(hb:QE X b g)
  (hs:starEach [a,b] X.env=[(false,eval a X.env),(false,eval b X.env)]) (hs2:starEach [b] X.env=[(false,eval b X.env)]):QN X (.Call (.Name "list" p1) [.Call (.Name "range" p2) [a,b] [] pos2] [] pos) (vk f g) :=
 PE_imp (wN hc hgl hml hgr hmr (cF ha (cF hb d8 (by rw[hs2];rfl)) (by rw[hs,hs2])) hs hs2) fun σ H Q hq0=>by
  obtain⟨P,φ,sl,st,rs,s,xs,st',ef,k⟩:=hq0;obtain⟨q,e1,e2⟩:=zA ef;obtain⟨r,e3,e4⟩:=zA e2;refine EH rs s ⟨q.1,q.2,r.1,r.2,e1,e3,fun P1 φ1 H1 w w' f1 s1 r1 r2=>?_⟩;split at e4
  ·rename_i i j ei ej
   split at e4
   ·rename_i hb
    cases e4;rw[ei]at r1;rw[ej]at r2;simp only[RA]at r1 r2;subst r1;subst r2;simp only[lW,zC,yB]at hb;obtain⟨⟨⟨h1,h2⟩,h3,h4⟩,h5⟩:=hb;refine⟨i.toNat,j.toNat,by rw[Int.toNat_of_nonneg h1,Int.toNat_of_nonneg h3],by lia,by lia,fun p hp=>?_⟩;refine k P1 φ1 H1 p _ f1 s1 hp ?_;have e1:(j-i).toNat=j.toNat-i.toNat:=by lia
    have e2:i=((i.toNat:Nat):Int):=by lia
    have:=NJ.rng (mg:=X.gm) (P:=P1) (H:=H1) (φ:=φ1) i.toNat (j.toNat-i.toNat)
    rw[<- e2,<- e1]at this;rw[<- e1];exact this
   ·cases e4
  ·cases e4
end
def nK:aT->AV
 |.inl i=>.int i
 |.inr x=>.str x
noncomputable def A7(k:Nat):Out->Option Out
 |.nx sl st=>match st[k]? with
  |some (.wk NE)=>some (.nx sl (st.set k (.dK NE)))
  |_=>none
 |.rt v st=>match st[k]? with
  |some (.wk NE)=>some (.rt v (st.set k (.dK NE)))
  |_=>none
 |_=>none
def u6(f:EF)(g:GF)(s:SF):SF:=fun sl st=>(f sl st).bind fun p=>match p.1 with
 |.ref k=>match p.2[k]? with
  |some (.dK NE)=>(dq [] g s (NE.map fun q=>nK q.1) sl (p.2.set k (.wk NE))).bind (A7 k)
  |_=>none
 |_=>none
section
variable{X:Cx}{tg iter:Expr}{body:List Stmt}{pos:Pos}{f:EF}{g:GF}{s:SF}
theorem Cy[NI](hp:PassesOwn (model X.prog X.w) X.A X.env X.xe)(hc:X.calm=true)(hi:QE X iter f)(hg:QG X tg g)(hb:mG X body s)(hs:∀x,foldedSetIterable iter X.env x=pure x):QS X (.For tg iter body [] pos) (u6 f g s) :=
 PS_imp (CT (wF hp hc (C3 hi) hg hb hs)) fun D σ H hq0=>by
  obtain⟨P,φ,sl,st,rs,sm,o,e,q⟩:=hq0;obtain⟨p,e1,e2⟩:=zA e;refine⟨P,φ,sl,st,rs,sm,p.1,p.2,e1,fun P1 φ1 H1 w f1 s1 r1=>?_⟩;split at e2
  ·rename_i k ek
   rw[ek]at r1;simp only[RA]at r1;obtain⟨a,ea,rfl⟩:=r1;split at e2
   ·rename_i NE hk
    obtain⟨o1,e3,e4⟩:=zA e2;obtain⟨na,ws,h1,h2⟩:=s1.cell k _ a hk ea;refine⟨a,ws,rfl,h1,fun ob hn=>?_⟩;have hkeys:(NE.map fun q=>nK q.1).length=ws.length:=by
     have:=congrArg List.length h2.1
     rw[zH,zH]at this;rw[zH];exact this
    obtain⟨fw,sw⟩:=iy (c:=.wk NE) (o:=.frz ob (.dK ws)) s1 ea na ⟨na,ob,ws,aw,h2.mono (fun b h=>⟨h,ad fun e=>na (e▸h)⟩) fun _ _ z=>z⟩ (fun _ _ z=>by rw[h1]at z;cases z);have rsw:NO X.gm P1 (ae H1 a (.frz ob (.dK ws))) φ1 sl σ:=(rs.frm f1).frm fw
    -- behind the loop
    have back:∀{P5 φ5 H5 st5},Frm P1 φ1 (ae H1 a (.frz ob (.dK ws))) P5 φ5 H5->Sim X.gm P5 φ5 st5 H5->∀{kvs'},st5[k]?=some (.wk kvs')->∃o5 ws5,H5 a=some (.frz o5 (.dK ws5)) /\
      Frm P φ H P5 φ5 (ae H5 a (.dK ws5))/\Sim X.gm P5 φ5 (st5.set k (.dK kvs')) (ae H5 a (.dK ws5))/\∀b,P5 b->P5 b/\ae H5 a (.dK ws5) b=H5 b:=by
     intro P5 φ5 H5 st5 f5 s5 kvs' hw;have ea5:φ5[k]?=some a:=f5.ix k a ea;obtain⟨na5,o5,ws5,g1,g2⟩:=s5.cell k _ a hw ea5;have ex5:∀b,P5 b->P5 b/\ae H5 a (.dK ws5) b=H5 b:=fun b h=>⟨h,ad fun e=>na5 (e▸h)⟩
     refine⟨o5,ws5,g1,?_,?_,ex5⟩
     ·have fall:=(f1.trans fw).trans f5
      obtain⟨m,em,nm⟩:=fall.new;have hna:H a=none\/a∈φ:=by
       rcases zZ.mp (show a ∈ φ++f1.new.choose by rw [<- f1.new.choose_spec.1];exact zW ea) with z | z
       ·exact .inr z
       ·exact .inl (f1.new.choose_spec.2 a z)
      refine⟨fun b h=>⟨(fall.ext b h).1,?_⟩,⟨m,em,nm⟩,fun b h n z=>?_,fall.pn,fun b h=>?_,fun b o u h=>?_⟩
      ·rw[(ex5 b (fall.ext b h).1).2];exact(fall.ext b h).2
      ·have nb:b≠a:=fun e=>by
        rcases hna with y|y
        ·exact h (by rw[e];exact y)
        ·exact n (by rw[e];exact y)
       rw[ad nb];exact fall.keep b h n z
      ·by_cases e:b=a
       ·rw[e,aw];exact fun z=>nomatch z
       ·rw[ad e];exact fall.sm b h
      ·have nb:b≠a:=fun e=>by
        have:=f1.fz b o u h
        rw[e,h1]at this;cases this
       rw[ad nb];exact fall.fz b o u h
     ·have hs5:st5[k]?=some (.wk kvs'):=hw
      refine⟨by rw[List.length_set];exact s5.len,s5.nd,fun b h=>by rw[(ex5 b h).2];exact s5.dom b h,fun b h=>?_,fun j c b e5 e6=>?_,fun t ht=>⟨(s5.tb t ht).1.wr (s5.notb ea5 na5),(s5.tb t ht).2⟩⟩
      ·by_cases e:b=a
       ·rw[e,aw];exact fun z=>nomatch z
       ·rw[ad e];exact s5.cd b h
      ·by_cases hj:j=k
       ·subst hj
        rw[ea5]at e6;cases e6;rw[List.getElem?_set_self (by rw[<- s5.len];exact(zB.mp ea5).1)]at e5;cases e5;exact⟨na5,ws5,aw,g2.mono ex5 fun _ _ z=>z⟩
       ·rw[List.getElem?_set_ne (Ne.symm hj)]at e5
        have hb:b≠a:=fun e=>hj (by
         subst e;obtain⟨l1,q1⟩:=zB.mp e6;obtain⟨l2,q2⟩:=zB.mp ea5;exact(List.getElem_inj s5.nd).mp (q1.trans q2.symm))
        exact(s5.cell j c b e5 e6).mono ex5 (fun _ _ z=>z) (ad hb) fun z=>z
    have endN:∀{P5 φ5 H5 σ5 sl5 st5},o1=.nx sl5 st5->Frm P1 φ1 (ae H1 a (.frz ob (.dK ws))) P5 φ5 H5->Sim X.gm P5 φ5 st5 H5->NO X.gm P5 H5 φ5 sl5 σ5->(qa X.H₀ D).nx σ5 H5:=by
     intro P5 φ5 H5 σ5 sl5 st5 eo f5 s5 rs5;subst eo;simp only[A7]at e4;split at e4
     ·rename_i kvs' hw
      cases e4;obtain⟨o5,ws5,g1,g2,g3,g4⟩:=back f5 s5 hw;exact⟨a,o5,ws5,g1,hn,q P5 φ5 _ σ5 g2 g3 ⟨rs5.1,fun i v e=>let⟨w,e',r⟩:=rs5.2 i v e;⟨w,e',r.mono g4 fun _ _ z=>z⟩⟩⟩
     ·cases e4
    have endR:∀{P5 φ5 H5 v5 st5 w5},o1=.rt v5 st5->Frm P1 φ1 (ae H1 a (.frz ob (.dK ws))) P5 φ5 H5->Sim X.gm P5 φ5 st5 H5->RA X.gm P5 H5 φ5 v5 w5->(qa X.H₀ D).rt w5 H5:=by
     intro P5 φ5 H5 v5 st5 w5 eo f5 s5 r5;subst eo;simp only[A7]at e4;split at e4
     ·rename_i kvs' hw
      cases e4;obtain⟨o5,ws5,g1,g2,g3,g4⟩:=back f5 s5 hw;exact⟨a,o5,ws5,g1,hn,q P5 φ5 _ w5 g2 g3 (r5.mono g4 fun _ _ z=>z)⟩
     ·cases e4
    refine⟨fun i m σ' H'=>m=ws.length-i/\i<=ws.length/\∃P' φ' sl' st',Frm P1 φ1 (ae H1 a (.frz ob (.dK ws))) P' φ' H'/\Sim X.gm P' φ' st' H'/\NO X.gm P' H' φ' sl' σ'/\dq [] g s ((NE.map fun q=>nK q.1).drop i) sl' st'=some o1,
     ⟨_,rfl,Nat.zero_le _,P1,φ1,sl,_,Frm.refl,sw,rsw,by simpa using e3⟩,?_⟩
    rintro i m σ' H' ⟨rfl,hle,P2,φ2,sl2,st2,f2,s2,rs2,eg⟩;have hfz:H' a=some (.frz ob (.dK ws)):=f2.fz a _ _ aw;rcases yT i ws.length with hlt|hge
    ·right
     rw[List.drop_eq_getElem_cons (by rw[hkeys];exact hlt)]at eg;simp only[dq,cg,if_true]at eg;obtain⟨q4,e5,e6⟩:=zA eg;obtain⟨o2,e7,e8⟩:=zA e6;refine⟨⟨hfz,hlt⟩,fun σ' H'=>∃P' φ' sl' st',Frm P1 φ1 (ae H1 a (.frz ob (.dK ws))) P' φ' H'/\Sim X.gm P' φ' st' H'/\NO X.gm P' H' φ' sl' σ'/\dq [] g s ((NE.map fun q=>nK q.1).drop (i+1)) sl' st'=some o1,fun σ' H' z=>⟨_,by lia,rfl,hlt,z⟩,fun x H3 hy=>?_⟩;obtain⟨rfl,hx⟩:=hy;have rx:RA X.gm P2 H3 φ2 ((NE.map fun q=>nK q.1)[i]'(by rw[hkeys];exact hlt)) x:=by
      have hkw:NE[i]?.map (·.1)=ws[i]?.map (·.1):=by rw[<- zR,<- zR,h2.1]
      have hlt':i<NE.length:=by rw[zH]at hkeys;lia
      rw[zR,zF hlt]at hx;rw[zF hlt',zF hlt]at hkw;simp only[map_some,Option.some.injEq]at hx hkw;rw[List.getElem_map,hkw,<- hx];cases ws[i].1 with
      |inl n=>simp only[nK,RA,kV]
      |inr z=>simp only[nK,RA,kV]
     refine⟨P2,φ2,sl2,st2,_,rs2,s2,rx,q4.1,q4.2,e5,fun P4 φ4 H4 σ4 f4 s4 rs4=>⟨P4,φ4,q4.1,q4.2,rs4,s4,o2,e7,?_⟩⟩;have fa:=f2.trans f4;cases o2 with
     |nx sl5 st5=>exact fun P5 φ5 H5 σ5 f5 s5 rs5=>⟨P5,φ5,sl5,st5,fa.trans f5,s5,rs5,e8⟩
     |ct sl5 st5=>exact fun P5 φ5 H5 σ5 f5 s5 rs5=>⟨P5,φ5,sl5,st5,fa.trans f5,s5,rs5,e8⟩
     |bk sl5 st5=>exact fun P5 φ5 H5 σ5 f5 s5 rs5=>endN (yD e8).symm (fa.trans f5) s5 rs5
     |rt v st5=>exact fun P5 φ5 H5 w f5 s5 r5=>endR (yD e8).symm (fa.trans f5) s5 r5
    ·left
     have ei:i=ws.length:=Nat.le_antisymm hle hge;subst ei;rw[<- hkeys,List.drop_length]at eg;simp only[dq,cg,if_true]at eg;exact⟨⟨hfz,zP _⟩,endN (yD eg).symm f2 s2 rs2⟩
   ·cases e2
  ·cases e2
end
noncomputable def ce:Expr->Bool
 |.Starred _ _=>false
 |_=>true
noncomputable def jG:Expr->Bool
 |.Slice _ _ _ _=>false
 |_=>true
noncomputable def Ah:Expr->Bool
 |.Set _ _ _=>false
 |_=>true
noncomputable def oT:Expr->Bool
 |.Call (.Name _ _) [] [] _=>false
 |_=>true
noncomputable def nA:Expr->Bool
 |.ListComp _ _ _ _=>false
 |.SetComp _ _ _ _=>false
 |.DictComp _ _ _ _ _=>false
 |_=>true
noncomputable def qV:Expr->Bool
 |.Tuple _ _ _=>false
 |_=>true
noncomputable def wI:Expr->Bool
 |.UnaryOp .Not _ _=>false
 |.BoolOp _ _ _=>false
 |.IfExp _ _ _ _=>false
 |.Compare _ _ _ _=>false
 |_=>true
section
variable{env:Env}{e o i a b:Expr}{es:List Expr}{pos cpos apos:Pos}{f:Str}
theorem aA(h:ce e=true):starEach (e::es) env=(false,eval e env)::starEach es env:=by
 cases e<;>first|rfl|cases h
theorem iD(h:es.all ce=true):(backTo pos (starEach es env)).any (·.1)=false:=by
 induction es with
 |nil=>rfl
 |cons e es ih =>
  rw[List.all_cons,zC]at h;rw[aA h.1];show(false||(backTo pos (starEach es env)).any (·.1))=false;rw[ih h.2];rfl
theorem yy(h:es.all ce=true):(backTo pos (starEach es env)).all (fun x=>!x.1)=true:=by
 induction es with
 |nil=>rfl
 |cons e es ih =>
  rw[List.all_cons,zC]at h;rw[aA h.1];show(true&&(backTo pos (starEach es env)).all (fun x=>!x.1))=true;rw[ih h.2];rfl
theorem J1(h:es.all ce=true)(hl:es.length<30):((backTo cpos (starEach es env)).all (fun x=>!x.1)&&(backToKw cpos (keywordEach [] env)).all (fun x=>x.1.isSome)&&decide (es.length+([]:List Keyword).length+(if([]:List Keyword).isEmpty then 0 else 1)<30))=true:=by
 rw[yy h];have:decide (es.length+([]:List Keyword).length+(if([]:List Keyword).isEmpty then 0 else 1)<30)=true:=yV (by simpa using hl);rw[this];rfl
theorem fO(w:Sem Value)(h:oT o=true):attributeBase o f env w=w:=by
 unfold attributeBase;split
 ·simp[oT]at h
 ·rfl
theorem tX(hb:oT o=true)(hs:es.all ce=true)(hl:es.length<30)(hline:(apos.endLine==pos.line)=true):eval (.Call (.Attribute o f apos) es [] pos) env=(do
   let ov <- eval o env
   standAt apos.atName
   let(f,first) <- holding [ov] (getMethod ov f (do return (<- importBound o env).getD true))
   callWith pos f first (backTo pos (starEach es env)) (backToKw pos (keywordEach [] env))):=by
 rw[arm_eval_Call,fO _ hb];have hform:methodCallForm (es.length+([]:List Keyword).length) (backTo pos (starEach es env)) (backToKw pos (keywordEach [] env))=true:=J1 hs hl;have hpos:methodCallPos true o env apos pos=pure pos:=by unfold methodCallPos;simp[hline]
 unfold methodCall;rw[hform,hpos];rfl
theorem qD(h:Ah e=true)(x:Value):foldedSetIterable e env x=pure x:=by
 cases e<;>first|rfl|cases h
theorem Iw(h:jG i=true):pw i:=fun _ _=>by
 cases i<;>first|rfl|cases h
theorem Es(h:jG i=true)(v:Value):assign (.Subscript o i pos) env v=(do
   let ov <- holding [v] (eval o env)
   let iv <- holding [v,ov] (eval i env)
   standAt pos
   holding [v,ov,iv] (setItem ov iv v)
   release [v,ov,iv] []):=by
 cases i<;>first|rfl|cases h
theorem GU(h:jG i=true)(ov iv new:Value):augStore i ov iv new=(do holding [new,ov,iv] (setItem ov iv new);release [new,ov,iv] [];pure .next):=by
 cases i<;>first|rfl|cases h
theorem tM{l:Nat}(h:nA e=true):swapsWith e t l env=pure false:=by
 cases e<;>first|rfl|cases h
theorem yp{l:Nat}:swapsWith e (some (.Attribute o f p)) l env=pure false:=by
 cases e<;>rfl
noncomputable def JF(nm:List (Str×NameKind))(t:Str)(tl:Nat)(sc:Scope)(vl:Nat):Bool:=decide (nm.lookup t=some .local)&&(tl==vl)&&!(sc.names.any fun(n,k)=>n==t&&(k==.local||k==.cell))
theorem Ep{l:Nat}(hk:env.scope.kind=.function) :
  swapsWith (.ListComp elt gens sc pos) (some (.Name t p)) l env=pure (JF env.scope.names t p.line sc pos.line):=by
 have hb:env.blockKind=.function:=by unfold Env.blockKind;rw[hk];rfl
 show(pure (env.blockKind==.function&&env.kindOf t==some .local&&p.line==pos.line&&!(sc.names.any fun(n,k)=>n==t&&(k==.local||k==.cell))):Sem Bool)=_;rw[hb];have:(env.kindOf t==some NameKind.local)=decide (env.scope.names.lookup t=some .local):=by
  show(env.scope.names.lookup t==some NameKind.local)=_;cases h:env.scope.names.lookup t with
  |none=>rfl
  |some k=>cases k<;>rfl
 rw[this];rfl
theorem yu:swappedStores [.Subscript a b p] e env=pure none:=by cases e<;>rfl
theorem yt{k:Nat}(h:qV e=true):swappedStores [.Tuple ts k p] e env=pure none:=by cases e<;>first|rfl|cases h
theorem o7(h:ce e=true):(assignEach [e] env).map (·.2)=[assign e env]:=by
 cases e<;>first|rfl|cases h
theorem AD(h:ce e=true):(assignEach (e::es) env).map (·.2)=assign e env::(assignEach es env).map (·.2):=by
 cases e<;>first|rfl|cases h
theorem AE:(assignEach es env).length=es.length:=by
 induction es with
 |nil=>rfl
 | cons e es ih=>cases e <;> (show (assignEach es env).length + 1=es.length + 1;rw [ih])
theorem AG(h:es.all ce=true):(assignEach es env).findIdx? (·.1)=none:=by
 have:∀p∈assignEach es env,p.1=false:=by
  induction es with
  |nil=>intro p hp;cases hp
  |cons e es ih =>
   rw[List.all_cons,zC]at h;have e1:assignEach (e::es) env=(false,assign e env)::assignEach es env:=by
    cases e<;>first|rfl|cases h.1
   rw[e1];intro p hp;rcases zT.mp hp with rfl|hp
   ·rfl
   ·exact ih h.2 p hp
 rw[List.findIdx?_eq_none_iff];intro p hp;rw[this p hp]
theorem tI(h:wI e=true)(whole:Sem Value):isTrue e env whole=(do let v <- whole;standAt e.pos;holding [v] (truthy v)):=by
 cases e with
 |UnaryOp op x p=>cases op<;>first|rfl|cases h
 |BoolOp=>cases h
 |IfExp=>cases h
 |Compare=>cases h
 |_=>rfl
end
noncomputable def Ha(a c:Int)(n:Nat):It:=⟨fun i _=>i<n,fun i H x H'=>H'=H/\x=.int (a+(i:Int)*c),fun i _=>n<=i⟩
theorem DV{P:Program}{w:World}{K:Frag}{tg:Expr}(it:Addr)(a c:Int)(n:Nat):jA P w K tg (Ha a c n) [it] it (fun i h=>IsRangeIter h it (a+(i:Nat)*c) ((n:Int)-(i:Nat)) c) where
 mem:=by simp
 obj:=fun i h st b hb=>by
  obtain rfl:b=it:=by simpa using hb
  exact ⟨_,st,fun v z=>nomatch (show Data.fields _=Data.cell v from z)⟩
 keep:=fun i h h' st k=>k it (by simp) _ st
 item:=by
  intro X hP hw hK hc i ND s σ H E I hf st hg;subst hP hw hK;obtain⟨f0,f1,f2,f3,f4,f5⟩:=hf it (by simp);refine(Walks.range (prog:=X.prog) (w:=X.w) (I.ok.hd hc) it a c n).item i s _ _ hg st fun v h' tk hv st' kk=>?_
  obtain⟨t,rfl⟩:=hv;have I1:Inv X ND σ H { s with heap:=h',toks:=tk }:=I.turned (fun b o hb e=>kk b o (by simpa using hb) e) f0 f1 f3 f4 f5;exact⟨_,rfl,lI (s:={ s with heap:=h',toks:=tk }) (n:="range_iterator") st' rfl rfl dC ⟨.int (a+(i:Int)*c),H,I1,⟨t,rfl⟩,⟨rfl,rfl⟩,st',fun b hb=>(hf b hb).1⟩⟩
 done:=by
  intro X hP hw hK hc i ND s σ H E I hf st hg;subst hP hw hK;obtain⟨f0,f1,f2,f3,f4,f5⟩:=hf it (by simp);exact wpAny_pyNext_range_end (I.ok.hd hc) st (by have:n<=i:=hg;lia) fun h' eb=>⟨rfl,I.turned (t':=s.toks) (fun b o hb e=>eb b o hb e) f0 f1 f3 f4 f5⟩
 self:=fun _ _ _ _ _ st h=>wpAny_pyIter_rangeiter st h
noncomputable def u8(a b c:Int):Bool:=(decide (¬c=0)&&decide (0<=Builtin.Range.rangeSize a b c))&&Nat.ble c.natAbs 1000000&&Builtin.Range.small a b c
noncomputable def iW(a b c:Int):Nat:=(Builtin.Range.rangeSize a b c).toNat
def qH(a b c:Int):List AV:=(List.range (iW a b c)).map fun(i:Nat)=>.int (a+(i:Int)*c)
section
variable{X:Cx}{tg:Expr}{mg:Gm}{P:Pr}{φ:List Addr}{H:Hp}{a b c:Expr}{f g h:EF}{p pos:Pos}
def L1(ta:TA):TI:=fun σ H R=>ta σ H fun vs H1=>∃i j k:Int,vs=[.int i,.int j,.int k]/\u8 i j k=true/\R (Ha i k (iW i j k)) H1
theorem KZ{ta:TA}(hg:Gl X "range")(hm:X.mg "range"=none)(ha:PA X [a,b,c] ta)(hs:starEach [a,b,c] X.env=[(false,eval a X.env),(false,eval b X.env),(false,eval c X.env)])
  (hs2:starEach [b,c] X.env=[(false,eval b X.env),(false,eval c X.env)]):PI X tg (.Call (.Name "range" p) [a,b,c] [] pos) (L1 ta):=by
 intro ND s σ H R I h;refine Call_ (c8 I hg hm boot_range (PyProof.Rows.callWith_type1 (aB (ha pos ND s σ H _ I h) fun us s1 hq0=>?_) (by rw[hs,hs2]) (by rw[hs2];rfl)));obtain⟨vs,H1,I1,r1,i,j,k,e,hb,q⟩:=hq0;subst e;unfold u8 at hb;simp only[zC,yB]at hb;obtain⟨⟨⟨h1,h0⟩,h2⟩,h3⟩:=hb;have h2:=zS h2;obtain⟨u1,us1,rfl,ru1,r2⟩:∃u us',us=u::us'/\RelV (.int i) u/\Vals [.int j,.int k] us':=by cases r1 with|cons r rr=>exact⟨_,_,rfl,r,rr⟩
 obtain⟨u2,us2,rfl,ru2,r3⟩:∃u us',us1=u::us'/\RelV (.int j) u/\Vals [.int k] us':=by cases r2 with|cons r rr=>exact⟨_,_,rfl,r,rr⟩
 obtain⟨u3,us3,rfl,ru3,r4⟩:∃u us',us2=u::us'/\RelV (.int k) u/\Vals [] us':=by cases r3 with|cons r rr=>exact⟨_,_,rfl,r,rr⟩
 cases r4;obtain⟨t1,rfl⟩:=ru1;obtain⟨t2,rfl⟩:=ru2;obtain⟨t3,rfl⟩:=ru3;refine call_range_3 oM ?_ (Or.inl (PyProof.noPylong_small oM));refine wpAny_pyIter_range (IsRange.new ..) h3 ?_;have I2:Inv X ND σ H1 { s1 with heap:=s1.heap.push { cls:=.type "range",data:=.fields #[.int i t1,.int j t2,.int k t3] },toks:=s1.toks }:=I1.kept fun b o e=>zG _ e
 refine⟨(s1.heap.push { cls:=.type "range",data:=.fields #[.int i t1,.int j t2,.int k t3] }).objs.size,[(s1.heap.push { cls:=.type "range",data:=.fields #[.int i t1,.int j t2,.int k t3] }).objs.size],_,_,H1,rfl,I2.kept (t':=s1.toks) fun b o e=>zG _ e,DV _ i k (iW i j k),?_,fun b hb=>?_,q⟩
 ·have e1:i+((0:Nat):Int)*k=i:=by simp
  have e2:((iW i j k:Nat):Int)-((0:Nat):Int)=Builtin.Range.rangeSize i j k:=by unfold iW;lia
  show IsRangeIter _ _ (i+((0:Nat):Int)*k) (((iW i j k:Nat):Int)-((0:Nat):Int)) k;rw[e1,e2];exact zY _ rfl
 ·obtain rfl:b=(s1.heap.push { cls:=.type "range",data:=.fields #[.int i t1,.int j t2,.int k t3] }).objs.size:=by simpa using hb
  exact I2.fpOk (zP _) (I2.NM.fresh (zP _))
theorem Iy[NI]{i k:Int}{j:Int}:sZ mg (Ha i k (iW i j k)) ⟨qH i j k,[]⟩ P φ H where
 go:=fun P2 φ2 H2 st2 m y f s g e=>by
  unfold qH at e;rw[zR]at e;obtain⟨c,e1,e2⟩:=zE.mp e;obtain⟨h1,h2⟩:=zB.mp e1;rw[List.getElem_range]at h2;subst h2 e2;rw[List.length_range]at h1;refine⟨h1,fun w H3 hq=>?_⟩;obtain⟨hH,hw⟩:=hq;subst hH;exact⟨P2,Frm.refl,s,by simp only[RA];exact hw⟩
 stop:=fun P2 φ2 H2 st2 f s g=>by
  show iW i j k<=(qH i j k).length;simp[qH]
theorem LR[NI]{σ:St}{Q:List V->Hp->Prop}{sl:Sl}{st:aa}(rs:NO mg P H φ sl σ)(s:Sim mg P φ st H)
  (hh:∃v st1 u st2 x st3,f sl st=some (v,st1)/\g sl st1=some (u,st2)/\h sl st2=some (x,st3)/\∀P1 φ1 H1 w w' w'',Frm P φ H P1 φ1 H1->Sim mg P1 φ1 st3 H1->RA mg P1 H1 φ1 v w->RA mg P1 H1 φ1 u w'->RA mg P1 H1 φ1 x w''->Q [w,w',w''] H1):rA mg (dz f (dz g (dz h d4))) σ H Q:=by
 obtain⟨v,st1,u,st2,x,st3,e,e',e'',k⟩:=hh;refine⟨P,φ,sl,st,rs,s,[v,u,x],st3,by simp only[dz,d4,e,e',e'',bind_some],fun P1 φ1 H1 ws f1 s1 r1=>?_⟩;simp only[NJ]at r1;obtain⟨w,us,rfl,r,w',us',rfl,r',w'',us'',rfl,r'',rfl⟩:=r1;exact k P1 φ1 H1 w w' w'' f1 s1 r r' r''
def xp(f g h:EF):IF:=fun sl st=>(f sl st).bind fun p=>(g sl p.2).bind fun q=>(h sl q.2).bind fun r=>match p.1,q.1,r.1 with
 |.int i,.int j,.int k=>if u8 i j k=true then some (⟨qH i j k,[]⟩,r.2) else none
 |_,_,_=>none
theorem HD[NI](hg:Gl X "range")(hm:X.mg "range"=none)(ha:QE X a f)(hb:QE X b g)(hc:QE X c h)(hs:starEach [a,b,c] X.env=[(false,eval a X.env),(false,eval b X.env),(false,eval c X.env)])(hs2:starEach [b,c] X.env=[(false,eval b X.env),(false,eval c X.env)])(hs3:starEach [c] X.env=[(false,eval c X.env)]) :
  QI X tg (.Call (.Name "range" p) [a,b,c] [] pos) (xp f g h) :=
 gB (KZ hg hm (cF ha (cF hb (cF hc d8 (by rw[hs3];rfl)) (by rw[hs2,hs3])) (by rw[hs,hs2])) hs hs2) fun σ H R hq=>by
  obtain⟨P,φ,sl,st,rs,s,iv,st',ef,k⟩:=hq;obtain⟨q,e1,e2⟩:=zA ef;obtain⟨r,e3,e4⟩:=zA e2;obtain⟨t,e5,e6⟩:=zA e4;refine LR rs s ⟨q.1,q.2,r.1,r.2,t.1,t.2,e1,e3,e5,fun P1 φ1 H1 w w' w'' f1 s1 r1 r2 r3=>?_⟩;split at e6
  ·rename_i i j m ei ej em
   rw[ei]at r1;rw[ej]at r2;rw[em]at r3;split at e6
   ·rename_i hb
    cases e6;simp only[RA]at r1 r2 r3;subst r1;subst r2;subst r3;exact⟨i,j,m,rfl,hb,k P1 φ1 H1 _ f1 s1 Iy⟩
   ·cases e6
  ·cases e6
end
open PyProof PySem.Calls
section
variable{X:Cx}
def KP:V->List V->Hp->VK->Prop:=fun x vs H Q=>∃(l:Addr)(ns:List Int)(i:Int),x=.ref l/\vs=[.int i]/\H l=some (.lst (ns.map V.int))/\i∈ns/\ns.length<=sizeLine/\Q .non (ae H l (.lst ((ns.map V.int).eraseIdx (ns.idxOf i))))
theorem sR{i:Int}:∀{NH:List Value}{ns:List Int},IntsAre NH ns->∀m (h:m<NH.length),∃h2:m<ns.length,isInt i NH[m]=(ns[m]==i)
 |_,_,.nil,m,h=>nomatch h
 |_,_,.cons n t r,m,h=>by
  cases m with
  |zero=>exact⟨by simp,rfl⟩
  |succ m =>
   obtain⟨h2,e⟩:=sR r m (by simpa using h);exact⟨by simpa using h2,by simpa using e⟩
theorem xo{i:Int}:∀(ns:List Int)(m:Nat)(h:m<ns.length),m<ns.idxOf i->(ns[m]==i)=false
 |[],m,h,_=>nomatch h
 |a::ns,m,h,hl=>by
  rw[List.idxOf_cons]at hl;cases e:a==i with
  |true=>rw[e]at hl;exact absurd hl (Nat.not_lt_zero _)
  |false =>
   rw[e]at hl;have hl:m<ns.idxOf i+1:=hl;cases m with
   |zero=>exact e
   |succ m=>exact xo ns m (by simpa using h) oM
theorem wW:B3 X "list.remove" KP:=by
 intro ND s σ H x vs v us Q I rx rv h;obtain⟨l,ns,i,rfl,rfl,hH,hi,hz,q⟩:=h;cases rx;obtain⟨u,rfl,ru⟩:=rv.one;obtain⟨t,rfl⟩:=ru;obtain⟨z,NH,n,r,hl,e⟩:=I.lstM hH;have ia:IntsAre NH ns:=iq r;rw[zH]at hl;have hk:ns.idxOf i<ns.length:=List.idxOf_lt_length_iff.mpr hi;refine call_meets PySem.F.slot_list_remove ⟨_,e,rfl⟩ PySem.F.entry_list_remove (PySem.F.args_list_remove_2 _ _)
  (MeetsSeq.list_remove l NH.toArray n (.int i t) (isInt i) (fun y hy=>eq_isInt i t ia y (by simpa using hy)) (ns.idxOf i) (by rw[zI];lia) ?_ (fun m hm hlt=>?_) (by rw[zI];lia)) ⟨e,?_⟩
 ·obtain⟨h2,e2⟩:=sR (i:=i) ia (ns.idxOf i) oM
  show isInt i NH[ns.idxOf i]=true;rw[e2,List.getElem_idxOf];simp
 ·have hm':m<NH.length:=by simpa using hm
  obtain⟨h2,e2⟩:=sR (i:=i) ia m hm';show isInt i NH[m]=false;rw[e2];exact xo ns m h2 hlt
 ·refine⟨.non,_,I.lset (its':=NH.eraseIdx (ns.idxOf i)) hH e ?_ (r.eraseIdx _) ?_,rfl,q⟩
  ·show NH.toArray.eraseIdxIfInBounds _=(NH.eraseIdx _).toArray
   rw[List.eraseIdxIfInBounds_toArray]
  ·have:=pJ (ns.map V.int) (ns.idxOf i)
   rw[zH]at this;lia
def rp:MF:=fun x xs st=>match xs with
 |[.int i]=>(fe st x).bind fun c=>(gG c.2).bind fun ns=>if(decide (i∈ns)&&cK ns.length)=true then some (.non,st.set c.1 (.lst (c.2.eraseIdx (ns.idxOf i)))) else none
 |_=>none
theorem Bq[NI]:lb X "list.remove" (rM X.gm rp):=j7 wW fun x vs H Q hq0=>by
 obtain⟨P,φ,st,a,xs,s,r,rr,v,st',e,kk⟩:=hq0;unfold rp at e;split at e
 ·rename_i i
  obtain⟨c,e1,e2⟩:=zA e;obtain⟨ns,e3,e4⟩:=zA e2;split at e4
  ·rename_i hc
   cases e4;rw[zC]at hc;obtain⟨b,us,rfl,ea,na,h1,h2⟩:=jh s r e1;obtain⟨w,rfl,r1⟩:=rr.one;simp only[RA]at r1;subst r1;have ex:=pM e3;rw[ex]at h2 kk;have eu:=h2.ints;subst eu;obtain⟨f3,s3,_⟩:=lq s ea na ⟨_,h1⟩ (h2.erase (ns.idxOf i));exact⟨b,ns,i,rfl,rfl,h1,of_decide_eq_true hc.1,iC hc.2,kk P φ _ _ f3 s3 (by simp only[RA])⟩
  ·cases e4
 ·cases e
end
set_option genInjectivity false
set_option genSizeOf false
set_option genSizeOfSpec false
inductive Bi where
 |len|sum|abs|min|max|int
inductive Mi where
 |app|pop|ext|cnt|rem
mutual
inductive Ex where
 |n|b (x:Bool)|i (x:Int)|s (x:Str)|v (k:Nat)|g (x:Str) (c:AV)|bin (o:Operator) (a b:Ex)|cmp (o:CmpOp) (a b:Ex)|un (o:UnaryOp) (a:Ex)|no (a:Ex)|an (a b:Ex)|or (a b:Ex)|ife (t:Tx) (a b:Ex)|ix (a b:Ex)|tu (es:Exs)|nw (m:Bool) (x:Nx)|ca (p:Bool) (j:Nat) (es:Exs)|me (c m:Str) (j:Nat) (o:Ex) (es:Exs)|ne (c:Str) (j:Nat) (es:Exs)|fd (c f:Str) (o:Ex)|bi (b:Bi) (es:Exs)|is (T:String) (a:Ex)|mt (m:Mi) (o:Ex) (es:Exs)|dn|mnd (a:Ex)|mnk (a key:Ex)
inductive Tx where
 |va (e:Ex)|cmp (o:CmpOp) (a b:Ex)|no (t:Tx)|an (t u:Tx)|or (t u:Tx)
inductive Exs where
 |nil|cons (e:Ex) (es:Exs)
inductive Nx where
 |li (es:Exs)|cat (a b:Ex)|rep (es:Exs) (b:Ex)|sl (a:Ex) (l h:Ox)|lof (a:Ex)|lc (k:Nat) (it:Ix) (t:Tg) (c:Cx') (e:Ex)|lr1 (a:Ex)|lr2 (a b:Ex)
inductive Ox where
 |no|so (e:Ex)
inductive Cx' where
 |no|so (t:Tx)
inductive Ix where
 |e (a:Ex)|r1 (a:Ex)|r2 (a b:Ex)|zi (a b:Ex)|en (a:Ex)|es (a b:Ex)|r3 (a b c:Ex)
inductive Tg where
 |nm (k:Nat)|tu (n:Nat) (ts:Tgs)|su (a b:Ex)
inductive Tgs where
 |nil|cons (t:Tg) (ts:Tgs)
end
mutual
inductive Sx where
 |ex (e:Ex)|as (e:Ex) (t:Tg)|aus (o:Operator) (a b e:Ex)|fl (c f:Str) (o e:Ex)|rt (e:Ex)|iff (t:Tx) (a b:NQ)|fo (it:Ix) (t:Tg) (b:NQ)|wh (t:Tx) (b:NQ)|dead|fd (a:Ex) (t:Tg) (b:NQ)
inductive NQ where
 |nil|cons (s:Sx) (ss:NQ)|dead
end
def ou:Bi->BF
 |.len=>bN de
 |.sum=>bN qA
 |.abs=>bN pv
 |.min=>bN qZ
 |.max=>bN oV
 |.int=>bN oZ
def nD:Mi->MF
 |.app=>oW
 |.pop=>vv
 |.ext=>vw
 |.cnt=>Am
 |.rem=>rp
noncomputable def nE:Mi->String
 |_=>"list"
def kf(ks:List Fn)(j:Nat):Fn:=ks.getD j fun _ _=>none
def ki(p:Bool)(fn:Fn):Fn:=if p=true then pm fn else fn
section
variable(ks:List Fn)
mutual
noncomputable def ev:Ex->EF
 |.n=>aC .non
 |.b x=>aC (.bl x)
 |.i x=>aC (.int x)
 |.s x=>aC (.str x)
 |.v k=>aV k
 |.g _ c=>aC c
 |.bin o a b=>a2 (ev a) (ev b) (kF (aY o))
 |.cmp o a b=>a2 (ev a) (ev b) (kF (mW o))
 |.un o a=>a1 (ev a) (Ey (kE o))
 |.no a=>J8 (ev a)
 |.an a b=>BU (ev a) (ev b)
 |.or a b=>BQ (ev a) (ev b)
 |.ife t a b=>Ka (tv t) (ev a) (ev b)
 |.ix a b=>a2 (ev a) (ev b) (kF aZ)
 |.tu es=>J7 (eB es)
 |.nw m x=>BR m (jb x)
 |.ca p j es=>BT (ki p (kf ks j)) (eB es)
 |.me c m j o es=>BS c m (kf ks j) (ev o) (eB es)
 |.ne c j es=>xQ c (kf ks j) (eB es)
 |.fd c f o=>Kb c f (ev o)
 |.bi b es=>sU (ou b) (eB es)
 |.is T a=>J9 T (ev a)
 |.mt m o es=>kB (nE m) (nD m) (ev o) (eB es)
 |.dn=>Kc false
 |.mnd a=>sU (bN nB) (dz (ev a) d4)
 |.mnk a key=>qu (ev a) (ev key)
noncomputable def tv:Tx->TF
 |.va e=>tV (ev e)
 |.cmp o a b=>Eo (ev a) (ev b) o
 |.no a=>JC (tv a)
 |.an a b=>JE (tv a) (tv b)
 |.or a b=>Ej (tv a) (tv b)
noncomputable def eB:Exs->AF
 |.nil=>d4
 |.cons e es=>dz (ev e) (eB es)
noncomputable def jb:Nx->NF
 |.li es=>JO (eB es)
 |.cat a b=>vm (ev a) (ev b)
 |.rep es b=>vj (eB es) (ev b)
 |.sl a l h=>qW (ev a) (sA l) (sA h)
 |.lof a=>mP (ev a)
 |.lc k it t c e=>Bn k (dR it) (cj t) (jd c) (ev e)
 |.lr1 a=>oU (ev a)
 |.lr2 a b=>vk (ev a) (ev b)
noncomputable def sA:Ox->OF
 |.no=>JN
 |.so e=>qR (ev e)
noncomputable def jd:Cx'->TF
 |.no=>JA
 |.so e=>tv e
noncomputable def dR:Ix->IF
 |.e a=>iE (ev a)
 |.r1 a=>Bw (ev a)
 |.r2 a b=>Bv (ev a) (ev b)
 |.zi a b=>iZ (ev a) (ev b)
 |.en a=>JW (ev a)
 |.es a b=>vH (ev a) (ev b)
 |.r3 a b c=>xp (ev a) (ev b) (ev c)
noncomputable def cj:Tg->GF
 |.nm k=>xw k
 |.tu n ts=>xu n (jx ts)
 |.su a b=>JX (ev a) (ev b)
noncomputable def jx:Tgs->td
 |.nil=>Gn
 |.cons t ts=>Gp (cj t) (jx ts)
end
mutual
noncomputable def ci:Sx->SF
 |.ex e=>JL (ev ks e)
 |.as e t=>wy (ev ks e) (cj ks t)
 |.aus o a b e=>u7 o (ev ks a) (ev ks b) (ev ks e)
 |.fl c f o e=>wx c f (ev ks o) (ev ks e)
 |.rt e=>JH (ev ks e)
 |.iff t a b=>JJ (tv ks t) (af a) (af b)
 |.fo it t b=>JK (dR ks it) (cj ks t) (af b)
 |.wh t b=>lZ (tv ks t) (af b)
 |.dead=>EA
 |.fd a t b=>u6 (ev ks a) (cj ks t) (af b)
noncomputable def af:NQ->SF
 |.nil=>JI
 |.cons s ss=>JG (ci s) (af ss)
 |.dead=>EA
end
end
inductive Ke where
 |f (x:Str) (n:Nat)|m (c m:Str) (n:Nat)|k (c:Str) (n:Nat)
structure SC where
 N:List Str
 nm:List (Str×NameKind)
 cf:List Str
 ke:List Ke
 gs:List (Str×AV)
 cl:List (Str×List Str)
 la:List Pos
 cn:List Str
 hs:List Nat
 ck:Bool
noncomputable def kd(C:SC)(x:Str):Option NameKind:=C.nm.lookup x
def ye(C:SC)(x:Str):Bool:=match kd C x with
 |some .local=>true
 |some .cell=>true
 |some .free=>true
 |_=>false
def An(C:SC)(x:Str):Bool:=match kd C x with
 |some .local=>true
 |some .cell=>C.cf.contains x
 |_=>false
noncomputable def BH(x:Str):Bool:=!(x==("__debug__":Str))&&!(x==("__classdict__":Str))
def ik(C:SC)(x:Str):Bool:=(match kd C x with
 |some .globalImplicit=>true
 |_=>false)&&BH x
noncomputable def JT(C:SC)(j:Nat)(x:Str)(n:Nat):Bool:=match C.ke[j]? with
 |some (.f y m)=>y==x&&m==n
 |_=>false
noncomputable def JR(C:SC)(j:Nat)(c m:Str)(n:Nat):Bool:=match C.ke[j]? with
 |some (.m c' m' k)=>c'==c&&m'==m&&k==n
 |_=>false
noncomputable def JS(C:SC)(j:Nat)(c:Str)(n:Nat):Bool:=match C.ke[j]? with
 |some (.k c' k)=>c'==c&&k==n
 |_=>false
noncomputable def bnames:List Str:=["len","sum","all","any","abs","min","max","int","tuple","range","zip","enumerate","list","isinstance","bool","str","sorted"]
noncomputable def GQ:List (Str×Bi):=[("len",.len)
 ,("sum",.sum)
 ,("abs",.abs)
 ,("min",.min)
 ,("max",.max)
 ,("int",.int)
 ]
noncomputable def FR:List (Str×Mi):=[("append",.app)
 ,("pop",.pop)
 ,("extend",.ext)
 ,("count",.cnt)
 ,("remove",.rem)
 ]
noncomputable def Bi.nm:Bi->Str
 |.len=>"len"
 |.sum=>"sum"
 |.abs=>"abs"
 |.min=>"min"
 |.max=>"max"
 |.int=>"int"
noncomputable def Mi.nm:Mi->Str
 |.app=>"append"
 |.pop=>"pop"
 |.ext=>"extend"
 |.cnt=>"count"
 |.rem=>"remove"
noncomputable def DT:List (Str×String):=[("int","int"),("bool","bool"),("list","list"),("tuple","tuple"),("str","str")]
noncomputable def Ae(sc:Scope):List Str:=(sc.names.filter fun p=>(match p.2 with|.local=>true|.cell=>true|_=>false)&&!(p.1==(".0":Str))).map (·.1)
noncomputable def rP(sc:Scope)(x:Str):Bool:=match sc.names.lookup x with
 |some .free=>true
 |_=>false
noncomputable def Gj(k:Bool)(x:Str):Str:=match k with
 |true=>x++("!":Str)
 |false=>""
def eD(C:SC)(sc:Scope):List Str:=(C.N.map fun x=>if rP sc x=true then x else Gj C.ck x)++Ae sc
noncomputable def JY:NameKind->Bool
 |.free=>true
 |_=>false
noncomputable def BJ:Option NameKind->Bool
 |some .cell=>true
 |_=>false
noncomputable def tE{α:Type}(k:Bool)(x:List α):List α:=match k with
 |true=>x
 |false=>[]
@[reducible] def blk(C:SC)(sc:Scope):SC:={ C with N:=eD C sc,nm:=tE C.ck (sc.names.map fun p=>if(JY p.2&&BJ (kd C p.1))=true then(p.1,.cell) else(p.1,p.2)),cf:=tE C.ck ((sc.names.filter fun p=>BJ (some p.2)).map (·.1)),la:=[] }
def sO(C:SC)(sc:Scope):Bool :=
 (match sc.kind with|.function=>true|_=>false)&&decide (sc.names.map (·.1)).Nodup&&decide (eD C sc).Nodup &&
 (sc.names.all fun p=>match p.2 with|.free=>(match kd C p.1 with|some .cell=>true|some .free=>true|_=>false)|_=>true) &&
 ((List.range C.N.length).all fun i=>match (eD C sc)[i]? with
  |some x=>(match sc.names.lookup x with
   |some .free=>decide (C.N[i]?=some x)
   |some _=>false
   |none=>true)
  |none=>false)
mutual
noncomputable def oQ(n:Nat):Tg->Bool
 |.nm k=>Nat.ble n k
 |.tu _ ts=>qb n ts
 |.su _ _=>false
noncomputable def qb(n:Nat):Tgs->Bool
 |.nil=>true
 |.cons t ts=>oQ n t&&qb n ts
end
@[reducible] def F6(C:SC)(sc:Scope):SC:={ C with N:=eD C sc,nm:=tE C.ck sc.names,cf:=[],ke:=[],la:=[] }
noncomputable def LZ(C:SC)(p:Pos):Bool:=C.la.any fun q=>q.line==p.line&&q.col==p.col&&q.endLine==p.endLine&&q.endCol==p.endCol
def At(C:SC)(sc:Scope)(ps:Arguments):Bool:=sO C sc&&!sc.isCoroutine&&!sc.isGenerator&&plainA ps&&ps.defaults.isEmpty&&ps.kw_defaults.isEmpty &&
 (match Ae sc,ps.args.map (·.arg) with
  |[x],[y]=>x==y&&(match sc.names.lookup x with|some .local=>true|_=>false)
  |_,_=>false)&&sc.names.all fun p=>!(BJ (some p.2))
noncomputable def lB:Ex->Bool
 |.v _=>true
 |.i _=>true
 |.ix a b=>lB a&&lB b
 |.fd _ _ o=>lB o
 |_=>false
theorem l8{P:Prop}(h:false=true):P:=nomatch h
theorem bt{α:Type}{P:Prop}{m:α}(h:none=some m):P:=nomatch h
theorem c9{a b:Bool}{P:Prop}(h:(a&&b)=true)(H:a=true->b=true->P):P:=by cases a;exact l8 h;exact H rfl h
theorem jR{a b c:Bool}{P:Prop}(h:(a&&b&&c)=true)(H:a=true->b=true->c=true->P):P:=c9 h fun x y=>c9 x fun h0 h1=>H h0 h1 y
theorem p4{a b c d:Bool}{P:Prop}(h:(a&&b&&c&&d)=true)(H:a=true->b=true->c=true->d=true->P):P:=c9 h fun x y=>jR x fun h0 h1 h2=>H h0 h1 h2 y
section
variable{α β γ δ ε:Type}
noncomputable def gu(k c:Bool)(x:Option α):Option α:=match k with
 |false=>x
 |true=>if c=true then x else none
noncomputable def m2(f:α->β->γ)(x:Option α)(y:Option β):Option γ:=x.bind fun a=>y.map (f a)
def m3(f:α->β->γ->δ)(x:Option α)(y:Option β)(z:Option γ):Option δ:=x.bind fun a=>m2 (f a) y z
theorem aJ{k c:Bool}{x:Option α}{m:α}{P:Prop}(hk:k=true)(h:gu k c x=some m)(H:c=true->x=some m->P):P:=by
 subst hk;cases c
 ·exact bt h
 ·exact H rfl h
@[elab_as_elim] theorem b0{f:α->β}{x:Option α}{m:β}{P:β->Prop}(h:x.map f=some m)(H:∀a,x=some a->P (f a)):P m:=by
 cases x with
 |none=>exact bt h
 |some a=>cases h;exact H a rfl
@[elab_as_elim] theorem bS{f:α->β->γ}{x:Option α}{y:Option β}{m:γ}{P:γ->Prop}(h:m2 f x y=some m)(H:∀a b,x=some a->y=some b->P (f a b)):P m:=by
 cases x with
 |none=>exact bt h
 |some a=>exact b0 h fun b hb=>H a b rfl hb
@[elab_as_elim] theorem jX{f:α->β->γ->δ}{x:Option α}{y:Option β}{z:Option γ}{m:δ}{P:δ->Prop}(h:m3 f x y z=some m)(H:∀a b c,x=some a->y=some b->z=some c->P (f a b c)):P m:=by
 cases x with
 |none=>exact bt h
 |some a=>exact bS h fun b c hb hc=>H a b c rfl hb hc
theorem ff{x:Option α}{f:α->Option β}{m:β}{P:Prop}(h:x.bind f=some m)(H:∀a,x=some a->f a=some m->P):P:=by
 cases x with
 |none=>exact bt h
 |some a=>exact H a rfl h
noncomputable def at_(x:Str):List Str->Nat->Option Nat
 |[],_=>none
 |y::l,k=>if(y==x)=true then some k else at_ x l (k+1)
theorem BO{x:Str}:∀{l:List Str}{k j:Nat},at_ x l k=some j->∃i,j=k+i/\l[i]?=some x
 |[],_,_,h=>bt h
 |y::l,k,j,h=>by
  unfold at_ at h;split at h
  ·rename_i e;cases h;exact⟨0,rfl,by rw[yJ e];rfl⟩
  ·obtain⟨i,e1,e2⟩:=BO h
   exact⟨i+1,by lia,e2⟩
theorem GV{x:Str}{l:List Str}{j:Nat}(h:at_ x l 0=some j):l[j]?=some x:=by
 obtain⟨i,e,h⟩:=BO h;rw[e,Nat.zero_add];exact h
noncomputable def lk(x:Str):List (Str×α)->Option α
 |[]=>none
 |p::l=>if(p.1==x)=true then some p.2 else lk x l
theorem nJ{x:Str}{v:α}:∀{l:List (Str×α)},lk x l=some v->(x,v)∈l
 |[],h=>bt h
 |p::l,h=>by
  unfold lk at h;split at h
  ·rename_i e;cases h;rw[<- yJ e];exact z7
  ·exact zQ _ (nJ h)
def sI(f:Str):List (Str×List Str)->Option Str
 |[]=>none
 |p::l=>match at_ f p.2 0 with
  |some _=>some p.1
  |none=>sI f l
theorem xI{f c:Str}:∀{l:List (Str×List Str)},sI f l=some c->∃fs,(c,fs)∈l/\f∈fs
 |[],h=>bt h
 |p::l,h=>by
  unfold sI at h;split at h
  ·rename_i e;cases h;exact⟨p.2,z7,zW (GV e)⟩
  ·obtain⟨fs,h1,h2⟩:=xI h
   exact⟨fs,zQ _ h1,h2⟩
noncomputable def Ak(n:Nat):List Nat->Bool
 |[]=>false
 |m::l=>(m==n)||Ak n l
def hB(C:SC)(p:Pos)(k:Nat):Bool:=Ak (((p.line*1000+p.col)*1000+p.endCol)*8+k) C.hs
end
noncomputable def nmO:Expr->Option Str
 |.Name x _=>some x
 |_=>none
theorem qT{e:Expr}(h:nmO e=some x):∃p,e=.Name x p:=by
 cases e with
 |Name y p=>cases h;exact⟨p,rfl⟩
 |_=>exact bt h
noncomputable def lsO:Expr->Option (List Expr)
 |.List es _=>some es
 |_=>none
theorem F1{e:Expr}(h:lsO e=some es):∃p,e=.List es p:=by
 cases e with
 |List y p=>cases h;exact⟨p,rfl⟩
 |_=>exact bt h
noncomputable def cN:Expr->Bool
 |.Constant .none _ _=>true
 |_=>false
theorem BK{e:Expr}(h:cN e=true):∃a p,e=.Constant .none a p:=by
 cases e with
 |Constant c a p=>cases c with
  |none=>exact⟨a,p,rfl⟩
  |_=>exact l8 h
 |_=>exact l8 h
noncomputable def kX:Const->Option Ex
 |.none=>some .n
 |.bool b=>some (.b b)
 |.int i=>some (.i i)
 |.str s=>some (.s s)
 |_=>none
structure Tr where
 E:SC->Expr->Option Ex
 T:SC->Expr->Option Tx
 G:SC->Expr->Option Tg
 S:SC->Stmt->Option Sx
def A5(C:SC)(x:Str):Option Ex:=match at_ x C.N 0 with
 |some k=>gu C.ck (ye C x&&BH x) (some (.v k))
 |none=>(lk x C.gs).bind fun c=>gu C.ck (ik C x&&(pE c).isSome) (some (.g x c))
section
variable(r:Tr)(C:SC)
def kg:List Expr->Option Exs
 |[]=>some .nil
 |e::es=>gu C.ck (ce e) (m2 .cons (r.E C e) (kg es))
noncomputable def trO:Option Expr->Option Ox
 |none=>some .no
 |some e=>(r.E C e).map .so
def uH:List Expr->Option Tgs
 |[]=>some .nil
 |e::es=>gu C.ck (ce e) (m2 .cons (r.G C e) (uH es))
def m7:List Stmt->Option NQ
 |[]=>some .nil
 |s::ss=>m2 .cons (r.S C s) (m7 ss)
noncomputable def J6:BoolOp->Ex->Ex->Ex
 |.And=>.an
 |.Or=>.or
noncomputable def J5:BoolOp->Tx->Tx->Tx
 |.And=>.an
 |.Or=>.or
def uQ(o:BoolOp):List Expr->Option Ex
 |[]=>none
 |[x]=>r.E C x
 |x::y::es=>m2 (J6 o) (r.E C x) (uQ o (y::es))
def uJ(o:BoolOp):List Expr->Option Tx
 |[]=>none
 |[x]=>r.T C x
 |x::y::es=>m2 (J5 o) (r.T C x) (uJ o (y::es))
noncomputable def trC:List Expr->Option Cx'
 |[]=>some .no
 |[e]=>(r.T C e).map .so
 |_=>none
def trR(es:List Expr):Option Ix:=match es with
 |[a]=>(r.E C a).map .r1
 |[a,b]=>m2 .r2 (r.E C a) (r.E C b)
 |[a,b,c]=>m3 .r3 (r.E C a) (r.E C b) (r.E C c)
 |_=>none
def trZ(es:List Expr):Option Ix:=match es with
 |[a,b]=>m2 .zi (r.E C a) (r.E C b)
 |_=>none
def trEn(a:Expr)(kws:List Keyword):Option Ix:=match kws with
 |[]=>(r.E C a).map .en
 |[⟨some y,b,_⟩]=>gu C.ck (y==("start":Str)) (m2 .es (r.E C a) (r.E C b))
 |_=>none
def trIc(t e:Expr)(es:List Expr)(kws:List Keyword)(o:Option Str):Option Ix:=match o with
 |some x =>
  if(x==("range":Str))=true then gu C.ck (ik C "range"&&kws.isEmpty&&es.all ce) (trR r C es)
  else if(x==("zip":Str))=true then gu C.ck (ik C "zip"&&kws.isEmpty&&es.all ce&&!qV t) (trZ r C es)
  else if(x==("enumerate":Str))=true then gu C.ck (ik C "enumerate"&&es.all ce&&!qV t) (match es with
   |[a]=>trEn r C a kws
   |_=>none)
  else(r.E C e).map .e
 |none=>(r.E C e).map .e
def trI(t e:Expr):Option Ix:=match e with
 |.Call f es kws _=>trIc r C t e es kws (nmO f)
 |_=>(r.E C e).map .e
def trL(elt:Expr)(gens:List Comprehension)(sc:Scope):Option Nx:=match gens with
 |[⟨t,it,cs,i⟩]=>gu C.ck (sO C sc&&(i==0)&&Ah it) ((trI r C t it).bind fun x=>(r.G (blk C sc) t).bind fun g=>gu C.ck (oQ C.N.length g) (m2 (.lc ((eD C sc).length-C.N.length) x g) (trC r (blk C sc) cs) (r.E (blk C sc) elt)))
 |_=>none
def trLr(p:Pos)(es:List Expr):Option Ex:=match es with
 |[a]=>(r.E C a).map fun a=>.nw (hB C p 0) (.lr1 a)
 |[a,b]=>m2 (fun a b=>.nw (hB C p 0) (.lr2 a b)) (r.E C a) (r.E C b)
 |_=>none
def trLf(p:Pos)(a:Expr):Option Ex:=match a with
 |.Call f es kws _=>gu C.ck ((match nmO f with|some y=>y==("range":Str)|none=>false)&&kws.isEmpty&&ik C "range"&&es.all ce) (trLr r C p es)
 |a=>(r.E C a).map fun a=>.nw (hB C p 0) (.lof a)
def trF1(x:Str)(p:Pos)(es:List Expr):Option Ex:=match es with
 |[a] =>
  gu C.ck (x==("list":Str)&&ik C "list"&&ce a) (trLf r C p a)
 |[a,b]=>gu C.ck (x==("isinstance":Str)&&ik C "isinstance"&&ce a) ((nmO b).bind fun y=>(lk y DT).bind fun T=>gu C.ck (ik C y) ((r.E C a).map (.is T)))
 |_=>none
def ym(x:Str)(es:List Expr)(p:Pos)(j:Nat)(o:Option (List Str)):Option Ex:=match o with
 |some _=>gu C.ck (JS C j x (es.length+1)&&ik C x&&!es.isEmpty&&es.all ce) ((kg r C es).map (.ne x j))
 |_=>gu C.ck (JT C j x es.length&&ik C x&&es.all ce) ((kg r C es).map (.ca (!hB C p 6) j))
def yn(x:Str)(es:List Expr)(p:Pos)(o:Option Bi):Option Ex:=match o with
 |some b=>gu C.ck (ik C x&&!es.isEmpty&&es.all ce) ((kg r C es).map (.bi b))
 |none=>trF1 r C x p es
def A6(x:Str)(es:List Expr)(p:Pos):Option Ex:=match at_ x C.cn 0 with
 |some j=>ym r C x es p j (lk x C.cl)
 |none=>yn r C x es p (lk x GQ)
def trK(x:Str)(es:List Expr)(kws:List Keyword):Option Ex:=match es with
 |[a]=>(match kws with
  |[⟨some y,d,_⟩]=>gu C.ck (x==("min":Str)&&y==("default":Str)&&cN d&&(ik C "min"&&ce a)) ((r.E C a).map .mnd)
  |[⟨some y,.Lambda ps body sc lp,_⟩,⟨some z,d,_⟩]=>gu C.ck (x==("min":Str)&&y==("key":Str)&&z==("default":Str)&&(cN d&&ik C "min"&&ce a&&(LZ C lp&&At C sc ps))) ((r.E C a).bind fun a=>(r.E (F6 C sc) body).bind fun b=>gu C.ck (lB b) (some (.mnk a b)))
  |_=>none)
 |_=>none
noncomputable def miA(q:Mi)(es:List Expr):Mi:=match q,es with
 |q,_=>q
def Ea(o:Expr)(m:Str)(ap:Pos)(es:List Expr)(p:Pos):Option Ex:=gu C.ck (es.all ce&&Nat.blt es.length 30&&oT o&&(ap.endLine==p.line)) (match at_ m C.cn 0 with
 |some j=>C.cl.head?.bind fun q=>gu C.ck (JR C j q.1 m (es.length+1)) (m2 (.me q.1 m j) (r.E C o) (kg r C es))
 |none=>(lk m FR).bind fun q=>m2 (.mt (miA q es)) (r.E C o) (kg r C es))
def trSl(a:Expr)(l h st:Option Expr)(p:Pos):Option Ex:=match st with
 |none =>
  m3 (fun a l h=>.nw (hB C p 0) (.sl a l h)) (r.E C a) (trO r C l) (trO r C h)
 |some _=>none
def trCe(a:Expr)(os:List CmpOp)(bs:List Expr):Option Ex:=match os with
 |[o]=>(match bs with
  |[b]=>gu C.ck (lF o b) (m2 (.cmp o) (r.E C a) (r.E C b))
  |_=>none)
 |_=>none
def trCt(a:Expr)(os:List CmpOp)(bs:List Expr):Option Tx:=match os with
 |[o]=>(match bs with
  |[b]=>gu C.ck (lF o b) (m2 (.cmp o) (r.E C a) (r.E C b))
  |_=>none)
 |_=>none
def trE(e:Expr):Option Ex:=match e with
 |.Constant k _ _=>kX k
 |.Name x _=>A5 C x
 |.BinOp a o b p =>
  if hB C p 1=true then gu C.ck (decide (o=.Add)) (m2 (fun x y=>.nw (hB C p 0) (.cat x y)) (r.E C a) (r.E C b)) else
  (match lsO a with
  |some es=>gu C.ck (decide (o=.Mult)) (m2 (fun x y=>.nw (hB C p 0) (.rep x y)) (kg r C es) (r.E C b))
  |none=>m2 (.bin o) (r.E C a) (r.E C b))
 |.Compare a os bs _=>trCe r C a os bs
 |.UnaryOp o a _=>(match o with
  |.Not=>(r.E C a).map .no
  |o=>(r.E C a).map (.un o))
 |.BoolOp o es _=>uQ r C o es
 |.IfExp t a b _=>m3 .ife (r.T C t) (r.E C a) (r.E C b)
 |.Subscript a i p=>(match i with
  |.Slice l h st _=>trSl r C a l h st p
  |i=>gu C.ck (jG i) (m2 .ix (r.E C a) (r.E C i)))
 |.Tuple es _ _=>(kg r C es).map .tu
 |.List es p=>(kg r C es).map fun x=>.nw (hB C p 0) (.li x)
 |.ListComp elt gens sc p=>(trL r C elt gens sc).map fun x=>.nw (hB C p 0) x
 |.Dict ks vs _=>gu C.ck (ks.isEmpty&&vs.isEmpty) (some .dn)
 |.Attribute o f _=>(sI f C.cl).bind fun c=>gu C.ck (oT o) ((r.E C o).map (.fd c f))
 |.Call f es kws p=>(match f with
  |.Name x _=>(match kws with
   |[]=>A6 r C x es p
   |kws=>trK r C x es kws)
  |.Attribute o m ap=>gu C.ck kws.isEmpty (Ea r C o m ap es p)
  |_=>none)
 |_=>none
def trT(e:Expr):Option Tx:=match e with
 |.UnaryOp o a p=>(match o with
  |.Not=>(r.T C a).map .no
  |o=>(r.E C (.UnaryOp o a p)).map .va)
 |.BoolOp o es _=>uJ r C o es
 |.Compare a os bs _=>trCt r C a os bs
 |e=>gu C.ck (wI e) ((r.E C e).map .va)
def oK(x:Str):Option Tg:=(at_ x C.N 0).bind fun k=>gu C.ck (An C x&&BH x) (some (.nm k))
def trG(e:Expr):Option Tg:=match e with
 |.Name x _=>oK C x
 |.Tuple es _ _=>gu C.ck (es.all ce) ((uH r C es).map (.tu es.length))
 |.Subscript a b _=>gu C.ck (jG b) (m2 .su (r.E C a) (r.E C b))
 |_=>none
def F3(C:SC)(x:Str):Bool:=match kd C x with
 |some .local=>true
 |_=>false
def LY(C:SC):Expr->Bool
 |.Name x _=>!F3 C x
 |_=>true
noncomputable def J4:Expr->Bool
 |.Constant ..=>true
 |_=>false
def yk(ts vs:List Expr)(k kq:Nat)(p q:Pos):Option Sx:=gu C.ck (vs.all J4||ts.any (LY C)) (m2 .as (r.E C (.Tuple vs kq q)) (r.G C (.Tuple ts k p)))
def trAn(x:Str)(v:Expr):Option Sx:=match v with
 |.ListComp elt gens sc q=>m2 .as ((trL r C elt gens sc).map fun x=>.nw (hB C q 0) x) (oK C x)
 |v=>gu C.ck (nA v) (m2 .as (r.E C v) (oK C x))
def trAs(t v:Expr):Option Sx:=match t with
 |.Attribute o f _=>(sI f C.cl).bind fun c=>m2 (.fl c f) (r.E C o) (r.E C v)
 |.Name x _=>trAn r C x v
 |.Subscript a b p=>m2 .as (r.E C v) (r.G C (.Subscript a b p))
 |.Tuple ts k p=>(match v with
  |.Tuple vs kq q=>yk r C ts vs k kq p q
  |v=>gu C.ck (qV v&&nA v) (m2 .as (r.E C v) (r.G C (.Tuple ts k p))))
 |_=>none
def trS(s:Stmt):Option Sx:=match s with
 |.Expr e _=>gu C.ck (nA e) ((r.E C e).map .ex)
 |.Assign ts v _=>(match ts with
  |[t]=>trAs r C t v
  |_=>none)
 |.AugAssign t o v _=>(match t with
  |.Subscript a b _=>gu C.ck (jG b) (m3 (.aus o) (r.E C a) (r.E C b) (r.E C v))
  |_=>none)
 |.Return e _=>(match e with
  |none=>none
  |some e=>(r.E C e).map .rt)
 |.If t a b _=>m3 .iff (r.T C t) (m7 r C a) (m7 r C b)
 |.For t it b els p=>gu C.ck (els.isEmpty&&Ah it) (
  if hB C p 4=true then m3 .fd (r.E C it) (r.G C t) (m7 r C b) else
  m3 .fo (trI r C t it) (r.G C t) (m7 r C b))
 |.While t b els _=>gu C.ck els.isEmpty (m2 .wh (r.T C t) (m7 r C b))
 |.Raise _ _ _=>some .dead
 |_=>none
end
theorem Gk{α:Type}{c:Bool}{x:Option α}:gu false c x=x:=rfl
theorem Df{a b:String}(h:Str.ofString a=Str.ofString b):a=b:=by
 rw[Str.ofString_eq_byList]at h;have h:=congrArg (fun x=>x.cps.toList) h;exact String.toList_inj.mp (List.map_inj_right (fun x y e=>Char.toNat_inj.mp e) |>.mp h)
theorem FG{a b:String}:(Str.ofString a==Str.ofString b)=decide (a=b):=by
 by_cases h:a=b
 ·subst h;simp
 ·rw[z9 h]
  exact beq_eq_false_iff_ne.mpr fun e=>h (Df e)
def tr:Nat->Tr
 |0=>⟨fun _ _=>none,fun _ _=>none,fun _ _=>none,fun _ _=>none⟩
 |n+1=>⟨trE (tr n),trT (tr n),trG (tr n),trS (tr n)⟩
section
variable{n:Nat}
theorem Kr:(tr (n+1)).E=trE (tr n):=rfl
theorem Ko:(tr (n+1)).T=trT (tr n):=rfl
theorem Kq:(tr (n+1)).G=trG (tr n):=rfl
theorem Kp:(tr (n+1)).S=trS (tr n):=rfl
end
theorem uS:type_of% @trS.eq_def:=@trS.eq_def
theorem uE:type_of% @trE.eq_def:=@trE.eq_def
theorem uT:type_of% @trT.eq_def:=@trT.eq_def
theorem uG:type_of% @trG.eq_def:=@trG.eq_def
theorem LH:type_of% @trAs.eq_def:=@trAs.eq_def
theorem LI:type_of% @trAn.eq_def:=@trAn.eq_def
theorem uK:type_of% @trK.eq_def:=@trK.eq_def
theorem LG:type_of% @trCe.eq_def:=@trCe.eq_def
theorem LF:type_of% @trCt.eq_def:=@trCt.eq_def
theorem uI:type_of% @trI.eq_def:=@trI.eq_def
theorem LB:type_of% @trIc.eq_def:=@trIc.eq_def
theorem Ly:type_of% @trSl.eq_def:=@trSl.eq_def
theorem uL:type_of% @trL.eq_def:=@trL.eq_def
theorem LD:type_of% @trEn.eq_def:=@trEn.eq_def
theorem uR:type_of% @trR.eq_def:=@trR.eq_def
theorem uZ:type_of% @trZ.eq_def:=@trZ.eq_def
theorem LC:type_of% @trF1.eq_def:=@trF1.eq_def
theorem LA:type_of% @trLf.eq_def:=@trLf.eq_def
theorem Lz:type_of% @trLr.eq_def:=@trLr.eq_def
theorem uO:type_of% @trO.eq_def:=@trO.eq_def
theorem uC:type_of% @trC.eq_def:=@trC.eq_def
theorem uX:type_of% @kX.eq_def:=@kX.eq_def
theorem uM:type_of% @nmO.eq_def:=@nmO.eq_def
theorem uN:type_of% @lsO.eq_def:=@lsO.eq_def
theorem uP:type_of% @miA.eq_def:=@miA.eq_def
def G9[NI](P:Program)(w:World)(K:Frag)(mg:Str->Option Value)(base:Heap)(A:Around)(fn:Fn):Ke->Prop
 |.f x n=>∃d f fd ps,ps.length=n/\FnOk P w K mg base eO d f fd ps (dB ⟨K,mg⟩ ps.length fn)/\Room d A/\mg x=some (.ref f)/\keepIn K (.ref f)=true/\Binds K fd ps []
 |.m c m n=>∃d f fd ps C,ps.length=n/\FnOk P w K mg base eO d f fd ps (dB ⟨K,mg⟩ ps.length fn)/\Room d A/\mg c=some (.ref C)/\Cls K C/\j8 K C m f/\Binds K fd ps []
 |.k c n=>∃d f fd ps C,ps.length=n/\FnOk P w K mg base eO d f fd ps (dB ⟨K,mg⟩ ps.length fn)/\Room (d+1) A/\mg c=some (.ref C)/\Mk K C f/\Binds K fd ps []
structure Fit[NI](X:Cx)(C:SC)(ks:List Fn):Prop where
 N:X.N=C.N
 ck:C.ck=true
 nm:X.env.scope.names=C.nm
 nd:C.N.Nodup
 kind:X.env.scope.kind=.function
 calm:X.calm=true
 cf:∀x∈C.cf,X.fn x=true
 hu:X.A.units+64<cLine
 gd:X.A.guards=some []
 bl:∀x∈bnames,X.mg x=none
 po:PassesOwn (model X.prog X.w) X.A X.env X.xe
 ke:∀(j:Nat) k,C.ke[j]?=some k->G9 X.prog X.w X.K X.mg X.base X.A (kf ks j) k
 gs:∀p∈C.gs,∀w,pE p.2=some w->∃u,X.mg p.1=some u/\RelV w u
 cl:∀p∈C.cl,∃Ca,X.mg p.1=some (.ref Ca)/\Cls X.K Ca/\∀f∈p.2,NoAttr X.K Ca f
 la:∀p∈C.la,Room 2 X.A/\∃c P,X.env.code=.ref c/\CodeHd X.base c P/\jq X.mg X.base/\(P,p,X.env.qual++"<lambda>")∈NI.tb/\∀t∈NI.tb,t.1=P->t=(P,p,X.env.qual++"<lambda>")
section
variable{X:Cx}{C:SC}{ks:List Fn}
theorem Fit.kdO[NI](F:Fit X C ks)(x:Str):X.env.kindOf x=kd C x:=by unfold kd;rw[<- F.nm];rfl
theorem Fit.vis[NI](F:Fit X C ks)(h:ye C x=true):xR X.env.scope x:=by
 unfold ye kd at h;rw[<- F.nm]at h;unfold xR;split at h
 ·rename_i e;exact .inl e
 ·rename_i e;exact .inr (.inl e)
 ·rename_i e;exact .inr (.inr e)
 ·cases h
theorem Fit.loc[NI](F:Fit X C ks)(h:An C x=true):L2.Loc X.env.scope x/\(X.fn x=true\/X.env.scope.names.lookup x=some .local):=by
 unfold An kd at h;rw[<- F.nm]at h;unfold L2.Loc;split at h
 ·rename_i e;exact⟨.inl e,.inr e⟩
 ·rename_i e;exact⟨.inr e,.inl (F.cf x (by simpa using h))⟩
 ·cases h
theorem sE(h:BH x=true):(x==("__debug__":Str))=false/\(x==("__classdict__":Str))=false:=c9 h fun h1 h2=>⟨by simpa using h1,by simpa using h2⟩
theorem Fit.gl[NI](F:Fit X C ks)(h:ik C x=true):Gl X x/\(x==("__debug__":Str))=false:=by
 unfold ik at h;refine c9 h fun h1 h2=>⟨?_,(sE h2).1⟩
 unfold Gl;rw[F.kdO];split at h1
 ·rename_i e;exact e
 ·cases h1
theorem Fit.nmb[NI](F:Fit X C ks){k:Nat}(h:at_ x C.N 0=some k):X.N[k]?=some x:=by rw[F.N];exact GV h
theorem Fit.clb[NI](F:Fit X C ks){c f:Str}(h:sI f C.cl=some c):∃Ca,X.mg c=some (.ref Ca)/\Cls X.K Ca/\NoAttr X.K Ca f:=by
 obtain⟨fs,h1,h2⟩:=xI h;obtain⟨Ca,a,b,d⟩:=F.cl _ h1;exact⟨Ca,a,b,d f h2⟩
theorem Fit.blt[NI](F:Fit X C ks)(h:x∈bnames):X.mg x=none:=F.bl x h
theorem GC(b:NameKind):JY b=(b==NameKind.free):=by cases b<;>rfl
theorem GO(o:Option NameKind):BJ o=(o==some NameKind.cell):=by
 cases o with
 |none=>rfl
 |some k=>cases k<;>rfl
theorem Fit.blk[NI](F:Fit X C ks)(h:sO C sc=true):jC X (eD C sc) sc/\∀cl s H fp ND,Fit (cx X (eD C sc) sc cl s H fp ND) (R.blk C sc) ks:=by
 unfold sO at h;simp only[zC,yB]at h;obtain⟨⟨⟨⟨h1,h2⟩,h3⟩,h4⟩,h5⟩:=h;have hk:sc.kind=.function:=by
  split at h1
  ·rename_i e;exact e
  ·cases h1
 have hlen:C.N.length<=(eD C sc).length:=by unfold eD;rw[zV,zH];lia
 have free:∀x,(x,NameKind.free)∈sc.names->X.env.kindOf x=some .cell\/X.env.kindOf x=some .free:=fun x hx=>by
  have:=yQ.mp h4 _ hx
  simp only at this;rw[F.kdO];split at this
  ·rename_i e;exact .inl e
  ·rename_i e;exact .inr e
  ·cases this
 have at5:∀i x,i<X.N.length->(eD C sc)[i]?=some x->(∀k,(x,k)∈sc.names->k=.free/\X.N[i]?=some x):=fun i x hi e k hm=>by
  rw[F.N]at hi ⊢
  have:=yQ.mp h5 i (List.mem_range.mpr hi)
  rw [e] at this;simp only at this;have hl:=cY h2 hm;rw [hl] at this;cases k <;> simp only at this <;> first | (cases this;done) | exact ⟨rfl,of_decide_eq_true this⟩
 refine ⟨⟨hk,h2,by rw [F.N];exact hlen,free,fun i x hi e hm=>(at5 i x hi e _ hm).2,fun i x hi e hq0=>by obtain ⟨k,hm⟩:=hq0;have:=(at5 i x hi e k hm).1;subst this;exact hm⟩,fun cl s H fp ND=>?_⟩;refine ⟨rfl,F.ck,?_,h3,hk,F.calm,fun x hx=>?_,F.hu,F.gd,F.bl,PassesOwn.never,F.ke,F.gs,F.cl,fun p hp=>absurd (show p ∈ ([]:List Pos) from hp) (by simp)⟩
 ·show(relabel sc X.env).names=_
  unfold relabel R.blk;dsimp only;rw[F.kind,F.ck];apply List.map_congr_left;intro p _;obtain⟨a,b⟩:=p;simp only[F.kdO,GC,GO];simp
 ·unfold R.blk at hx
  rw[F.ck]at hx;obtain⟨p,hp,e⟩:=yC.mp hx;obtain⟨hp1,hp2⟩:=List.mem_filter.mp hp;obtain⟨a,b⟩:=p;dsimp only at e hp2;subst e;have:b=.cell:=by cases b<;>first|rfl|cases hp2
  subst this;show(sc.names.lookup a==some NameKind.cell)=true;rw[cY h2 hp1];rfl
end
section
variable{X:Cx}{C:SC}{ks:List Fn}
theorem Fit.lam[NI](F:Fit X C ks)(rm:Room 2 X.A)(h:At C sc ps=true):∃x,vX X (eD C sc) sc x/\plainA ps=true/\ps.args.map (·.arg)=[x]/\defaultsOf ps X.env=([],[]) /\
  ∀cl f q cd s H,Fit (sF X (eD C sc) sc cl f q cd X.A.in1 s H) (F6 C sc) ks:=by
 unfold At at h;simp only[zC]at h;obtain⟨⟨⟨⟨⟨⟨⟨h1,h2⟩,h3⟩,h4⟩,h5⟩,h6⟩,h7⟩,h8⟩:=h;obtain⟨cy,_⟩:=F.blk h1;split at h7
 ·rename_i x y ex ey
  simp only[zC]at h7;have exy:=yJ h7.1;subst exy;have hl:sc.names.lookup x=some .local:=by
   have:=h7.2
   split at this
   ·rename_i e;exact e
   ·cases this
  have hN:eD C sc=(C.N.map fun x=>if rP sc x=true then x else Gj C.ck x)++[x]:=by unfold eD;rw[ex]
  refine⟨x,⟨cy,by simpa using h2,by simpa using h3,by rw[hN,F.N];simp,by rw[hN,F.N];simp,hl,fun y hy e=>?_⟩,h4,ey,?_,fun cl f q cd s H=>?_⟩
  ·have:=yQ.mp h8 y hy
   rw[e]at this;cases this
  ·obtain⟨a1,a2,a3,a4,a5,a6,a7⟩:=ps
   have e5:a7=[]:=List.isEmpty_iff.mp h5;have e6:a5=[]:=List.isEmpty_iff.mp h6;subst e5;subst e6;rfl
  ·have hnd:(eD C sc).Nodup:=by
    unfold sO at h1;simp only[zC,yB]at h1;exact h1.1.1.2
   have hkd:sc.kind=.function:=cy.kind;have r1:Room 1 X.A.in1:=rm.in1;have r0:=Room.deeper r1 (newEnv sc s.heap.objs.size mainGlobals cl (q++".<locals>.") (some f) cd none builtinsNs);refine ⟨rfl,F.ck,(by show _=tE C.ck sc.names;rw [F.ck];rfl),hnd,hkd,rfl,fun x hx=>absurd (show x ∈ ([]:List Str) from hx) (by simp),r0.units,r0.gd,F.bl,PassesOwn.never,fun j k e=>absurd (show ([]:List Ke)[j]?=some k from e) (by simp),F.gs,F.cl,fun p hp=>absurd (show p ∈ ([]:List Pos) from hp) (by simp)⟩
 ·cases h7
end
mutual
theorem tL{n:Nat}:∀{t:Tg},oQ n t=true->oB n (cj ks t)
 |.nm k,h=>by
  simp only[oQ]at h;have hk:=zS h;simp only[cj];intro x sl st sl' st' e;cases e;exact⟨List.length_set,fun j hj=>List.getElem?_set_ne oM⟩
 |.tu m ts,h=>by
  simp only[oQ]at h;simp only[cj];intro x sl st sl' st' e;unfold xu at e;split at e
  ·split at e
   ·exact mL h _ _ _ _ _ e
   ·cases e
  ·split at e
   ·split at e
    ·exact mL h _ _ _ _ _ e
    ·cases e
   ·cases e
 |.su _ _,h=>by simp only[oQ]at h;cases h
theorem mL{n:Nat}:∀{ts:Tgs},qb n ts=true->∀xs sl st sl' st',jx ks ts xs sl st=some (sl',st')->sl'.length=sl.length/\∀j,j<n->sl'[j]?=sl[j]?
 |.nil,_,xs,sl,st,sl',st',e=>by
  simp only[jx]at e;cases xs with
  |nil=>cases e;exact⟨rfl,fun _ _=>rfl⟩
  |cons _ _=>cases e
 |.cons t ts,h,xs,sl,st,sl',st',e=>by
  simp only[qb,zC]at h;simp only[jx]at e;cases xs with
  |nil=>cases e
  |cons x xs =>
   obtain⟨p,e1,e2⟩:=zA e;obtain⟨a1,a2⟩:=tL h.1 _ _ _ _ _ e1;obtain⟨b1,b2⟩:=mL h.2 _ _ _ _ _ e2;exact⟨b1.trans a1,fun j hj=>(b2 j hj).trans (a2 j hj)⟩
end
theorem lM{r:Tr}(hk:C.ck=true):∀{es:List Expr}{as:Exs},kg r C es=some as->∀sl st xs st',eB ks as sl st=some (xs,st')->xs.length=es.length
 |[],as,h,sl,st,xs,st',e=>by cases h;cases e;rfl
 |x::es,as,h,sl,st,xs,st',e=>by
  refine aJ hk h fun _ h=>?_
  revert e
  refine bS h fun a as _ h2 e=>?_
  obtain⟨p,e1,e2⟩:=zA e;obtain⟨q,e3,e4⟩:=zA e2;cases e4;rw[yX,yX,lM hk h2 _ _ _ _ e3]
theorem Js:bootBuiltins "len"=some (.builtin "len"):=by decide +kernel
theorem Jn:bootBuiltins "sum"=some (.builtin "sum"):=by decide +kernel
theorem Ju:bootBuiltins "abs"=some (.builtin "abs"):=by decide +kernel
theorem Jq:bootBuiltins "min"=some (.builtin "min"):=by decide +kernel
theorem Jr:bootBuiltins "max"=some (.builtin "max"):=by decide +kernel
theorem BM:bootBuiltins "int"=some (.type "int"):=by decide +kernel
theorem Jm:bootBuiltins "tuple"=some (.type "tuple"):=by decide +kernel
theorem Jt:bootBuiltins "isinstance"=some (.builtin "isinstance"):=by decide +kernel
theorem GS:bootBuiltins "list"=some (.type "list"):=by decide +kernel
theorem GT:bootBuiltins "bool"=some (.type "bool"):=by decide +kernel
theorem Jp:bootBuiltins "str"=some (.type "str"):=by decide +kernel
section
variable{X:Cx}{C:SC}{ks:List Fn}
theorem Jl[NI](F:Fit X C ks)(b:Bi){e:Expr}{es:List Expr}{g:AF}{p pos:Pos}(hg:ik C b.nm=true)(ha:QA X (e::es) g)(hs:(e::es).all ce=true):QE X (.Call (.Name b.nm p) (e::es) [] pos) (sU (ou b) g):=by
 have gl:=F.gl hg;rw[List.all_cons,zC]at hs;have he:=aA (env:=X.env) (es:=es) hs.1;have hpl:=iD (env:=X.env) (pos:=pos) hs.2;cases b with
 |len=>exact nj Ji gl.1 (F.blt dC) Js ha dC gl.2 he hpl
 |sum=>exact nj (Jf F.calm) gl.1 (F.blt dC) Jn ha dC gl.2 he hpl
 |abs=>exact nj Jk gl.1 (F.blt dC) Ju ha dC gl.2 he hpl
 |min=>exact nj (Jg F.calm) gl.1 (F.blt dC) Jq ha dC gl.2 he hpl
 |max=>exact nj (Jh F.calm) gl.1 (F.blt dC) Jr ha dC gl.2 he hpl
 |int=>exact HI Jj gl.1 (F.blt dC) BM ha dC gl.2 he hpl
theorem Ig[NI](F:Fit X C ks)(m:Mi){o:Expr}{es:List Expr}{f:EF}{g:AF}{ap p:Pos}(ho:QE X o f)(ha:QA X es g)(h0:es=[]->g=d4)(hs:es.all ce=true)(hl:es.length<30)(hb:oT o=true)(hline:(ap.endLine==p.line)=true) :
  QE X (.Call (.Attribute o m.nm ap) es [] p) (kB (nE m) (nD m) f g):=by
 cases es with
 |nil =>
  have:=h0 rfl
  subst this;have hbase:=fO (env:=X.env) (f:=m.nm) (eval o X.env) hb;cases m with
  |app=>exact kK PySem.F.plainAttrs_list PySem.F.slot_list_append PySem.F.type_list_append Bu ho hbase hline
  |pop=>exact kK PySem.F.plainAttrs_list PySem.F.slot_list_pop PySem.F.type_list_pop Br ho hbase hline
  |ext=>exact kK PySem.F.plainAttrs_list PySem.F.slot_list_extend PySem.F.type_list_extend Bs ho hbase hline
  |rem=>exact kK PySem.F.plainAttrs_list PySem.F.slot_list_remove PySem.F.type_list_remove Bq ho hbase hline
  |cnt=>exact kK PySem.F.plainAttrs_list PySem.F.slot_list_count PySem.F.type_list_count (Bt F.hu) ho hbase hline
 |cons e es =>
  have hbase:=fO (env:=X.env) (f:=m.nm) (eval o X.env) hb;have hfew:=J1 (env:=X.env) (cpos:=p) hs hl;rw[List.all_cons,zC]at hs;have he:=aA (env:=X.env) (es:=es) hs.1;have hpl:=iD (env:=X.env) (pos:=p) hs.2;cases m with
  |app=>exact ni PySem.F.plainAttrs_list PySem.F.slot_list_append PySem.F.type_list_append Bu ho ha hbase hfew hline he hpl
  |pop=>exact ni PySem.F.plainAttrs_list PySem.F.slot_list_pop PySem.F.type_list_pop Br ho ha hbase hfew hline he hpl
  |ext=>exact ni PySem.F.plainAttrs_list PySem.F.slot_list_extend PySem.F.type_list_extend Bs ho ha hbase hfew hline he hpl
  |rem=>exact ni PySem.F.plainAttrs_list PySem.F.slot_list_remove PySem.F.type_list_remove Bq ho ha hbase hfew hline he hpl
  |cnt=>exact ni PySem.F.plainAttrs_list PySem.F.slot_list_count PySem.F.type_list_count (Bt F.hu) ho ha hbase hfew hline he hpl
theorem Fg[NI]{P:Program}{w:World}{K:Frag}{mg:Str->Option Value}{base:Heap}{k:Nat}{f:Addr}{fd:FuncData}{ps:List Str}{n:Nat}{fn:Fn}(b:Bool)(F:FnOk P w K mg base eO k f fd ps (dB ⟨K,mg⟩ n fn)):FnOk P w K mg base eO k f fd ps (dB ⟨K,mg⟩ n (ki b fn)):=by
 cases b
 ·exact F
 ·exact FnOk.pm F
end
theorem jW{ks:List Fn}:∀{e:Ex},lB e=true->BY (ev ks e)
 |.v k,_=>fun sl st v st' e=>by
  have e:aV k sl st=some (v,st'):=e;unfold aV at e;split at e
  ·cases e;rfl
  ·cases e
 |.i k,_=>fun sl st v st' e=>by
  cases e;rfl
 |.ix a b,h=>fun sl st v st' e=>by
  refine c9 h fun h1 h2=>?_
  obtain⟨p,e1,e2⟩:=zA e;obtain⟨q,e3,e4⟩:=zA e2;obtain⟨z,e5,e6⟩:=zE.mp e4;cases e6;rw[jW h2 _ _ _ _ e3,jW h1 _ _ _ _ e1]
 |.fd c f o,h=>fun sl st v st' e=>by
  obtain ⟨p,e1,e2⟩:=zA e;obtain ⟨q,e3,e4⟩:=zA e2;obtain ⟨z,e5,e6⟩:=zE.mp e4;cases e6;rw [jW (show lB o=true from h) _ _ _ _ e1]
theorem Ij{α β γ:Type}{f:α->β->γ}{x:Option α}{y:Option β}{m:γ}(h:m2 f x y=some m):∃a b,x=some a/\y=some b/\m=f a b:=bS h fun a b h1 h2=>⟨a,b,h1,h2,rfl⟩
structure AU[NI](r:Tr)(ks:List Fn):Prop where
 E:∀{X:Cx}{C:SC}{e:Expr}{m:Ex},Fit X C ks->r.E C e=some m->QE X e (ev ks m)
 T:∀{X:Cx}{C:SC}{e:Expr}{m:Tx},Fit X C ks->r.T C e=some m->QT X e (tv ks m)
 G:∀{X:Cx}{C:SC}{e:Expr}{m:Tg},Fit X C ks->r.G C e=some m->QG X e (cj ks m)
 S:∀{X:Cx}{C:SC}{s:Stmt}{m:Sx},Fit X C ks->r.S C s=some m->QS X s (ci ks m)
section
variable[NI]{ks:List Fn}{r:Tr}(R:AU r ks){X:Cx}{C:SC}(F:Fit X C ks)
include R F
theorem fT:∀{es:List Expr}{m:Exs},kg r C es=some m->QA X es (eB ks m)
 |[],m,h=>by cases h;exact d8
 |e::es,m,h=>aJ F.ck h fun h0 h=>bS h fun a as h1 h2=>cF (R.E F h1) (fT h2) (aA h0)
theorem wm{e:Option Expr}{m:Ox}(h:trO r C e=some m):QO X e (sA ks m):=by
 cases e with
 |none=>cases h;exact CD
 |some e=>exact b0 h fun a h=>CC (R.E F h)
theorem iB:∀{ss:List Stmt}{m:NQ},m7 r C ss=some m->mG X ss (af ks m)
 |[],m,h=>by cases h;exact Cw
 |s::ss,m,h=>bS h fun a as h1 h2=>zf (R.S F h1) (iB h2)
theorem tJ:∀{es:List Expr}{m:Tgs},uH r C es=some m->xT X es (jx ks m)
 |[],m,h=>by cases h;exact CI
 |e::es,m,h=>aJ F.ck h fun h0 h=>bS h fun a as h1 h2=>zh (R.G F h1) (tJ h2) (AD h0)
theorem oP{o:BoolOp}{p:Pos}:∀{x:Expr}{es:List Expr}{m:Ex},uQ r C o (x::es)=some m->QE X (.BoolOp o (x::es) p) (ev ks m)
 |x,[],m,h=>by cases o<;>exact Ft (R.E F h)
 |x,y::es,m,h=>bS h fun a b h1 h2=>by
  cases o
  ·exact E8 (R.E F h1) (oP h2)
  ·exact HJ (R.E F h1) (oP h2)
theorem oO{o:BoolOp}{p:Pos}:∀{x:Expr}{es:List Expr}{m:Tx},uJ r C o (x::es)=some m->QW X (.BoolOp o (x::es) p) (tv ks m)
 |x,[],m,h=>EI o (R.T F h)
 |x,y::es,m,h=>bS h fun a b h1 h2=>by
  cases o
  ·exact EJ (R.T F h1) (oO h2)
  ·exact Hz (R.T F h1) (oO h2)
theorem Eg{es:List Expr}{m:Cx'}(h:trC r C es=some m):uv X es (jd ks m):=by
 rcases es with _|⟨e,_|_⟩
 ·cases h;exact CH
 ·exact b0 h fun a h=>CG (R.T F h)
 ·exact bt h
omit R in
theorem DX{x:Str}{p:Pos}{m:Ex}(h:A5 C x=some m):QE X (.Name x p) (ev ks m):=by
 unfold A5 at h;split at h
 ·rename_i k hk
  refine aJ F.ck h fun h0 h=>c9 h0 fun h1 h2=>?_
  cases h;exact EZ (F.nmb hk) (F.vis h1) (sE h2).1 (sE h2).2
 ·refine ff h fun c hc h=>aJ F.ck h fun h0 h=>c9 h0 fun h1 h2=>?_
  cases h;obtain⟨w,hw⟩:=Option.isSome_iff_exists.mp h2;obtain⟨u,h2',h3⟩:=F.gs _ (nJ hc) w hw;obtain⟨g1,g2⟩:=F.gl h1;exact qM hw (C9 g1 h2' h3 g2) fun _ _ _ h=>h
omit R F in
theorem wl{t:Expr}(h:(!qV t)=true):∃ts k p,t=.Tuple ts k p:=by
 cases t with
 |Tuple ts k p=>exact⟨ts,k,p,rfl⟩
 |_=>exact l8 h
theorem wo{t e:Expr}{m:Ix}(h:trI r C t e=some m):QI X t e (dR ks m):=by
 have dfl:∀{m},(r.E C e).map .e=some m->QI X t e (dR ks m):=fun h=>b0 h fun a h=>KY (R.E F h)
 cases e with
 |Call f es kws p =>
  have h:trIc r C t _ es kws (nmO f)=some m:=h;cases hx:nmO f with
  |none=>rw[hx]at h;exact dfl h
  |some x =>
   rw[hx]at h;obtain⟨q,rfl⟩:=qT hx;unfold trIc at h;split at h
   ·rename_i hr
    rw[yJ hr];refine aJ F.ck h fun h0 g=>jR h0 fun h1 h2 h3=>?_
    cases List.isEmpty_iff.mp h2;rcases es with _|⟨a,_|⟨b,_|⟨c,_|_⟩⟩⟩
    ·exact bt g
    ·refine c9 h3 fun h4 _=>?_
     exact b0 g fun x hx=>HF (F.gl h1).1 (F.blt dC) (R.E F hx) (aA h4)
    ·refine c9 h3 fun h4 h3=>c9 h3 fun h5 _=>?_
     exact bS g fun x y hx hy=>HE (F.gl h1).1 (F.blt dC) (R.E F hx) (R.E F hy) (by rw[aA h4,aA h5];rfl) (aA h5)
    ·refine c9 h3 fun h4 h3=>c9 h3 fun h5 h3=>c9 h3 fun h6 _=>?_
     exact jX g fun x y z hx hy hz=>HD (F.gl h1).1 (F.blt dC) (R.E F hx) (R.E F hy) (R.E F hz) (by rw[aA h4,aA h5,aA h6];rfl) (by rw[aA h5,aA h6];rfl) (aA h6)
    all_goals exact bt g
   ·split at h
    ·rename_i hr
     rw[yJ hr];refine aJ F.ck h fun h0 g=>p4 h0 fun h1 h2 h3 ht=>?_
     cases List.isEmpty_iff.mp h2;obtain⟨ts,k,tp,rfl⟩:=wl ht;rcases es with _|⟨a,_|⟨b,_|⟨c,_|⟨d,_|_⟩⟩⟩⟩
     ·exact bt g
     ·exact bt g
     ·refine c9 h3 fun h4 h3=>c9 h3 fun h5 _=>?_
      exact bS g fun x y hx hy=>EV (F.gl h1).1 (F.blt dC) (R.E F hx) (R.E F hy) (by rw[aA h4,aA h5];rfl) (aA h5)
     ·exact bt g
     all_goals exact bt g
    ·split at h
     ·rename_i hr
      rw[yJ hr];refine aJ F.ck h fun h0 g=>jR h0 fun h1 h3 ht=>?_
      obtain⟨ts,k,tp,rfl⟩:=wl ht;rcases es with _|⟨a,_|_⟩
      ·exact bt g
      ·refine c9 h3 fun h4 _=>?_
       unfold trEn at g;dsimp only at g;split at g
       ·exact b0 g fun x hx=>HG (F.gl h1).1 (F.blt dC) (R.E F hx) (aA h4)
       ·refine aJ F.ck g fun h0 g=>?_
        rw[yJ h0];exact bS g fun x y hx hy=>EW (F.gl h1).1 (F.blt dC) (R.E F hx) (R.E F hy) (aA h4)
       ·exact bt g
      ·exact bt g
     ·exact dfl h
 |_=>exact dfl h
theorem wn{elt:Expr}{gens:List Comprehension}{sc:Scope}{m:Nx}(h:trL r C elt gens sc=some m):∃t it cs x g c y N',gens=[⟨t,it,cs,0⟩]/\m=.lc (N'.length-X.N.length) x g c y/\jC X N' sc/\QI X t it (dR ks x)/\(∀cl s H fp ND,QG (cx X N' sc cl s H fp ND) t (cj ks g))/\(∀cl s H fp ND,uv (cx X N' sc cl s H fp ND) cs (jd ks c)) /\
  (∀cl s H fp ND,QE (cx X N' sc cl s H fp ND) elt (ev ks y))/\oB X.N.length (cj ks g)/\(∀x,foldedSetIterable it X.env x=pure x):=by
 unfold trL at h;split at h
 ·rename_i t it cs i
  refine aJ F.ck h fun h0 h=>jR h0 fun h1 h2 h3=>ff h fun x hx h=>ff h fun g hg h=>aJ F.ck h fun h4 k=>?_
  cases yJ h2;obtain⟨T,FB⟩:=F.blk h1;obtain⟨c,y,hc,hy,rfl⟩:=Ij k;exact⟨t,it,cs,x,g,c,y,eD C sc,rfl,by rw[F.N],T,wo R F hx,fun cl s H fp ND=>R.G (FB cl s H fp ND) hg,fun cl s H fp ND=>Eg R (FB cl s H fp ND) hc,fun cl s H fp ND=>R.E (FB cl s H fp ND) hy,by rw[F.N];exact tL h4,qD h3⟩
 ·exact bt h
theorem Ci{x:Str}{es:List Expr}{p p':Pos}{m:Ex}(h:trF1 r C x p' es=some m):QE X (.Call (.Name x p) es [] p') (ev ks m):=by
 rcases es with _|⟨a,_|⟨b,_|_⟩⟩
 ·exact bt h
 ·skip
  refine aJ F.ck h fun h0 g=>jR h0 fun hx h1 h2=>?_
  rw[yJ hx];clear h;have dfl:∀{m},((r.E C a).map fun a=>Ex.nw (hB C p' 0) (.lof a))=some m->QE X (.Call (.Name "list" p) [a] [] p') (ev ks m):=fun h=>b0 h fun y h=>io (ET (F.gl h1).1 (F.blt dC) (R.E F h) (aA h2))
  cases a with
  |Call f es' kws' q =>
   refine aJ F.ck g fun h0 k=>p4 h0 fun h3 h4 h5 h6=>?_
   obtain⟨q1,rfl⟩:∃q,f=.Name "range" q:=by
    split at h3
    ·rename_i y hy
     obtain⟨q,rfl⟩:=qT hy;rw[yJ h3];exact⟨q,rfl⟩
    ·exact l8 h3
   cases List.isEmpty_iff.mp h4;rcases es' with _|⟨a,_|⟨b,_|⟨c,_|_⟩⟩⟩
   ·exact bt k
   ·exact c9 h6 fun h7 _=>b0 k fun x hx=>io (ES F.calm (F.gl h1).1 (F.blt dC) (F.gl h5).1 (F.blt dC) (R.E F hx) (aA h7))
   ·exact c9 h6 fun h7 h6=>c9 h6 fun h8 _=>bS k fun x y hx hy=>io (ER F.calm (F.gl h1).1 (F.blt dC) (F.gl h5).1 (F.blt dC) (R.E F hx) (R.E F hy) ((aA h7).trans (by rw[aA h8];rfl)) (aA h8))
   ·exact bt k
   all_goals exact bt k
  |_=>first|exact dfl g|exact bt g
 ·refine aJ F.ck h fun h0 h=>jR h0 fun hx h1 h5=>ff h fun y hy h=>ff h fun T hT h=>aJ F.ck h fun h2 h=>b0 h fun a g=>?_
  obtain⟨q,rfl⟩:=qT hy;rw[yJ hx];obtain⟨g1,g2⟩:=F.gl h1;obtain⟨g3,g4⟩:=F.gl h2;have key:X.mg y=none/\bootBuiltins y=some (.type T)/\y≠"__name__":=by
   have hm:=nJ hT;simp only[DT,zT,zX,or_false,Prod.mk.injEq]at hm;rcases hm with⟨rfl,rfl⟩|⟨rfl,rfl⟩|⟨rfl,rfl⟩|⟨rfl,rfl⟩|⟨rfl,rfl⟩
   ·exact⟨F.blt dC,BM,by decide⟩
   ·exact⟨F.blt dC,GT,by decide⟩
   ·exact⟨F.blt dC,GS,by decide⟩
   ·exact⟨F.blt dC,Jm,by decide⟩
   ·exact⟨F.blt dC,Jp,by decide⟩
  exact E4 g1 (F.blt dC) g3 key.1 key.2.1 (R.E F g) key.2.2 g4 (aA h5) Jt
 all_goals exact bt h
theorem Ed{x:Str}{es:List Expr}{p p':Pos}{m:Ex}(h:A6 r C x es p'=some m):QE X (.Call (.Name x p) es [] p') (ev ks m):=by
 unfold A6 at h;split at h
 ·rename_i j _
  unfold ym at h;split at h
  ·refine aJ F.ck h fun h0 h=>p4 h0 fun h1 h2 h3 h4=>b0 h fun as h=>?_
   unfold JS at h1;split at h1
   ·rename_i c' k hk
    refine c9 h1 fun a1 a2=>?_
    obtain⟨d,f,fd,ps,Ca,hl,Fn,hr,hC,M,hb⟩:=F.ke j _ hk;rw[yJ a1]at hC;obtain⟨g1,g2⟩:=F.gl h2;cases es with
    |nil=>exact l8 h3
    |cons e1 es1 =>
     have hn:ps.length=es1.length+2:=by rw[hl];exact yJ a2
     refine c9 h4 fun h4 h6=>?_
     exact E3 M Fn hr g1 hC hb (fT R F h) (fun sl st xs st' e=>by rw[hn,lM F.ck h _ _ _ _ e];rfl) g2 (aA h4) (iD h6)
   ·exact l8 h1
  ·refine aJ F.ck h fun h0 h=>jR h0 fun h1 h2 h4=>b0 h fun as h=>?_
   unfold JT at h1;split at h1
   ·rename_i y m hk
    refine c9 h1 fun h1 h0=>?_
    obtain⟨d,f,fd,ps,hl,Fn,hr,hm,kp,hb⟩:=F.ke j _ hk;obtain⟨g1,g2⟩:=F.gl h2;rw[yJ h1]at hm;have hn:ps.length=es.length:=by rw[hl];exact yJ h0
    cases es with
    |nil=>cases h;exact zk (Fg _ Fn) hr g1 hm kp hb hn g2
    |cons e1 es1 =>
     refine c9 h4 fun h4 h5=>?_
     exact CO (Fg _ Fn) hr g1 hm kp hb (fT R F h) (fun sl st xs st' e=>by rw[hn];exact lM F.ck h _ _ _ _ e) g2 (aA h4) (iD h5)
   ·exact l8 h1
 ·unfold yn at h
  split at h
  ·rename_i b hb
   refine aJ F.ck h fun h0 h=>jR h0 fun h1 h2 h3=>b0 h fun as g=>?_
   cases es with
   |nil=>exact l8 h2
   |cons e es =>
    obtain rfl:x=b.nm:=(show ∀ q ∈ GQ,q.1=q.2.nm by decide) _ (nJ hb);exact Jl F b h1 (fT R F g) h3
  ·exact Ci R F h
theorem Eb{x:Str}{es:List Expr}{kws:List Keyword}{p p':Pos}{m:Ex}(h:trK r C x es kws=some m):QE X (.Call (.Name x p) es kws p') (ev ks m):=by
 unfold trK at h;split at h
 rotate_left
 ·exact bt h
 split at h
 ·refine aJ F.ck h fun h0 h=>p4 h0 fun h1 h2 h3 h4=>c9 h4 fun h4 h5=>b0 h fun y g=>?_
  obtain⟨a,q,rfl⟩:=BK h3;rw[yJ h1,yJ h2];exact CL F.calm (F.gl h4).1 (F.blt dC) (R.E F g) (aA h5)
 ·rename_i a y ps body sc lp p1 z d p2
  refine aJ F.ck h fun h0 h=>p4 h0 fun h1 h2 h3 h4=>p4 h4 fun h4 h5 h6 h7=>c9 h7 fun h7 h8=>ff h fun y hy h=>ff h fun w hw h=>aJ F.ck h fun h9 h=>?_
  cases h;obtain⟨a,q,rfl⟩:=BK h4;rw[yJ h1,yJ h2,yJ h3];obtain⟨q,hq,hqe⟩:=List.any_eq_true.mp h7;have eqp:q=lp:=by
   refine p4 hqe fun q1 q2 q3 q4=>?_
   cases q;cases lp;cases yJ q1;cases yJ q2;cases yJ q3;cases yJ q4;rfl
  subst eqp;obtain⟨rm,c,P,g1,g2,g3,g4,g5⟩:=F.la q hq;obtain⟨x,T,hp,hps,hdef,FL⟩:=F.lam rm h8;exact CK F.calm (F.gl h5).1 (F.blt dC) (R.E F hy) (aA h6) hdef g1 g2 g3 g4 T hp hps rm.in1.depth (jW h9) (fun cl f c' s H=>R.E (FL cl f _ _ s H) hw) g5
 ·exact bt h
theorem D0{o:Expr}{f:Str}{ap p:Pos}{es:List Expr}{m:Ex}(h:Ea r C o f ap es p=some m):QE X (.Call (.Attribute o f ap) es [] p) (ev ks m):=by
 refine aJ F.ck h fun h0 h=>p4 h0 fun h3 h4 h5 h6=>?_
 have h4':es.length<30:=zJ (Nat.lt_succ_self _) (zS h4);split at h
 ·rename_i j _
  refine ff h fun q _ h=>aJ F.ck h fun h1 h=>?_
  revert h;intro h
  refine bS h fun a as ha has=>?_
  unfold JR at h1;split at h1
  ·rename_i c' m'' k hk
   refine jR h1 fun a1 a2 a3=>?_
   obtain⟨d,f',fd,ps,Ca,hl,Fn,hr,hC,cl,hm,hb⟩:=F.ke j _ hk;rw[yJ a1]at hC;rw[yJ a2]at hm;have hn:ps.length=es.length+1:=by rw[hl];exact yJ a3
   cases es with
   |nil=>cases has;exact zj (R.E F ha) cl hC hm Fn hr hb hn (tX h5 h3 h4' h6)
   |cons e1 es1 =>
    have ht:=tX (env:=X.env) (f:=f) (o:=o) (es:=e1::es1) h5 h3 h4' h6;refine c9 h3 fun h3 h8=>?_
    exact CM (R.E F ha) cl hC hm Fn hr hb (fT R F has) (fun sl st xs st' e=>by rw[hn,lM F.ck has _ _ _ _ e]) (aA h3) (iD h8) ht
  ·exact l8 h1
 ·refine ff h fun q hq h=>bS h fun a as ha has=>?_
  have e:f=(miA q es).nm:=by
   have e:=(show ∀ q ∈ FR,q.1=q.2.nm by decide) _ (nJ hq);dsimp only at e;rw [e];cases q <;> first | rfl | (cases es <;> rfl)
  subst e;exact Ig F _ (R.E F ha) (fT R F has) (fun e=>by subst e;cases has;rfl) h3 h4' h5 h6
theorem Cg{a:Expr}{l h s:Option Expr}{p q:Pos}{m:Ex}(e:trSl r C a l h s p=some m):QE X (.Subscript a (.Slice l h s q) p) (ev ks m):=by
 cases s with
 |none =>
  unfold trSl at e;exact jX e fun x y z hx hy hz=>io (HC (R.E F hx) (wm R F hy) (wm R F hz))
 |some s =>
  exact bt e
theorem Ee{e:Expr}{m:Ex}(h:trE r C e=some m):QE X e (ev ks m):=by
 cases e with
 |Constant k a p=>cases k with
  |none=>cases h;exact qM (w:=.non) rfl Fv fun _ _ _ h=>h
  |bool b=>cases h;exact qM rfl H0 fun _ _ _ h=>h
  |int b=>cases h;exact qM rfl Fw fun _ _ _ h=>h
  |str b=>cases h;exact qM rfl Fq fun _ _ _ h=>h
  |_=>exact bt h
 |Name x p=>exact DX F h
 |BinOp a o b p =>
  unfold trE at h;split at h
  ·refine aJ F.ck h fun h0 g=>?_
   cases of_decide_eq_true h0;exact bS g fun x y hx hy=>io (EU (R.E F hx) (R.E F hy))
  ·split at h
   ·rename_i es hs
    obtain⟨q,rfl⟩:=F1 hs;refine aJ F.ck h fun h0 g=>?_
    cases of_decide_eq_true h0;exact bS g fun x y hx hy=>io (EQ (fT R F hx) (R.E F hy))
   ·exact bS h fun x y hx hy=>E7 (R.E F hx) (R.E F hy)
 |Compare a os bs p =>
  have h:trCe r C a os bs=some m:=h;rcases os with _|⟨o,_|⟨o',_|_⟩⟩
  ·exact bt h
  ·rcases bs with _|⟨b,_|_⟩<;>first|exact bt h|exact aJ F.ck h fun h0 h=>bS h fun x y hx hy=>E6 F.hu (R.E F hx) (R.E F hy) h0
  ·exact bt h
  ·exact bt h
 |UnaryOp o a p=>cases o with
  |Not=>exact b0 h fun x hx=>E2 (R.E F hx)
  |_=>exact b0 h fun x hx=>HH (R.E F hx)
 |BoolOp o es p=>cases es with
  |nil=>exact bt h
  |cons x es=>exact oP R F h
 |IfExp t a b p=>exact jX h fun x y z hx hy hz=>HL (R.T F hx) (R.E F hy) (R.E F hz)
 |Subscript a i p=>cases i with
  |Slice l h' s q=>exact Cg R F h
  |_=>exact aJ F.ck h fun h0 h=>bS h fun x y hx hy=>HK F.hu (R.E F hx) (R.E F hy) (Iw h0)
 |Tuple es k p=>exact b0 h fun x hx=>E1 (fT R F hx)
 |List es p=>exact b0 h fun x hx=>io (CF (fT R F hx))
 |ListComp elt gens sc p =>
  refine b0 h fun x hx=>?_
  obtain⟨t,it,cs,i,g,c,y,N',rfl,rfl,T,a1,a2,a3,a4,a5,a6⟩:=wn R F hx;exact io (Bh F.calm T a1 a2 a3 a4 a5 a6)
 |Dict k v p =>
  refine aJ F.ck h fun h0 g=>c9 h0 fun h1 h2=>?_
  cases g;cases List.isEmpty_iff.mp h1;cases List.isEmpty_iff.mp h2;exact CN Ac
 |Attribute o f p =>
  refine ff h fun c hc h=>aJ F.ck h fun h0 h=>b0 h fun x hx=>?_
  obtain⟨Ca,hC,cl,na⟩:=F.clb hc;exact E5 (R.E F hx) cl hC na (fO _ h0)
 |Call f es kws p=>cases f with
  |Name x q=>cases kws with
   |nil=>exact Ed R F h
   |cons _ _=>exact Eb R F h
  |Attribute o f q =>
   refine aJ F.ck h fun h0 g=>?_
   cases List.isEmpty_iff.mp h0;exact D0 R F g
  |_=>exact bt h
 |_=>exact bt h
theorem DY{e:Expr}{m:Tx}(h:trT r C e=some m):QT X e (tv ks m):=by
 cases e with
 |UnaryOp o a p=>cases o with
  |Not=>exact b0 h fun x hx=>EK (R.T F hx)
  |_=>exact b0 h fun x hx=>wA (R.E F hx) (tI rfl)
 |BoolOp o es p=>cases es with
  |nil=>exact bt h
  |cons x es=>exact PW.pt (oO R F h)
 |Compare a os bs p =>
  have h:trCt r C a os bs=some m:=h;rcases os with _|⟨o,_|⟨o',_|_⟩⟩
  ·exact bt h
  ·rcases bs with _|⟨b,_|_⟩<;>first|exact bt h|exact aJ F.ck h fun h0 h=>bS h fun x y hx hy=>EL F.hu (R.E F hx) (R.E F hy) h0
  ·exact bt h
  ·exact bt h
 |_=>exact aJ F.ck h fun h0 h=>b0 h fun x hx=>wA (R.E F hx) (tI h0)
omit R in
theorem vg{x:Str}{m:Tg}(h:oK C x=some m):∃k,m=.nm k/\X.N[k]?=some x/\L2.Loc X.env.scope x/\(X.fn x=true\/X.env.scope.names.lookup x=some .local):=by
 refine ff h fun k hk h=>aJ F.ck h fun h0 h=>c9 h0 fun h1 _=>?_
 cases h;obtain⟨l1,l2⟩:=F.loc h1;exact⟨k,rfl,F.nmb hk,l1,l2⟩
theorem Ec{e:Expr}{m:Tg}(h:trG r C e=some m):QG X e (cj ks m):=by
 have hN:X.N.Nodup:=by rw[F.N];exact F.nd
 cases e with
 |Name x p =>
  obtain⟨k,rfl,a,b,c⟩:=vg F h;exact CJ hN a b c
 |Tuple es k p=>exact aJ F.ck h fun h0 h=>b0 h fun x hx=>EX F.calm (tJ R F hx) AE (AG h0)
 |Subscript a b p=>exact aJ F.ck h fun h0 h=>bS h fun x y hx hy=>EY F.hu (R.E F hx) (R.E F hy) (Es h0)
 |_=>exact bt h
end
theorem wv{env:Env}{e o i:Expr}{p:Pos}{l:Nat}:swapsWithSole [.Subscript o i p] e l env=pure false:=by cases e<;>rfl
theorem pB{env:Env}{e:Expr}{es:List Expr}{k:Nat}{p:Pos}{l:Nat}:swapsWithSole [.Tuple es k p] e l env=pure false:=by cases e<;>rfl
theorem yx{ts vs:List Expr}{k k2:Nat}{p p2:Pos}{env:Env}(h:vs.all J4=true):swappedStores [.Tuple ts k p] (.Tuple vs k2 p2) env=pure none:=by
 have hf:vs.all (foldedForSure 8)=true:=yQ.mpr fun e he=>by
  have:=yQ.mp h e he
  cases e<;>first|rfl|cases this
 unfold swappedStores;simp only[hf,↓reduceIte]
 repeat' split
 all_goals rfl
theorem yw{ts vs:List Expr}{k k2:Nat}{p p2:Pos}{env:Env}(h:∃e∈ts,∀x p,e=.Name x p->env.kindOf x≠some .local):swappedStores [.Tuple ts k p] (.Tuple vs k2 p2) env=pure none:=by
 obtain⟨e,he,h⟩:=h;unfold swappedStores;simp only;split
 ·rfl
 split
 ·rfl
 split
 ·rfl
 rename_i hh;exfalso;simp only[Bool.or_eq_true,bne_iff_ne,ne_eq,not_or,Decidable.not_not]at hh
 have:=List.filterMap_length_eq_length.mp hh.1 e he
 cases e <;> first | (cases this;done) | skip
 rename_i x p
 have:=h x p rfl
 simp_all
section
variable[NI]{ks:List Fn}{r:Tr}(R:AU r ks){X:Cx}{C:SC}(F:Fit X C ks)
include R F
theorem Ch{ts vs:List Expr}{k k2:Nat}{q q2 p:Pos}{m:Sx}(h:yk r C ts vs k k2 q q2=some m):QS X (.Assign [.Tuple ts k q] (.Tuple vs k2 q2) p) (ci ks m):=by
 refine aJ F.ck h fun h0 h=>bS h fun x g hx hg=>qL (R.E F hx) (R.G F hg) pB ?_ (o7 rfl)
 rcases Bool.or_eq_true_iff.mp h0 with h0|h0
 ·exact yx h0
 ·obtain⟨e,he,h1⟩:=List.any_eq_true.mp h0
  refine yw ⟨e,he,fun x p ex=>?_⟩;subst ex;intro h2;have h2:X.env.scope.names.lookup x=some .local:=h2;have h1:(!F3 C x)=true:=h1;unfold F3 kd at h1;rw[<- F.nm,h2]at h1;cases h1
theorem Cj{t v:Expr}{p:Pos}{m:Sx}(h:trAs r C t v=some m):QS X (.Assign [t] v p) (ci ks m):=by
 have hN:X.N.Nodup:=by rw[F.N];exact F.nd
 have nm:∀{x q v m},nA v=true->m2 Sx.as (r.E C v) (oK C x)=some m->QS X (.Assign [.Name x q] v p) (ci ks m):=fun h0 h=>bS h fun a g ha hg=>by
  obtain⟨k,rfl,a1,a2,a3⟩:=vg F hg;exact wC hN a1 a2 (R.E F ha) (tM h0) a3
 cases t with
 |Name x q=>cases v with
  |ListComp elt gens sc q2 =>
   refine bS h fun a g ha hg=>?_
   clear h;obtain⟨k,rfl,l0,l1,l2⟩:=vg F hg;refine b0 ha fun y hy=>?_
   obtain⟨t,it,cs,i,g,c,y,N',rfl,rfl,T,a1,a2,a3,a4,a5,a6⟩:=wn R F hy;have hsw:=Ep (env:=X.env) (elt:=elt) (gens:=[⟨t,it,cs,0⟩]) (sc:=sc) (pos:=q2) (t:=x) (p:=q) (l:=p.line) F.kind;cases hsb:JF X.env.scope.names x q.line sc q2.line with
   |false=>rw[hsb]at hsw;exact wC hN l0 l1 (io (Bh F.calm T a1 a2 a3 a4 a5 a6)) hsw l2
   |true=>rw[hsb]at hsw;exact wB hN l0 l1 hsw F.calm T a1 a2 a3 a4 a5 a6 l2
  |_=>exact aJ F.ck h fun h0 h=>nm h0 h
 |Subscript a b q=>exact bS h fun x g hx hg=>qL (R.E F hx) (R.G F hg) wv yu (o7 rfl)
 |Tuple ts k q=>cases v with
  |Tuple vs k2 q2=>exact Ch R F h
  |_=>exact aJ F.ck h fun h0 h=>c9 h0 fun h0 h1=>bS h fun x g hx hg=>qL (R.E F hx) (R.G F hg) pB (yt h0) (o7 rfl)
 |Attribute o f q =>
  refine ff h fun c hc h=>bS h fun a b ha hb=>?_
  obtain⟨Ca,hC,cl,na⟩:=F.clb hc;exact EO (R.E F ha) (R.E F hb) cl hC na yp
 |_=>exact bt h
theorem DZ{s:Stmt}{m:Sx}(h:trS r C s=some m):QS X s (ci ks m):=by
 cases s with
 |Expr e p=>exact aJ F.ck h fun h0 h=>b0 h fun x hx=>Cz (R.E F hx) (tM h0)
 |Assign ts v p =>
  rcases ts with _|⟨t,_|_⟩
  ·exact bt h
  ·exact Cj R F h
  ·exact bt h
 |AugAssign t o v p=>cases t with
  |Subscript a b q=>exact aJ F.ck h fun h0 h=>jX h fun x y z hx hy hz=>CB F.hu (R.E F hx) (R.E F hy) (R.E F hz) (GU h0)
  |_=>exact bt h
 |Return e p=>cases e with
  | none=>first | exact bt h | (cases h;exact qs_retN)
  |some e=>exact b0 h fun x hx=>EM (R.E F hx)
 |If t a b p=>exact jX h fun x y z hx hy hz=>HB (R.T F hx) (iB R F hy) (iB R F hz)
 |For t it b els p =>
  refine aJ F.ck h fun h0 g=>c9 h0 fun h1 h2=>?_
  cases List.isEmpty_iff.mp h1;split at g
  ·exact jX g fun x y z hx hy hz=>Cy F.po F.calm (R.E F hx) (R.G F hy) (iB R F hz) (qD h2)
  exact jX g fun x y z hx hy hz=>EN F.po F.calm (wo R F hx) (R.G F hy) (iB R F hz) (qD h2)
 |While t b els p =>
  refine aJ F.ck h fun h0 g=>?_
  cases List.isEmpty_iff.mp h0;exact bS g fun x y hx hy=>zg F.po (R.T F hx) (iB R F hy)
 |Raise=>cases h;exact CA
 |_=>exact bt h
end
theorem mZ[NI]{ks:List Fn}:∀n:Nat,AU (tr n) ks
 |0=>⟨fun _ h=>bt h,fun _ h=>bt h,fun _ h=>bt h,fun _ h=>bt h⟩
 |n+1=>⟨fun F h=>Ee (mZ n) F h,fun F h=>DY (mZ n) F h,fun F h=>Ec (mZ n) F h,fun F h=>DZ (mZ n) F h⟩
section
variable(P:Program)(w:World)(K:Frag)(mg:Str->Option Value)(base:Heap)
def Mz[NI](d:Nat)(x:Str)(n:Nat)(fn:Fn):Prop:=∃f fd ps,ps.length=n/\FnOk P w K mg base eO d f fd ps (dB ⟨K,mg⟩ ps.length fn)/\mg x=some (.ref f)/\keepIn K (.ref f)=true/\Binds K fd ps []
def Ml[NI](d:Nat)(c m:Str)(n:Nat)(fn:Fn):Prop:=∃f fd ps C,ps.length=n/\FnOk P w K mg base eO d f fd ps (dB ⟨K,mg⟩ ps.length fn)/\mg c=some (.ref C)/\Cls K C/\j8 K C m f/\Binds K fd ps []
def Mj[NI](d:Nat)(c:Str)(n:Nat)(fn:Fn):Prop:=∃f fd ps C,ps.length=n/\FnOk P w K mg base eO d f fd ps (dB ⟨K,mg⟩ ps.length fn)/\mg c=some (.ref C)/\Mk K C f/\Binds K fd ps []
def KOk[NI](d:Nat)(fn:Fn):Ke->Prop
 |.f x n=>Mz P w K mg base d x n fn
 |.m c m n=>Ml P w K mg base d c m n fn
 |.k c n=>Mj P w K mg base d c n fn
def KsOk[NI](d:Nat):List Ke->List Fn->Prop
 |[],_=>True
 |k::ke,fn::ks=>KOk P w K mg base d fn k/\KsOk d ke ks
 |_::_,[]=>False
structure Ev(gs:List (Str×AV))(cl:List (Str×List Str)):Prop where
 bl:∀x∈bnames,mg x=none
 gs:∀p∈gs,∀w,pE p.2=some w->∃u,mg p.1=some u/\RelV w u
 cl:∀p∈cl,∃Ca,mg p.1=some (.ref Ca)/\Cls K Ca/\∀f∈p.2,NoAttr K Ca f
end
section
variable{P:Program}{w:World}{K:Frag}{mg:Str->Option Value}{base:Heap}{d d':Nat}{fn:Fn}
theorem KOk.mono[NI](h:d<=d'):∀{k:Ke},KOk P w K mg base d fn k->KOk P w K mg base d' fn k
 |.f _ _,⟨f,fd,ps,e,F,r⟩=>⟨f,fd,ps,e,F.mono h,r⟩
 |.m _ _ _,⟨f,fd,ps,C,e,F,r⟩=>⟨f,fd,ps,C,e,F.mono h,r⟩
 |.k _ _,⟨f,fd,ps,C,e,F,r⟩=>⟨f,fd,ps,C,e,F.mono h,r⟩
theorem KsOk.at[NI]:∀{ke:List Ke}{ks:List Fn}{j:Nat}{k:Ke},KsOk P w K mg base d ke ks->ke[j]?=some k->KOk P w K mg base d (kf ks j) k
 |[],_,_,_,_,e=>by simp at e
 |k::ke,[],_,_,h,_=>h.elim
 |k::ke,fn::ks,0,_,h,e=>by simp at e;subst e;exact h.1
 |k::ke,fn::ks,j+1,_,h,e=>by
  have:=KsOk.at (j:=j) h.2 (by simpa using e)
  exact this
theorem KOk.ok[NI](hr:Room (d+1) A):∀{k:Ke},KOk P w K mg base d fn k->G9 P w K mg base A fn k
 |.f _ _,⟨f,fd,ps,e,F,m,kp,b⟩=>⟨d,f,fd,ps,e,F,hr.mono (Nat.le_succ d),m,kp,b⟩
 |.m _ _ _,⟨f,fd,ps,C,e,F,m,c,me,b⟩=>⟨d,f,fd,ps,C,e,F,hr.mono (Nat.le_succ d),m,c,me,b⟩
 |.k _ _,⟨f,fd,ps,C,e,F,m,mk,b⟩=>⟨d,f,fd,ps,C,e,F,hr,m,mk,b⟩
end
def fx(st:Stmt):List Str:=(dF st).args.map (·.arg)
noncomputable def Gy(N ps:List Str)(sc:Scope):Bool:=(match sc.kind with|.function=>true|_=>false)&&!sc.isCoroutine&&!sc.isGenerator&&decide N.Nodup&&decide (N.take ps.length=ps) &&
 (ps.all fun x=>match sc.names.lookup x with|some .local=>true|some .cell=>true|_=>false)&&(sc.names.all fun p=>match p.2 with|.free=>false|_=>true)
theorem Gx(h:Gy N ps sc=true):lU N ps sc:=by
 unfold Gy at h;simp only[zC,yB]at h;obtain⟨⟨⟨⟨⟨⟨h1,h2⟩,h3⟩,h4⟩,h5⟩,h6⟩,h7⟩:=h;refine⟨?_,by simpa using h2,by simpa using h3,h4,h5,fun x hx=>?_,fun y hy e=>?_⟩
 ·split at h1
  ·rename_i e;exact e
  ·cases h1
 ·have:=yQ.mp h6 x hx
  split at this
  ·rename_i e;exact .inl e
  ·rename_i e;exact .inr e
  ·cases this
 ·have:=yQ.mp h7 y hy
  rw[e]at this;cases this
structure FH where
 ke:Ke
 qual:Str
 st:Stmt
 N:List Str
 cs:List Nat
 d:Nat
 la:List Pos
 cn:List Str
 hs:List Nat
def FH.tr(e:FH)(k:Bool)(ke:List Ke)(gs:List (Str×AV))(cl:List (Str×List Str)):Option NQ :=
 gu k (Gy e.N (fx e.st) (cM e.st)&&plainA (dF e.st)&&decide (fx e.st).Nodup) (m7 (R.tr 60) ⟨e.N,tE k (cM e.st).names,e.N,ke,gs,cl,e.la,e.cn,e.hs,k⟩ (dE e.st))
section
variable{P:Program}{w:World}{K:Frag}{mg:Str->Option Value}{base:Heap}{d:Nat}{x qual:Str}{st:Stmt}{f:Addr}{fd:FuncData}{N:List Str}{ke:List Ke}{ks:List Fn}{gs:List (Str×AV)}{cl:List (Str×List Str)}{la:List Pos}{b:NQ}
theorem IS[NI]{N ps:List Str}{k:Nat}{b:SF}(F:Fun K x qual st f fd)(S:lU N ps (cM st))
  (hbody:∀(A:Around)(outer:List Env)(s:Shared)(H:Hp)(E:XK),Room k (A.deeper (envOfC qual (cM st) s.heap.objs.size f fd.code))->mG (pb eO P w K mg base N qual (cM st) f fd.code A outer s H E).nox (dE st) b) :
  FnOk P w K mg base eO (k+1) f fd ps (dB ⟨K,mg⟩ ps.length (run N.length b)):=by
 obtain⟨oc,od,kV,doc,pm,an,cdv,ct,osl,rfl,lk,hcd⟩:=F.ex;refine IR lk hcd S (fun vs H Q E h=>h.1) fun A outer s H vs Q E hr h=>?_
 obtain⟨hl,P,φ,args,st,r,sm,k⟩:=h;have hb:=hbody A outer s H E hr;refine⟨_,PSs.nox hb,?_⟩;obtain⟨v,st',e,q⟩:=k;obtain⟨o,e1,e2⟩:=zA e;refine⟨P,φ,_,st,Cp r,sm,o,e1,?_⟩;cases o with
 |nx sl st1=>cases e2;exact fun P' φ' H' σ' f' s' _=>q P' φ' H' .non f' s' (by simp only[RA])
 |rt v st1=>cases e2;exact fun P' φ' H' w f' s' r'=>q P' φ' H' w f' s' r'
 |bk sl st1=>cases e2
 |ct sl st1=>cases e2
def sY[NI](mg:Str->Option Value)(base:Heap)(qual:Str)(cd:Value)(la:List Pos):Prop:=∀p∈la,∃c P,cd=.ref c/\CodeHd base c P/\jq mg base/\(P,p,qual++".<locals>."++"<lambda>")∈NI.tb/\∀t∈NI.tb,t.1=P->t=(P,p,qual++".<locals>."++"<lambda>")
theorem n9[NI]{e:FH}(F:Fun K x qual e.st f fd)(E:Ev K mg gs cl)(hl:sY mg base qual fd.code e.la)(hk:KsOk P w K mg base d ke ks)(h:e.tr true ke gs cl=some b) :
  FnOk P w K mg base eO (d+3) f fd (fx e.st) (dB ⟨K,mg⟩ (fx e.st).length (run e.N.length (af ks b)))/\Binds K fd (fx e.st) []:=by
 refine aJ rfl h fun h0 h4=>jR h0 fun h1 h2 h3=>?_
 have S:=Gx h1;refine⟨IS F S fun A outer s H E' hr=>?_,F.binds fun kV doc pm an cdv ct us hl=>bind_plain h2 rfl (of_decide_eq_true h3) hl⟩;exact iB (mZ _) ⟨rfl,rfl,rfl,S.nd,S.kind,rfl,fun _ _=>rfl,hr.units,hr.gd,E.bl,PassesOwn.never,fun j k e=>(hk.at e).ok (hr.mono oM),E.gs,E.cl,fun p hp=>⟨hr.mono oM,hl p hp⟩⟩ h4
end
structure FE extends FH where
 b:NQ
def FE.fn(e:FE)(fs:List Fn):Fn:=run e.N.length (af (e.cs.map (kf fs)) e.b)
def FE.ok[NI](e:FE)(K:Frag)(mg:Str->Option Value)(base:Heap):Prop:=match e.ke with
 |.f x _=>∃f fd,mg x=some (.ref f)/\Fun K x e.qual e.st f fd/\sY mg base e.qual fd.code e.la
 |.m c m _=>∃f fd C,mg c=some (.ref C)/\Cls K C/\j8 K C m f/\Fun K m e.qual e.st f fd/\sY mg base e.qual fd.code e.la
 |.k c _=>∃f fd C,mg c=some (.ref C)/\Mk K C f/\Fun K "__init__" e.qual e.st f fd/\sY mg base e.qual fd.code e.la
noncomputable def Ke.n:Ke->Nat
 |.f _ n=>n
 |.m _ _ n=>n
 |.k _ n=>n
noncomputable def rJ(pre:List FE)(j:Nat):Ke:=match pre[j]? with
 |some e=>e.ke
 |none=>.f "" 0
def FE.chk(gs:List (Str×AV))(cl:List (Str×List Str))(pre:List FE)(e:FE):Option NQ :=
 gu true (e.ke.n==(fx e.st).length&&e.cs.all (fun j=>match pre[j]? with|some g=>Nat.ble (g.d+3) e.d|none=>false)&&Nat.ble 3 e.d) (e.tr true (e.cs.map (rJ pre)) gs cl)
def oq(gs:List (Str×AV))(cl:List (Str×List Str)):List FE->List FE->List (Option NQ)
 |_,[]=>[]
 |pre,e::r=>e.chk gs cl pre::oq gs cl (pre++[e]) r
def ja:List Fn->List FE->List Fn
 |fs,[]=>fs
 |fs,e::r=>ja (fs++[e.fn fs]) r
section
variable{P:Program}{w:World}{K:Frag}{mg:Str->Option Value}{base:Heap}{gs:List (Str×AV)}{cl:List (Str×List Str)}
def qv[NI](P:Program)(w:World)(K:Frag)(mg:Str->Option Value)(base:Heap)(pre:List FE)(fs:List Fn):Prop:=pre.length=fs.length/\∀(j:Nat) e,pre[j]?=some e->KOk P w K mg base e.d (kf fs j) e.ke
theorem vC[NI]{d:Nat}(h:qv P w K mg base pre fs):∀cs:List Nat,(cs.all fun j=>match pre[j]? with|some g=>Nat.ble (g.d+3) (d+3)|none=>false)=true->KsOk P w K mg base d (cs.map (rJ pre)) (cs.map (kf fs))
 |[],_=>trivial
 |j::cs,hc=>by
  rw[List.all_cons,zC]at hc;refine⟨?_,vC h cs hc.2⟩;have h1:=hc.1;split at h1
  ·rename_i g hg
   have:=h.2 j g hg
   unfold rJ;rw[hg];exact this.mono (by have:=zS h1;lia)
  ·cases h1
theorem IT[NI]{pre:List FE}{fs:List Fn}{e:FE}(E:Ev K mg gs cl)(h:qv P w K mg base pre fs)(hf:e.ok K mg base)(hc:e.chk gs cl pre=some e.b):KOk P w K mg base e.d (e.fn fs) e.ke:=by
 obtain⟨h2,h3,h4,h1⟩:(e.ke.n==(fx e.st).length)=true/\(e.cs.all fun j=>match pre[j]? with|some g=>Nat.ble (g.d+3) e.d|none=>false)=true/\Nat.ble 3 e.d=true/\e.tr true (e.cs.map (rJ pre)) gs cl=some e.b:=aJ rfl hc fun h0 h=>jR h0 fun a b c=>⟨a,b,c,h⟩
 have hn:=yJ h2;obtain⟨d,hd⟩:∃d,e.d=d+3:=⟨e.d-3,by have:=zS h4;lia⟩;rw[hd]at h3 ⊢;have hk:=vC h e.cs h3;unfold FE.fn;unfold FE.ok at hf;split at hf
 ·rename_i x n ek
  obtain⟨f,fd,m,F,L⟩:=hf;obtain⟨a1,a2⟩:=n9 (e:=e.toFH) F E L hk h1;rw[ek]at hn ⊢;exact⟨f,fd,fx e.st,hn.symm,a1,m,F.kp,a2⟩
 ·rename_i c m n ek
  obtain⟨f,fd,C,hC,hc,hm,F,L⟩:=hf;obtain⟨a1,a2⟩:=n9 (e:=e.toFH) F E L hk h1;rw[ek]at hn ⊢;exact⟨f,fd,fx e.st,C,hn.symm,a1,hC,hc,hm,a2⟩
 ·rename_i c n ek
  obtain⟨f,fd,C,hC,hm,F,L⟩:=hf;obtain⟨a1,a2⟩:=n9 (e:=e.toFH) F E L hk h1;rw[ek]at hn ⊢;exact⟨f,fd,fx e.st,C,hn.symm,a1,hC,hm,a2⟩
theorem xh{j:Nat}(h:j<fs.length):kf (fs++[g]) j=kf fs j:=by
 unfold kf;rw[zD,zD,zN h]
theorem Dr:kf (fs++[g]) fs.length=g:=by
 unfold kf;rw[zD];simp
theorem tR[NI](E:Ev K mg gs cl):∀(rest pre:List FE)(fs:List Fn),qv P w K mg base pre fs->(∀e∈rest,e.ok K mg base)->oq gs cl pre rest=rest.map (fun e=>some e.b)->qv P w K mg base (pre++rest) (ja fs rest)
 |[],pre,fs,h,_,_=>by rw[List.append_nil];exact h
 |e::r,pre,fs,h,hf,hc=>by
  obtain⟨hc1,hc2⟩:=List.cons.inj hc;have h1:=IT E h (hf e z7) hc1
  have:=tR E r (pre++[e]) (fs++[e.fn fs]) ⟨by simp[h.1],fun j g hg=>?_⟩ (fun g hg=>hf g (zQ _ hg)) hc2
  ·rw[yM]at this;exact this
  ·rcases yT j pre.length with hj|hj
   ·rw[zN hj]at hg
    rw[xh (by rw[<- h.1];exact hj)];exact h.2 j g hg
   ·have ej:j=pre.length:=by
     have:=(zB.mp hg).1
     rw[zV]at this;simp at this;lia
    subst ej;simp at hg;subst hg;rw[h.1,Dr];exact h1
end
theorem Iq[NI]{K:Frag}{mg:Str->Option Value}{H:Hp}{a:Addr}{ns:List Int}{fn:Fn}{E:XK}(hg:∃st,fn [.fz (ns.map .int)] []=some (.bl true,st))(hS:bK K H a (ns.map V.int))(tb:∀t∈NI.tb,fP H t.1 t.2.1 t.2.2):dB ⟨K,mg⟩ 1 fn [.ref a] H (fun v _=>v=.bl true) E:=by
 obtain ⟨st,e⟩:=hg;refine ⟨rfl,fun c=>∃ vs,Rd H c (.lst vs),[],[.fz (ns.map .int)],[],aU ?_ bj,Sim.nil (fun c h=>?_) (fun t ht=>⟨tb t ht,fun hq0=>by obtain ⟨vs,z⟩:=hq0;obtain ⟨ps,e,_⟩:=tb t ht;rcases z with z | ⟨o,z⟩ <;> (rw [e] at z;cases z)⟩),.bl true,st,e,fun P' φ' H' w f s r=>by simpa only [RA] using r⟩
 ·simp only[RA]
  refine⟨a,ns.map V.int,rfl,?_,NJ.of_ints⟩;rcases hS with h|h
  ·exact .inl ⟨⟨_,h⟩,h⟩
  ·exact .inr fun H'=>.inr h
 ·obtain ⟨vs,h | ⟨o,h⟩⟩:=h <;> (rw [h];exact fun z=>nomatch z)
end R
namespace L2
open PySem PySem.Spec PyProof.Rows
theorem xf{P:Program}{w:World}{K:Frag}{mg mb:Str->Option Value}{CX:lj}{k:Nat}{fa a:Addr}{fd:FuncData}{x:Str}{sp:Sp}{s₁:Shared}{vs:List Value}{ns:List Int}{tabs:List (Addr×Addr)}
  (KX:K.In s₁.heap) (hns:s₁.heap.Ns mainGlobals mg) (hb:s₁.heap.Ns builtinsNs mb) (hbb:∀x:Str,x≠"__name__"->mb x=bootBuiltins x) (hlim:s₁.heap.NoLimit) (hg:s₁.gens=#[])
  (bm:∃bm ob,mg "__builtins__"=some (.ref bm)/\bm≠builtinsNs/\s₁.heap.get? bm=some ob/\ob.cls=.type "module"/\ob.dict=some builtinsNs/\ob.data=.plain)
  (hT:TabsAt tabs s₁.heap) (hK0:noTabs K=true)
  (ha:s₁.heap.get? a=some { cls:=.type "list",data:=.seq vs.toArray }) (hi:IntsAre vs ns) (hl:ns.length<=sizeLine) (hr:Room k callerA)
  (F:∀base:Heap,K.In base->base.Ns mainGlobals mg->jq mg base->FnOk P w K mg base CX k fa fd [x] sp) (hbind:∀(s:Shared)(u:Value),BindsTo s fd ⟨[u],[]⟩ [(x,u)])
  (hsp:∀H:Hp,(∀q∈tabs,H q.2=some (.tbl #[]))->bK K H a (ns.map V.int)->sp [.ref a] H (fun v _=>v=.bl true) fun _ _ _=>False)
  (hCX:∀H e s',CX [] H s₁ (fun _ _ _=>False) e s'->False) :
  codeAny (model P w) callerA (.call (.ref fa) ⟨[.ref a],[]⟩) (fun r s'=>r=.ok (.ret (.bool true))/\OldK s₁.heap s'.heap/\s'.os=s₁.os/\AllBare s'.gens) s₁:=by
 have rv:=v6 hi;have lenV:=hi.length;have core:∀H:Hp,bK K H a (ns.map V.int)->HOk P w H s₁.heap->(∀b,H b=none\/(b=a/\K.lookup a=none/\∃o xs,H b=some (.frz o (.lst xs)))\/(∃q∈tabs,b=q.2/\H b=some (.tbl #[])))->(∀q∈tabs,H q.2=some (.tbl #[])) ->
   codeAny (model P w) callerA (.call (.ref fa) ⟨[.ref a],[]⟩) (fun r s'=>r=.ok (.ret (.bool true))/\OldK s₁.heap s'.heap/\s'.os=s₁.os/\AllBare s'.gens) s₁:=by
  intro H hS NM hA hTb;have fO:∀{b:Addr}{o:Obj},s₁.heap.get? b=some o->H b=none->(jw s₁.heap H).get? b=some o:=fun e n=>Ax e n
  have none_of:∀{b:Addr}{o:Obj},s₁.heap.get? b=some o->o.cls≠.type "list"->o≠tabObj #[]->H b=none:=fun {b o} e n1 n2=>by
   rcases hA b with z|⟨rfl,_⟩|⟨q,hq,rfl,_⟩
   ·exact z
   ·rw[ha]at e;cases e;exact absurd rfl n1
   ·rw[(hT q hq).2]at e;cases e;exact absurd rfl n2
  have dict_of:∀{b:Addr}{o:Obj}{es:Array DictEntry}{ep:Nat},s₁.heap.get? b=some o->o.data=.dict es ep->H b=none:=fun {b o es ep} e d=>by
   rcases hA b with z|⟨rfl,_⟩|⟨q,hq,rfl,_⟩
   ·exact z
   ·rw[ha]at e;cases e;cases d
   ·rw[(hT q hq).2]at e;cases e;cases d
  have nsK:∀{b:Addr}{m:Str->Option Value},s₁.heap.Ns b m->(jw s₁.heap H).Ns b m:=fun {b m} ⟨o,es,ep,e,d,r⟩=>⟨o,es,ep,fO e (dict_of e d),d,r⟩
  have hKb:K.In (jw s₁.heap H):=fun b o e=>fO (KX b o e) (by
   rcases hA b with z|⟨rfl,z,_⟩|⟨q,hq,rfl,_⟩
   ·exact z
   ·rw[z]at e;cases e
   ·have e1:=KX _ o e
    rw[(hT q hq).2]at e1;cases e1;have h2:=yQ.mp hK0 _ (mem_of_lookupK e);exact absurd (show false=true from h2) Bool.false_ne_true)
  have hM:Mod K mg (jw s₁.heap H):=⟨hKb,nsK hns,⟨mb,nsK hb,hbb⟩,let⟨mc,h1,h2⟩:=hlim;⟨mc,nsK h1,h2⟩⟩;have hBM:jq mg (jw s₁.heap H):=by
   obtain⟨bm,ob,b1,b2,b3,b4,b5,b6⟩:=bm;refine⟨bm,ob,b1,b2,fun z=>?_,fO b3 (none_of b3 (by rw[b4];intro z;injection z with z;exact absurd z dC) (fun z=>by rw[z]at b4;cases b4)),b4,b5,b6⟩;obtain⟨o,es,ep,e,d,_⟩:=hns;rw[z,e]at b3;cases b3;rw[d]at b6;cases b6
  have e0:Env0 P w K mg (jw s₁.heap H) callerA [] s₁ H:=⟨rfl,hM,fun b o e=>De e,Nat.le_of_eq (xr _ _),trivial,fun b hb=>absurd (show b ∈ ([]:List Addr) from hb) (by simp),NM,.of_eq hg⟩;refine codeAny_mono ((F _ hKb (nsK hns) hBM).run callerA [] s₁ H ⟨[.ref a],[]⟩ [.ref a] [.ref a] _ _ hr e0 (hbind s₁ (.ref a)) (.cons rfl .nil) (hsp H hTb hS)) fun r s' h=>?_
  cases r with
  |error e=>exact(hCX H e s' h).elim
  |ok fl =>
   cases fl with
   |next=>exact False.elim h
   |brk=>exact False.elim h
   |cont=>exact False.elim h
   |ret u =>
    obtain⟨v,H',os,bare,un,hok',r',q⟩:=h;have q':v=.bl true:=q;subst q';obtain rfl:u=Value.bool true:=r';have old:∀b o,s₁.heap.get? b=some o->asItWas s₁.heap s'.heap b o:=fun b o e=>by
     rcases hA b with z|⟨rfl,_,ob,xs,z⟩|⟨q,hq,rfl,z⟩
     ·exact .inl (un.keep b o e z (by intro z;exact absurd (show b ∈ ([]:List Addr) from z) (by simp)) (by simp))
     ·have z2:=un.frzs b ob _ z
      obtain⟨e1,_⟩:=NM b _ z;obtain⟨e2,_⟩:=hok' b _ z2;rw[e]at e1;cases e1;exact .inl e2
     ·obtain⟨more,z2⟩:=un.tbls _ _ z
      have e2:=hok' _ _ z2;rw[(hT q hq).2]at e;cases e;exact .inr (.inl ⟨((hT q hq).1.tab (hT q hq).2).isCodeTable,rfl,#[],more,rfl,e2⟩)
    refine⟨rfl,⟨old,fun b o e=>?_⟩,os,bare⟩;exact un.there b o e (by simp)
 have natab:∀q∈tabs,q.2≠a:=fun q hq e=>by
  have:=(hT q hq).2
  rw[e,ha]at this;cases this
 cases hk:K.lookup a with
 |some o =>
  have e:=KX a o hk;rw[ha]at e;cases e;refine core (fun b=>if b∈tabs.map (·.2) then some (.tbl #[]) else none) (.inr ⟨_,vs.toArray,_,hk,rfl,rfl,rfl,by rw[zI,lenV];exact hl,by simpa using rv⟩) (fun b u z=>?_) (fun b=>?_) fun q hq=>yH (List.mem_map_of_mem hq)
  ·dsimp only at z
   by_cases hb:b∈tabs.map (·.2)
   ·rw[yH hb]at z;cases z
    obtain⟨q,hq,rfl⟩:=yC.mp hb;exact(hT q hq).2
   ·rw[yG hb]at z;cases z
  ·by_cases hb:b∈tabs.map (·.2)
   ·obtain⟨q,hq,rfl⟩:=yC.mp hb
    exact .inr (.inr ⟨q,hq,rfl,yH hb⟩)
   ·exact .inl (yG hb)
 |none =>
  refine core (fun b=>if b∈tabs.map (·.2) then some (.tbl #[]) else if b=a then some (.frz { cls:=.type "list",data:=.seq vs.toArray } (.lst (ns.map V.int))) else none) (.inl (.inr ⟨{ cls:=.type "list",data:=.seq vs.toArray },?_⟩)) (fun b u z=>?_) (fun b=>?_) fun q hq=>yH (List.mem_map_of_mem hq)
  ·dsimp only
   rw[yG (fun z=>by obtain⟨q,hq,e⟩:=yC.mp z;exact natab q hq e),yH rfl]
  ·dsimp only at z
   by_cases hb:b∈tabs.map (·.2)
   ·rw[yH hb]at z;cases z
    obtain⟨q,hq,rfl⟩:=yC.mp hb;exact(hT q hq).2
   ·rw[yG hb]at z
    by_cases hb':b=a
    ·rw[yH hb']at z;cases z
     subst hb';exact⟨ha,by rw[zH];exact hl,vs,_,rv,ha⟩
    ·rw[yG hb']at z;cases z
  ·by_cases hb:b∈tabs.map (·.2)
   ·obtain⟨q,hq,rfl⟩:=yC.mp hb
    exact .inr (.inr ⟨q,hq,rfl,yH hb⟩)
   ·by_cases hb':b=a
    ·exact .inr (.inl ⟨hb',hk,_,_,(yG hb).trans (yH hb')⟩)
    ·exact .inl ((yG hb).trans (yG hb'))
theorem DQ{l:PySem.W.OpenLaw}{n k:Nat}{q:Program}{bT:List Str}{XP:(Str->Option Value)->Heap->Prop}{YP:World->Heap->Prop}{d:DefRec}{K:Params->Frag}{sp:World->Sp}{x:Str}{tabs:List (Addr×Addr)}
  (hn:l.most=some n) (hn2:n<=sizeLine) (hdf:d.params.defaults=[]) (hr:Room k callerA)
  (hY:∀(w:World)(h:Heap),YP w h->(K w.params).In h/\∀q∈tabs,h.get? q.2=some (tabObj #[])) (hc:∀(w:World),∀q∈tabs,codeHdIn (K w.params) q.1 q.2=true) (hK0:∀(w:World),noTabs (K w.params)=true)
  (F:∀(w:World)(mg:Str->Option Value)(fa:Addr)(h:Heap),(K w.params).In h->h.Ns mainGlobals mg->mg d.name=some (.ref fa) ->
   ∃fd:FuncData,(∀(s:Shared)(u:Value),BindsTo s fd ⟨[u],[]⟩ [(x,u)]) /\
    ∀base:Heap,(K w.params).In base->base.Ns mainGlobals mg->jq mg base->FnOk l.prog w (K w.params) mg base eO k fa fd [x] (sp w))
  (hsp:∀(w:World)(H:Hp)(a:Addr)(ns:List Int),ns.length<=n->(∀q∈tabs,H q.2=some (.tbl #[]))->bK (K w.params) H a (ns.map V.int)->sp w [.ref a] H (fun v _=>v=.bl true) fun _ _ _=>False) :
  PySem.W.WalkO q bT XP YP l.row.toRowW d [] (fun f vs=>PySem.call f vs):=by
 refine Att.attach_call hn hdf fun w s₀ s₁ mg mb fa o pm cd doc a vs ns G Y ho hd hcd hmg hobj hints hlen hg=>?_
 obtain⟨KX,hT0⟩:=hY w _ Y;obtain⟨fd,hb,hF⟩:=F w mg fa _ KX G.T.g hmg;exact xf (tabs:=tabs) KX G.T.g G.T.b G.T.builtins G.T.nolimit hg G.T.bmain (fun q hq=>⟨codeHd_of_K KX (hc w q hq),hT0 q hq⟩) (hK0 w) hobj hints (z5 hlen hn2) hr hF hb (fun H hO hS=>hsp w H a ns hlen hO hS) fun H e s' z=>z
end L2
namespace R
open PySem PySem.Spec PyProof.Rows L2
abbrev G6[NI](K:Frag)(qual:Str)(cd:Value)(la:List Pos):Prop:=la=[]\/∃p c P,la=[p]/\cd=.ref c/\codeHdIn K c P=true/\NI.tb=[(P,p,qual++".<locals>."++"<lambda>")]
abbrev FactF[NI](K:Frag)(x:Str)(e:FE):Prop:=∃(f:Addr)(oc:Value)(od:Option Addr)(sl:Array (Option Value))(kV dc pm:Value)(an:Option Addr)(cd ct:Value),nsIn K mainGlobals x=some (some (.ref f)) /\
 K.lookup f=some ⟨oc,od,.func (fnOf x e.qual (dF e.st) (dE e.st) (cM e.st) .none kV dc pm an cd ct),sl⟩/\codeIn K cd e.qual=true/\keepIn K (.ref f)=true/\G6 K e.qual cd e.la
abbrev FactM[NI](K:Frag)(c m:Str)(e:FE):Prop:=∃(C f:Addr)(oc:Value)(od:Option Addr)(sl:Array (Option Value))(kV dc pm:Value)(an:Option Addr)(cd ct:Value),nsIn K mainGlobals c=some (some (.ref C))/\findIn K (.ref C) m=some (some (.ref f)) /\
 K.lookup f=some ⟨oc,od,.func (fnOf m e.qual (dF e.st) (dE e.st) (cM e.st) .none kV dc pm an cd ct),sl⟩/\codeIn K cd e.qual=true/\keepIn K (.ref f)=true/\isFn K (.ref f)=true/\G6 K e.qual cd e.la
abbrev FactN(K:Frag)(c:Str):Prop:=∃C:Addr,nsIn K mainGlobals c=some (some (.ref C))/\makesIn K C=true/\keepIn K (.ref C)=true
abbrev oC(K:Frag)(c:Str):Prop:=∃C:Addr,nsIn K mainGlobals c=some (some (.ref C))/\plainGet K C Str.empty=true/\hasDictIn K C=true/\plainOver K C=true/\findIn K (.ref C) "__setattr__"=some (some (.builtin "object.__setattr__"))
abbrev vW(K:Frag)(c:Str)(fs:List Str):Prop:=∃C:Addr,nsIn K mainGlobals c=some (some (.ref C))/\(fs.all fun f=>match findIn K (.ref C) f with|some none=>true|_=>false)=true
abbrev B0(K:Frag):Prop:=(bnames.all fun x=>match nsIn K mainGlobals x with|some none=>true|_=>false)=true
section
variable[NI]{K:Frag}{h base:Heap}{mg:Str->Option Value}
theorem qj(B:K.In base)(hb:jq mg base)(L:G6 K qual cd la):sY mg base qual cd la:=by
 intro p hp;rcases L with rfl|⟨q,c,P,rfl,e,hc,ht⟩
 ·cases hp
 ·rw[zM.mp hp]
  exact⟨c,P,e,codeHd_of_K B hc,hb,by rw[ht];simp,fun t h1 _=>by rw[ht]at h1;exact zM.mp h1⟩
theorem FactF.ok{n:Nat}(hk:e.ke=.f x n)(F:FactF K x e)(X:K.In h)(G:h.Ns mainGlobals mg)(B:K.In base)(hb:jq mg base):e.ok K mg base:=by
 obtain⟨f,oc,od,sl,kV,dc,pm,an,cd,ct,a,l,c,k,L⟩:=F;unfold FE.ok;rw[hk];exact⟨f,_,mg_of X G a,oa l c k,qj B hb L⟩
theorem xH(F:oC K c)(X:K.In h)(G:h.Ns mainGlobals mg)(hC:nsIn K mainGlobals c=some (some (.ref C))):mg c=some (.ref C)/\Cls K C:=by
 obtain⟨C',a,f1,f2,f3,f4⟩:=F;rw[hC]at a;cases a;exact⟨mg_of X G hC,⟨f1,f2,f3,f4⟩⟩
theorem FactM.ok{n:Nat}(hk:e.ke=.m c m n)(F:FactM K c m e)(C0:oC K c)(X:K.In h)(G:h.Ns mainGlobals mg)(B:K.In base)(hb:jq mg base):e.ok K mg base:=by
 obtain⟨C,f,oc,od,sl,kV,dc,pm,an,cd,ct,a,g,l,cc,k,i,L⟩:=F;unfold FE.ok;rw[hk];obtain⟨m1,m2⟩:=xH C0 X G a;exact⟨f,_,C,m1,m2,⟨g,i,k⟩,oa l cc k,qj B hb L⟩
theorem FactN.ok{n:Nat}(hk:e.ke=.k c n)(F:FactM K c "__init__" e)(N:FactN K c)(X:K.In h)(G:h.Ns mainGlobals mg)(B:K.In base)(hb:jq mg base):e.ok K mg base:=by
 obtain⟨C,f,oc,od,sl,kV,dc,pm,an,cd,ct,a,g,l,cc,k,i,L⟩:=F;obtain⟨C',a',m1,m2⟩:=N;rw[a]at a';cases a';unfold FE.ok;rw[hk];exact⟨f,_,C,mg_of X G a,⟨m1,g,i,m2⟩,oa l cc k,qj B hb L⟩
abbrev FactG(K:Frag)(p:Str×AV):Prop:=match p.2 with
 |.int i=>∃t,nsIn K mainGlobals p.1=some (some (.int i t))
 |.str x=>∃t,nsIn K mainGlobals p.1=some (some (.str x t))
 |_=>False
theorem FactG.ok(F:FactG K p)(X:K.In h)(G:h.Ns mainGlobals mg):∀w,pE p.2=some w->∃u,mg p.1=some u/\RelV w u:=by
 obtain⟨x,c⟩:=p;intro w hw;cases c with
 |int i=>obtain⟨t,e⟩:=F;cases hw;exact⟨_,mg_of X G e,t,rfl⟩
 |str y=>obtain⟨t,e⟩:=F;cases hw;exact⟨_,mg_of X G e,t,rfl⟩
 |_=>exact F.elim
theorem IW(X:K.In h)(G:h.Ns mainGlobals mg)(hb:B0 K)(hg:∀p∈gs,FactG K p)(hc:∀p∈cl,oC K p.1/\vW K p.1 p.2):Ev K mg gs cl:=by
 refine⟨fun x hx=>?_,fun p hp=>(hg p hp).ok X G,fun p hp=>?_⟩
 ·have:=yQ.mp hb x hx
  split at this
  ·rename_i e;exact mg_none_of X G e
  ·cases this
 ·obtain⟨C0,C,a,fs⟩:=hc p hp
  obtain⟨m1,m2⟩:=xH C0 X G a;refine⟨C,m1,m2,fun f hf=>?_⟩
  have:=yQ.mp fs f hf
  split at this
  ·rename_i e;exact e
  ·cases this
end
abbrev B9[NI](K:Frag)(e:FE):Prop:=match e.ke with
 |.f x _=>FactF K x e
 |.m c m _=>FactM K c m e
 |.k c _=>FactM K c "__init__" e/\FactN K c
def tf[NI](K:Frag):List FE->Prop
 |[]=>True
 |e::r=>B9 K e/\tf K r
noncomputable def AN(cl:List (Str×List Str))(e:FE):Bool:=match e.ke with
 |.m c _ _=>decide (c∈cl.map (·.1))
 |_=>true
theorem sk[NI]{K:Frag}{h base:Heap}{mg:Str->Option Value}(X:K.In h)(G:h.Ns mainGlobals mg)(B:K.In base)(hb:jq mg base)(hc:∀p∈cl,oC K p.1/\vW K p.1 p.2):∀{pre:List FE},pre.all (AN cl)=true->tf K pre->∀e∈pre,e.ok K mg base
 |[],_,_,_,h=>nomatch h
 |a::r,hx,h,e,he=>by
  rw[List.all_cons,zC]at hx;rcases zT.mp he with rfl|he
  ·have h1:=h.1
   have h2:=hx.1;unfold B9 at h1;unfold AN at h2;split at h1
   ·rename_i ek;exact FactF.ok ek h1 X G B hb
   ·rename_i ek
    rw[ek]at h2;obtain⟨p,hp,e1⟩:=yC.mp (of_decide_eq_true h2);exact FactM.ok ek h1 (by rw[<- e1];exact(hc p hp).1) X G B hb
   ·rename_i ek;exact FactN.ok ek h1.1 h1.2 X G B hb
  ·exact sk X G B hb hc hx.2 h.2 e he
def B8:List Fn->List FE->List Fn->Prop
 |_,[],[]=>True
 |fs,e::r,F::Fs=>e.fn fs=F/\B8 (fs++[F]) r Fs
 |_,_,_=>False
theorem xD:∀{pre:List FE}{fs Fs:List Fn},B8 fs pre Fs->ja fs pre=fs++Fs
 |[],fs,[],_=>(List.append_nil fs).symm
 |e::r,fs,F::Fs,h=>by
  show ja (fs++[e.fn fs]) r=_;rw[h.1,xD h.2];simp
 |[],_,_::_,h=>h.elim
 |_::_,_,[],h=>h.elim
theorem law_F[NI]{P:Program}{w:World}{K:Frag}{h:Heap}{mg:Str->Option Value}{fa:Addr}{gs:List (Str×AV)}{cl:List (Str×List Str)}{pre:List FE}{e:FE}{fn:Fn}(X:K.In h)(G:h.Ns mainGlobals mg)(hfa:mg "law"=some (.ref fa))
  (hb:B0 K) (hg:∀p∈gs,FactG K p) (hc:∀p∈cl,oC K p.1/\vW K p.1 p.2) (hchk:oq gs cl [] pre=pre.map fun e=>some e.b) (hce:e.chk gs cl pre=some e.b)
  (hx:pre.all (AN cl)=true) (facts:tf K pre) (hF:FactF K "law" e) (hps:fx e.st=[("_law_script":Str)]) (hfn:e.fn (ja [] pre)=fn) :
  ∃fd:FuncData,(∀(s:Shared)(v:Value),BindsTo s fd ⟨[v],[]⟩ [("_law_script",v)])/\∀base:Heap,K.In base->base.Ns mainGlobals mg->jq mg base ->
   FnOk P w K mg base eO e.d fa fd ["_law_script"] (fun vs H Q E=>∀mg,dB ⟨K,mg⟩ 1 fn vs H Q E):=by
 have E:=IW X G hb hg hc;obtain⟨h2,h3,h4,h1⟩:(e.ke.n==(fx e.st).length)=true/\(e.cs.all fun j=>match pre[j]? with|some g=>Nat.ble (g.d+3) e.d|none=>false)=true/\Nat.ble 3 e.d=true/\e.tr true (e.cs.map (rJ pre)) gs cl=some e.b:=aJ rfl hce fun h0 h=>jR h0 fun a b c=>⟨a,b,c,h⟩
 obtain⟨d,hd⟩:∃d,e.d=d+3:=⟨e.d-3,by have:=zS h4;lia⟩;rw[hd]at h3 ⊢;obtain⟨f,oc,od,sl,kV,dc,pm,an,cd,ct,a,l,c,k,L⟩:=hF;have m:=mg_of X G a;rw[hfa]at m;cases m;have F:=oa l c k;refine⟨fnOf "law" e.qual (dF e.st) (dE e.st) (cM e.st) .none kV dc pm an cd ct,fun s v=>?_,fun base B _ hbm=>?_⟩
 ·have hp:plainA (dF e.st)=true:=aJ rfl h1 fun h0 _=>jR h0 fun _ h _=>h
  refine .of_eq ?_
  have:=bind_plain (fd:=fnOf "law" e.qual (dF e.st) (dE e.st) (cM e.st) .none kV dc pm an cd ct) (us:=[v]) hp rfl (by show(fx e.st).Nodup;rw[hps];simp) (by show _=(fx e.st).length;rw[hps];rfl)
  rw[this];show pure ((fx e.st).zip [v])=_;rw[hps];rfl
 ·have pk:=tR (P:=P) (w:=w) E pre [] [] ⟨rfl,fun j g hg=>by simp at hg⟩ (sk X G B hbm hc hx facts) hchk
  have hk:=vC (d:=d) pk e.cs h3
  have:=(n9 (e:=e.toFH) F E (qj B hbm L) hk h1).1
  rw[hps]at this;have hfn':run e.N.length (af (e.cs.map (kf (ja [] pre))) e.b)=fn:=hfn;rw[hfn']at this;exact this.imp fun vs H Q E q=>q mg
theorem walk_R[NI]{l:PySem.W.OpenLaw}{k:Nat}{q:Program}{bT:List Str}{XP:(Str->Option Value)->Heap->Prop}{YP:World->Heap->Prop}{d:DefRec}{K:Params->Frag}{fn:Fn}{tabs:List (Addr×Addr)}
  (hn:l.most=some 63) (hdf:d.params.defaults=[]) (hr:Room k callerA)
  (hY:∀(w:World)(h:Heap),YP w h->(K w.params).In h/\∀q∈tabs,h.get? q.2=some (tabObj #[])) (hc:∀(w:World),∀q∈tabs,codeHdIn (K w.params) q.1 q.2=true) (hK0:∀(w:World),noTabs (K w.params)=true)
  (ht:∀t∈NI.tb,t.1∈tabs.map (·.2)) (hg:∀ns:List Int,ns.length<=63->∃st,fn [.fz (ns.map .int)] []=some (.bl true,st))
  (F:∀(w:World)(mg:Str->Option Value)(fa:Addr)(h:Heap),(K w.params).In h->h.Ns mainGlobals mg->mg d.name=some (.ref fa) ->
   ∃fd:FuncData,(∀(s:Shared)(u:Value),BindsTo s fd ⟨[u],[]⟩ [("_law_script",u)]) /\
    ∀base:Heap,(K w.params).In base->base.Ns mainGlobals mg->jq mg base->FnOk l.prog w (K w.params) mg base eO k fa fd ["_law_script"] (fun vs H Q E=>∀mg,dB ⟨K w.params,mg⟩ 1 fn vs H Q E)) :
  PySem.W.WalkO q bT XP YP l.row.toRowW d [] (fun f vs=>PySem.call f vs) :=
 DQ (sp:=fun w vs H Q E=>∀mg,dB ⟨K w.params,mg⟩ 1 fn vs H Q E) hn dC hdf hr hY hc hK0 F fun w H a ns hl hT hS mg=>Iq (hg ns hl) hS fun t h=>by
  obtain⟨q,hq,e⟩:=yC.mp (ht t h);exact⟨#[],by rw[<- e];exact hT q hq,trivial,.inl rfl⟩
end R
namespace SX
def NK:Nat->(Nat->Int)->Int
 |0,_=>0
 |n+1,f=>NK n f+f n
theorem sum_congr{n:Nat}{f g:Nat->Int}(h:∀i,i<n->f i=g i):NK n f=NK n g:=by
 induction n with
 |zero=>rfl
 |succ n ih=>simp only[NK];rw[ih fun i hi=>h i oM,h n oM]
theorem yq{n:Nat}{f:Nat->Int}(h:∀i,i<n->f i=0):NK n f=0:=by
 induction n with
 |zero=>rfl
 |succ n ih=>simp only[NK];rw[ih fun i hi=>h i oM,h n oM];rfl
theorem jF(n:Nat)(f g:Nat->Int):NK n (fun i=>f i+g i)=NK n f+NK n g:=by
 induction n with
 |zero=>rfl
 |succ n ih=>simp only[NK];rw[ih];lia
theorem sum_mul(n:Nat)(c:Int)(f:Nat->Int):NK n (fun i=>c*f i)=c*NK n f:=by
 induction n with
 |zero=>simp[NK]
 |succ n ih=>simp only[NK];rw[ih,Int.mul_add]
theorem fG{n k:Nat}{f:Nat->Int}(hk:k<n)(h:∀i,i<n->i≠k->f i=0):NK n f=f k:=by
 induction n with
 |zero=>lia
 |succ n ih =>
  simp only[NK];rcases yT k n with hn|hn
  ·rw[ih hn fun i hi he=>h i oM he,h n oM oM];lia
  ·have:k=n:=by lia
   subst this;rw[yq fun i hi=>h i oM oM];lia
theorem tO{n k l:Nat}{f:Nat->Int}(hk:k<n)(hl:l<n)(hne:k≠l)(h:∀i,i<n->i≠k->i≠l->f i=0):NK n f=f k+f l:=by
 have e:NK n f=NK n (fun i=>(if i=k then f i else 0)+if i=k then 0 else f i):=sum_congr fun i _=>by split<;>lia
 rw[e,jF,fG (k:=k) hk fun i _ he=>yG he,fG (k:=l) hl fun i hi he=>?_]
 ·rw[yH rfl,yG (fun z=>hne z.symm)]
 ·by_cases z:i=k
  ·exact yH z
  ·rw[yG z];exact h i hi z he
noncomputable def up(A:Nat->Nat->Int)(r:Nat)(u:Nat->Int):Nat->Nat->Int:=fun i=>if i=r then u else A i
theorem bR{A:Nat->Nat->Int}{r:Nat}{u:Nat->Int}:up A r u r=u:=yH rfl
theorem bo{A:Nat->Nat->Int}{r i:Nat}{u:Nat->Int}(h:i≠r):up A r u i=A i:=yG h
theorem fF{A:Nat->Nat->Int}{r:Nat}:up A r (A r)=A:=by
 funext i;by_cases h:i=r
 ·rw[h,bR]
 ·exact bo h
theorem iz{A:Nat->Nat->Int}{r q:Nat}{u v:Nat->Int}(h:r≠q):up (up A r u) q v=up (up A q v) r u:=by
 funext i;by_cases h1:i=q
 ·subst h1;rw[bR,bo (fun z=>h z.symm),bR]
 ·rw[bo h1]
  by_cases h2:i=r
  ·subst h2;rw[bR,bR]
  ·rw[bo h2,bo h2,bo h1]
noncomputable def skip(k i:Nat):Nat:=if i<k then i else i+1
noncomputable def jD(k r:Nat):Nat:=if r<k then r else r-1
noncomputable def sg(k:Nat):Int:=if k%2=0 then 1 else -1
theorem Cs(k:Nat):sg (k+1)=- sg k:=by unfold sg;split<;>split<;>lia
theorem Ew(k:Nat):(sg k).natAbs=1:=by unfold sg;split<;>rfl
def gi(A:Nat->Nat->Int)(k:Nat):Nat->Nat->Int:=fun i j=>A (skip k i) (j+1)
def bE:Nat->(Nat->Nat->Int)->Int
 |0,_=>1
 |n+1,A=>NK (n+1) fun k=>sg k*A k 0*bE n (gi A k)
theorem mQ{A:Nat->Nat->Int}{k:Nat}{u:Nat->Int}:gi (up A k u) k=gi A k:=by
 funext i j;unfold gi;rw[bo];unfold skip;split<;>lia
theorem qX{A:Nat->Nat->Int}{k r:Nat}{u:Nat->Int}(h:r≠k):gi (up A r u) k=up (gi A k) (jD k r) (fun j=>u (j+1)):=by
 funext i j;unfold gi;by_cases hi:i=jD k r
 ·have:skip k i=r:=by unfold skip;unfold jD at hi;split at hi<;>split<;>lia
  rw[this,bR,hi,bR]
 ·have:skip k i≠r:=by unfold skip;unfold jD at hi;split at hi<;>split<;>lia
  rw[bo this,bo hi]
theorem di:∀{n:Nat}{A B:Nat->Nat->Int},(∀i j,i<n->j<n->A i j=B i j)->bE n A=bE n B
 |0,_,_,_=>rfl
 |n+1,A,B,h=>sum_congr fun k hk=>by
  rw[h k 0 hk oM,di (A:=gi A k) (B:=gi B k) fun i j hi hj=>h _ _ (by unfold skip;split<;>lia) oM]
theorem gz:∀{n:Nat}{A:Nat->Nat->Int}{r:Nat}{a b:Int}{u v:Nat->Int},r<n->bE n (up A r fun j=>a*u j+b*v j)=a*bE n (up A r u)+b*bE n (up A r v)
 |0,_,_,_,_,_,_,h=>by lia
 |n+1,A,r,a,b,u,v,h=>by
  show NK (n+1) _=a*NK (n+1) _+b*NK (n+1) _;rw[<- sum_mul,<- sum_mul,<- jF];refine sum_congr fun k hk=>?_
  by_cases e:r=k
  ·subst e
   rw[mQ,mQ,mQ,bR,bR,bR]
   grind
  ·rw[qX e,qX e,qX e,bo (fun z=>e z.symm),bo (fun z=>e z.symm),bo (fun z=>e z.symm)]
   rw[gz (A:=gi A k) (r:=jD k r) (u:=fun j=>u (j+1)) (v:=fun j=>v (j+1)) (by unfold jD;split<;>lia)]
   grind
theorem lO:∀{n:Nat}{A:Nat->Nat->Int}{r:Nat},r+1<n->(∀j,A r j=A (r+1) j)->bE n A=0
 |0,_,_,h,_=>by lia
 |n+1,A,r,h,e=>by
  show NK (n+1) _=0;have hm:bE n (gi A r)=bE n (gi A (r+1)):=by
   refine di fun i j _ _=>?_
   unfold gi;by_cases hi:i=r
   ·subst hi
    have h1:skip i i=i+1:=by unfold skip;split<;>lia
    have h2:skip (i+1) i=i:=by unfold skip;split<;>lia
    rw[h1,h2,e]
   ·have:skip r i=skip (r+1) i:=by unfold skip;split<;>split<;>lia
    rw[this]
  rw[tO (k:=r) (l:=r+1) oM h oM fun k hk h1 h2=>?_]
  ·rw[hm,e 0,Cs];grind
  ·have:bE n (gi A k)=0:=by
    rcases yT k r with hk'|hk'
    ·refine lO (r:=r-1) oM fun j=>?_
     unfold gi;have a1:skip k (r-1)=r:=by unfold skip;split<;>lia
     have a2:skip k (r-1+1)=r+1:=by unfold skip;split<;>lia
     rw[a1,a2,e]
    ·refine lO (r:=r) oM fun j=>?_
     unfold gi;have a1:skip k r=r:=by unfold skip;split<;>lia
     have a2:skip k (r+1)=r+1:=by unfold skip;split<;>lia
     rw[a1,a2,e]
   rw[this,yO]
theorem mz{n:Nat}{A:Nat->Nat->Int}{c j:Nat}(hc:c<n)(hj:j<n)(hne:c≠j)(alt:∀x:Nat->Int,bE n (up (up A c x) j x)=0)(u v:Nat->Int):bE n (up (up A c u) j v)=- bE n (up (up A c v) j u):=by
 have h:=alt (fun k=>1*u k+1*v k);rw[gz hj,iz hne,gz hc,iz hne (v:=v),gz hc,<- iz hne,<- iz hne,<- iz hne,<- iz hne,alt u,alt v]at h;lia
theorem o9{n:Nat}:∀(k:Nat){A:Nat->Nat->Int}{i j:Nat},j=i+k+1->j<n->(∀x,A i x=A j x)->bE n A=0
 |0,A,i,j,e,hj,h=>lO (r:=i) oM (by subst e;exact h)
 |k+1,A,i,j,e,hj,h=>by
  have alt:∀x:Nat->Int,bE n (up (up A (j-1) x) j x)=0:=fun x=>lO (r:=j-1) oM fun y=>by
   rw[show j-1+1=j by lia,bR,bo oM,bR]
  have hs:=mz (A:=A) (c:=j-1) (j:=j) oM hj oM alt (A (j-1)) (A j);rw[fF,fF]at hs;rw[hs,o9 k (A:=up (up A (j-1) (A j)) j (A (j-1))) (i:=i) (j:=j-1) oM oM fun x=>by
   rw[bo oM,bo oM,bo oM,bR,h]]
  rfl
theorem jP{n:Nat}{A:Nat->Nat->Int}{i j:Nat}(hi:i<n)(hj:j<n)(hne:i≠j)(h:∀x,A i x=A j x):bE n A=0:=by
 rcases yT i j with l|l
 ·exact o9 (j-i-1) (i:=i) (j:=j) oM hj h
 ·exact o9 (i-j-1) (i:=j) (j:=i) oM hi fun x=>(h x).symm
theorem AJ{n:Nat}{A:Nat->Nat->Int}{c j:Nat}(hc:c<n)(hj:j<n)(hne:c≠j)(u v:Nat->Int):bE n (up (up A c u) j v)=- bE n (up (up A c v) j u) :=
 mz hc hj hne (fun x=>jP hc hj hne fun y=>by rw[bo hne,bR,bR]) u v
theorem jO{n:Nat}{A:Nat->Nat->Int}{r:Nat}(hr:r<n){t:Nat->Int}{b:Nat->Nat->Int}:∀m:Nat,bE n (up A r fun x=>NK m fun k=>t k*b k x)=NK m fun k=>t k*bE n (up A r (b k))
 |0=>by
  have:=gz (A:=A) (r:=r) (a:=0) (b:=0) (u:=fun _=>0) (v:=fun _=>0) hr
  simp only[yP,Int.add_zero]at this;exact this
 |m+1=>by
  have:=gz (A:=A) (r:=r) (a:=1) (b:=t m) (u:=fun x=>NK m fun k=>t k*b k x) (v:=b m) hr
  rw[Int.one_mul,jO hr m]at this;simp only[Int.one_mul]at this;exact this
theorem o8{n:Nat}{A:Nat->Nat->Int}{r:Nat}(hr:r<n){d:Int}{u:Nat->Int}:bE n (up A r fun x=>d*u x)=d*bE n (up A r u):=by
 have:=gz (A:=A) (r:=r) (a:=d) (b:=0) (u:=u) (v:=u) hr
 simp only[yP,Int.add_zero]at this;exact this
theorem iQ{n:Nat}{A:Nat->Nat->Int}{r:Nat}{u v:Nat->Int}(h:∀x,x<n->u x=v x):bE n (up A r u)=bE n (up A r v):=di fun i j _ hj=>by
 by_cases e:i=r
 ·subst e;rw[bR,bR];exact h j hj
 ·rw[bo e,bo e]
theorem Jc{n:Nat}{B:Nat->Nat->Int}{j:Nat}{d:Int}{v:Nat->Int}{t:Nat->Int}(hj:j<n)(h:∀x,x<n->d*v x=NK n fun k=>t k*B k x):d*bE n (up B j v)=t j*bE n B:=by
 rw[<- o8 hj,iQ h,jO hj,fG hj fun k hk hne=>?_,fF];rw[jP (i:=k) (j:=j) hk hj hne fun x=>by rw[bo hne,bR],yO]
theorem Jb{n:Nat}{B:Nat->Nat->Int}{c j:Nat}{d:Int}{u v:Nat->Int}{t:Nat->Int}(hc:c<n)(hj:j<n)(hne:c≠j)(h:∀x,x<n->d*v x=NK n fun k=>t k*B k x) :
  d*bE n (up (up B c u) j v)=t j*bE n (up B c u)-t c*bE n (up B j u):=by
 rw[<- o8 hj,iQ h,jO hj,tO hj hc (fun z=>hne z.symm) fun k hk h1 h2=>?_]
 ·have e1:up (up B c u) j (B j)=up B c u:=by
   have:up B c u j=B j:=bo fun z=>hne z.symm
   rw[<- this,fF]
  rw[e1,AJ hc hj hne u (B c),fF]
  grind
 ·rw[jP (i:=k) (j:=j) hk hj h1 fun x=>by rw[bo h1,bo h2,bR],yO]
def fct:Nat->Nat
 |0=>1
 |n+1=>(n+1)*fct n
theorem abs_sum{n:Nat}{f:Nat->Int}{M:Nat}(h:∀i,i<n->(f i).natAbs<=M):(NK n f).natAbs<=n*M:=by
 induction n with
 |zero=>simp[NK]
 |succ n ih =>
  simp only[NK];have h1:=ih fun i hi=>h i oM
  have h2:=h n oM;rw[Nat.succ_mul]
  have:=Int.natAbs_add_le (NK n f) (f n)
  lia
theorem sD:∀{n:Nat}{A:Nat->Nat->Int}{M:Nat},(∀i j,i<n->j<n->(A i j).natAbs<=M)->(bE n A).natAbs<=fct n*M^n
 |0,_,_,_=>by simp[bE,fct]
 |n+1,A,M,h=>by
  show(NK (n+1) _).natAbs<=_;refine z5 (abs_sum (M:=M*(fct n*M^n)) fun k hk=>?_) ?_
  ·rw[yZ,yZ,Ew,Nat.one_mul]
   exact Nat.mul_le_mul (h k 0 hk oM) (sD fun i j hi hj=>h _ _ (by unfold skip;split<;>lia) oM)
  ·show(n+1)*(M*(fct n*M^n))<=(n+1)*fct n*M^(n+1)
   rw[Nat.pow_succ];generalize fct n=a;generalize M^n=b;exact Nat.le_of_eq (by grind)
noncomputable def eW(w:Nat):Nat->Int:=fun x=>if x=w then 1 else 0
def aR(w:Nat)(v:Nat->Nat->Int)(h:Nat->Nat):Nat->Nat->Int:=fun k=>if k=w then eW w else v (h k)
structure Lin(w m:Nat)(v:Nat->Nat->Int)(d:Int)(t:Nat->Nat->Int)(h s:Nat->Nat):Prop where
 pos:0<d
 lin:∀i,i<m->∀x,x<w+1->d*v (s i) x=NK (w+1) fun k=>t i k*aR w v h k x
 dt:∃g:Int,g*g=1/\bE (w+1) (aR w v h)=g*d
structure p5(w m r c:Nat)(e d:Int)(t:Nat->Nat->Int)(h s:Nat->Nat)(d':Int)(t':Nat->Nat->Int)(h' s':Nat->Nat):Prop where
 e1:e*e=1
 ep:0<e*t r c
 d':d'=e*t r c
 tc:∀i,i<m->i≠r->t' i c=e*t i c
 tj:∀i,i<m->i≠r->∀j,j<w+1->j≠c->t' i j=(t i j*(e*t r c)-t i c*(e*t r j))/d
 rc:t' r c=e*d
 rj:∀j,j<w+1->j≠c->t' r j=- (e*t r j)
 hc:h' c=s r
 hj:∀j,j<w->j≠c->h' j=h j
 sr:s' r=h c
 si:∀i,i<m->i≠r->s' i=s i
section
variable{w m r c:Nat}{e d d':Int}{v t t':Nat->Nat->Int}{h s h' s':Nat->Nat}
theorem Lin.one(L:Lin w m v d t h s){g:Int}(hg:bE (w+1) (aR w v h)=g*d){i j:Nat}(hi:i<m)(hj:j<w+1):bE (w+1) (up (aR w v h) j (v (s i)))=g*t i j:=by
 have h1:=Jc (n:=w+1) (j:=j) hj (L.lin i hi);rw[hg]at h1;have h0:d≠0:=by have:=L.pos;lia
 refine Int.eq_of_mul_eq_mul_left h0 ?_;rw[h1];grind
theorem Lin.ex(L:Lin w m v d t h s){i j:Nat}(hi:i<m)(hr:r<m)(hc:c<w+1)(hj:j<w+1)(hne:c≠j):d ∣ t i j*t r c-t i c*t r j:=by
 obtain⟨g,g1,hg⟩:=L.dt;have h1:=Jb (n:=w+1) (c:=c) (j:=j) (u:=v (s r)) hc hj hne (L.lin i hi);rw[L.one hg hr hc,L.one hg hr hj]at h1;refine⟨g*bE (w+1) (up (up (aR w v h) c (v (s r))) j (v (s i))),?_⟩;generalize bE (w+1) (up (up (aR w v h) c (v (s r))) j (v (s i)))=D at h1
 grind
theorem Lin.ex'(L:Lin w m v d t h s){i j:Nat}(hi:i<m)(hr:r<m)(hc:c<w+1)(hj:j<w+1)(hne:c≠j):d*((t i j*(e*t r c)-t i c*(e*t r j))/d)=t i j*(e*t r c)-t i c*(e*t r j):=by
 refine Int.mul_ediv_cancel' ?_;obtain⟨k,hk⟩:=L.ex hi hr hc hj hne;exact⟨e*k,by grind⟩
theorem sQ(hc:c<w)(P1:h' c=s r)(P2:∀j,j<w->j≠c->h' j=h j):∀k,k<w+1->aR w v h' k=up (aR w v h) c (v (s r)) k:=by
 intro k hk;unfold aR;by_cases e:k=c
 ·subst e;rw[bR,yG oM,P1]
 ·rw[bo e]
  by_cases e2:k=w
  ·rw[yH e2,yH e2]
  ·rw[yG e2,yG e2,P2 k oM e]
theorem Lin.piv(L:Lin w m v d t h s)(P:p5 w m r c e d t h s d' t' h' s')(hr:r<m)(hc:c<w):Lin w m v d' t' h' s':=by
 have h0:d≠0:=by have:=L.pos;lia
 have e1:=P.e1;refine⟨by rw[P.d'];exact P.ep,fun i hi x hx=>?_,?_⟩
 ·by_cases ir:i=r
  ·subst ir
   rw[P.sr,P.d'];have hk:NK (w+1) (fun k=>t' i k*aR w v h' k x)=NK (w+1) fun k=>(- e)*(t i k*aR w v h k x)+if k=c then e*t i c*aR w v h c x+e*d*v (s i) x else 0:=by
    refine sum_congr fun k hk=>?_
    rw[sQ hc P.hc P.hj k hk];by_cases kc:k=c
    ·subst kc;rw[yH rfl,bR,P.rc];grind
    ·rw[yG kc,bo kc,P.rj k hk kc];grind
   rw[hk,jF,sum_mul,<- L.lin i hi x hx,fG (k:=c) oM fun k _ z=>yG z,yH rfl];have:aR w v h c x=v (h c) x:=by unfold aR;rw[yG oM]
   rw[this];grind
  ·refine Int.eq_of_mul_eq_mul_left h0 ?_
   rw[P.si i hi ir,<- sum_mul];have hk:NK (w+1) (fun k=>d*(t' i k*aR w v h' k x))=NK (w+1) fun k=>(e*t r c*(t i k*aR w v h k x)+(- (e*t i c))*(t r k*aR w v h k x))+if k=c then d*(e*t i c*v (s r) x) else 0:=by
    refine sum_congr fun k hk=>?_
    rw[sQ hc P.hc P.hj k hk];by_cases kc:k=c
    ·subst kc;rw[yH rfl,bR,P.tc i hi ir];grind
    ·rw[yG kc,bo kc,P.tj i hi ir k hk kc,<- Int.mul_assoc,L.ex' hi hr oM hk fun z=>kc z.symm];grind
   rw[hk,jF,jF,sum_mul,sum_mul,<- L.lin i hi x hx,<- L.lin r hr x hx,fG (k:=c) oM fun k _ z=>yG z,yH rfl,P.d']
   grind
 ·obtain⟨g,g1,hg⟩:=L.dt
  refine⟨g*e,by grind,?_⟩;rw[di (B:=up (aR w v h) c (v (s r))) fun i j hi hj=>by rw[sQ hc P.hc P.hj i hi],L.one hg hr oM,P.d']
  grind
theorem Lin.func(L:Lin w m v d t h s)(hv:∀q,q<w->∀x,x<w+1->v q x=if x=q then 1 else 0)(hc:c<w+1){X:Nat->Int}(hs:∀i,i<m->s i<w->X (s i)=t i c)(hh:∀j,j<w->h j<w->X (h j)=if j=c then d else 0)
  (cov:∀q,q<w->(∃i,i<m/\s i=q)\/∃j,j<w/\h j=q) :
  (∀i,i<m->(NK w fun q=>v (s i) q*X q)+v (s i) w*(if c=w then d else 0)=t i c)/\∀j,j<w->(NK w fun q=>v (h j) q*X q)+v (h j) w*(if c=w then d else 0)=if j=c then d else 0:=by
 obtain⟨g,g1,hg⟩:=L.dt;have F:∀u:Nat->Int,(NK w fun q=>u q*X q)+u w*(if c=w then d else 0)=g*bE (w+1) (up (aR w v h) c u):=fun u=>by
  have e1:bE (w+1) (up (aR w v h) c u)=NK (w+1) fun q=>u q*bE (w+1) (up (aR w v h) c (eW q)):=by
   rw[<- jO hc];refine iQ fun x hx=>?_
   rw[fG hx fun k _ z=>by unfold eW;rw[yG fun y=>z y.symm,yO]];unfold eW;rw[yH rfl,Int.mul_one]
  have bb:∀k,k<w+1->g*bE (w+1) (up (aR w v h) c (aR w v h k))=if k=c then d else 0:=fun k hk=>by
   by_cases kc:k=c
   ·rw[yH kc,kc,fF,hg];grind
   ·rw[yG kc,jP (i:=k) (j:=c) hk hc kc fun x=>by rw[bo kc,bR],yO]
  rw[e1,<- sum_mul];show _=NK w _+_;congr 1
  ·refine sum_congr fun q hq=>?_
   have:g*bE (w+1) (up (aR w v h) c (eW q))=X q:=by
    have ev:∀x,x<w+1->eW q x=v q x:=fun x hx=>(hv q hq x hx).symm
    rw[iQ ev];rcases cov q hq with⟨i,hi,rfl⟩|⟨j,hj,rfl⟩
    ·rw[L.one hg hi hc,hs i hi hq];grind
    ·have:=bb j oM
     rw[show aR w v h j=v (h j) by unfold aR;rw[yG oM]]at this;rw[this,hh j hj hq]
   rw[<- this];grind
  ·have:=bb w oM
   rw[show aR w v h w=eW w by unfold aR;rw[yH rfl]]at this;have e2:(if c=w then d else 0)=if w=c then d else 0:=by
    by_cases z:c=w
    ·rw[yH z,yH z.symm]
    ·rw[yG z,yG fun y=>z y.symm]
   rw[e2,<- this];grind
 refine⟨fun i hi=>?_,fun j hj=>?_⟩
 ·rw[F,L.one hg hi hc];grind
 ·rw[F]
  have e:v (h j)=aR w v h j:=by unfold aR;rw[yG oM]
  rw[e];by_cases jc:j=c
  ·rw[yH jc,jc,fF,hg];grind
  ·rw[yG jc,jP (i:=j) (j:=c) oM hc jc fun x=>by rw[bo jc,bR],yO]
theorem Lin.bound(L:Lin w m v d t h s){M:Nat}(hM:1<=M)(hv:∀q x,x<w+1->(v q x).natAbs<=M):d.natAbs<=fct (w+1)*M^(w+1)/\∀i,i<m->∀j,j<w+1->(t i j).natAbs<=fct (w+1)*M^(w+1):=by
 obtain⟨g,g1,hg⟩:=L.dt;have ga:g.natAbs=1:=by
  have:g.natAbs*g.natAbs=1:=by rw[<- yZ,g1];rfl
  exact Nat.eq_one_of_mul_eq_one_left this
 have hb:∀k x,x<w+1->(aR w v h k x).natAbs<=M:=fun k x hx=>by
  unfold aR;split
  ·unfold eW;split<;>simp<;>lia
  ·exact hv _ x hx
 refine⟨?_,fun i hi j hj=>?_⟩
 ·have:=sD (n:=w+1) (A:=aR w v h) (M:=M) fun i j _ hj=>hb i j hj
  rw[hg,yZ,ga,Nat.one_mul]at this;exact this
 ·have:=sD (n:=w+1) (A:=up (aR w v h) j (v (s i))) (M:=M) fun k x _ hx=>by
   by_cases z:k=j
   ·subst z;rw[bR];exact hv _ x hx
   ·rw[bo z];exact hb k x hx
  rw[L.one hg hi hj,yZ,ga,Nat.one_mul]at this;exact this
end
structure Pm(w m:Nat)(h s:Nat->Nat):Prop where
 hl:∀j,j<w->h j<w+m
 sl:∀i,i<m->s i<w+m
 hi:∀j k,j<w->k<w->h j=h k->j=k
 si:∀j k,j<m->k<m->s j=s k->j=k
 hs:∀j i,j<w->i<m->h j≠s i
 cov:∀q,q<w+m->(∃i,i<m/\s i=q)\/∃j,j<w/\h j=q
structure Fea(w m:Nat)(G N:Nat->Prop)(t:Nat->Nat->Int)(h s:Nat->Nat):Prop where
 g:∀i,i<m->G (s i)->0<=t i w
 n:∀i,i<m->N (s i)->t i w=0/\∀j,j<w->¬N (h j)->t i j=0
 f:∀j,j<w->G (h j)\/N (h j)
section
variable{w m r c:Nat}{e d d':Int}{v t t':Nat->Nat->Int}{h s h' s':Nat->Nat}{G N G' N':Nat->Prop}
theorem Pm.piv(Q:Pm w m h s)(P:p5 w m r c e d t h s d' t' h' s')(hr:r<m)(hc:c<w):Pm w m h' s':=by
 have hh:∀j,j<w->(j=c/\h' j=s r)\/(j≠c/\h' j=h j):=fun j hj=>by
  by_cases z:j=c
  ·subst z;exact .inl ⟨rfl,P.hc⟩
  ·exact .inr ⟨z,P.hj j hj z⟩
 have ss:∀i,i<m->(i=r/\s' i=h c)\/(i≠r/\s' i=s i):=fun i hi=>by
  by_cases z:i=r
  ·subst z;exact .inl ⟨rfl,P.sr⟩
  ·exact .inr ⟨z,P.si i hi z⟩
 refine⟨fun j hj=>?_,fun i hi=>?_,fun j k hj hk e=>?_,fun j k hj hk e=>?_,fun j i hj hi e=>?_,fun q hq=>?_⟩
 ·rcases hh j hj with⟨_,z⟩|⟨_,z⟩<;>rw[z]
  ·exact Q.sl r hr
  ·exact Q.hl j hj
 ·rcases ss i hi with⟨_,z⟩|⟨_,z⟩<;>rw[z]
  ·exact Q.hl c hc
  ·exact Q.sl i hi
 ·rcases hh j hj with⟨a,z⟩|⟨a,z⟩<;>rcases hh k hk with⟨b,y⟩|⟨b,y⟩<;>rw[z,y]at e
  ·rw[a,b]
  ·exact absurd e.symm (Q.hs k r hk hr)
  ·exact absurd e (Q.hs j r hj hr)
  ·exact Q.hi j k hj hk e
 ·rcases ss j hj with⟨a,z⟩|⟨a,z⟩<;>rcases ss k hk with⟨b,y⟩|⟨b,y⟩<;>rw[z,y]at e
  ·rw[a,b]
  ·exact absurd e (Q.hs c k hc hk)
  ·exact absurd e.symm (Q.hs c j hc hj)
  ·exact Q.si j k hj hk e
 ·rcases hh j hj with⟨a,z⟩|⟨a,z⟩<;>rcases ss i hi with⟨b,y⟩|⟨b,y⟩<;>rw[z,y]at e
  ·exact Q.hs c r hc hr e.symm
  ·exact b (Q.si i r hi hr e.symm)
  ·exact a (Q.hi j c hj hc e)
  ·exact Q.hs j i hj hi e
 ·by_cases z:q=h c
  ·exact .inl ⟨r,hr,by rw[P.sr,z]⟩
  ·by_cases y:q=s r
   ·exact .inr ⟨c,hc,by rw[P.hc,y]⟩
   ·rcases Q.cov q hq with⟨i,hi,e⟩|⟨j,hj,e⟩
    ·exact .inl ⟨i,hi,by rw[P.si i hi (fun x=>y (by rw[<- e,x]))];exact e⟩
    ·exact .inr ⟨j,hj,by rw[P.hj j hj (fun x=>z (by rw[<- e,x]))];exact e⟩
theorem Ib{d x:Int}(hd:0<d)(h:0<=d*x):0<=x:=by
 rcases yU x 0 with z|z
 ·have:=Int.mul_neg_of_pos_of_neg hd z;lia
 ·exact z
theorem ya{d x:Int}(hd:0<d)(h:d*x=0):x=0:=by
 rcases Int.mul_eq_zero.mp h with z|z
 ·lia
 ·exact z
theorem Fea.piv(L:Lin w m v d t h s)(Q:Pm w m h s)(F:Fea w m G N t h s)(P:p5 w m r c e d t h s d' t' h' s')(hr:r<m)(hc:c<w)(nc:¬N (h c))
  (val:∀i,i<m->i≠r->G (s i)->0<=t i w*(e*t r c)-t i c*(e*t r w)) (new:G (h c)->0<=- (e*t r w))
  (hG:∀q,q≠s r->(G' q ↔ G q)) (hN:∀q,q≠s r->(N' q ↔ N q)) (hr':G' (s r)\/N' (s r)):Fea w m G' N' t' h' s':=by
 have old:∀i,i<m->i≠r->s i≠s r:=fun i hi z y=>z (Q.si i r hi hr y)
 refine⟨fun i hi hg=>?_,fun i hi hn=>?_,fun j hj=>?_⟩
 ·by_cases z:i=r
  ·subst z
   rw[P.rj w oM oM];rw[P.sr]at hg;exact new ((hG _ (Q.hs c i hc hr)).mp hg)
  ·rw[P.si i hi z]at hg
   have:=val i hi z ((hG _ (old i hi z)).mp hg)
   rw[P.tj i hi z w oM oM];exact Ib L.pos (by rw[L.ex' hi hr oM oM oM];exact this)
 ·by_cases z:i=r
  ·subst z
   rw[P.sr]at hn;exact absurd ((hN _ (Q.hs c i hc hr)).mp hn) nc
  ·rw[P.si i hi z]at hn
   obtain⟨n1,n2⟩:=F.n i hi ((hN _ (old i hi z)).mp hn);have tc:=n2 c hc nc;refine⟨?_,fun j hj hn'=>?_⟩
   ·rw[P.tj i hi z w oM oM]
    exact ya L.pos (by rw[L.ex' hi hr oM oM oM,n1,tc];grind)
   ·by_cases y:j=c
    ·subst y;rw[P.tc i hi z,tc,yO]
    ·rw[P.hj j hj y]at hn'
     have:=n2 j hj fun x=>hn' ((hN _ (Q.hs j r hj hr)).mpr x)
     rw[P.tj i hi z j oM y];exact ya L.pos (by rw[L.ex' hi hr oM oM (fun x=>y x.symm),this,tc];grind)
 ·by_cases y:j=c
  ·subst y;rw[P.hc];exact hr'
  ·rw[P.hj j hj y]
   rcases F.f j hj with x|x
   ·exact .inl ((hG _ (Q.hs j r hj hr)).mpr x)
   ·exact .inr ((hN _ (Q.hs j r hj hr)).mpr x)
theorem Fea.tight(L:Lin w m v d t h s)(Q:Pm w m h s)(F:Fea w m G N t h s)(P:p5 w m r c e d t h s d' t' h' s')(hr:r<m)(hc:c<w)(nc:¬N (h c))(gr:G (s r))(neg:t r c<0)
  (ti:∀i,i<m->G (s i)->t i c<0->t r w*- t i c<=t i w*- t r c):Fea w m G N t' h' s':=by
 have e0:e=-1:=by
  have h1:=P.ep;have h2:=P.e1;rcases yU e 0 with z|z
  ·have:e*e=1:=h2
   have:e=-1:=by
    rcases yU e (-1) with y|y
    ·have:1<e*e:=by
      have a:(-e)*1<(-e)*(-e):=Int.mul_lt_mul_of_pos_left oM oM;have b:(-e)*(-e)=e*e:=by grind
      lia
     lia
    ·lia
   exact this
  ·have:e*t r c<=0:=Int.mul_nonpos_of_nonneg_of_nonpos z oM
   lia
 have rw0:=F.g r hr gr;refine Fea.piv L Q F P hr hc nc (fun i hi ne hg=>?_) (fun _=>by rw[e0];lia) (fun _ _=>.rfl) (fun _ _=>.rfl) (.inl gr);have iw:=F.g i hi hg;rw[e0];rcases yU (t i c) 0 with z|z
 ·have:=ti i hi hg z
  have a:t i w*(-1*t r c)-t i c*(-1*t r w)=t i w*- t r c-t r w*- t i c:=by grind
  rw[a];lia
 ·have a:t i w*(-1*t r c)-t i c*(-1*t r w)=t i w*- t r c+t i c*t r w:=by grind
  rw [a];have b:=Int.mul_nonneg iw (show 0 <= - t r c by lia);have c:=Int.mul_nonneg z rw0;lia
theorem Fea.lift(L:Lin w m v d t h s)(Q:Pm w m h s)(F:Fea w m G N t h s)(P:p5 w m r c e d t h s d' t' h' s')(hr:r<m)(hc:c<w)(nc:¬N (h c))(pos:0<t r c)(low:t r w<0)
  (ti:∀i,i<m->G (s i)->t i c<0->t r w*t i c<=t i w*t r c) (hG:∀q,q≠s r->(G' q ↔ G q)) (hN:∀q,q≠s r->(N' q ↔ N q)) (hr':G' (s r)\/N' (s r)):Fea w m G' N' t' h' s':=by
 have e0:e=1:=by
  have h1:=P.ep;have h2:=P.e1;have e0:0<e:=by
   rcases yU 0 e with z|z
   ·exact z
   ·have:e*t r c<=0:=Int.mul_nonpos_of_nonpos_of_nonneg z oM
    lia
  rcases yU 1 e with y|y
  ·have:e*1<e*e:=Int.mul_lt_mul_of_pos_left y e0
   lia
  ·lia
 refine Fea.piv L Q F P hr hc nc (fun i hi ne hg=>?_) (fun _=>by rw[e0];lia) hG hN hr';have iw:=F.g i hi hg;rw[e0];rcases yU (t i c) 0 with z|z
 ·have:=ti i hi hg z
  have a:t i w*(1*t r c)-t i c*(1*t r w)=t i w*t r c-t r w*t i c:=by grind
  rw[a];lia
 ·have a:t i w*(1*t r c)-t i c*(1*t r w)=t i w*t r c+t i c*- t r w:=by grind
  rw [a];have b:=Int.mul_nonneg iw (show 0 <= t r c by lia);have c:=Int.mul_nonneg z (show 0 <= - t r w by lia);lia
theorem Fea.move(L:Lin w m v d t h s)(Q:Pm w m h s)(F:Fea w m G N t h s)(P:p5 w m r c e d t h s d' t' h' s')(hr:r<m)(hc:c<w)(nc:¬N (h c))(nought:t r w=0)
  (hG:∀q,q≠s r->(G' q ↔ G q)) (hN:∀q,q≠s r->(N' q ↔ N q)) (hr':G' (s r)\/N' (s r)):Fea w m G' N' t' h' s':=by
 refine Fea.piv L Q F P hr hc nc (fun i hi ne hg=>?_) (fun _=>by rw[nought];lia) hG hN hr';have iw:=F.g i hi hg
 have:=P.ep
 have b:=Int.mul_nonneg iw (show 0 <= e * t r c by lia);rw [nought];have a:t i w * (e * t r c) - t i c * (e * 0)=t i w * (e * t r c):=by grind
 rw[a];exact b
theorem Do{a b x y u z:Int}(hb:b<0)(hx:x<0)(hu:0<u)(h1:z*b<=a*u)(h2:a*- x<=y*- b):z*x<=y*u:=by
 have h3:(z*b)*(-x)<=(a*u)*(-x):=Int.mul_le_mul_of_nonneg_right h1 oM;have h4:(a*- x)*u<=(y*- b)*u:=Int.mul_le_mul_of_nonneg_right h2 oM;have h5:(z*x)*(-b)<=(y*u)*(-b):=by
  have e1:(z*b)*(-x)=(z*x)*(-b):=by grind
  have e2:(a*u)*(-x)=(a*- x)*u:=by grind
  have e3:(y*- b)*u=(y*u)*(-b):=by grind
  rw[e1,e2]at h3;rw[e3]at h4;exact Int.le_trans h3 h4
 exact Int.le_of_mul_le_mul_right h5 oM
theorem Fea.guard{p:Nat}(F:Fea w m G N t h s)(Q:Pm w m h s)(hp:p<m)(h0:0<=t p w):Fea w m (fun q=>G q\/q=s p) N t h s :=
 ⟨fun i hi hg=>by
  rcases hg with hg|hg
  ·exact F.g i hi hg
  ·rw[Q.si i p hi hp hg];exact h0,F.n,fun j hj=>(F.f j hj).imp .inl id⟩
theorem Fea.nail{p:Nat}(F:Fea w m G N t h s)(Q:Pm w m h s)(hp:p<m)(h0:t p w=0)(hz:∀j,j<w->¬N (h j)->t p j=0):Fea w m G (fun q=>N q\/q=s p) t h s :=
 ⟨F.g,fun i hi hn=>by
  rcases hn with hn|hn
  ·obtain⟨a,b⟩:=F.n i hi hn
   exact⟨a,fun j hj z=>b j hj fun y=>z (.inl y)⟩
  ·rw[Q.si i p hi hp hn]
   exact⟨h0,fun j hj z=>hz j hj fun y=>z (.inl y)⟩,fun j hj=>(F.f j hj).imp id .inl⟩
noncomputable def tv(v:Nat->Nat->Int)(q:Nat):Nat->Nat->Int:=fun k x=>if k=q then-v k x else v k x
theorem Lin.turn{p:Nat}(L:Lin w m v d t h s)(Q:Pm w m h s)(hp:p<m)(h1:∀j,j<w+1->t' p j=- t p j)(h2:∀i,i<m->i≠p->∀j,j<w+1->t' i j=t i j):Lin w m (tv v (s p)) d t' h s:=by
 have hb:∀k,k<w+1->aR w (tv v (s p)) h k=aR w v h k:=fun k hk=>by
  unfold aR;by_cases z:k=w
  ·rw[yH z,yH z]
  ·rw[yG z,yG z];funext x;unfold tv;rw[yG (Q.hs k p oM hp)]
 refine⟨L.pos,fun i hi x hx=>?_,?_⟩
 ·by_cases z:i=p
  ·subst z
   have:=L.lin i hi x hx
   rw[sum_congr (g:=fun k=>(-1)*(t i k*aR w v h k x)) fun k hk=>by rw[hb k hk,h1 k hk];grind,sum_mul,<- this];unfold tv;rw[yH rfl];grind
  ·rw[sum_congr (g:=fun k=>t i k*aR w v h k x) fun k hk=>by rw[hb k hk,h2 i hi z k hk],<- L.lin i hi x hx]
   unfold tv;rw[yG fun y=>z (Q.si i p hi hp y)]
 ·obtain⟨g,g1,hg⟩:=L.dt
  exact⟨g,g1,by rw[di (B:=aR w v h) fun i j hi _=>by rw[hb i hi]];exact hg⟩
theorem Fea.turn{p:Nat}(F:Fea w m G N t h s)(Q:Pm w m h s)(hp:p<m)(ng:¬G (s p))(nn:¬N (s p))(h2:∀i,i<m->i≠p->∀j,j<w+1->t' i j=t i j):Fea w m G N t' h s:=by
 refine⟨fun i hi hg=>?_,fun i hi hn=>?_,F.f⟩
 ·rw[h2 i hi (fun z=>ng (by rw[<- z];exact hg)) w oM];exact F.g i hi hg
 ·have ne:i≠p:=fun z=>nn (by rw[<- z];exact hn)
  obtain⟨a,b⟩:=F.n i hi hn;exact⟨by rw[h2 i hi ne w oM];exact a,fun j hj z=>by rw[h2 i hi ne j oM];exact b j hj z⟩
end
theorem wJ:∀(M:Nat)(f:Nat->Nat),(∀n,f n<M)->∃i j,i<j/\f i=f j
 |0,f,h=>absurd (h 0) oM
 |M+1,f,h=>by
  by_cases c:∃n,∀k,n<=k->f k≠M
  ·obtain⟨n,hn⟩:=c
   obtain⟨i,j,hij,e⟩:=wJ M (fun k=>f (n+k)) fun k=>by have:=h (n+k);have:=hn (n+k) oM;lia
   exact⟨n+i,n+j,by lia,e⟩
  ·have c':∀n,∃k,n<=k/\f k=M:=fun n=>Classical.byContradiction fun z=>c ⟨n,fun k hk e=>z ⟨k,hk,e⟩⟩
   obtain⟨i,_,hi⟩:=c' 0;obtain⟨j,hj,hj'⟩:=c' (i+1);exact⟨i,j,by lia,by rw[hi,hj']⟩
def jf(b:Nat)(h:Nat->Nat):Nat->Nat
 |0=>0
 |n+1=>jf b h n*b+h n
theorem xF{b:Nat}{h:Nat->Nat}:∀{n:Nat},(∀j,j<n->h j<b)->jf b h n<b^n
 |0,_=>by simp[jf]
 |n+1,H=>by
  have h1:=xF (n:=n) fun j hj=>H j oM
  have h2:=H n oM;show jf b h n*b+h n<b^(n+1);rw[Nat.pow_succ];have:(jf b h n+1)*b<=b^n*b:=Nat.mul_le_mul_right b h1;rw[Nat.succ_mul]at this;lia
theorem ul{b:Nat}{h g:Nat->Nat}:∀{n:Nat},(∀j,j<n->h j<b)->(∀j,j<n->g j<b)->jf b h n=jf b g n->∀j,j<n->h j=g j
 |0,_,_,_,j,hj=>by lia
 |n+1,H,K,e,j,hj=>by
  have h2:=H n oM;have k2:=K n oM;have e':jf b h n*b+h n=jf b g n*b+g n:=e;have e1:h n=g n:=by
   have:=congrArg (·%b) e'
   simp only[Nat.mul_add_mod_self_right]at this
   rwa [Nat.mod_eq_of_lt h2,Nat.mod_eq_of_lt k2]at this
  have e2:jf b h n=jf b g n:=by
   have:jf b h n*b=jf b g n*b:=by lia
   exact Nat.eq_of_mul_eq_mul_right oM this
  rcases yT j n with z|z
  ·exact ul (fun j hj=>H j oM) (fun j hj=>K j oM) e2 j z
  ·rw[show j=n by lia];exact e1
theorem wj(b:Nat->Prop){i:Nat}:∀(k:Nat),b i->¬b (i+k)->∃n,i<=n/\n<i+k/\b n/\¬b (n+1)
 |0,h,g=>absurd h g
 |k+1,h,g=>by
  by_cases z:b (i+k)
  ·exact⟨i+k,by lia,by lia,z,g⟩
  ·obtain⟨n,a,c,d⟩:=wj b k h z
   exact⟨n,a,by lia,d⟩
theorem wg(b:Nat->Prop){i j x y:Nat}(hx:i<=x/\x<=j)(hy:i<=y/\y<=j)(bx:b x)(by':¬b y)(e:b i ↔ b j):∃n,i<=n/\n<j/\b n/\¬b (n+1):=by
 have go:∀a c,i<=a->a<=c->c<=j->b a->¬b c->∃n,i<=n/\n<j/\b n/\¬b (n+1):=fun a c h1 h2 h3 p q=>by
  obtain⟨n,n1,n2,n3⟩:=wj b (c-a) p (by rwa [show a+(c-a)=c by lia]);exact⟨n,by lia,by lia,n3⟩
 rcases Nat.le_total x y with z|z
 ·exact go x y hx.1 z hy.2 bx by'
 ·by_cases q:b j
  ·exact go i y oM hy.1 hy.2 (e.mpr q) by'
  ·exact go x j hx.1 hx.2 (zP j) bx q
structure St where
 d:Int
 t:Nat->Nat->Int
 h:Nat->Nat
 s:Nat->Nat
structure Bl(w m p:Nat)(G N:Nat->Prop)(r c:Nat)(e:Int)(S S':St):Prop where
 hc:c<w
 nc:¬N (S.h c)
 up:0<S.t p c
 least:∀j,j<w->¬N (S.h j)->0<S.t p j->S.h c<=S.h j
 hr:r<m
 gr:G (S.s r)
 neg:S.t r c<0
 ti:∀i,i<m->G (S.s i)->S.t i c<0->S.t r w*- S.t i c<S.t i w*- S.t r c\/(S.t r w*- S.t i c=S.t i w*- S.t r c/\S.s r<=S.s i)
 piv:p5 w m r c e S.d S.t S.h S.s S'.d S'.t S'.h S'.s
def iT(w:Nat)(S:St)(q:Nat):Prop:=∃k,k<w/\S.h k=q
def Zr(w m:Nat)(S:St)(q:Nat):Prop:=∀i,i<m->S.s i=q->S.t i w=0
theorem BI{a b c d e f:Int}(hb:0<b)(hd:0<d)(hf:0<f)(h1:a*d<=c*b)(h2:c*f<=e*d):a*f<=e*b:=by
 have h3:(a*d)*f<=(c*b)*f:=Int.mul_le_mul_of_nonneg_right h1 oM;have h4:(c*f)*b<=(e*d)*b:=Int.mul_le_mul_of_nonneg_right h2 oM;have e1:(c*b)*f=(c*f)*b:=by grind
 have h5:(a*f)*d<=(e*b)*d:=by
  have e2:(a*f)*d=(a*d)*f:=by grind
  have e3:(e*b)*d=(e*d)*b:=by grind
  rw[e2,e3];rw[e1]at h3;exact Int.le_trans h3 h4
 exact Int.le_of_mul_le_mul_right h5 hd
section
variable{w m p:Nat}{v:Nat->Nat->Int}{G N:Nat->Prop}{S:Nat->St}{r c:Nat->Nat}{e:Nat->Int}
structure Run(w m p:Nat)(v:Nat->Nat->Int)(G N:Nat->Prop)(S:Nat->St)(r c:Nat->Nat)(e:Nat->Int):Prop where
 L:∀n,Lin w m v (S n).d (S n).t (S n).h (S n).s
 Q:∀n,Pm w m (S n).h (S n).s
 F:∀n,Fea w m G N (S n).t (S n).h (S n).s
 B:∀n,Bl w m p G N (r n) (c n) (e n) (S n) (S (n+1))
 hp:p<m
 np:¬G ((S 0).s p)
theorem Run.sp(R:Run w m p v G N S r c e):∀n,(S n).s p=(S 0).s p
 |0=>rfl
 |n+1=>by
  have h:=R.sp n;have:p≠r n:=fun z=>R.np (by rw[<- h,z];exact(R.B n).gr)
  rw[(R.B n).piv.si p R.hp this];exact h
theorem Run.pr(R:Run w m p v G N S r c e)(n:Nat):p≠r n:=fun z=>R.np (by rw[<- R.sp n,z];exact(R.B n).gr)
theorem Dh{e a:Int}(h1:e*e=1)(h2:0<e*a)(h3:a<0):e=-1:=by
 have hz:e<0:=by
  rcases yU e 0 with z|z
  ·exact z
  ·have:e*a<=0:=Int.mul_nonpos_of_nonneg_of_nonpos z oM
   lia
 rcases yU e (-1) with y|y
 ·have a:(-e)*1<(-e)*(-e):=Int.mul_lt_mul_of_pos_left oM oM
  have b:(-e)*(-e)=e*e:=by grind
  lia
 ·lia
theorem Run.em(R:Run w m p v G N S r c e)(n:Nat):e n=-1:=Dh (R.B n).piv.e1 (R.B n).piv.ep (R.B n).neg
theorem Run.col(R:Run w m p v G N S r c e)(n:Nat){i:Nat}(hi:i<m)(ne:i≠r n):(S n).d*(S (n+1)).t i w=(S n).t i w*(S (n+1)).d+(S n).t i (c n)*(S n).t (r n) w:=by
 have B:=R.B n;rw[B.piv.tj i hi ne w oM (by have:=B.hc;lia),(R.L n).ex' hi B.hr (by have:=B.hc;lia) oM (by have:=B.hc;lia),B.piv.d',R.em n]
 grind
theorem Run.mono(R:Run w m p v G N S r c e)(n:Nat):(S n).t p w*(S (n+1)).d<=(S (n+1)).t p w*(S n).d:=by
 have B:=R.B n
 have:=R.col n R.hp (R.pr n)
 have h1:=Int.mul_nonneg (show 0 <= (S n).t p (c n) by have:=B.up;lia) ((R.F n).g (r n) B.hr B.gr);rw [Int.mul_comm ((S (n + 1)).t p w)];lia
theorem Run.monos(R:Run w m p v G N S r c e)(i:Nat):∀k,(S i).t p w*(S (i+k)).d<=(S (i+k)).t p w*(S i).d
 |0=>Int.le_refl _
 |k+1=>BI (R.L i).pos (R.L (i+k)).pos (R.L (i+k+1)).pos (R.monos i k) (R.mono (i+k))
theorem Run.same(R:Run w m p v G N S r c e){i j:Nat}(h:∀k,k<w->(S i).h k=(S j).h k):(S i).d=(S j).d/\(S i).t p w=(S j).t p w:=by
 have hb:∀k,k<w+1->aR w v (S i).h k=aR w v (S j).h k:=fun k hk=>by
  unfold aR;by_cases z:k=w
  ·rw[yH z,yH z]
  ·rw[yG z,yG z,h k oM]
 obtain⟨g,g1,hg⟩:=(R.L i).dt;obtain⟨g',g1',hg'⟩:=(R.L j).dt;have e1:bE (w+1) (aR w v (S i).h)=bE (w+1) (aR w v (S j).h):=di fun a b ha _=>by rw[hb a ha]
 have e2:=(R.L i).one hg R.hp (j:=w) oM;have e3:=(R.L j).one hg' R.hp (j:=w) oM;rw[R.sp i]at e2;rw[R.sp j]at e3;have e4:bE (w+1) (up (aR w v (S i).h) w (v ((S 0).s p)))=bE (w+1) (up (aR w v (S j).h) w (v ((S 0).s p))):=di fun a b ha _=>by
  by_cases z:a=w
  ·subst z;rw[bR,bR]
  ·rw[bo z,bo z,hb a ha]
 rw[hg,hg']at e1;rw[e2,e3]at e4;have p1:=(R.L i).pos;have p2:=(R.L j).pos;have gd:∀x:Int,x*x=1->x=1\/x=-1:=fun x hx=>by
  have:x.natAbs*x.natAbs=1:=by rw[<- yZ,hx];rfl
  have:=Nat.eq_one_of_mul_eq_one_left this
  lia
 rcases gd g g1 with rfl|rfl<;>rcases gd g' g1' with rfl|rfl<;>constructor<;>lia
theorem Run.flat(R:Run w m p v G N S r c e){i j n:Nat}(h:∀k,k<w->(S i).h k=(S j).h k)(h1:i<=n)(h2:n<j):(S n).t (r n) w=0:=by
 have B:=R.B n;have a:=R.monos i (n-i);have b:=R.monos (n+1) (j-(n+1));rw[show i+(n-i)=n by lia]at a;rw[show n+1+(j-(n+1))=j by lia]at b;obtain⟨e1,e2⟩:=R.same h;rw[<- e1,<- e2]at b;have c1:=BI (R.L (n+1)).pos (R.L i).pos (R.L n).pos b a;have c2:=R.col n R.hp (R.pr n);have g0:=(R.F n).g (r n) B.hr B.gr;rcases yU 0 ((S n).t (r n) w) with z|z
 ·have:=Int.mul_pos B.up z
  rw[Int.mul_comm ((S (n+1)).t p w)]at c1;lia
 ·lia
theorem Run.zero(R:Run w m p v G N S r c e){n q:Nat}(f:(S n).t (r n) w=0):Zr w m (S n) q ↔ Zr w m (S (n+1)) q:=by
 have B:=R.B n;have P:=B.piv;have nw:w≠c n:=by have:=B.hc;lia
 have hr':(S (n+1)).t (r n) w=0:=by rw[P.rj w oM nw,f];lia
 have iff:∀i,i<m->i≠r n->((S n).t i w=0 ↔ (S (n+1)).t i w=0):=fun i hi ne=>by
  have:=R.col n hi ne
  rw[f,yO,Int.add_zero]at this;constructor
  ·intro z;rw[z,yP]at this;exact ya (R.L n).pos this
  ·intro z;rw[z,yO]at this
   rcases Int.mul_eq_zero.mp this.symm with y|y
   ·exact y
   ·have:=(R.L (n+1)).pos;lia
 constructor
 ·intro h i hi e
  by_cases z:i=r n
  ·rw[z];exact hr'
  ·rw[P.si i hi z]at e;exact(iff i hi z).mp (h i hi e)
 ·intro h i hi e
  by_cases z:i=r n
  ·rw[z];exact f
  ·exact(iff i hi z).mpr (h i hi (by rw[P.si i hi z];exact e))
theorem Run.zeros(R:Run w m p v G N S r c e){i j q:Nat}(h:∀k,k<w->(S i).h k=(S j).h k){a:Nat}(ha:i<=a):∀k,a+k<=j->(Zr w m (S a) q ↔ Zr w m (S (a+k)) q)
 |0,_=>.rfl
 |k+1,hk=>(R.zeros h ha k oM).trans (R.zero (R.flat h oM oM))
theorem Run.zall(R:Run w m p v G N S r c e){i j q:Nat}(h:∀k,k<w->(S i).h k=(S j).h k){a b:Nat}(ha:i<=a)(ha':a<=j)(hb:i<=b)(hb':b<=j)(z:Zr w m (S a) q):Zr w m (S b) q:=by
 rcases Nat.le_total a b with l|l
 ·have:=(R.zeros (q:=q) h ha (b-a) oM).mp;rw[show a+(b-a)=b by lia]at this;exact this z
 ·have:=(R.zeros (q:=q) h hb (a-b) oM).mpr;rw[show b+(a-b)=a by lia]at this;exact this z
theorem Run.out(R:Run w m p v G N S r c e){n q:Nat}(h:iT w (S n) q)(g:¬iT w (S (n+1)) q):q=(S n).h (c n):=by
 obtain⟨k,hk,rfl⟩:=h;by_cases z:k=c n
 ·rw[z]
 ·exact absurd ⟨k,hk,(R.B n).piv.hj k hk z⟩ g
theorem Run.inn(R:Run w m p v G N S r c e){n q:Nat}(h:¬iT w (S n) q)(g:iT w (S (n+1)) q):q=(S n).s (r n):=by
 obtain⟨k,hk,rfl⟩:=g;by_cases z:k=c n
 ·rw[z];exact(R.B n).piv.hc
 ·exact absurd ⟨k,hk,((R.B n).piv.hj k hk z).symm⟩ h
theorem Run.hz(R:Run w m p v G N S r c e){n q:Nat}(h:iT w (S n) q):Zr w m (S n) q:=fun i hi e=>by
 obtain⟨k,hk,rfl⟩:=h;exact absurd e.symm ((R.Q n).hs k i hk hi)
theorem zp{n:Nat}{f:Nat->Int}(h:0<NK n f):∃k,k<n/\0<f k:=by
 induction n with
 |zero=>exact absurd h (by simp[NK])
 |succ n ih =>
  by_cases z:0<f n
  ·exact⟨n,by lia,z⟩
  ·obtain⟨k,hk,e⟩:=ih (by simp only[NK]at h;lia)
   exact⟨k,by lia,e⟩
theorem Run.ends(R:Run w m p v G N S r c e):False:=by
 obtain⟨i,j,hij,eq⟩:=wJ ((w+m)^w) (fun n=>jf (w+m) (S n).h w) fun n=>xF (R.Q n).hl
 have hh:=ul (R.Q i).hl (R.Q j).hl eq
 -- the greatest quantity that is now free,now not
 let Fk:Nat->Prop:=fun q=>∃a b,i<=a/\a<=j/\i<=b/\b<=j/\iT w (S a) q/\¬iT w (S b) q
 have f0:Fk ((S i).h (c i)):=⟨i,i+1,by lia,by lia,by lia,by lia,⟨c i,(R.B i).hc,rfl⟩,fun⟨k,hk,e⟩=>(R.Q (i+1)).hs k (r i) hk (R.B i).hr (by rw[e,(R.B i).piv.sr])⟩;have bd:∀q,Fk q->q<w+m:=fun q hq0=>by obtain⟨a,b,_,_,_,_,⟨k,hk,e⟩,_⟩:=hq0;rw[<- e];exact(R.Q a).hl k hk
 obtain⟨q,hq,mx⟩:∃q,Fk q/\∀x,Fk x->x<=q:=by
  have go:∀k,(∃q,Fk q/\w+m<=q+k)->∃q,Fk q/\∀x,Fk x->x<=q:=fun k=>by
   induction k with
   |zero=>intro⟨q,h1,h2⟩;have:=bd q h1;lia
   |succ k ih =>
    rintro⟨q,h1,h2⟩;by_cases z:∃x,Fk x/\q<x
    ·obtain⟨x,x1,x2⟩:=z;exact ih ⟨x,x1,by lia⟩
    ·exact⟨q,h1,fun x hx=>by
      rcases yT q x with y|y
      ·exact absurd ⟨x,hx,y⟩ z
      ·exact y⟩
  exact go (w+m) ⟨_,f0,by lia⟩
 have hij':iT w (S i) q ↔ iT w (S j) q:=⟨fun⟨k,hk,e⟩=>⟨k,hk,by rw[<- hh k hk];exact e⟩,fun⟨k,hk,e⟩=>⟨k,hk,by rw[hh k hk];exact e⟩⟩;obtain⟨a,b,a1,a2,b1,b2,ha,hb⟩:=id hq;obtain⟨t1,u1,u2,u3,u4⟩:=wg (fun n=>iT w (S n) q) ⟨a1,a2⟩ ⟨b1,b2⟩ ha hb hij';obtain⟨t2,v1,v2,v3,v4⟩:=wg (fun n=>¬iT w (S n) q) ⟨b1,b2⟩ ⟨a1,a2⟩ hb (fun z=>z ha) (not_congr hij');have v4:iT w (S (t2+1)) q:=Classical.byContradiction v4;have q1:=R.out u3 u4;have q2:=R.inn v3 v4;have B1:=R.B t1;have B2:=R.B t2
 -- the way along the column at t2
 obtain⟨g,g1,hg⟩:=(R.L t2).dt
 let W:(Nat->Int)->Int:=fun u=>g*bE (w+1) (up (aR w v (S t2).h) (c t2) u)
 have hcw:c t2<w+1:=by have:=B2.hc;lia
 have Ws:∀k,k<m->W (v ((S t2).s k))=(S t2).t k (c t2):=fun k hk=>by
  show g*_=_;rw[(R.L t2).one hg hk hcw];grind
 have Wb:∀k,k<w+1->W (aR w v (S t2).h k)=if k=c t2 then(S t2).d else 0:=fun k hk=>by
  show g*_=_;by_cases z:k=c t2
  ·rw[yH z,z,fF,hg];grind
  ·rw[yG z,jP (i:=k) (j:=c t2) hk hcw z fun x=>by rw[bo z,bR],yO]
 have key:(S t1).d*(S t2).t p (c t2)=NK w fun k=>(S t1).t p k*W (v ((S t1).h k)):=by
  have h1:(S t1).d*W (v ((S 0).s p))=NK (w+1) fun k=>(S t1).t p k*W (aR w v (S t1).h k):=by
   show(S t1).d*(g*bE (w+1) (up (aR w v (S t2).h) (c t2) (v ((S 0).s p))))=NK (w+1) fun k=>(S t1).t p k*(g*bE (w+1) (up (aR w v (S t2).h) (c t2) (aR w v (S t1).h k)))
   have h2:(S t1).d*bE (w+1) (up (aR w v (S t2).h) (c t2) (v ((S 0).s p)))=NK (w+1) fun k=>(S t1).t p k*bE (w+1) (up (aR w v (S t2).h) (c t2) (aR w v (S t1).h k)):=by
    rw[<- o8 hcw,<- jO hcw];exact iQ fun x hx=>by rw[<- R.sp t1];exact(R.L t1).lin p R.hp x hx
   rw[sum_congr (g:=fun k=>g*((S t1).t p k*bE (w+1) (up (aR w v (S t2).h) (c t2) (aR w v (S t1).h k)))) fun k _=>by grind,sum_mul,<- h2];grind
  rw[<- Ws p R.hp,R.sp t2,h1];show NK w _+_=_;have hw:W (aR w v (S t1).h w)=0:=by
   have:aR w v (S t1).h w=aR w v (S t2).h w:=by unfold aR;rw[yH rfl,yH rfl]
   rw[this,Wb w oM,yG (by have:=B2.hc;lia)]
  show NK w _+(S t1).t p w*W (aR w v (S t1).h w)=_;rw[hw,yO,Int.add_zero];exact sum_congr fun k hk=>by rw[show aR w v (S t1).h k=v ((S t1).h k) by unfold aR;rw[yG oM]]
 obtain⟨k,hk,kp⟩:=zp (by rw[<- key];exact Int.mul_pos (R.L t1).pos B2.up);have kH:iT w (S t1) ((S t1).h k):=⟨k,hk,rfl⟩;rcases(R.Q t2).cov ((S t1).h k) ((R.Q t1).hl k hk) with⟨l,hl,el⟩|⟨l,hl,el⟩
 ·-- a line at t2
  rw[<- el,Ws l hl]at kp;have nH:¬iT w (S t2) ((S t1).h k):=fun⟨x,hx,ex⟩=>(R.Q t2).hs x l hx hl (by rw[ex,el])
  have le:=mx _ ⟨t1,t2,by lia,by lia,by lia,by lia,kH,nH⟩;have nt:(S t2).t l (c t2)≠0:=fun z=>by rw[z,yO]at kp;lia
  have nN:¬N ((S t1).h k):=fun z=>nt (((R.F t2).n l hl (by rw[el];exact z)).2 (c t2) B2.hc B2.nc)
  by_cases kq:(S t1).h k=q
  ·have kc:k=c t1:=(R.Q t1).hi k (c t1) hk B1.hc (by rw[kq];exact q1)
   have lr:l=r t2:=(R.Q t2).si l (r t2) hl B2.hr (by rw[el,kq];exact q2);rw[kc,lr]at kp
   have:=Int.mul_neg_of_pos_of_neg B1.up B2.neg
   lia
  ·have np:¬0<(S t1).t p k:=fun z=>by
    have:=B1.least k hk nN z
    rw[<- q1]at this;lia
   have n0:(S t1).t p k<0:=by
    rcases yU ((S t1).t p k) 0 with z|z
    ·exact z
    ·rw[show(S t1).t p k=0 by lia,yP]at kp;lia
   have tl:(S t2).t l (c t2)<0:=by
    rcases yU ((S t2).t l (c t2)) 0 with z|z
    ·exact z
    ·have:=Int.mul_nonpos_of_nonpos_of_nonneg (Int.le_of_lt n0) z;lia
   have gl:G ((S t2).s l):=by
    rcases(R.F t1).f k hk with z|z
    ·rw[el];exact z
    ·exact absurd z nN
   have lz:(S t2).t l w=0:=R.zall hh oM oM oM oM (R.hz kH) l hl el;have rz:=R.flat hh (n:=t2) oM oM;rcases B2.ti l hl gl tl with z|⟨_,z⟩
   ·rw[lz,rz]at z;lia
   ·rw[<- q2,el]at z;lia
 ·-- free at t2
  have e1:v ((S t1).h k)=aR w v (S t2).h l:=by unfold aR;rw[yG oM,el]
  rw[e1,Wb l oM]at kp;by_cases z:l=c t2
  ·rw[yH z]at kp
   have tp:0<(S t1).t p k:=by
    rcases yU 0 ((S t1).t p k) with y|y
    ·exact y
    ·have:=Int.mul_nonpos_of_nonpos_of_nonneg y (Int.le_of_lt (R.L t2).pos);lia
   have nN:¬N ((S t1).h k):=by rw[<- el,z];exact B2.nc
   have l1:=B1.least k hk nN tp;rw[<- q1]at l1;have nH:¬iT w (S (t2+1)) ((S t1).h k):=fun⟨x,hx,ex⟩=>(R.Q (t2+1)).hs x (r t2) hx B2.hr (by rw[ex,B2.piv.sr,<- el,z])
   have l2:=mx _ ⟨t1,t2+1,by lia,by lia,by lia,by lia,kH,nH⟩;have:q=(S t1).h k:=by lia
   exact(R.Q t2).hs l (r t2) hl B2.hr (by rw[el,<- q2,this])
  ·rw[yG z,yO]at kp;lia
end
structure Sh where
 d:Int
 ls:List (List Int)
 hd:List Nat
 sd:List Nat
 gd:List Nat
 nl:List Nat
 tn:List Nat
noncomputable def gI(xs:List Int)(j:Nat):Int:=xs.getD j 0
noncomputable def row(S:Sh)(i:Nat):List Int:=S.ls.getD i []
def Sh.t(S:Sh)(i j:Nat):Int:=gI (row S i) j
noncomputable def Sh.h(S:Sh)(j:Nat):Nat:=S.hd.getD j 0
noncomputable def Sh.s(S:Sh)(i:Nat):Nat:=S.sd.getD i 0
noncomputable def fdvS(a b:Int):Int:=if 0<b then a/b else a.fdiv b
def chLine(l P:List Int)(c:Nat)(sg d:Int):List Int :=
 if gI l c=0 then(if gI P c=d then l else l.map fun x=>fdvS (x*gI P c) d) else((l.zip P).map fun z=>fdvS (z.1*gI P c-gI l c*z.2) d).set c (sg*gI l c)
noncomputable def sgn(x:Int):Int:=if x<0 then -1 else 1
def pvl(S:Sh)(r c:Nat):List Int:=(row S r).map fun x=>sgn (S.t r c)*x
def NN(S:Sh)(r c:Nat):Sh:={ S with
 d:=gI (pvl S r c) c
 ls:=(S.ls.map fun l=>chLine l (pvl S r c) c (sgn (S.t r c)) S.d).set r (((pvl S r c).map fun x=>- x).set c (sgn (S.t r c)*S.d))
 hd:=S.hd.set c (S.s r)
 sd:=S.sd.set r (S.h c) }
structure NP(w m:Nat)(S:Sh):Prop where
 ls:S.ls.length=m
 row:∀l∈S.ls,l.length=w+1
 hd:S.hd.length=w
 sd:S.sd.length=m
theorem nZ{f:Int->Int}{xs:List Int}{j:Nat}(h:j<xs.length):gI (xs.map f) j=f (gI xs j):=by
 unfold gI;simp[zD,h]
theorem gI_set_at{xs:List Int}{j:Nat}{x:Int}(h:j<xs.length):gI (xs.set j x) j=x:=by
 unfold gI;simp[zD,h]
theorem gI_set_ne{j k:Nat}{x:Int}(h:k≠j):gI (xs.set j x) k=gI xs k:=by
 unfold gI;simp[zD,yW,h.symm]
theorem Go{xs ys:List Int}{f:Int×Int->Int}{j:Nat}(h:j<xs.length)(h':j<ys.length):gI ((xs.zip ys).map f) j=f (gI xs j,gI ys j):=by
 unfold gI;have hz:j<(xs.zip ys).length:=by rw[List.length_zip];lia
 simp only[zD,zR,zF h,zF h',zF hz,map_some,Option.getD_some,List.getElem_zip]
theorem getD_mem{α:Type}{xs:List α}{i:Nat}{a:α}(h:i<xs.length):xs.getD i a∈xs:=by
 simp[zD,zF h]
theorem NP.rl{w m:Nat}(P:NP w m S){i:Nat}(h:i<m):(SX.row S i).length=w+1:=P.row _ (getD_mem (by rw[P.ls];exact h))
theorem uj{a b:Int}(h:0<b):fdvS a b=a/b:=yH h
theorem vM{c:Nat}{sg d:Int}(h:l.length=P.length):(chLine l P c sg d).length=l.length:=by
 unfold chLine;split
 ·split
  ·rfl
  ·simp
 ·simp[h]
theorem sy{r c i:Nat}(hi:i<S.ls.length)(hr:r<S.ls.length):SX.row (NN S r c) i=if i=r then((pvl S r c).map fun x=>- x).set c (sgn (S.t r c)*S.d) else chLine (SX.row S i) (pvl S r c) c (sgn (S.t r c)) S.d:=by
 unfold SX.row NN;simp only[zD,yW,zH];by_cases e:i=r
 ·subst e;simp[hi]
 ·rw[yG fun z=>e z.symm,yG e];simp[zF hi]
theorem exch_shp{w m:Nat}{r c:Nat}(P:NP w m S)(hr:r<m):NP w m (NN S r c):=by
 have hp:(pvl S r c).length=w+1:=by unfold pvl;rw[zH];exact P.rl hr
 refine⟨by simp[NN,P.ls],fun l hl=>?_,by simp[NN,P.hd],by simp[NN,P.sd]⟩;rcases List.mem_or_eq_of_mem_set hl with h|h
 ·obtain⟨l',h1,rfl⟩:=yC.mp h
  rw[vM (by rw[P.row _ h1,hp])];exact P.row _ h1
 ·rw[h];simp[hp]
theorem Eu(x:Int):sgn x*sgn x=1:=by unfold sgn;split<;>rfl
theorem Cr{x:Int}(h:x≠0):0<sgn x*x:=by unfold sgn;split<;>lia
theorem j3{w m:Nat}{r c:Nat}(P:NP w m S)(hr:r<m)(hc:c<w)(hd:0<S.d)(hp:S.t r c≠0):p5 w m r c (sgn (S.t r c)) S.d S.t S.h S.s (NN S r c).d (NN S r c).t (NN S r c).h (NN S r c).s:=by
 have lr:=P.rl hr;have lp:(pvl S r c).length=w+1:=by unfold pvl;rw[zH];exact lr
 have gp:∀j,j<w+1->gI (pvl S r c) j=sgn (S.t r c)*S.t r j:=fun j hj=>by
  unfold pvl;rw[nZ (by rw[lr];exact hj)];rfl
 have other:∀i,i<m->i≠r->∀j,j<w+1->(NN S r c).t i j=if j=c then sgn (S.t r c)*S.t i c else(S.t i j*(sgn (S.t r c)*S.t r c)-S.t i c*(sgn (S.t r c)*S.t r j))/S.d:=fun i hi ne j hj=>by
  have li:=P.rl hi;show gI (SX.row (NN S r c) i) j=_;rw[sy (by rw[P.ls];exact hi) (by rw[P.ls];exact hr),yG ne];have tc:gI (SX.row S i) c=S.t i c:=rfl;have tj:gI (SX.row S i) j=S.t i j:=rfl;unfold chLine;by_cases z:gI (SX.row S i) c=0
  ·rw[yH z]
   rw[tc]at z;rw[z];have e0:∀x:Int,x-0*(sgn (S.t r c)*S.t r j)=x:=fun x=>by rw[yP,Int.sub_zero]
   rw[e0];by_cases y:gI (pvl S r c) c=S.d
   ·rw[yH y,tj]
    rw[gp c oM]at y;rw[y,Int.mul_ediv_cancel _ oM];by_cases x:j=c
    ·rw[yH x,x,z,yO]
    ·rw[yG x]
   ·rw[yG y,nZ (by rw[li];exact hj),tj,uj hd,gp c oM]
    by_cases x:j=c
    ·rw[yH x,x,z,yO,yP,Int.zero_ediv]
    ·rw[yG x]
  ·rw[yG z]
   by_cases x:j=c
   ·rw[yH x,x,gI_set_at (by simp[li,lp];lia),tc]
   ·rw[yG x,gI_set_ne x,Go (by rw[li];exact hj) (by rw[lp];exact hj),uj hd,tj,tc,gp c oM,gp j hj]
 have rr:∀j,j<w+1->(NN S r c).t r j=if j=c then sgn (S.t r c)*S.d else-(sgn (S.t r c)*S.t r j):=fun j hj=>by
  show gI (SX.row (NN S r c) r) j=_;rw[sy (by rw[P.ls];exact hr) (by rw[P.ls];exact hr),yH rfl];by_cases x:j=c
  ·rw[yH x,x,gI_set_at (by simp[lp];lia)]
  ·rw[yG x,gI_set_ne x,nZ (by rw[lp];exact hj),gp j hj]
 refine⟨Eu _,Cr hp,gp c oM,fun i hi ne=>by rw[other i hi ne c oM,yH rfl],fun i hi ne j hj x=>by rw[other i hi ne j hj,yG x],by rw[rr c oM,yH rfl],fun j hj x=>by rw[rr j hj,yG x],?_,fun j hj x=>?_,?_,fun i hi x=>?_⟩
 ·show((S.hd.set c (S.s r)).getD c 0)=_
  simp[zD,P.hd,hc]
 ·show((S.hd.set c (S.s r)).getD j 0)=S.hd.getD j 0
  simp[zD,yW,x.symm]
 ·show((S.sd.set r (S.h c)).getD r 0)=_
  simp[zD,P.sd,hr]
 ·show((S.sd.set r (S.h c)).getD i 0)=S.sd.getD i 0
  simp[zD,yW,x.symm]
def trn(S:Sh)(p:Nat):Sh:={ S with ls:=S.ls.set p ((row S p).map fun x=>- x),tn:=if S.s p∈S.tn then S.tn else S.tn++[S.s p] }
theorem trn_shp{w m p:Nat}(P:NP w m S)(hp:p<m):NP w m (trn S p):=by
 refine⟨by simp[trn,P.ls],fun l hl=>?_,P.hd,P.sd⟩;rcases List.mem_or_eq_of_mem_set hl with h|h
 ·exact P.row _ h
 ·rw[h,zH];exact P.rl hp
theorem trn_t{w m p:Nat}(P:NP w m S)(hp:p<m):(∀j,j<w+1->(trn S p).t p j=- S.t p j)/\∀i,i<m->i≠p->∀j,j<w+1->(trn S p).t i j=S.t i j:=by
 have hr:∀i,i<m->row (trn S p) i=if i=p then(row S p).map (fun x=>- x) else row S i:=fun i hi=>by
  show(S.ls.set p _).getD i []=_;simp only[zD,yW];by_cases e:i=p
  ·subst e;rw[yH rfl,yH (by rw[P.ls];exact hi),yH rfl];rfl
  ·rw[yG fun z=>e z.symm,yG e];unfold row;rw[zD]
 refine⟨fun j hj=>?_,fun i hi ne j hj=>?_⟩
 ·show gI (row (trn S p) p) j=_
  rw[hr p hp,yH rfl,nZ (by rw[P.rl hp];exact hj)];rfl
 ·show gI (row (trn S p) i) j=_
  rw[hr i hi,yG ne];rfl
def Kd(S:Sh)(w q r i:Nat):Prop:=S.t r w*- S.t i q<S.t i w*- S.t r q\/(S.t r w*- S.t i q=S.t i w*- S.t r q/\S.s r<=S.s i)
def NL(S:Sh)(w q k:Nat)(o:Option Nat):Prop:=(o=none->∀i,i<k->S.s i∈S.gd->¬S.t i q<0)/\∀r,o=some r->r<k/\S.s r∈S.gd/\S.t r q<0/\∀i,i<k->S.s i∈S.gd->S.t i q<0->Kd S w q r i
theorem LJ{A B C x y z:Int}{a b c:Nat}(hx:0<x)(hy:0<y)(hz:0<z)(h1:A*y<B*x\/(A*y=B*x/\a<=b))(h2:B*z<C*y\/(B*z=C*y/\b<=c)):A*z<C*x\/(A*z=C*x/\a<=c):=by
 have l1:A*y<=B*x:=by lia
 have l2:B*z<=C*y:=by lia
 have l3:(A*y)*z<=(B*x)*z:=Int.mul_le_mul_of_nonneg_right l1 oM;have l4:(B*z)*x<=(C*y)*x:=Int.mul_le_mul_of_nonneg_right l2 oM;have e1:(B*x)*z=(B*z)*x:=by grind
 have e2:(A*y)*z=(A*z)*y:=by grind
 have e3:(C*y)*x=(C*x)*y:=by grind
 have l5:(A*z)*y<=(C*x)*y:=by lia
 have l6:A*z<=C*x:=Int.le_of_mul_le_mul_right l5 hy;by_cases e:A*z=C*x
 ·right
  refine⟨e,?_⟩;have e4:(A*z)*y=(C*x)*y:=by rw[e]
  have q1:A*y=B*x:=by
   have:(A*y)*z=(B*x)*z:=by(omega)
   exact Int.eq_of_mul_eq_mul_right oM this
  have q2:B*z=C*y:=by
   have:(B*z)*x=(C*y)*x:=by lia
   exact Int.eq_of_mul_eq_mul_right oM this
  rcases h1 with h1|h1
  ·lia
  ·rcases h2 with h2|h2
   ·lia
   ·lia
 ·left;(omega)
section
variable{S:Sh}{w q k r:Nat}{o:Option Nat}
theorem tt_zero:NL S w q 0 none:=⟨fun _ i h=>by lia,fun r h=>nomatch h⟩
theorem tt_skip(h:¬(S.t k q<0/\S.s k∈S.gd))(T:NL S w q k o):NL S w q (k+1) o:=by
 refine⟨fun e i hi hg ht=>?_,fun r e=>?_⟩
 ·by_cases z:i=k
  ·subst z;exact h ⟨ht,hg⟩
  ·exact T.1 e i oM hg ht
 ·obtain⟨a,b,c,d⟩:=T.2 r e
  refine⟨by lia,b,c,fun i hi hg ht=>?_⟩;by_cases z:i=k
  ·subst z;exact absurd ⟨ht,hg⟩ h
  ·exact d i oM hg ht
theorem tt_first(h:S.t k q<0)(hg:S.s k∈S.gd)(T:NL S w q k none):NL S w q (k+1) (some k):=by
 refine⟨(fun e=>nomatch e),fun r e=>?_⟩;cases e;refine⟨by lia,hg,h,fun i hi hg ht=>?_⟩;by_cases z:i=k
 ·subst z;exact .inr ⟨rfl,zP _⟩
 ·exact absurd ht (T.1 rfl i oM hg)
theorem tt_new(h:S.t k q<0)(hg:S.s k∈S.gd)(ht:S.t k w*- S.t r q<S.t r w*- S.t k q\/(S.t k w*- S.t r q=S.t r w*- S.t k q/\S.s k<S.s r))(T:NL S w q k (some r)):NL S w q (k+1) (some k):=by
 refine⟨(fun e=>nomatch e),fun r' e=>?_⟩;cases e;obtain⟨a,b,c,d⟩:=T.2 r rfl;refine⟨by lia,hg,h,fun i hi hg' ht'=>?_⟩;by_cases z:i=k
 ·subst z;exact .inr ⟨rfl,zP _⟩
 ·exact LJ (x:=- S.t k q) (y:=- S.t r q) (z:=- S.t i q) oM oM oM (ht.imp id fun x=>⟨x.1,by lia⟩) (d i oM hg' ht')
theorem tt_old(h:S.t k q<0)(ht:¬(S.t k w*- S.t r q<S.t r w*- S.t k q\/(S.t k w*- S.t r q=S.t r w*- S.t k q/\S.s k<S.s r)))(T:NL S w q k (some r)):NL S w q (k+1) (some r):=by
 refine⟨(fun e=>nomatch e),fun r' e=>?_⟩;cases e;obtain⟨a,b,c,d⟩:=T.2 r rfl;refine⟨by lia,b,c,fun i hi hg' ht'=>?_⟩;by_cases z:i=k
 ·subst z
  unfold Kd;have h1:¬(S.t i w*- S.t r q<S.t r w*- S.t i q):=fun x=>ht (.inl x)
  by_cases e:S.t i w*- S.t r q=S.t r w*- S.t i q
  ·exact .inr ⟨e.symm,Nat.le_of_not_lt fun x=>ht (.inr ⟨e,x⟩)⟩
  ·left;(omega)
 ·exact d i oM hg' ht'
end
noncomputable def vt(v:Nat->Nat->Int)(tn:List Nat):Nat->Nat->Int:=fun q x=>if q∈tn then-v q x else v q x
structure MI(w m:Nat)(v:Nat->Nat->Int)(S:Sh):Prop where
 shp:NP w m S
 lin:Lin w m (vt v S.tn) S.d S.t S.h S.s
 pm:Pm w m S.h S.s
 fea:Fea w m (·∈S.gd) (·∈S.nl) S.t S.h S.s
def toSt(S:Sh):St:=⟨S.d,S.t,S.h,S.s⟩
def Rais(w:Nat)(S:Sh)(p:Nat)(o:Option Nat):Prop:=(o=none->∀j,j<w->S.h j∉S.nl->¬0<S.t p j)/\∀q,o=some q->q<w/\S.h q∉S.nl/\0<S.t p q/\∀j,j<w->S.h j∉S.nl->0<S.t p j->S.h q<=S.h j
structure Kept(m p:Nat)(S T:Sh):Prop where
 gd:T.gd=S.gd
 nl:T.nl=S.nl
 tn:T.tn=S.tn
 si:∀i,i<m->i≠p->S.s i∉S.gd->T.s i=S.s i
section
variable{w m p q r:Nat}{v:Nat->Nat->Int}{S T:Sh}
theorem Kept.refl:Kept m p S S:=⟨rfl,rfl,rfl,fun _ _ _ _=>rfl⟩
theorem Kept.trans(a:Kept m p S T)(b:Kept m p T U):Kept m p S U :=
 ⟨b.gd.trans a.gd,b.nl.trans a.nl,b.tn.trans a.tn,fun i hi ne h=>by
  have h1:=a.si i hi ne h;rw[b.si i hi ne (by rw[h1,a.gd];exact h),h1]⟩
theorem MI.step(I:MI w m v S)(hp:p<m)(np:S.s p∉S.gd)(hq:Rais w S p (some q))(hr:NL S w q m (some r)):MI w m v (NN S r q)/\Bl w m p (·∈S.gd) (·∈S.nl) r q (sgn (S.t r q)) (toSt S) (toSt (NN S r q))/\Kept m p S (NN S r q)/\(NN S r q).s p=S.s p:=by
 obtain ⟨h1,h2,h3,h4⟩:=hq.2 q rfl;obtain ⟨r1,r2,r3,r4⟩:=hr.2 r rfl;have hpv:=j3 I.shp r1 h1 I.lin.pos (show S.t r q ≠ 0 by lia);refine ⟨⟨exch_shp I.shp r1,I.lin.piv hpv r1 h1,I.pm.piv hpv r1 h1,?_⟩,⟨h1,h2,h3,h4,r1,r2,r3,r4,hpv⟩,⟨rfl,rfl,rfl,fun i hi _ hg=>?_⟩,?_⟩
 ·exact Fea.tight I.lin I.pm I.fea hpv r1 h1 h2 r2 r3 fun i hi hg ht=>by
   rcases r4 i hi hg ht with z|z
   ·lia
   ·exact Int.le_of_eq z.1
 ·exact hpv.si i hi fun z=>hg (by rw[z];exact r2)
 ·exact hpv.si p hp fun z=>np (by rw[z];exact r2)
theorem MI.low(I:MI w m v S)(hp:p<m)(np:S.s p∉S.gd)(hq:Rais w S p (some q))(hr:NL S w q m (some r))(hu:¬S.t p w*S.t r q<=S.t r w*S.t p q):(NN S r q).t p w<0:=by
 obtain ⟨h1,h2,h3,h4⟩:=hq.2 q rfl;obtain ⟨r1,r2,r3,r4⟩:=hr.2 r rfl;have hpv:=j3 I.shp r1 h1 I.lin.pos (show S.t r q ≠ 0 by lia);have ne:p ≠ r:=fun z=>np (by rw [z];exact r2)
 have e1:=I.lin.ex' (e:=sgn (S.t r q)) hp r1 (show q < w + 1 by lia) (show w < w + 1 by lia) (show q ≠ w by lia);rw [<- hpv.tj p hp ne w oM oM] at e1;have e2:sgn (S.t r q)=-1:=by unfold sgn;rw [yH r3]
 rw[e2]at e1;have e3:S.t p w*(-1*S.t r q)-S.t p q*(-1*S.t r w)=S.t r w*S.t p q-S.t p w*S.t r q:=by grind
 rw[e3]at e1;rcases yU ((NN S r q).t p w) 0 with z|z
 ·exact z
 ·have:=Int.mul_nonneg (Int.le_of_lt I.lin.pos) z;lia
theorem MI.up(I:MI w m v S)(hp:p<m)(ng:S.s p∉S.gd)(nn:S.s p∉S.nl)(low:S.t p w<0)(hq:Rais w S p (some q))(ht:NL S w q m none\/∃r,NL S w q m (some r)/\S.t p w*S.t r q<=S.t r w*S.t p q) :
  MI w m v { NN S p q with gd:=S.gd++[S.s p] }/\MI w m v { NN S p q with nl:=S.nl++[S.s p] }/\Kept m p S (NN S p q):=by
 obtain ⟨h1,h2,h3,h4⟩:=hq.2 q rfl;have hpv:=j3 I.shp hp h1 I.lin.pos (show S.t p q ≠ 0 by lia);have sh:=exch_shp (c:=q) I.shp hp;have ti:∀ i,i < m->S.s i ∈ S.gd->S.t i q < 0->S.t p w * S.t i q <= S.t i w * S.t p q:=fun i hi hg hn=>by
  rcases ht with ht|⟨r,ht,hu⟩
  ·exact absurd hn (ht.1 rfl i hi hg)
  ·obtain⟨r1,r2,r3,r4⟩:=ht.2 r rfl
   refine Do (a:=S.t r w) (b:=S.t r q) r3 hn h3 hu ?_;rcases r4 i hi hg hn with z|z
   ·lia
   ·exact Int.le_of_eq z.1
 refine⟨⟨⟨sh.ls,sh.row,sh.hd,sh.sd⟩,I.lin.piv hpv hp h1,I.pm.piv hpv hp h1,?_⟩,⟨⟨sh.ls,sh.row,sh.hd,sh.sd⟩,I.lin.piv hpv hp h1,I.pm.piv hpv hp h1,?_⟩,⟨rfl,rfl,rfl,fun i hi ne _=>hpv.si i hi ne⟩⟩
 ·exact Fea.lift (G':=(·∈S.gd++[S.s p])) I.lin I.pm I.fea hpv hp h1 h2 h3 low ti (fun x hx=>by simp[hx]) (fun x hx=>.rfl) (.inl (by simp))
 ·exact Fea.lift (N':=(·∈S.nl++[S.s p])) I.lin I.pm I.fea hpv hp h1 h2 h3 low ti (fun x hx=>.rfl) (fun x hx=>by simp[hx]) (.inr (by simp))
theorem MI.move(I:MI w m v S)(hp:p<m)(hq:q<w)(hn:S.h q∉S.nl)(h0:S.t p w=0)(hz:S.t p q≠0):MI w m v { NN S p q with nl:=S.nl++[S.s p] }/\Kept m p S (NN S p q):=by
 have hpv:=j3 I.shp hp hq I.lin.pos hz;have sh:=exch_shp (c:=q) I.shp hp;refine⟨⟨⟨sh.ls,sh.row,sh.hd,sh.sd⟩,I.lin.piv hpv hp hq,I.pm.piv hpv hp hq,?_⟩,⟨rfl,rfl,rfl,fun i hi ne _=>hpv.si i hi ne⟩⟩;exact Fea.move (N':=(·∈S.nl++[S.s p])) I.lin I.pm I.fea hpv hp hq hn h0 (fun x hx=>.rfl) (fun x hx=>by simp[hx]) (.inr (by simp))
theorem MI.guard(I:MI w m v S)(hp:p<m)(h0:0<=S.t p w):MI w m v { S with gd:=S.gd++[S.s p] }:=by
 refine⟨⟨I.shp.ls,I.shp.row,I.shp.hd,I.shp.sd⟩,I.lin,I.pm,?_⟩;have e:(fun x=>x∈S.gd++[S.s p])=fun x=>x∈S.gd\/x=S.s p:=by funext x;simp
 show Fea w m (fun x=>x∈S.gd++[S.s p]) _ _ _ _;rw[e];exact Fea.guard I.fea I.pm hp h0
theorem MI.nail(I:MI w m v S)(hp:p<m)(h0:S.t p w=0)(hz:∀j,j<w->S.h j∉S.nl->S.t p j=0):MI w m v { S with nl:=S.nl++[S.s p] }:=by
 refine⟨⟨I.shp.ls,I.shp.row,I.shp.hd,I.shp.sd⟩,I.lin,I.pm,?_⟩;have e:(fun x=>x∈S.nl++[S.s p])=fun x=>x∈S.nl\/x=S.s p:=by funext x;simp
 show Fea w m _ (fun x=>x∈S.nl++[S.s p]) _ _ _;rw[e];exact Fea.nail I.fea I.pm hp h0 hz
theorem MI.turn(I:MI w m v S)(hp:p<m)(ng:S.s p∉S.gd)(nn:S.s p∉S.nl)(nt:S.s p∉S.tn):MI w m v (trn S p):=by
 obtain⟨t1,t2⟩:=trn_t I.shp hp;refine⟨trn_shp I.shp hp,?_,I.pm,Fea.turn I.fea I.pm hp ng nn t2⟩;have e:vt v (trn S p).tn=tv (vt v S.tn) (S.s p):=by
  have:(trn S p).tn=S.tn++[S.s p]:=by show(if _ then _ else _)=_;rw[yG nt]
  rw[this];funext q x;unfold vt tv;by_cases h:q=S.s p
  ·subst h;simp[nt]
  ·simp[h]
 rw[e];exact Lin.turn I.lin I.pm hp t1 t2
theorem no_chain(hp:p<m)(f:Nat->Sh)(h:∀n,MI w m v (f n)/\(∃r q e,Bl w m p (·∈(f n).gd) (·∈(f n).nl) r q e (toSt (f n)) (toSt (f (n+1))))/\Kept m p (f n) (f (n+1)))(np:(f 0).s p∉(f 0).gd):False:=by
 have hk:∀n,Kept m p (f 0) (f n):=fun n=>by
  induction n with
  |zero=>exact Kept.refl
  |succ n ih=>exact ih.trans (h n).2.2
 have hb:∀n,∃r q e,Bl w m p (·∈(f 0).gd) (·∈(f 0).nl) r q e (toSt (f n)) (toSt (f (n+1))):=fun n=>by
  have:=(h n).2.1;rw[(hk n).gd,(hk n).nl]at this;exact this
 let r:=fun n=>Classical.choose (hb n)
 have hr:=fun n=>Classical.choose_spec (hb n)
 let q:=fun n=>Classical.choose (hr n)
 have hq:=fun n=>Classical.choose_spec (hr n)
 let e:=fun n=>Classical.choose (hq n)
 have he:=fun n=>Classical.choose_spec (hq n)
 refine Run.ends (w:=w) (m:=m) (p:=p) (v:=vt v (f 0).tn) (G:=(·∈(f 0).gd)) (N:=(·∈(f 0).nl)) (S:=fun n=>toSt (f n)) (r:=r) (c:=q) (e:=e) ⟨fun n=>?_,fun n=>(h n).1.pm,fun n=>?_,fun n=>?_,hp,np⟩
 ·have:=(h n).1.lin;rw[(hk n).tn]at this;exact this
 ·have:=(h n).1.fea;rw[(hk n).gd,(hk n).nl]at this;exact this
 ·exact he n
theorem MI.bound(I:MI w m v S){M B:Nat}(hM:1<=M)(hv:∀q x,x<w+1->(v q x).natAbs<=M)(hb:fct (w+1)*M^(w+1)<B):S.d.natAbs<B/\∀i,i<m->∀j,j<w+1->(S.t i j).natAbs<B:=by
 have:=I.lin.bound hM (M:=M) fun q x hx=>by
  unfold vt;split
  ·rw[Int.natAbs_neg];exact hv q x hx
  ·exact hv q x hx
 exact⟨yL this.1 hb,fun i hi j hj=>yL (this.2 i hi j hj) hb⟩
end
theorem um:∀n:Nat,bE n (fun i j=>if j=i then 1 else 0)=1
 |0=>rfl
 |n+1=>by
  show NK (n+1) _=1;rw[fG (k:=0) oM fun k hk ne=>by
   show sg k*(if 0=k then 1 else 0)*_=0;rw[yG fun z=>ne z.symm,yO,yP]]
  have:bE n (gi (fun i j=>if j=i then(1:Int) else 0) 0)=1:=by
   rw[di (B:=fun i j=>if j=i then(1:Int) else 0) fun i j _ _=>?_]
   ·exact um n
   ·unfold gi skip;simp
  rw[this];rfl
def v0(w:Nat)(L:List (List Int)):Nat->Nat->Int:=fun q x=>if q<w then(if x=q then 1 else 0) else gI (L.getD (q-w) []) x
noncomputable def openS(w:Nat)(L:List (List Int))(k:Nat):Sh:=⟨1,L,List.range w,(List.range L.length).map (w+·),List.range k,[],[]⟩
theorem open_MI{w nr:Nat}(hL:∀l∈L,l.length=w+1)(hz:∀i,i<nr->gI (L.getD i []) w=0):MI w L.length (v0 w L) (openS w L (w+nr)):=by
 have hh:∀j,j<w->(openS w L (w+nr)).h j=j:=fun j hj=>by show(List.range w).getD j 0=j;simp[zD,hj]
 have hs:∀i,i<L.length->(openS w L (w+nr)).s i=w+i:=fun i hi=>by show((List.range L.length).map (w+·)).getD i 0=w+i;simp[zD,hi]
 have hv:vt (v0 w L) (openS w L (w+nr)).tn=v0 w L:=by funext q x;unfold vt;exact yG (by show q∉[];simp)
 have hb:∀k,k<w+1->∀x,x<w+1->aR w (v0 w L) (openS w L (w+nr)).h k x=if x=k then 1 else 0:=fun k hk x hx=>by
  unfold aR;by_cases e:k=w
  ·rw[yH e,e];rfl
  ·rw[yG e,hh k oM];unfold v0;rw[yH oM]
 refine⟨⟨rfl,hL,by simp[openS],by simp[openS]⟩,?_,?_,?_⟩
 ·rw[hv]
  refine⟨Int.one_pos,fun i hi x hx=>?_,1,rfl,?_⟩
  ·rw[hs i hi,fG (k:=x) hx fun k hk ne=>by rw[hb k hk x hx,yG fun z=>ne z.symm,yO],hb x hx x hx,yH rfl]
   unfold v0;rw[yG oM,show w+i-w=i by lia];show 1*gI (L.getD i []) x=gI (L.getD i []) x*1;lia
  ·rw[di (B:=fun i j=>if j=i then 1 else 0) fun i j hi hj=>hb i hi j hj,um];rfl
 ·refine⟨fun j hj=>by rw[hh j hj];lia,fun i hi=>by rw[hs i hi];lia,fun j k hj hk e=>by rw[hh j hj,hh k hk]at e;exact e,fun j k hj hk e=>by rw[hs j hj,hs k hk]at e;lia,fun j i hj hi e=>by rw[hh j hj,hs i hi]at e;lia,fun q hq=>?_⟩
  by_cases h:q<w
  ·exact .inr ⟨q,h,hh q h⟩
  ·exact .inl ⟨q-w,by lia,by rw[hs _ oM];lia⟩
 ·refine⟨fun i hi hg=>?_,fun i hi hn=>?_,fun j hj=>.inl ?_⟩
  ·rw[hs i hi]at hg
   have:w+i<w+nr:=List.mem_range.mp hg;show 0<=gI (L.getD i []) w;rw[hz i oM];decide
  ·exact absurd (show _ ∈ ([]:List Nat) from hn) (by simp)
  ·rw[hh j hj];exact List.mem_range.mpr oM
theorem open_s{w k i:Nat}(hi:i<L.length):(openS w L k).s i=w+i:=by show((List.range L.length).map (w+·)).getD i 0=w+i;simp[zD,hi]
def Qt(w:Nat)(v:Nat->Nat->Int)(Y:Nat->Int)(e:Int)(q:Nat):Int:=(NK w fun x=>v q x*Y x)+v q w*e
section
variable{w m p:Nat}{v:Nat->Nat->Int}{S:Sh}
theorem BX{Y:Nat->Int}{e:Int}{q:Nat}:Qt w (vt v S.tn) Y e q=if q∈S.tn then-Qt w v Y e q else Qt w v Y e q:=by
 unfold Qt vt;by_cases h:q∈S.tn
 ·simp only[yH h]
  rw[sum_congr (g:=fun x=>(-1)*(v q x*Y x)) fun x _=>by grind,sum_mul];grind
 ·simp only[yG h]
theorem MI.vert(I:MI w m v S)(hv:∀q,q<w->∀x,x<w+1->v q x=if x=q then 1 else 0)(tw:∀q∈S.tn,w<=q){c:Nat}(hc:c<w+1){X:Nat->Int}(h1:∀i,i<m->S.s i<w->X (S.s i)=S.t i c)(h2:∀j,j<w->S.h j<w->X (S.h j)=if j=c then S.d else 0) :
  (∀i,i<m->Qt w v X (if c=w then S.d else 0) (S.s i)=if S.s i∈S.tn then-S.t i c else S.t i c)/\∀j,j<w->Qt w v X (if c=w then S.d else 0) (S.h j)=if j=c then(if S.h j∈S.tn then-S.d else S.d) else 0:=by
 have hv':∀q,q<w->∀x,x<w+1->vt v S.tn q x=if x=q then 1 else 0:=fun q hq x hx=>by
  unfold vt;rw[yG fun z=>by have:=tw q z;lia];exact hv q hq x hx
 obtain⟨a,b⟩:=I.lin.func hv' hc h1 h2 fun q hq=>I.pm.cov q oM
 refine⟨fun i hi=>?_,fun j hj=>?_⟩
 ·have e:Qt w (vt v S.tn) X (if c=w then S.d else 0) (S.s i)=S.t i c:=a i hi
  rw[BX]at e;split at e
  ·rename_i h;rw[yH h];lia
  ·rename_i h;rw[yG h];exact e
 ·have e:Qt w (vt v S.tn) X (if c=w then S.d else 0) (S.h j)=if j=c then S.d else 0:=b j hj
  rw[BX]at e;by_cases h:j=c
  ·rw[yH h]at e ⊢
   split at e
   ·rename_i h;rw[yH h];lia
   ·rename_i h;rw[yG h];exact e
  ·rw[yG h]at e ⊢
   split at e
   ·lia
   ·exact e
end
end SX
namespace R
open PySem PySem.Spec L2
open DD (pyOk)
section
variable{ks:List Fn}{sl:Sl}{st:aa}
@[simp] theorem Ny:ev ks .n sl st=some (.non,st):=rfl
@[simp] theorem NA{x:Bool}:ev ks (.b x) sl st=some (.bl x,st):=rfl
@[simp] theorem tH{x:Int}:ev ks (.i x) sl st=some (.int x,st):=rfl
@[simp] theorem Jx{x:Str}:ev ks (.s x) sl st=some (.str x,st):=rfl
@[simp] theorem Nz{x:Str}{c:AV}:ev ks (.g x c) sl st=some (c,st):=rfl
@[simp] theorem ka{k:Nat}:ev ks (.v k) sl st=aV k sl st:=rfl
@[simp] theorem g9{v:AV}:aV 0 (some v::sl) st=some (v,st):=rfl
@[simp] theorem iS{k:Nat}{x:Option AV}:aV (k+1) (x::sl) st=aV k sl st:=rfl
@[simp] theorem A1{o:Operator}{a b:Ex}:ev ks (.bin o a b) sl st=(ev ks a sl st).bind fun p=>(ev ks b sl p.2).bind fun q=>(aY o q.2 p.1 q.1).map fun z=>(z,q.2):=rfl
@[simp] theorem Hi{o:CmpOp}{a b:Ex}:ev ks (.cmp o a b) sl st=(ev ks a sl st).bind fun p=>(ev ks b sl p.2).bind fun q=>(mW o q.2 p.1 q.1).map fun z=>(z,q.2):=rfl
@[simp] theorem MS{o:UnaryOp}{a:Ex}:ev ks (.un o a) sl st=(ev ks a sl st).bind fun p=>(kE o p.2 p.1).map fun z=>(z,p.2):=rfl
def LX(x:AV)(st:aa):Option (AV×aa):=match x with
 |.bl b=>some (.bl !b,st)
 |_=>none
def GZ(x:AV)(st:aa)(r:Option (AV×aa)):Option (AV×aa):=match x with
 |.bl b=>if b=true then r else some (.bl false,st)
 |_=>none
def FA(x:AV)(st:aa)(r:Option (AV×aa)):Option (AV×aa):=match x with
 |.bl b=>if b=true then some (.bl true,st) else r
 |_=>none
@[simp] theorem MK{b:Bool}:LX (.bl b) st=some (.bl !b,st):=rfl
@[simp] theorem MR{b:Bool}{r:Option (AV×aa)}:GZ (.bl b) st r=if b=true then r else some (.bl false,st):=rfl
@[simp] theorem MJ{b:Bool}{r:Option (AV×aa)}:FA (.bl b) st r=if b=true then some (.bl true,st) else r:=rfl
@[simp] theorem MZ{a b:Ex}:ev ks (.an a b) sl st=(ev ks a sl st).bind fun p=>GZ p.1 p.2 (ev ks b sl p.2):=by
 show BU (ev ks a) (ev ks b) sl st=_;unfold BU GZ;congr 1;funext p;cases p.1<;>first|rfl|skip
 rename_i x;cases x<;>rfl
@[simp] theorem MT{a b:Ex}:ev ks (.or a b) sl st=(ev ks a sl st).bind fun p=>FA p.1 p.2 (ev ks b sl p.2):=by
 show BQ (ev ks a) (ev ks b) sl st=_;unfold BQ FA;congr 1;funext p;cases p.1<;>first|rfl|skip
 rename_i x;cases x<;>rfl
@[simp] theorem AZ{t:Tx}{a b:Ex}:ev ks (.ife t a b) sl st=(tv ks t sl st).bind fun p=>if p.1=true then ev ks a sl p.2 else ev ks b sl p.2:=rfl
@[simp] theorem uA{a b:Ex}:ev ks (.ix a b) sl st=(ev ks a sl st).bind fun p=>(ev ks b sl p.2).bind fun q=>(aZ q.2 p.1 q.1).map fun z=>(z,q.2):=rfl
@[simp] theorem jr{p:Bool}{j:Nat}{es:Exs}:ev ks (.ca p j es) sl st=(eB ks es sl st).bind fun q=>ki p (kf ks j) q.1 q.2:=rfl
@[simp] theorem lD{f:Fn}:ki true f=pm f:=rfl
@[simp] theorem qd{f:Fn}:ki false f=f:=rfl
@[simp] theorem ju{f:Fn}:kf (f::ks) 0=f:=rfl
@[simp] theorem kP{f:Fn}{j:Nat}:kf (f::ks) (j+1)=kf ks j:=rfl
@[simp] theorem dA:eB ks .nil sl st=some ([],st):=rfl
@[simp] theorem c4{e:Ex}{es:Exs}:eB ks (.cons e es) sl st=(ev ks e sl st).bind fun p=>(eB ks es sl p.2).bind fun q=>some (p.1::q.1,q.2):=rfl
@[simp] theorem yf{es:Exs}:ev ks (.tu es) sl st=(eB ks es sl st).bind fun p=>if Nat.ble p.1.length 1000=true then some (.tup p.1,p.2) else none:=rfl
@[simp] theorem gZ{x:Nx}:ev ks (.nw false x) sl st=(jb ks x sl st).bind fun p=>if rfs p.1=true then some (.fz p.1,p.2) else none:=rfl
@[simp] theorem yg{x:Nx}:ev ks (.nw true x) sl st=(jb ks x sl st).bind fun p=>some (.ref p.2.length,p.2++[.lst p.1]):=rfl
@[simp] theorem MW{c m:Str}{j:Nat}{o:Ex}{es:Exs}:ev ks (.me c m j o es) sl st=(ev ks o sl st).bind fun p=>(jv p.2 c p.1).bind fun fs=>if(fs.lookup m).isNone=true then(eB ks es sl p.2).bind fun q=>kf ks j (p.1::q.1) q.2 else none:=rfl
@[simp] theorem MU{c:Str}{j:Nat}{es:Exs}:ev ks (.ne c j es) sl st=xQ c (kf ks j) (eB ks es) sl st:=rfl
@[simp] theorem MX{c f:Str}{o:Ex}:ev ks (.fd c f o) sl st=(ev ks o sl st).bind fun p=>(jv p.2 c p.1).bind fun fs=>(fs.lookup f).map fun v=>(v,p.2):=rfl
@[simp] theorem Km{b:Bi}{es:Exs}:ev ks (.bi b es) sl st=(eB ks es sl st).bind fun p=>ou b p.1 p.2:=rfl
@[simp] theorem Md:ou .len=bN de:=rfl
@[simp] theorem GR:ou .sum=bN qA:=rfl
@[simp] theorem Mf:ou .abs=bN pv:=rfl
@[simp] theorem Mb:ou .min=bN qZ:=rfl
@[simp] theorem Mc:ou .max=bN oV:=rfl
@[simp] theorem Me:ou .int=bN oZ:=rfl
@[simp] theorem MV{m:Mi}{o:Ex}{es:Exs}:ev ks (.mt m o es) sl st=kB (nE m) (nD m) (ev ks o) (eB ks es) sl st:=rfl
@[simp] theorem MY:ev ks .dn sl st=some (.ref st.length,st++[.dK []]):=rfl
@[simp] theorem MC{a:Ex}:ev ks (.mnd a) sl st=(ev ks a sl st).bind fun p=>bN nB [p.1] p.2:=by
 show(dz (ev ks a) d4 sl st).bind _=_;unfold dz d4;cases ev ks a sl st<;>rfl
@[simp] theorem MB{a k:Ex}:ev ks (.mnk a k) sl st=qu (ev ks a) (ev ks k) sl st:=rfl
@[simp] theorem Nj{a b c:Ex}:dR ks (.r3 a b c) sl st=xp (ev ks a) (ev ks b) (ev ks c) sl st:=rfl
@[simp] theorem Nh{es:Exs}:jb ks (.li es) sl st=(eB ks es sl st).bind fun p=>if cK p.1.length=true then some p else none:=rfl
@[simp] theorem vi{a b:Ex}:jb ks (.cat a b) sl st=vm (ev ks a) (ev ks b) sl st:=rfl
@[simp] theorem Ic{es:Exs}{b:Ex}:jb ks (.rep es b) sl st=vj (eB ks es) (ev ks b) sl st:=rfl
@[simp] theorem Ng{a:Ex}{l h:Ox}:jb ks (.sl a l h) sl st=qW (ev ks a) (sA ks l) (sA ks h) sl st:=rfl
@[simp] theorem MN{a:Ex}:jb ks (.lof a) sl st=mP (ev ks a) sl st:=rfl
@[simp] theorem MM{a:Ex}:jb ks (.lr1 a) sl st=oU (ev ks a) sl st:=rfl
@[simp] theorem ML{a b:Ex}:jb ks (.lr2 a b) sl st=vk (ev ks a) (ev ks b) sl st:=rfl
@[simp] theorem FN{k:Nat}{it:Ix}{t:Tg}{c:Cx'}{e:Ex}:jb ks (.lc k it t c e) sl st=(dR ks it sl st).bind fun p=>if cK p.1.NH.length=true then gM p.1.gd (cj ks t) (jd ks c) (ev ks e) (sl++List.replicate k none) p.1.NH p.2 else none:=rfl
@[simp] theorem Nf:sA ks .no sl st=some (none,st):=rfl
@[simp] theorem Nd{e:Ex}:sA ks (.so e) sl st=qR (ev ks e) sl st:=rfl
@[simp] theorem Nq:jd ks .no sl st=some (true,st):=rfl
@[simp] theorem Np{t:Tx}:jd ks (.so t) sl st=tv ks t sl st:=rfl
@[simp] theorem NB{a:Ex}:dR ks (.e a) sl st=(ev ks a sl st).bind fun p=>(nO p.2 p.1).map fun iv=>(iv,p.2):=rfl
@[simp] theorem Nl{a:Ex}:dR ks (.r1 a) sl st=Bw (ev ks a) sl st:=rfl
@[simp] theorem Nk{a b:Ex}:dR ks (.r2 a b) sl st=Bv (ev ks a) (ev ks b) sl st:=rfl
@[simp] theorem Ni{a b:Ex}:dR ks (.zi a b) sl st=iZ (ev ks a) (ev ks b) sl st:=rfl
@[simp] theorem La{a:Ex}:dR ks (.en a) sl st=(ev ks a sl st).bind fun p=>(iH p.2 p.1).map fun iv=>(⟨eN 0 iv.NH,iv.gd⟩,p.2):=rfl
@[simp] theorem Nm{a b:Ex}:dR ks (.es a b) sl st=vH (ev ks a) (ev ks b) sl st:=rfl
@[simp] theorem AB{k:Nat}{x:AV}:cj ks (.nm k) x sl st=some (sl.set k (some x),st):=rfl
@[simp] theorem Nn{n:Nat}{ts:Tgs}{x:AV}:cj ks (.tu n ts) x sl st=xu n (jx ks ts) x sl st:=rfl
@[simp] theorem No{a b:Ex}{x:AV}:cj ks (.su a b) x sl st=(ev ks a sl st).bind fun p=>(ev ks b sl p.2).bind fun q=>(g6 q.2 p.1 q.1 x).map fun st'=>(sl,st'):=rfl
@[simp] theorem L4{xs:List AV}:jx ks .nil xs sl st=Gn xs sl st:=rfl
@[simp] theorem Lw{t:Tg}{ts:Tgs}{xs:List AV}:jx ks (.cons t ts) xs sl st=Gp (cj ks t) (jx ks ts) xs sl st:=rfl
@[simp] theorem M2{e:Ex}:tv ks (.va e) sl st=(ev ks e sl st).bind fun p=>(eQ p.2 p.1).map fun b=>(b,p.2):=rfl
@[simp] theorem uU{o:CmpOp}{a b:Ex}:tv ks (.cmp o a b) sl st=(ev ks a sl st).bind fun p=>(ev ks b sl p.2).bind fun q=>(b9 o q.2 p.1 q.1).map fun b=>(b,q.2):=rfl
@[simp] theorem M4{t:Tx}:tv ks (.no t) sl st=(tv ks t sl st).bind fun p=>some (!p.1,p.2):=rfl
@[simp] theorem M5{t u:Tx}:tv ks (.an t u) sl st=(tv ks t sl st).bind fun p=>if p.1=true then tv ks u sl p.2 else some (false,p.2):=rfl
@[simp] theorem M3{t u:Tx}:tv ks (.or t u) sl st=(tv ks t sl st).bind fun p=>if p.1=true then some (true,p.2) else tv ks u sl p.2:=rfl
@[simp] theorem MA:af ks .nil sl st=some (.nx sl st):=rfl
def l7(o:Out)(k:Sl->aa->Option Out):Option Out:=match o with
 |.nx sl st=>k sl st
 |o=>some o
@[simp] theorem wT{k:Sl->aa->Option Out}:l7 (.nx sl st) k=k sl st:=rfl
@[simp] theorem wS{v:AV}{k:Sl->aa->Option Out}:l7 (.rt v st) k=some (.rt v st):=rfl
@[simp] theorem LV{k:Sl->aa->Option Out}:l7 (.bk sl st) k=some (.bk sl st):=rfl
@[simp] theorem LU{k:Sl->aa->Option Out}:l7 (.ct sl st) k=some (.ct sl st):=rfl
@[simp] theorem kC{s:Sx}{ss:NQ}:af ks (.cons s ss) sl st=(ci ks s sl st).bind fun o=>l7 o (af ks ss):=by
 show(ci ks s sl st).bind _=(ci ks s sl st).bind _;congr 1
@[simp] theorem Ez{e:Ex}:ci ks (.ex e) sl st=(ev ks e sl st).bind fun p=>some (.nx sl p.2):=rfl
@[simp] theorem fU{e:Ex}{t:Tg}:ci ks (.as e t) sl st=(ev ks e sl st).bind fun p=>(cj ks t p.1 sl p.2).bind fun q=>some (.nx q.1 q.2):=rfl
@[simp] theorem Ht{o:Operator}{a b e:Ex}:ci ks (.aus o a b e) sl st=u7 o (ev ks a) (ev ks b) (ev ks e) sl st:=rfl
@[simp] theorem M6{c f:Str}{o e:Ex}:ci ks (.fl c f o e) sl st=wx c f (ev ks o) (ev ks e) sl st:=rfl
@[simp] theorem mM{e:Ex}:ci ks (.rt e) sl st=(ev ks e sl st).bind fun p=>some (.rt p.1 p.2):=rfl
@[simp] theorem iV{t:Tx}{a b:NQ}:ci ks (.iff t a b) sl st=(tv ks t sl st).bind fun p=>if p.1=true then af ks a sl p.2 else af ks b sl p.2:=rfl
@[simp] theorem kG{it:Ix}{t:Tg}{b:NQ}:ci ks (.fo it t b) sl st=(dR ks it sl st).bind fun p=>dq p.1.gd (cj ks t) (af ks b) p.1.NH sl p.2:=rfl
@[simp] theorem ME{a:Ex}{t:Tg}{b:NQ}:ci ks (.fd a t b) sl st=u6 (ev ks a) (cj ks t) (af ks b) sl st:=rfl
@[simp] theorem KI{t:Tx}{b:NQ}:ci ks (.wh t b) sl st=lZ (tv ks t) (af ks b) sl st:=rfl
@[simp] theorem LO:ci ks .dead sl st=none:=rfl
def ay(o:Out):Option (AV×aa):=match o with
 |.rt v st=>some (v,st)
 |.nx _ st=>some (.non,st)
 |_=>none
@[simp] theorem L6{v:AV}:ay (.rt v st)=some (v,st):=rfl
@[simp] theorem L7:ay (.nx sl st)=some (.non,st):=rfl
theorem aD{n:Nat}{b:NQ}{args:List AV}:R.run n (af ks b) args st=(af ks b (args.map some++List.replicate (n-args.length) none) st).bind ay:=by
 unfold R.run;congr 1
end
@[simp] theorem MG:rfs []=true:=rfl
@[simp] theorem MH{x:AV}{xs:List AV}:rfs (x::xs)=(rf x&&rfs xs):=by simp only[rfs]
@[simp] theorem Na{i:Int}:rf (.int i)=true:=rfl
@[simp] theorem Nc{i:Bool}:rf (.bl i)=true:=rfl
@[simp] theorem M8{i:Str}:rf (.str i)=true:=rfl
@[simp] theorem M9:rf .non=true:=rfl
@[simp] theorem Nb{xs:List AV}:rf (.fz xs)=true:=rfl
@[simp] theorem M7{xs:List AV}:rf (.tup xs)=rfs xs:=by simp only[rf]
section
variable{st:aa}{a b:Int}
theorem BC:je st (.int a) (.int b)=some (decide (a=b)):=by
 show(if pyOk (.int a) (.int b)=true then some (PyData.eqv (.int a) (.int b)) else none)=_;rw[yH (by simp[pyOk,PyData.canLay0,PyData.depth])];congr 1
@[simp] theorem Nw:b9 .Eq st (.int a) (.int b)=some (decide (a=b)):=BC
@[simp] theorem Lm:b9 .NotEq st (.int a) (.int b)=some (!decide (a=b)):=by show((je st (.int a) (.int b)).map fun x=>!x)=_;rw[BC];rfl
@[simp] theorem Nr:b9 .Lt st (.int a) (.int b)=some (decide (a<b)):=rfl
@[simp] theorem Nt:b9 .LtE st (.int a) (.int b)=some (decide (a<=b)):=rfl
@[simp] theorem Nu:b9 .Gt st (.int a) (.int b)=some (decide (b<a)):=rfl
@[simp] theorem Nv:b9 .GtE st (.int a) (.int b)=some (decide (b<=a)):=rfl
@[simp] theorem NC{o:CmpOp}{x y:AV}:mW o st x y=(b9 o st x y).map .bl:=rfl
@[simp] theorem MO:b9 .Is st .non .non=some true:=rfl
@[simp] theorem MP:b9 .Is st (.int a) .non=some false:=rfl
@[simp] theorem L9:b9 .IsNot st .non .non=some false:=rfl
@[simp] theorem Ma:b9 .IsNot st (.int a) .non=some true:=rfl
@[simp] theorem MQ:aY .Add st (.int a) (.int b)=some (.int (a+b)):=rfl
@[simp] theorem Jo:aY .Sub st (.int a) (.int b)=some (.int (a-b)):=rfl
theorem cC(h:dD a b=true):aY .Mult st (.int a) (.int b)=some (.int (a*b)):=by
 show(if dD a b=true then _ else _:Option Int).map _=_;rw[yH h];rfl
theorem oA(h:eC b=true):aY .FloorDiv st (.int a) (.int b)=some (.int (uk a b)):=by
 show(if eC b=true then _ else _:Option Int).map _=_;rw[yH h];rfl
theorem oz(h:b≠0):aY .Mod st (.int a) (.int b)=some (.int (oe a b)):=by
 show(if b=0 then _ else _:Option Int).map _=_;rw[yG h];rfl
@[simp] theorem MD:kE .USub st (.int a)=some (.int (-a)):=rfl
theorem cW{x y:Int}(h1:x.natAbs<2^9000)(h2:y.natAbs<2^9000):dD x y=true:=by
 have lg:∀z:Nat,z<2^9000->Nat.ble z.log2 1000000=true:=fun z hz=>by
  by_cases h0:z=0
  ·subst h0;rfl
  ·exact yK (z5 (yY ((Nat.log2_lt h0).mpr hz)) oM)
 unfold dD;rw[lg _ h1,lg _ h2,Bool.and_true,Bool.or_true]
theorem sC{y:Int}(h0:y≠0)(h2:y.natAbs<2^9000):eC y=true:=by
 unfold eC;have:Nat.ble y.natAbs.log2 8999=true:=yK (by have:=(Nat.log2_lt (n:=y.natAbs) oM).mpr h2;lia);rw[this];simp[h0]
end
open SX (Sh gI)
noncomputable def iL(l:List Int):List AV:=l.map .int
abbrev Is(x:Int):Option AV:=some (.int x)
abbrev Rs(x:Nat):Option AV:=some (.ref x)
abbrev Zs(x:List AV):Option AV:=some (.fz x)
abbrev Ls(x:List Int):Option AV:=some (.fz (iL x))
noncomputable def nL(l:List Nat):List AV:=l.map fun q=>.int ((q:Nat):Int)
def kL(l:List Nat):List (aT×AV):=l.map fun q=>(.inl ((q:Nat):Int),.bl true)
def cV(d:Int)(a b c g n u:Nat):List (Str×AV):=[("below",.int d),("lines",.ref a),("heads",.ref b),("sides",.ref c),("guarded",.ref g),("nailed",.ref n),("turned",.ref u)]
section
variable{d:Int}{a b c g n u:Nat}
@[simp] theorem K6:(cV d a b c g n u).lookup ("below":Str)=some (AV.int d):=rfl
@[simp] theorem K4:(cV d a b c g n u).lookup ("lines":Str)=some (AV.ref a):=rfl
@[simp] theorem K5:(cV d a b c g n u).lookup ("heads":Str)=some (AV.ref b):=rfl
@[simp] theorem K3:(cV d a b c g n u).lookup ("sides":Str)=some (AV.ref c):=rfl
@[simp] theorem Il:(cV d a b c g n u).lookup ("guarded":Str)=some (AV.ref g):=rfl
@[simp] theorem JQ:(cV d a b c g n u).lookup ("nailed":Str)=some (AV.ref n):=rfl
@[simp] theorem JP:(cV d a b c g n u).lookup ("turned":Str)=some (AV.ref u):=rfl
@[simp] theorem Ap:(cV d a b c g n u).lookup ("loose_columns":Str)=none:=rfl
@[simp] theorem xY:(cV d a b c g n u).lookup ("raising_column":Str)=none:=rfl
@[simp] theorem xX:(cV d a b c g n u).lookup ("tightest_place":Str)=none:=rfl
@[simp] theorem DO:(cV d a b c g n u).lookup ("is_tighter":Str)=none:=rfl
@[simp] theorem Dn:(cV d a b c g n u).lookup ("is_up_first":Str)=none:=rfl
@[simp] theorem Hd:(cV d a b c g n u).lookup ("exchange":Str)=none:=rfl
@[simp] theorem Lv:(cV d a b c g n u).lookup ("lift":Str)=none:=rfl
@[simp] theorem He:(cV d a b c g n u).lookup ("drive_up":Str)=none:=rfl
@[simp] theorem Ao:(cV d a b c g n u).lookup ("moving_column":Str)=none:=rfl
@[simp] theorem K2:(cV d a b c g n u).lookup ("guard":Str)=none:=rfl
@[simp] theorem Lu:(cV d a b c g n u).lookup ("nail":Str)=none:=rfl
@[simp] theorem F2:(cV d a b c g n u).lookup ("turn_line":Str)=none:=rfl
end
def RowR(st:aa)(x:AV)(l:List Int):Prop:=x=.fz (iL l)\/∃r,x=.ref r/\(st[r]?=some (.lst (iL l))\/st[r]?=some (.al (.fz (iL l))))
structure Rep(st:aa)(k a b c g n u:Nat)(rows:List AV)(S:Sh):Prop where
 hk:st[k]?=some (.ins "Sheet" (cV S.d a b c g n u))
 ha:st[a]?=some (.lst rows)
 hb:st[b]?=some (.lst (nL S.hd))
 hc:st[c]?=some (.lst (nL S.sd))
 hg:st[g]?=some (.dK (kL S.gd))
 hn:st[n]?=some (.dK (kL S.nl))
 hu:st[u]?=some (.dK (kL S.tn))
 len:rows.length=S.ls.length
 row:∀i x,rows[i]?=some x->RowR st x (SX.row S i)
 ab:a≠b
 ac:a≠c
 bc:b≠c
 gn:g≠n
 gu:g≠u
 nu:n≠u
 ra:∀(i r:Nat),rows[i]?=some (.ref r)->r≠a/\r≠b/\r≠c
section
variable{st:aa}{x:AV}{xs:List AV}{l:List Int}{i:Int}
theorem RowR.ls(h:RowR st x l):bL st x=some (iL l):=by
 rcases h with rfl|⟨r,rfl,h|h⟩
 ·rfl
 ·unfold bL dr;simp only[h]
 ·unfold bL dr;simp only[h]
theorem cB(h:bL st x=some xs):aZ st x (.int i)=gh xs i:=by
 have hd:mU st x (.int i)=none:=by
  unfold mU;have h1:jg st x=none:=by
   cases x<;>first|rfl|skip
   rename_i k;unfold bL dr at h;unfold jg;dsimp only at h ⊢;cases e:st[k]? with
   |none=>rfl
   | some c=>cases c <;> first | rfl | (rw [e] at h;simp only [e] at h;cases h)
  have h2:my st x=none:=by
   cases x<;>first|rfl|skip
   rename_i k;unfold bL dr at h;unfold my;dsimp only at h ⊢;cases e:st[k]? with
   |none=>rfl
   | some c=>cases c <;> first | rfl | (rw [e] at h;simp only [e] at h;cases h)
  rw[h1,h2]
 unfold aZ;rw[hd];dsimp only;rw[h]
theorem cb{α:Type}{xs:List α}{j:Nat}:gh xs ((j:Nat):Int)=xs[j]?:=by
 unfold gh km;rw[yH oM];by_cases h:j<xs.length
 ·rw[yH oM];simp
 ·rw[yG oM,List.getElem?_eq_none oM];rfl
theorem ph{α:Type}{xs:List α}{n:Nat}(h:xs.length=n+1):gh xs (-1)=xs[n]?:=by
 unfold gh km;rw[yG oM,yH oM,h,bind_some];congr 1;lia
theorem bY{j:Nat}(h:j<l.length):(iL l)[j]?=some (.int (gI l j)):=by
 unfold iL gI;simp[h,zD]
theorem iA{l:List Nat}{j:Nat}(h:j<l.length):(nL l)[j]?=some (.int ((l.getD j 0:Nat):Int)):=by
 unfold nL;simp[h,zD]
theorem bB{k:Nat}(h:st[k]?=some (.lst xs)):bL st (.ref k)=some xs:=by unfold bL dr;simp only[h]
theorem t9{g:Nat}{l:List Nat}{q:Nat}(h:st[g]?=some (.dK (kL l))):rR st (.int q) (.ref g)=some (decide (q∈l)):=by
 unfold rR mU jg;simp only[h,jZ,map_some];congr 1;unfold mK kL;rw[Option.isSome_map,List.find?_map,Option.isSome_map,Bool.eq_iff_iff,List.isSome_find?,List.any_eq_true];simp[Int.ofNat_inj]
end
noncomputable def kI(rows:List AV)(i:Nat):AV:=rows.getD i .non
section
variable{st:aa}{k a b c g n u w m:Nat}{rows:List AV}{S:Sh}{i j:Nat}
theorem Rep.ins(R:Rep st k a b c g n u rows S):jv st "Sheet" (.ref k)=some (cV S.d a b c g n u):=by
 unfold jv;simp only[R.hk];rfl
theorem Rep.rx(R:Rep st k a b c g n u rows S)(P:SX.NP w m S)(hi:i<m):rows[i]?=some (kI rows i):=by
 have:i<rows.length:=by rw[R.len,P.ls];exact hi
 unfold kI;rw[zD,zF this];rfl
theorem Rep.line(R:Rep st k a b c g n u rows S)(P:SX.NP w m S)(hi:i<m):aZ st (.ref a) (.int (i:Int))=some (kI rows i):=by
 rw[cB (bB R.ha),cb];exact R.rx P hi
theorem Rep.rowl(R:Rep st k a b c g n u rows S)(P:SX.NP w m S)(hi:i<m):bL st (kI rows i)=some (iL (SX.row S i)):=(R.row i _ (R.rx P hi)).ls
theorem Rep.cell(R:Rep st k a b c g n u rows S)(P:SX.NP w m S)(hi:i<m)(hj:j<w+1):aZ st (kI rows i) (.int (j:Int))=some (.int (S.t i j)):=by
 rw[cB (R.rowl P hi),cb,bY (by rw[P.rl hi];exact hj)];rfl
theorem Rep.last(R:Rep st k a b c g n u rows S)(P:SX.NP w m S)(hi:i<m):aZ st (kI rows i) (.int (-1))=some (.int (S.t i w)):=by
 rw[cB (R.rowl P hi),ph (n:=w) (by unfold iL;rw[zH];exact P.rl hi),bY (by rw[P.rl hi];lia)];rfl
theorem Rep.side(R:Rep st k a b c g n u rows S)(P:SX.NP w m S)(hi:i<m):aZ st (.ref c) (.int (i:Int))=some (.int (S.s i:Int)):=by
 rw[cB (bB R.hc),cb,iA (by rw[P.sd];exact hi)];rfl
theorem Rep.head(R:Rep st k a b c g n u rows S)(P:SX.NP w m S)(hj:j<w):aZ st (.ref b) (.int (j:Int))=some (.int (S.h j:Int)):=by
 rw[cB (bB R.hb),cb,iA (by rw[P.hd];exact hj)];rfl
theorem Rep.ing(R:Rep st k a b c g n u rows S){q:Nat}:b9 .In st (.int q) (.ref g)=some (decide (q∈S.gd)):=t9 R.hg
theorem Rep.nin(R:Rep st k a b c g n u rows S){q:Nat}:b9 .NotIn st (.int q) (.ref n)=some (!decide (q∈S.nl)):=by show(rR st _ _).map _=_;rw[t9 R.hn];rfl
end
theorem gx{α:Type}{em:α->AV}{B:α->Bool}{F:α->AV}(hg:cg gd st=true):∀{xs:List α},(∀x∈xs,∃sl1,g (em x) sl st=some (sl1,st)/\t sl1 st=some (B x,st)/\(B x=true->f sl1 st=some (F x,st)))->gM gd g t f sl (xs.map em) st=some ((xs.filter B).map F,st)
 |[],_=>by show(if cg gd st=true then _ else _)=_;rw[yH hg];rfl
 |x::xs,h=>by
  obtain⟨sl1,h1,h2,h3⟩:=h x z7;have ih:=gx hg (xs:=xs) fun y hy=>h y (zQ _ hy)
  show(if cg gd st=true then(g (em x) sl st).bind _ else none)=_;rw[yH hg,h1,bind_some];dsimp only;rw[h2,bind_some];cases hB:B x with
  |true=>rw[yH rfl];dsimp only;rw[h3 hB,bind_some];dsimp only;rw[ih,List.filter_cons,hB];rfl
  |false=>rw[yG (by simp)];dsimp only;rw[ih,List.filter_cons,hB];rfl
theorem fH:∀{xs:List AV},(∀x∈xs,rf x=true)->rfs xs=true
 |[],_=>rfl
 |x::xs,h=>by simp only[rfs,zC];exact⟨h x z7,fH fun y hy=>h y (zQ _ hy)⟩
theorem ze:rfs (iL l)=true:=fH fun x hx=>by obtain⟨i,_,rfl⟩:=yC.mp hx;rfl
theorem jV:rfs (nL l)=true:=fH fun x hx=>by obtain⟨i,_,rfl⟩:=yC.mp hx;rfl
mutual
theorem xP:∀(x:AV),cU x x=true
 |.non=>rfl
 |.bl _=>by simp[cU]
 |.int _=>by simp[cU]
 |.str _=>by simp[cU]
 |.ref _=>by simp[cU]
 |.tup a=>by simp only[cU];exact jj a
 |.fz a=>by simp only[cU];exact jj a
theorem jj:∀(xs:List AV),f7 xs xs=true
 |[]=>rfl
 |x::xs=>by simp only[f7,xP x,jj xs,Bool.and_self]
end
theorem gy{k:Nat}(h:st[k]?=some (.lst xs)):cg [(k,.lst xs)] st=true:=by
 simp only[cg,h,vQ,jj,Bool.and_self]
theorem IZ:eN 0 (nL l)=l.zipIdx.map fun z=>.tup [.int ((z.2:Nat):Int),.int ((z.1:Nat):Int)]:=by
 unfold eN nL;rw[List.zipIdx_map,List.map_map];rfl
@[simp] theorem LK:iU st (.tup xs)=some xs:=rfl
@[simp] theorem L0:nO st (.fz xs)=some ⟨xs,[]⟩:=rfl
@[simp] theorem Gc:iH st (.fz xs)=some ⟨xs,[]⟩:=rfl
@[simp] theorem eJ:bL st (.fz xs)=some xs:=rfl
theorem jH{k:Nat}(h:st[k]?=some (.lst xs)):iH st (.ref k)=some ⟨xs,[(k,.lst xs)]⟩:=by
 unfold iH dr;simp only[h]
theorem oY{k:Nat}(h:st[k]?=some (.lst xs)):nO st (.ref k)=some ⟨xs,[(k,.lst xs)]⟩:=by
 have:iU st (.ref k)=none:=by unfold iU dr;simp only[h]
 unfold nO;dsimp only;rw[this];exact jH h
@[simp] theorem fN:cg [] st=true:=rfl
theorem t8:gG (nL l)=some (l.map fun q=>((q:Nat):Int)):=by
 unfold gG nL;exact c6 (f:=fun x=>match x with|.int i=>some i|_=>none) (i:=fun q:Nat=>AV.int q) (g:=fun q=>((q:Nat):Int)) (fun _=>rfl) l
noncomputable def oN:Option Nat->AV
 |none=>.non
 |some c=>.int (c:Int)
noncomputable def bT(S:Sh):List Nat:=(S.hd.zipIdx.filter fun z=>!decide (z.1∈S.nl)).map (·.2)
theorem iY{w m:Nat}(P:SX.NP w m S){j:Nat}:j∈bT S ↔ j<w/\S.h j∉S.nl:=by
 unfold bT;simp only[yC,List.mem_filter,Prod.exists];constructor
 ·rintro⟨q,i,⟨h1,h2⟩,rfl⟩
  have h3:=List.mem_zipIdx' h1;have hi:i<S.hd.length:=h3.1;refine⟨by rw[<- P.hd];exact hi,?_⟩;have:S.h i=q:=by
   show S.hd.getD i 0=q;rw[zD,zF hi,h3.2];rfl
  rw[this];simpa using h2
 ·rintro⟨h1,h2⟩
  have hi:j<S.hd.length:=by rw[P.hd];exact h1
  refine⟨S.h j,j,⟨?_,by simpa using h2⟩,rfl⟩;have e:S.h j=S.hd[j]:=by
   show S.hd.getD j 0=_;rw[zD,zF hi];rfl
  rw[e,List.mem_zipIdx_iff_getElem?];exact zF hi
theorem bW{n:Nat}(h:n<=1000):cK n=true:=yK oM
theorem GW{key:Nat->Nat}:∃o:Option Nat,pj ((l.map fun q=>((q:Nat):Int)).zip (l.map fun q=>((key q:Nat):Int)))=oN o/\(o=none->l=[])/\∀c,o=some c->c∈l/\∀j∈l,key c<=key j:=by
 cases l with
 |nil=>exact⟨none,rfl,fun _=>rfl,fun c h=>nomatch h⟩
 |cons x l =>
  have hz:((x::l).map fun q=>((q:Nat):Int)).zip ((x::l).map fun q=>((key q:Nat):Int))=(x::l).map fun q=>(((q:Nat):Int),((key q:Nat):Int)):=by
   generalize x::l=ys
   induction ys with
   |nil=>rfl
   |cons y ys ih=>simp only[zO,List.zip_cons_cons,ih]
  rw[hz];obtain⟨i,κ,h1,h2⟩:=lS (l.map fun q=>(((q:Nat):Int),((key q:Nat):Int))) (x:Int) (key x:Int);rw[<- zO (f:=fun q:Nat=>(((q:Nat):Int),((key q:Nat):Int)))]at h1 h2;rw[zR]at h1;obtain⟨c,hc,e⟩:=zE.mp h1;injection e with e1 e2;refine⟨some c,?_,(fun h=>nomatch h),fun c' h=>?_⟩
  ·show AV.int _=AV.int _
   rw[e1]
  ·cases h
   refine⟨zW hc,fun j hj=>?_⟩;obtain⟨t,ht⟩:=z8 hj
   have:=(h2 t ((j:Int),(key j:Int)) (by rw[zR,ht];rfl)).1
   rw[<- e2]at this;have:((key c:Nat):Int)<=((key j:Nat):Int):=this;lia
theorem F0{l:List Nat}{key:EF}{sl:Sl}{st:aa}{f:Nat->Nat}(h:∀q∈l,key (sl++[Is ((q:Nat):Int)]) st=some (.int ((f q:Nat):Int),st)):aP (xg key sl st) (l.map fun q=>((q:Nat):Int))=some (l.map fun q=>((f q:Nat):Int)):=by
 induction l with
 |nil=>rfl
 |cons x l ih =>
  have h1:xg key sl st (x:Int)=some ((f x:Nat):Int):=by unfold xg;rw[h x z7]
  simp only[zO,aP,h1,ih fun q hq=>h q (zQ _ hq),bind_some,map_some]
def fk(gd:Gd)(g:GF)(s:SF)(xs:List AV):Out->Option Out
 |.nx sl st=>dq gd g s xs sl st
 |.ct sl st=>dq gd g s xs sl st
 |.bk sl st=>some (.nx sl st)
 |.rt v st=>some (.rt v st)
theorem xB(hg:cg gd st=true)(h1:g x sl st=some p)(h2:s p.1 p.2=some o):dq gd g s (x::xs) sl st=fk gd g s xs o:=by
 show(if cg gd st=true then(g x sl st).bind _ else none)=_;rw[yH hg,h1,bind_some,h2,bind_some];cases o<;>rfl
theorem lK{gd:Gd}{g:GF}{s:SF}{I:Nat->Sl->aa->Prop}{Post:AV->aa->Prop}{xs:List AV}(hg:∀i sl st,i<=xs.length->I i sl st->cg gd st=true)
  (h:∀i x sl st,xs[i]?=some x->I i sl st->∃p o,g x sl st=some p/\s p.1 p.2=some o/\((∃sl2 st2,o=.nx sl2 st2/\I (i+1) sl2 st2)\/∃v st2,o=.rt v st2/\Post v st2)) :
  ∀{sl:Sl}{st:aa},I 0 sl st->(∃sl' st',dq gd g s xs sl st=some (.nx sl' st')/\I xs.length sl' st')\/∃v st',dq gd g s xs sl st=some (.rt v st')/\Post v st':=by
 have go:∀(r:Nat)(j:Nat){sl:Sl}{st:aa},j+r=xs.length->I j sl st->(∃sl' st',dq gd g s (xs.drop j) sl st=some (.nx sl' st')/\I xs.length sl' st')\/∃v st',dq gd g s (xs.drop j) sl st=some (.rt v st')/\Post v st':=fun r=>by
  induction r with
  |zero =>
   intro j sl st hj hI;left;rw[List.drop_of_length_le oM];refine⟨sl,st,?_,by rw[show xs.length=j by lia];exact hI⟩;show(if cg gd st=true then _ else _)=_;rw[yH (hg j sl st oM hI)]
  |succ r ih =>
   intro j sl st hj hI;have hl:j<xs.length:=by lia
   obtain⟨p,o,h1,h2,h3⟩:=h j xs[j] sl st (zF hl) hI;rw[List.drop_eq_getElem_cons hl];have e:=xB (xs:=xs.drop (j+1)) (hg j sl st oM hI) h1 h2;rw[e];rcases h3 with⟨sl2,st2,rfl,h3⟩|⟨v,st2,rfl,h3⟩
   ·exact ih (j+1) oM h3
   ·exact .inr ⟨v,st2,rfl,h3⟩
 intro sl st h0
 have:=go xs.length 0 oM h0
 rw[List.drop_zero]at this;exact this
theorem eK{gd:Gd}{g:GF}{s:SF}{I:Nat->Sl->aa->Prop}{xs:List AV}(hg:∀i sl st,i<=xs.length->I i sl st->cg gd st=true)
  (h:∀i x sl st,xs[i]?=some x->I i sl st->∃p sl2 st2,g x sl st=some p/\s p.1 p.2=some (.nx sl2 st2)/\I (i+1) sl2 st2) {sl:Sl}{st:aa} (h0:I 0 sl st):∃sl' st',dq gd g s xs sl st=some (.nx sl' st')/\I xs.length sl' st':=by
 rcases lK (Post:=fun _ _=>False) hg (fun i x sl st hx hI=>by
  obtain⟨p,sl2,st2,a,b,c⟩:=h i x sl st hx hI;exact⟨p,_,a,b,.inl ⟨sl2,st2,rfl,c⟩⟩) h0 with h|⟨_,_,_,h⟩
 ·exact h
 ·exact h.elim
theorem oi{i:Nat}(h:(eN 0 xs)[i]?=some y):∃x,xs[i]?=some x/\y=.tup [.int ((i:Nat):Int),x]:=by
 unfold eN at h;rw[zR]at h;obtain⟨z,h1,rfl⟩:=zE.mp h;rw[List.getElem?_zipIdx]at h1;obtain⟨x,h2,rfl⟩:=zE.mp h1;exact⟨x,h2,by simp⟩
theorem lN:(eN 0 xs).length=xs.length:=by unfold eN;simp
section
variable{st:aa}{k a b c g n u w m:Nat}{rows:List AV}{S:Sh}{i j q:Nat}{x:AV}{l:List Int}{e e':NG}
theorem aq(h:q≠j):(st.set q e')[j]?=st[j]?:=by rw[yW];simp[h]
theorem fY(h:st[q]?=some e):(st.set q e')[q]?=some e':=by
 rw[yW];simp[(zB.mp h).1]
theorem ga(h:st[j]?=some e):(st++ys)[j]?=some e:=by
 rw[zN (zB.mp h).1];exact h
theorem gl:(st++[e])[st.length]?=some e:=by simp
theorem bA(h1:st[i]?=some e)(h2:st[j]?=some e')(h:e≠e'):i≠j:=fun z=>h (by rw[z,h2]at h1;injection h1 with h1;exact h1.symm)
theorem RowR.set(h:RowR st x l)(hq:∀r,x=.ref r->q≠r):RowR (st.set q e') x l:=by
 rcases h with h|⟨r,h1,h2⟩
 ·exact .inl h
 ·exact .inr ⟨r,h1,by rw[aq (hq r h1)];exact h2⟩
theorem RowR.app(h:RowR st x l):RowR (st++ys) x l:=by
 rcases h with h|⟨r,h1,h2|h2⟩
 ·exact .inl h
 ·exact .inr ⟨r,h1,.inl (ga h2)⟩
 ·exact .inr ⟨r,h1,.inr (ga h2)⟩
theorem Rep.app(R:Rep st k a b c g n u rows S):Rep (st++ys) k a b c g n u rows S :=
 ⟨ga R.hk,ga R.ha,ga R.hb,ga R.hc,ga R.hg,ga R.hn,ga R.hu,R.len,fun i x h=>(R.row i x h).app,R.ab,R.ac,R.bc,R.gn,R.gu,R.nu,R.ra⟩
theorem Rep.rowk(R:Rep st k a b c g n u rows S){r:Nat}(h:rows[i]?=some (.ref r)):r≠k/\r≠g/\r≠n/\r≠u:=by
 have hr:=R.row i _ h;rcases hr with h|⟨r',h1,h2⟩
 ·cases h
 ·cases h1
  rcases h2 with h2|h2
  ·exact⟨bA h2 R.hk (fun z=>nomatch z),bA h2 R.hg (fun z=>nomatch z),bA h2 R.hn (fun z=>nomatch z),bA h2 R.hu (fun z=>nomatch z)⟩
  ·exact⟨bA h2 R.hk (fun z=>nomatch z),bA h2 R.hg (fun z=>nomatch z),bA h2 R.hn (fun z=>nomatch z),bA h2 R.hu (fun z=>nomatch z)⟩
theorem Rep.fields{a':Nat}(R:Rep st k a b c g n u rows S)(ha:st[a']?=some (.lst rows'))(hb:S'.hd=S.hd)(hc:S'.sd=S.sd)(hg:S'.gd=S.gd)(hn:S'.nl=S.nl)(hu:S'.tn=S.tn)(len:rows'.length=S'.ls.length)
  (row:∀i x,rows'[i]?=some x->RowR st x (SX.row S' i)) (ab:a'≠b) (ac:a'≠c) (ra:∀(i r:Nat),rows'[i]?=some (.ref r)->r≠a'/\r≠b/\r≠c):Rep (st.set k (.ins "Sheet" (cV S'.d a' b c g n u))) k a' b c g n u rows' S':=by
 have na:k≠a':=bA R.hk ha (fun z=>nomatch z);refine⟨fY R.hk,by rw[aq na];exact ha,?_,?_,?_,?_,?_,len,fun i x h=>(row i x h).set fun r e=>?_,ab,ac,R.bc,R.gn,R.gu,R.nu,ra⟩
 ·rw[aq (bA R.hk R.hb (fun z=>nomatch z)),hb];exact R.hb
 ·rw[aq (bA R.hk R.hc (fun z=>nomatch z)),hc];exact R.hc
 ·rw[aq (bA R.hk R.hg (fun z=>nomatch z)),hg];exact R.hg
 ·rw[aq (bA R.hk R.hn (fun z=>nomatch z)),hn];exact R.hn
 ·rw[aq (bA R.hk R.hu (fun z=>nomatch z)),hu];exact R.hu
 ·subst e
  rcases row i _ h with z|⟨r',h1,h2⟩
  ·cases z
  ·cases h1
   rcases h2 with h2|h2
   ·exact bA R.hk h2 (fun z=>nomatch z)
   ·exact bA R.hk h2 (fun z=>nomatch z)
theorem Rep.heads(R:Rep st k a b c g n u rows S):Rep (st.set b (.lst (nL hd'))) k a b c g n u rows { S with hd:=hd' } :=
 ⟨by rw[aq (bA R.hb R.hk (fun z=>nomatch z))];exact R.hk,by rw[aq (Ne.symm R.ab)];exact R.ha,fY R.hb,by rw[aq R.bc];exact R.hc,by rw[aq (bA R.hb R.hg (fun z=>nomatch z))];exact R.hg,by rw[aq (bA R.hb R.hn (fun z=>nomatch z))];exact R.hn,
  by rw[aq (bA R.hb R.hu (fun z=>nomatch z))];exact R.hu,R.len,fun i x h=>(R.row i x h).set fun r e=>Ne.symm (R.ra i r (by rw[<- e];exact h)).2.1,R.ab,R.ac,R.bc,R.gn,R.gu,R.nu,R.ra⟩
theorem Rep.sides(R:Rep st k a b c g n u rows S):Rep (st.set c (.lst (nL sd'))) k a b c g n u rows { S with sd:=sd' } :=
 ⟨by rw[aq (bA R.hc R.hk (fun z=>nomatch z))];exact R.hk,by rw[aq (Ne.symm R.ac)];exact R.ha,by rw[aq (Ne.symm R.bc)];exact R.hb,fY R.hc,by rw[aq (bA R.hc R.hg (fun z=>nomatch z))];exact R.hg,by rw[aq (bA R.hc R.hn (fun z=>nomatch z))];exact R.hn,
  by rw[aq (bA R.hc R.hu (fun z=>nomatch z))];exact R.hu,R.len,fun i x h=>(R.row i x h).set fun r e=>Ne.symm (R.ra i r (by rw[<- e];exact h)).2.2,R.ab,R.ac,R.bc,R.gn,R.gu,R.nu,R.ra⟩
theorem Rep.guard(R:Rep st k a b c g n u rows S):Rep (st.set g (.dK (kL gd'))) k a b c g n u rows { S with gd:=gd' } :=
 ⟨by rw[aq (bA R.hg R.hk (fun z=>nomatch z))];exact R.hk,by rw[aq (bA R.hg R.ha (fun z=>nomatch z))];exact R.ha,by rw[aq (bA R.hg R.hb (fun z=>nomatch z))];exact R.hb,by rw[aq (bA R.hg R.hc (fun z=>nomatch z))];exact R.hc,fY R.hg,by rw[aq R.gn];exact R.hn,by rw[aq R.gu];exact R.hu,
  R.len,fun i x h=>(R.row i x h).set fun r e=>Ne.symm (R.rowk (i:=i) (by rw[<- e];exact h)).2.1,R.ab,R.ac,R.bc,R.gn,R.gu,R.nu,R.ra⟩
theorem Rep.nail(R:Rep st k a b c g n u rows S):Rep (st.set n (.dK (kL nl'))) k a b c g n u rows { S with nl:=nl' } :=
 ⟨by rw[aq (bA R.hn R.hk (fun z=>nomatch z))];exact R.hk,by rw[aq (bA R.hn R.ha (fun z=>nomatch z))];exact R.ha,by rw[aq (bA R.hn R.hb (fun z=>nomatch z))];exact R.hb,by rw[aq (bA R.hn R.hc (fun z=>nomatch z))];exact R.hc,by rw[aq (Ne.symm R.gn)];exact R.hg,fY R.hn,by rw[aq R.nu];exact R.hu,
  R.len,fun i x h=>(R.row i x h).set fun r e=>Ne.symm (R.rowk (i:=i) (by rw[<- e];exact h)).2.2.1,R.ab,R.ac,R.bc,R.gn,R.gu,R.nu,R.ra⟩
theorem Rep.turned(R:Rep st k a b c g n u rows S):Rep (st.set u (.dK (kL tn'))) k a b c g n u rows { S with tn:=tn' } :=
 ⟨by rw[aq (bA R.hu R.hk (fun z=>nomatch z))];exact R.hk,by rw[aq (bA R.hu R.ha (fun z=>nomatch z))];exact R.ha,by rw[aq (bA R.hu R.hb (fun z=>nomatch z))];exact R.hb,by rw[aq (bA R.hu R.hc (fun z=>nomatch z))];exact R.hc,by rw[aq (Ne.symm R.gu)];exact R.hg,by rw[aq (Ne.symm R.nu)];exact R.hn,fY R.hu,
  R.len,fun i x h=>(R.row i x h).set fun r e=>Ne.symm (R.rowk (i:=i) (by rw[<- e];exact h)).2.2.2,R.ab,R.ac,R.bc,R.gn,R.gu,R.nu,R.ra⟩
theorem tQ{p i:Nat}:SX.row { S with ls:=S.ls.set p l } i=if i=p/\p<S.ls.length then l else SX.row S i:=by
 unfold SX.row;simp only[zD,yW];by_cases h:i=p
 ·subst h
  by_cases h2:i<S.ls.length
  ·simp[h2]
  ·simp[h2]
 ·rw[yG fun z=>h z.symm,yG fun z=>h z.1]
theorem Rep.rowset{p:Nat}(R:Rep st k a b c g n u rows S)(hx:RowR st x l)(hr:∀r,x=.ref r->r≠a/\r≠b/\r≠c):Rep (st.set a (.lst (rows.set p x))) k a b c g n u (rows.set p x) { S with ls:=S.ls.set p l }:=by
 have hs:∀i y,(rows.set p x)[i]?=some y->(i=p/\p<rows.length/\y=x)\/(i≠p/\rows[i]?=some y):=fun i y h=>by
  rw[yW]at h;by_cases e:p=i
  ·rw[yH e]at h
   split at h
   ·cases h;exact .inl ⟨e.symm,by assumption,rfl⟩
   ·cases h
  ·rw[yG e]at h;exact .inr ⟨fun z=>e z.symm,h⟩
 refine⟨by rw[aq (bA R.ha R.hk (fun z=>nomatch z))];exact R.hk,fY R.ha,by rw[aq R.ab];exact R.hb,by rw[aq R.ac];exact R.hc,by rw[aq (bA R.ha R.hg (fun z=>nomatch z))];exact R.hg,by rw[aq (bA R.ha R.hn (fun z=>nomatch z))];exact R.hn,
  by rw[aq (bA R.ha R.hu (fun z=>nomatch z))];exact R.hu,by simp[R.len],fun i y h=>?_,R.ab,R.ac,R.bc,R.gn,R.gu,R.nu,fun i r h=>?_⟩
 ·rw[tQ]
  rcases hs i y h with⟨h1,h2,rfl⟩|⟨h1,h2⟩
  ·rw[yH ⟨h1,by rw[<- R.len];exact h2⟩];exact hx.set fun r e=>Ne.symm (hr r e).1
  ·rw[yG fun z=>h1 z.1];exact(R.row i y h2).set fun r e=>Ne.symm (R.ra i r (by rw[<- e];exact h2)).1
 ·rcases hs i _ h with⟨h1,h2,h3⟩|⟨h1,h2⟩
  ·exact hr r h3.symm
  ·exact R.ra i r h2
theorem Rep.cellset{p r:Nat}(R:Rep st k a b c g n u rows S)(hp:rows[p]?=some (.ref r))(ho:∀i,i≠p->rows[i]?≠some (.ref r)):Rep (st.set r (.lst (iL l))) k a b c g n u rows { S with ls:=S.ls.set p l }:=by
 obtain⟨n1,n2,n3⟩:=R.ra p r hp;obtain⟨n4,n5,n6,n7⟩:=R.rowk hp;have hlt:p<S.ls.length:=by rw[<- R.len];exact(zB.mp hp).1
 refine⟨by rw[aq n4];exact R.hk,by rw[aq n1];exact R.ha,by rw[aq n2];exact R.hb,by rw[aq n3];exact R.hc,by rw[aq n5];exact R.hg,by rw[aq n6];exact R.hn,by rw[aq n7];exact R.hu,by simp[R.len],fun i y h=>?_,R.ab,R.ac,R.bc,R.gn,R.gu,R.nu,R.ra⟩;rw[tQ];by_cases e:i=p
 ·subst e
  rw[yH ⟨rfl,hlt⟩];rw[hp]at h;cases h;rcases R.row i _ hp with z|⟨r',h1,h2⟩
  ·cases z
  ·cases h1
   rcases h2 with h2|h2
   ·exact .inr ⟨r,rfl,.inl (fY h2)⟩
   ·exact .inr ⟨r,rfl,.inl (fY h2)⟩
 ·rw[yG fun z=>e z.1]
  exact(R.row i y h).set fun r' e' z=>ho i e (by rw[z,<- e'];exact h)
theorem Rep.freeze{r:Nat}(R:Rep st k a b c g n u rows S)(hp:rows[i]?=some (.ref r))(hr:st[r]?=some (.lst (iL l))):Rep (st.set r (.al (.fz (iL l)))) k a b c g n u rows S:=by
 obtain⟨n1,n2,n3⟩:=R.ra i r hp;obtain⟨n4,n5,n6,n7⟩:=R.rowk hp;refine⟨by rw[aq n4];exact R.hk,by rw[aq n1];exact R.ha,by rw[aq n2];exact R.hb,by rw[aq n3];exact R.hc,by rw[aq n5];exact R.hg,by rw[aq n6];exact R.hn,by rw[aq n7];exact R.hu,R.len,fun j y h=>?_,R.ab,R.ac,R.bc,R.gn,R.gu,R.nu,R.ra⟩;rcases R.row j y h with z|⟨r',h1,h2⟩
 ·exact .inl z
 ·by_cases e:r=r'
  ·subst e
   refine .inr ⟨r,h1,.inr ?_⟩;rw[fY hr];rcases h2 with h2|h2
   ·rw[hr]at h2;injection h2 with h2;injection h2 with h2;rw[h2]
   ·rw[hr]at h2;cases h2
  ·exact .inr ⟨r',h1,by rw[aq e];exact h2⟩
theorem RowR.it(h:RowR st x l):∃gd,nO st x=some ⟨iL l,gd⟩/\cg gd st=true:=by
 rcases h with rfl|⟨r,rfl,h|h⟩
 ·exact⟨[],rfl,rfl⟩
 ·exact⟨_,oY h,gy h⟩
 ·refine⟨[],?_,rfl⟩
  have:iU st (.ref r)=none:=by unfold iU dr;simp only[h]
  unfold nO;dsimp only;rw[this];unfold iH dr;simp only[h]
end
theorem xb{gd:Gd}{g:GF}{t:TF}{f:EF}{sl:Sl}{J:Nat->aa->Prop}{F:Nat->AV}{xs:List AV}(hg:∀i st,i<=xs.length->J i st->cg gd st=true)
  (h:∀i x st,xs[i]?=some x->J i st->∃sl1 st1,g x sl st=some (sl1,st)/\t sl1 st=some (true,st)/\f sl1 st=some (F i,st1)/\J (i+1) st1) {st:aa} (h0:J 0 st):∃st',gM gd g t f sl xs st=some ((List.range xs.length).map F,st')/\J xs.length st':=by
 have go:∀(r j:Nat){st:aa},j+r=xs.length->J j st->∃st',gM gd g t f sl (xs.drop j) st=some ((List.range' j r).map F,st')/\J xs.length st':=fun r=>by
  induction r with
  |zero =>
   intro j st hj hJ;rw[List.drop_of_length_le oM];refine⟨st,?_,by rw[show xs.length=j by lia];exact hJ⟩;show(if cg gd st=true then _ else _)=_;rw[yH (hg j st oM hJ)];rfl
  |succ r ih =>
   intro j st hj hJ;have hl:j<xs.length:=by lia
   obtain⟨sl1,st1,h1,h2,h3,h4⟩:=h j xs[j] st (zF hl) hJ;obtain⟨st',e,hJ'⟩:=ih (j+1) oM h4;refine⟨st',?_,hJ'⟩;rw[List.drop_eq_getElem_cons hl];show(if cg gd st=true then(g xs[j] sl st).bind _ else none)=_;rw[yH (hg j st oM hJ),h1,bind_some];dsimp only;rw[h2,bind_some,yH rfl];dsimp only;rw[h3,bind_some];dsimp only;rw[e];rfl
 obtain⟨st',e,hJ⟩:=go xs.length 0 oM h0;rw[List.drop_zero]at e;rw[<- List.range_eq_range']at e;exact⟨st',e,hJ⟩
@[simp] theorem gN:(iL l).length=l.length:=by unfold iL;simp
@[simp] theorem kN:(nL l).length=l.length:=by unfold nL;simp
@[simp] theorem dh:rfs (iL l)=true:=ze
@[simp] theorem Bo:rfs (nL l)=true:=jV
theorem eZ{q:Nat}{x:Int}:(iL l).set q (.int x)=iL (l.set q x):=by unfold iL;rw[List.map_set]
theorem wV{q x:Nat}:(nL l).set q (.int (x:Int))=nL (l.set q x):=by unfold nL;rw[List.map_set]
theorem xc{α:Type}{em:α->AV}{F:α->Int}{xs:List α}(hg:cg gd st=true)(h:∀x∈xs,∃sl1,g (em x) sl st=some (sl1,st)/\t sl1 st=some (true,st)/\f sl1 st=some (.int (F x),st)):gM gd g t f sl (xs.map em) st=some (iL (xs.map F),st):=by
 rw[gx (B:=fun _=>true) (F:=fun x=>.int (F x)) hg fun x hx=>by obtain⟨s,a,b,c⟩:=h x hx;exact⟨s,a,b,fun _=>c⟩];unfold iL;rw[List.map_map,List.filter_eq_self.mpr fun _ _=>rfl];rfl
theorem jY(hg:cg gd st=true)(h:∀x∈l,∃sl1,g (.int x) sl st=some (sl1,st)/\t sl1 st=some (true,st)/\f sl1 st=some (.int (F x),st)):gM gd g t f sl (iL l) st=some (iL (l.map F),st):=xc hg h
theorem dg{k q:Nat}(h:st[k]?=some (.lst xs))(hq:q<xs.length):g6 st (.ref k) (.int (q:Int)) x=some (st.set k (.lst (xs.set q x))):=by
 unfold g6;simp only[h];have:km xs.length (q:Int)=some q:=by unfold km;rw[yH oM,yH oM];simp
 rw[this];rfl
theorem oX{k q:Nat}(h:st[k]?=some (.dK (kL l)))(hl:l.length<=1000):g6 st (.ref k) (.int (q:Int)) (.bl true)=some (st.set k (.dK (kL (if q∈l then l else l++[q])))):=by
 unfold g6;simp only[h,jZ,bind_some];rw[yH (bW (by unfold kL;rw[zH];exact hl))];congr 2;unfold mN kL;by_cases hq:q∈l
 ·rw[yH hq,yH (by simp only[List.any_map,List.any_eq_true];exact⟨q,hq,by simp⟩),List.map_map]
  congr 1;refine List.map_congr_left fun x hx=>?_
  show(if _ then _ else _)=_;split
  ·rfl
  ·rfl
 ·rw[yG hq,yG (by
   simp only[List.any_map,List.any_eq_true,Function.comp];rintro⟨x,hx,e⟩;have:x=q:=by have:((x:Nat):Int)=((q:Nat):Int):=(by simpa using e);lia
   exact hq (this▸hx)),List.map_append]
  rfl
theorem ai(h:ci ks s sl st=some (.nx sl' st'))(h2:(af ks ss sl' st').bind ay=r):(af ks (.cons s ss) sl st).bind ay=r:=by
 rw[kC,h,bind_some,wT];exact h2
theorem ar(h:ci ks s sl st=some (.nx sl' st'))(h2:af ks ss sl' st'=r):af ks (.cons s ss) sl st=r:=by
 rw[kC,h,bind_some,wT];exact h2
theorem cL(h:ci ks s sl st=some (.rt v st')):(af ks (.cons s ss) sl st).bind ay=some (v,st'):=by
 rw[kC,h,bind_some,wS];rfl
theorem bO(h:rfs args=true)(h1:fn args []=some (v,st'))(h2:cQ st' v=some t):pm fn args st=some (t,st):=by
 unfold pm;rw[yH h,h1,bind_some];dsimp only;rw[h2];rfl
section
variable{d:Int}{a b c g n u:Nat}
theorem zw{d':Int}:iX "below" (.int d') (cV d a b c g n u)=cV d' a b c g n u:=rfl
theorem zv{a':Nat}:iX "lines" (.ref a') (cV d a b c g n u)=cV d a' b c g n u:=rfl
theorem im{k:Nat}(h1:ev ks e sl st=some (v,st'))(h2:ev ks o sl st'=some (.ref k,st'))(h3:jv st' cn (.ref k)=some fs)(h4:Nat.ble fs.length 900=true):ci ks (.fl cn f o e) sl st=some (.nx sl (st'.set k (.ins cn (iX f v fs)))):=by
 show wx cn f (ev ks o) (ev ks e) sl st=_;unfold wx;rw[h1,bind_some];dsimp only;rw[h2,bind_some];dsimp only;rw[h3,bind_some,yH h4]
end
theorem tF{α:Type}{t:TF}{s:SF}{I:α->Sl->aa->Prop}{Q:α->α->Prop}{Post:Out->Prop}{a0:α}(hno:∀f:Nat->α,f 0=a0->(∀n,Q (f n) (f (n+1)))->False)
  (h:∀x sl st,I x sl st->(∃o,db t s 1 sl st=some o/\Post o)\/∃x' sl' st',Q x x'/\I x' sl' st'/\∀n o,db t s n sl' st'=some o->db t s (n+1) sl st=some o) {sl:Sl}{st:aa} (h0:I a0 sl st):∃o,lZ t s sl st=some o/\Post o:=by
 apply Classical.byContradiction;intro hc
 let Bad:α×Sl×aa->Prop:=fun z=>I z.1 z.2.1 z.2.2/\¬∃n o,db t s n z.2.1 z.2.2=some o/\Post o
 have hb0:Bad (a0,sl,st):=⟨h0,fun⟨n,o,h1,h2⟩=>hc ⟨o,m9 h1,h2⟩⟩;have nx:∀z:{ z // Bad z },∃z':{ z // Bad z },Q z.1.1 z'.1.1:=fun hq0=>by
  obtain⟨z,hz⟩:=hq0;rcases h z.1 z.2.1 z.2.2 hz.1 with⟨o,h1,h2⟩|⟨x',sl',st',h1,h2,h3⟩
  ·exact absurd ⟨1,o,h1,h2⟩ hz.2
  ·exact⟨⟨(x',sl',st'),h2,fun⟨n,o,h4,h5⟩=>hz.2 ⟨n+1,o,h3 n o h4,h5⟩⟩,h1⟩
 let f:Nat->{ z // Bad z }:=fun n=>Nat.rec ⟨_,hb0⟩ (fun _ z=>Classical.choose (nx z)) n
 exact hno (fun n=>(f n).1.1) rfl fun n=>Classical.choose_spec (nx (f n))
theorem lm(h:t sl st=some (false,st')):db t s 1 sl st=some (.nx sl st'):=by
 show(t sl st).bind _=_;rw[h,bind_some,yG (by simp)]
theorem qx(h:t sl st=some (true,st'))(h2:s sl st'=some (.rt v st2)):db t s 1 sl st=some (.rt v st2):=by
 show(t sl st).bind _=_;rw[h,bind_some,yH rfl];dsimp only;rw[h2];rfl
theorem oJ{n:Nat}(h:t sl st=some (true,st'))(h2:s sl st'=some (.nx sl2 st2))(h3:db t s n sl2 st2=some o):db t s (n+1) sl st=some o:=by
 show(t sl st).bind _=_;rw[h,bind_some,yH rfl];dsimp only;rw[h2];exact h3
theorem fR(h:ci ks s sl st=some (.rt v st')):af ks (.cons s ss) sl st=some (.rt v st'):=by
 rw[kC,h,bind_some,wS]
theorem EB{ks:List Fn}{T:Tx}{B rest:NQ}{sl:Sl}{st:aa}{Post:Out->Prop}{Q:AV×aa->Prop}(h:∃o,lZ (tv ks T) (af ks B) sl st=some o/\Post o)(h2:∀o,Post o->∃r,(l7 o (af ks rest)).bind ay=some r/\Q r):∃r,(af ks (.cons (.wh T B) rest) sl st).bind ay=some r/\Q r:=by
 obtain⟨o,e,hp⟩:=h;obtain⟨r,e2,hq⟩:=h2 o hp;refine⟨r,?_,hq⟩;rw[kC,KI,e,bind_some];exact e2
theorem ag{ks:List Fn}{s:Sx}{ss:NQ}{sl sl':Sl}{st st':aa}{Q:AV×aa->Prop}(h:ci ks s sl st=some (.nx sl' st'))(h2:∃r,(af ks ss sl' st').bind ay=some r/\Q r):∃r,(af ks (.cons s ss) sl st).bind ay=some r/\Q r:=by
 obtain⟨r,e,q⟩:=h2;exact⟨r,ai h e,q⟩
def aE(L:List (List Int)):List AV:=L.map fun l=>.fz (iL l)
@[simp] theorem Lx:(aE L).length=L.length:=by unfold aE;simp
@[simp] theorem L5:rfs (aE L)=true:=fH fun x hx=>by obtain⟨l,_,rfl⟩:=yC.mp hx;rfl
theorem rV:iL a++iL b=iL (a++b):=by unfold iL;rw[List.map_append]
theorem xq{x:Int}:[AV.int x]=iL [x]:=rfl
theorem vA{α:Type}{em:α->AV}{F:α->List Int}{xs:List α}(hg:cg gd st=true)(h:∀x∈xs,∃sl1,g (em x) sl st=some (sl1,st)/\t sl1 st=some (true,st)/\f sl1 st=some (.fz (iL (F x)),st)):gM gd g t f sl (xs.map em) st=some (aE (xs.map F),st):=by
 rw[gx (B:=fun _=>true) (F:=fun x=>.fz (iL (F x))) hg fun x hx=>by obtain⟨s,a,b,c⟩:=h x hx;exact⟨s,a,b,fun _=>c⟩];unfold aE;rw[List.map_map,List.filter_eq_self.mpr fun _ _=>rfl];rfl
theorem jQ(h1:ev ks a sl st=some (x,s1))(h2:ev ks b sl s1=some (y,s2))(h3:bL s2 x=some (iL l))(h4:bL s2 y=some (iL l'))(hl:l.length+l'.length<=1000):jb ks (.cat a b) sl st=some (iL (l++l'),s2):=by
 rw[vi];unfold vm;rw[h1,bind_some];dsimp only;rw[h2,bind_some];dsimp only;rw[h3,bind_some,h4,bind_some,yH (bW (by simpa using hl)),rV]
theorem lA{n:Nat}:dj 0 n=nL (List.range n):=by unfold dj nL;simp
theorem Hu{w n:Nat}:dj (w:Int) n=nL ((List.range n).map (w+·)):=by unfold dj nL;simp[List.map_map,Function.comp_def]
theorem Cu{n:Nat}:aP (bh n st) (iL l)=some (iL l):=c6 (f:=bh n st) (i:=AV.int) (g:=AV.int) (fun x=>by cases n<;>rfl) l
theorem lu{k:Nat}(h:st[k]?=some (.lst (iL l))):cQ st (.ref k)=some (.fz (iL l)):=by
 show bh 6 st (.ref k)=_;unfold bh;simp only[h,Cu,map_some]
theorem EC{k:Nat}(h:st[k]?=some (.al t)):cQ st (.ref k)=some t:=by
 show bh 6 st (.ref k)=_;unfold bh;simp only[h]
theorem kM{fn:Fn}{rest:List AV}{st st':aa}{x v t:AV}{l:List Int}(hx:RowR st x l)(h0:rfs rest=true)(hm:aP (cQ st) rest=some rest)(hf:∀s,n8 s rest=some (rest,s))(e1:fn (.fz (iL l)::rest) []=some (v,st'))(e2:cQ st' v=some t)(ht:flat t=false) :
  ∃st1,pm fn (x::rest) st=some (t,st1)/\(st1=st\/∃r,x=.ref r/\st[r]?=some (.lst (iL l))/\st1=st.set r (.al (.fz (iL l)))):=by
 have ay:∀r st1,x=.ref r->cQ st (.ref r)=some (.fz (iL l))->pP st (.ref r)=some (.fz (iL l),st1)->pm fn (x::rest) st=some (t,st1):=fun r st1 ex h1 h2=>by
  subst ex;have m:aP (cQ st) (.ref r::rest)=some (.fz (iL l)::rest):=by simp only[aP,h1,hm];rfl
  have f:n8 st (.ref r::rest)=some (.fz (iL l)::rest,st1):=by simp only[n8,h2,bind_some,hf];rfl
  unfold pm;rw[yG (by simp[rf]),m,bind_some,e1,bind_some];dsimp only;rw[e2,bind_some,yG (by rw[ht];simp),f,bind_some];dsimp only;rw[e1,bind_some];dsimp only;rw[e2];rfl
 rcases hx with rfl|⟨r,rfl,h|h⟩
 ·exact⟨st,bO (by simp[h0]) e1 e2,.inl rfl⟩
 ·exact⟨_,ay r (st.set r (.al (.fz (iL l)))) rfl (lu h) (by unfold pP;simp[rf,h]),.inr ⟨r,rfl,h,rfl⟩⟩
 ·exact⟨_,ay r st rfl (EC h) (by unfold pP;simp[rf,h]),.inl rfl⟩
theorem d6:(st++[x]).set st.length y=st++[y]:=by simp
end R
namespace LW
open PySem L2 R
noncomputable def top(i:Nat):Stmt:=PySem.Challenge.pw_telltight_k22_thinned_books.main.body.getD i (.Pass ⟨0,0,0,0⟩)
def Je(s:Stmt):List Stmt:=match s with
 |.ClassDef _ _ _ b _ _ _ _ _ _ _=>b
 |_=>[]
def gw(i j:Nat):Stmt:=(Je (top i)).getD j (.Pass ⟨0,0,0,0⟩)
noncomputable def gs:List (Str×AV):=[]
noncomputable def cl:List (Str×List Str):=[("Sheet",["below","guarded","heads","lines","nailed","sides","turned"])]
noncomputable abbrev B(_:FH):Type:=NQ
local macro_rules | `(tactic| walk_at "tr")=>`(tactic| (refine (?f:FH.tr ?h false [] gs cl=some ?m->B ?h) ?p;(case p=>unfold FH.tr;rw [Gk];(conv in dE _=>whnf);simp [-Option.map_map,↓Gk,gs,cl,tE,m7,Kp,Kr,Ko,Kq,uS,uE,uT,uG,LH,LI,oK,yk,kg,uO,uC,uH,A5,uI,LB,uR,uZ,LD,uL,A6,LC,ym,yn,LA,Lz,uK,Ea,Ly,uQ,uJ,LG,LF,J6,J5,uX,m2,m3,at_,lk,sI,FG,hB,Ak,uM,uN,uP,GQ,FR,DT,eD,Ae,rP,Gj];rfl);exact fun _=>?m))
@[simp] def kW:FH:=⟨.f "_law_draws" 3,"_law_draws",top 44,["_law_script","_law_turn","_law_many","_law_cells","_law_found","_law_left","_law_k","_law_at","_law_place","_law_number"],[],3,[],[],[2272136377,2280136152,2296160552]⟩
noncomputable def gf:B kW:=by walk_at "tr"
@[simp] def nX:FH:=⟨.f "_law_pop" 1,"_law_pop",top 45,["_law_draws_here"],[],3,[],[],[]⟩
noncomputable def j6:B nX:=by walk_at "tr"
@[simp] def nW:FH:=⟨.f "_law_row" 2,"_law_row",top 46,["_law_n","_law_some","_law_row_here","_law_group","_law_number"],[],3,[],[],[2440160360]⟩
noncomputable def iu:B nW:=by walk_at "tr"
@[simp] def mv:FH:=⟨.f "_law_rest" 3,"_law_rest",top 47,["_law_n","_law_a","_law_b"],[2],6,[],["_law_row"],[]⟩
noncomputable def jz:B mv:=by walk_at "tr"
@[simp] def ku:FH:=⟨.f "_law_shared" 4,"_law_shared",top 48,["_law_n","_law_a","_law_b","_law_c"],[2],6,[],["_law_row"],[]⟩
noncomputable def g7:B ku:=by walk_at "tr"
@[simp] def kx:FH:=⟨.f "_law_saying" 2,"_law_saying",top 50,["_law_draws_here","_law_n","_law_number","_law_whole","_law_a","_law_b","_law_c","_law_sign","_law_count"],[1,2,3,4],9,[],["_law_pop","_law_row","_law_rest","_law_shared"],[2552144350,2600400606]⟩
noncomputable def fm:B kx:=by walk_at "tr"
@[simp] def kt:FH:=⟨.f "_law_wanted" 3,"_law_wanted",top 51,["_law_draws_here","_law_n","_law_book","_law_number","_law_one","_law_row_here","_law_sign","_law_count","_law_more","_law_mark","_law_add"],[1,5],12,[],["_law_pop","_law_saying"],[2704144350,2712120414]⟩
noncomputable def fj:B kt:=by walk_at "tr"
@[simp] def kY:FH:=⟨.f "_law_drawn" 2,"_law_drawn",top 53,["_law_script","_law_most","_law_draws_here","_law_number","_law_n","_law_many","_law_book","_law_row_here","_law_sign","_law_count"],[0,1,5,6],15,[],["_law_draws","_law_pop","_law_saying","_law_wanted"],[2816176422,2824144350,2856224405,2872224277,2880128680,2880136430,2912248630]⟩
noncomputable def gg:B kY:=by walk_at "tr"
@[simp] def kz:FH:=⟨.f "_law_copied" 1,"_law_copied",top 52,["_law_book"],[],3,[],[],[]⟩
noncomputable def fq:B kz:=by walk_at "tr"
@[simp] def iI:FH:=⟨.f "upward_sayings" 1,"upward_sayings",top 35,["saying","row","number","upward"],[],3,[],[],[1944104264]⟩
noncomputable def fy:B iI:=by walk_at "tr"
@[simp] def ms:FH:=⟨.f "all_names" 1,"all_names",top 1,["n"],[],3,[],[],[]⟩
noncomputable def mE:B ms:=by walk_at "tr"
@[simp] def gO:FH:=⟨.f "pairs_with_known" 3,"pairs_with_known",top 7,["n","i","j","both"],[10],6,[],["all_names"],[]⟩
noncomputable def gU:B gO:=by walk_at "tr"
@[simp] def ug:FH:=⟨.f "rules" 1,"rules",top 8,["n","found","i","j"],[11],9,[],["pairs_with_known"],[168096344]⟩
noncomputable def uu:B ug:=by walk_at "tr"
@[simp] def jI:FH:=⟨.f "row_of_terms" 2,"row_of_terms",top 2,["n","terms","row","group","number"],[10],6,[],["all_names"],[40080224]⟩
noncomputable def jS:B jI:=by walk_at "tr"
@[simp] def nU:FH:=⟨.f "rest_row" 3,"rest_row",top 3,["n","a","b"],[13],9,[],["row_of_terms"],[]⟩
noncomputable def ox:B nU:=by walk_at "tr"
@[simp] def kU:FH:=⟨.f "shared_row" 4,"shared_row",top 4,["n","a","b","c"],[13],9,[],["row_of_terms"],[]⟩
noncomputable def k7:B kU:=by walk_at "tr"
@[simp] def nT:FH:=⟨.f "rule_row" 2,"rule_row",top 9,["n","rule","one"],[10,14,15],12,[],["all_names","rest_row","shared_row"],[]⟩
noncomputable def ow:B nT:=by walk_at "tr"
@[simp] def mn:FH:=⟨.f "rule_rows" 1,"rule_rows",top 10,["n"],[12,16],15,[],["rules","rule_row"],[]⟩
noncomputable def mB:B mn:=by walk_at "tr"
@[simp] def iP:FH:=⟨.k "Sheet" 3,"Sheet.__init__",gw 13 0,["self","width","lines"],[],3,[],[],[368168408,376168312,384168472]⟩
noncomputable def fE:B iP:=by walk_at "tr"
@[simp] def kA:FH:=⟨.m "Sheet" "guard" 2,"Sheet.guard",gw 13 1,["self","quantity"],[],3,[],[],[]⟩
noncomputable def g8:B kA:=by walk_at "tr"
@[simp] def i8:FH:=⟨.f "opening_sheet" 3,"opening_sheet",top 25,["n","givens","goal","lines","guarded","sheet","quantity"],[17,10,18,19],18,[],["rule_rows","all_names","Sheet","guard"],[1360096376,1360104177,1376144313,1384136409]⟩
noncomputable def f9:B i8:=by walk_at "tr"
@[simp] def ie:FH:=⟨.m "Sheet" "turn_line" 2,"Sheet.turn_line",gw 13 3,["self","place"],[],3,[],[],[]⟩
noncomputable def eY:B ie:=by walk_at "tr"
@[simp] def fM:FH:=⟨.m "Sheet" "loose_columns" 1,"Sheet.loose_columns",gw 13 5,["self"],[],3,[],[],[]⟩
noncomputable def dI:B fM:=by walk_at "tr"
@[simp] def fc:FH:=⟨.m "Sheet" "raising_column" 2,"Sheet.raising_column",gw 13 6,["self","place","line","found"],[22],6,[⟨81,30,81,63⟩],["loose_columns"],[]⟩
noncomputable def dw:B fc:=by walk_at "tr"
@[simp] def gR:FH:=⟨.m "Sheet" "is_tighter" 4,"Sheet.is_tighter",gw 13 8,["self","one","other","column","ahead","behind"],[],3,[],[],[]⟩
noncomputable def eG:B gR:=by walk_at "tr"
@[simp] def fb:FH:=⟨.m "Sheet" "tightest_place" 2,"Sheet.tightest_place",gw 13 9,["self","column","best","place","line"],[24],6,[],["is_tighter"],[]⟩
noncomputable def du:B fb:=by walk_at "tr"
@[simp] def gj:FH:=⟨.m "Sheet" "is_up_first" 4,"Sheet.is_up_first",gw 13 10,["self","place","tight","column","up"],[],3,[],[],[]⟩
noncomputable def d3:B gj:=by walk_at "tr"
@[simp] def jM:FH:=⟨.f "changed_line" 5,"changed_line",top 12,["line","pivot_line","column","sign","below","pivot","factor","changed"],[],3,[],[],[312112808]⟩
noncomputable def dG:B jM:=by walk_at "tr"
@[simp] def iN:FH:=⟨.m "Sheet" "exchange" 3,"Sheet.exchange",gw 13 4,["self","place","column","sign","pivot_line","below","freed"],[27],6,[],["changed_line"],[536168776,544224496]⟩
noncomputable def fC:B iN:=by walk_at "tr"
@[simp] def k4:FH:=⟨.m "Sheet" "lift" 2,"Sheet.lift",gw 13 11,["self","place","column","tight"],[23,25,26,28],9,[],["raising_column","tightest_place","is_up_first","exchange"],[]⟩
noncomputable def eF:B k4:=by walk_at "tr"
@[simp] def fL:FH:=⟨.m "Sheet" "moving_column" 2,"Sheet.moving_column",gw 13 7,["self","place","line"],[22],6,[],["loose_columns"],[]⟩
noncomputable def dH:B fL:=by walk_at "tr"
@[simp] def kZ:FH:=⟨.m "Sheet" "nail" 2,"Sheet.nail",gw 13 2,["self","quantity"],[],3,[],[],[]⟩
noncomputable def iR:B kZ:=by walk_at "tr"
@[simp] def mq:FH:=⟨.f "keep_just" 2,"keep_just",top 26,["sheet","place","quantity","column"],[21,29,30,28,31],12,[],["turn_line","lift","moving_column","exchange","nail"],[]⟩
noncomputable def jy:B mq:=by walk_at "tr"
@[simp] def jK:FH:=⟨.f "keep_no_less" 2,"keep_no_less",top 27,["sheet","place","quantity"],[29,19],12,[],["lift","guard"],[]⟩
noncomputable def eL:B jK:=by walk_at "tr"
@[simp] def nV:FH:=⟨.f "names_in" 2,"names_in",top 15,["n","group"],[],3,[],[],[]⟩
noncomputable def oy:B nV:=by walk_at "tr"
@[simp] def mo:FH:=⟨.f "pair_rule" 3,"pair_rule",top 16,["one","other","known"],[],3,[],[],[]⟩
noncomputable def mC:B mo:=by walk_at "tr"
@[simp] def i7:FH:=⟨.f "rules_of_name" 3,"rules_of_name",top 17,["n","k","known","used","j"],[34,35],6,[],["names_in","pair_rule"],[1048088104]⟩
noncomputable def jn:B i7:=by walk_at "tr"
@[simp] def i6:FH:=⟨.f "rules_of_rest" 3,"rules_of_rest",top 18,["n","a","b","used","known","k"],[34,36],9,[],["names_in","rules_of_name"],[1104088104]⟩
noncomputable def jm:B i6:=by walk_at "tr"
@[simp] def mr:FH:=⟨.f "how_often" 2,"how_often",top 19,["n","used"],[12],12,[],["rules"],[]⟩
noncomputable def mD:B mr:=by walk_at "tr"
@[simp] def hU:FH:=⟨.f "weights_by_line" 3,"weights_by_line",top 28,["n","sheet","place","taken","column","quantity","weights","group","often","rule","count"],[10,37,38],15,[],["all_names","rules_of_rest","how_often"],[1584096440,1616032340,1632112288]⟩
noncomputable def eU:B hU:=by walk_at "tr"
@[simp] def iM:FH:=⟨.f "common_divisor" 1,"common_divisor",top 21,["numbers","divisor","number","other","left"],[],3,[],[],[]⟩
noncomputable def dQ:B iM:=by walk_at "tr"
@[simp] def ic:FH:=⟨.f "in_lowest_terms" 1,"in_lowest_terms",top 22,["numbers","divisor"],[40],6,[],["common_divisor"],[]⟩
noncomputable def dy:B ic:=by walk_at "tr"
@[simp] def iO:FH:=⟨.m "Sheet" "drive_up" 2,"Sheet.drive_up",gw 13 12,["self","place","column","tight"],[23,25,28],9,[],["raising_column","tightest_place","exchange"],[]⟩
noncomputable def fD:B iO:=by walk_at "tr"
@[simp] def ib:FH:=⟨.f "lowest_fraction" 2,"lowest_fraction",top 23,["top","bottom","numbers"],[41],9,[],["in_lowest_terms"],[]⟩
noncomputable def eV:B ib:=by walk_at "tr"
@[simp] def gQ:FH:=⟨.f "groups_in_column" 3,"groups_in_column",top 29,["n","sheet","column","found","place","quantity"],[10],6,[],["all_names"],[1696096240]⟩
noncomputable def eE:B gQ:=by walk_at "tr"
@[simp] def jJ:FH:=⟨.f "lowest_table" 2,"lowest_table",top 24,["numbers","below","found"],[41],9,[],["in_lowest_terms"],[1336224361]⟩
noncomputable def gA:B jJ:=by walk_at "tr"
@[simp] def iJ:FH:=⟨.f "table_of_sheet" 2,"table_of_sheet",top 30,["n","sheet"],[44,45],12,[],["groups_in_column","lowest_table"],[1744192438]⟩
noncomputable def fA:B iJ:=by walk_at "tr"
@[simp] def iK:FH:=⟨.f "least_of_sheet" 3,"least_of_sheet",top 32,["n","sheet","place","least","weights"],[43,39,41,46],18,[],["lowest_fraction","weights_by_line","in_lowest_terms","table_of_sheet"],[1808240502,1808240625,1816224422]⟩
noncomputable def fB:B iK:=by walk_at "tr"
@[simp] def mh:FH:=⟨.f "way_along" 3,"way_along",top 31,["n","sheet","column","way"],[44,41],9,[],["groups_in_column","in_lowest_terms"],[1760080358]⟩
noncomputable def gH:B mh:=by walk_at "tr"
@[simp] def rW:FH:=⟨.f "answer" 3,"answer",top 33,["n","givens","goal","sheet","last","place","given","kept","column"],[20,32,33,39,41,42,47,46,48],21,[],["opening_sheet","keep_just","keep_no_less","weights_by_line","in_lowest_terms","drive_up","least_of_sheet","table_of_sheet","way_along"],[1832096342,1856120310,1856504718,1872360622,1896120366,1904184382,1904392614]⟩
noncomputable def mX:B rW:=by walk_at "tr"
@[simp] def uf:FH:=⟨.f "value" 2,"value",top 5,["row","table"],[],3,[],[],[]⟩
noncomputable def pf:B uf:=by walk_at "tr"
@[simp] def kn:FH:=⟨.f "table_along" 4,"table_along",top 36,["table","way","row","number","below","above","fall","steps"],[50,45],12,[],["value","lowest_table"],[]⟩
noncomputable def fg:B kn:=by walk_at "tr"
@[simp] def i9:FH:=⟨.f "follow_upward" 4,"follow_upward",top 37,["n","givens","row","number","found"],[49,51],24,[],["answer","table_along"],[]⟩
noncomputable def d5:B i9:=by walk_at "tr"
@[simp] def pO:FH:=⟨.f "follows" 3,"follows",top 38,["n","givens","saying","papers","row","sign","number","told"],[9,52],27,[],["upward_sayings","follow_upward"],[2104104120]⟩
noncomputable def jo:B pO:=by walk_at "tr"
@[simp] def jL:FH:=⟨.f "follows_from" 4,"follows_from",top 40,["n","book","places","saying"],[53],30,[],["follows"],[]⟩
noncomputable def eM:B jL:=by walk_at "tr"
@[simp] def fK:FH:=⟨.f "follows_from_others" 4,"follows_from_others",top 41,["n","book","places","place","others"],[54],33,[],["follows_from"],[]⟩
noncomputable def cS:B fK:=by walk_at "tr"
@[simp] def pN:FH:=⟨.f "thinned" 2,"thinned",top 42,["n","book","left","place"],[55],36,[],["follows_from_others"],[2216088264]⟩
noncomputable def jk:B pN:=by walk_at "tr"
@[simp] def kr:FH:=⟨.f "_law_wholes" 2,"_law_wholes",top 49,["_law_found","_law_many"],[],3,[],[],[]⟩
noncomputable def fi:B kr:=by walk_at "tr"
@[simp] def Bx:FH:=⟨.f "law" 1,"law",top 54,["_law_script","_law_n","_law_book","_law_saying_here","_law_handed","_law_due","_law_k","_law_place","_law_others","_law_found"],[7,8,53,56,57],39,[],["_law_drawn","_law_copied","follows","thinned","_law_wholes"],[3000168398]⟩
noncomputable def qp:B Bx:=by walk_at "tr"
def e_law:FE:=⟨Bx,qp⟩
def pre:List FE:=[⟨kW,gf⟩,⟨nX,j6⟩,⟨nW,iu⟩,⟨mv,jz⟩,⟨ku,g7⟩,⟨kx,fm⟩,⟨kt,fj⟩,⟨kY,gg⟩,⟨kz,fq⟩,⟨iI,fy⟩,⟨ms,mE⟩,⟨gO,gU⟩,⟨ug,uu⟩,⟨jI,jS⟩,⟨nU,ox⟩,⟨kU,k7⟩,⟨nT,ow⟩,⟨mn,mB⟩,⟨iP,fE⟩,⟨kA,g8⟩,⟨i8,f9⟩,⟨ie,eY⟩,⟨fM,dI⟩,⟨fc,dw⟩,⟨gR,eG⟩,⟨fb,du⟩,⟨gj,d3⟩,⟨jM,dG⟩,⟨iN,fC⟩,⟨k4,eF⟩,⟨fL,dH⟩,⟨kZ,iR⟩,⟨mq,jy⟩,⟨jK,eL⟩,⟨nV,oy⟩,⟨mo,mC⟩,⟨i7,jn⟩,⟨i6,jm⟩,⟨mr,mD⟩,⟨hU,eU⟩,⟨iM,dQ⟩,⟨ic,dy⟩,⟨iO,fD⟩,⟨ib,eV⟩,⟨gQ,eE⟩,⟨jJ,gA⟩,⟨iJ,fA⟩,⟨iK,fB⟩,⟨mh,gH⟩,⟨rW,mX⟩,⟨uf,pf⟩,⟨kn,fg⟩,⟨i9,d5⟩,⟨pO,jo⟩,⟨jL,eM⟩,⟨fK,cS⟩,⟨pN,jk⟩,⟨kr,fi⟩]
theorem DH:oq gs cl [] pre=pre.map fun e=>some e.b:=by kernel_rfl
theorem DI:e_law.chk gs cl pre=some e_law.b:=by kernel_rfl
instance:NI:=⟨[(117,⟨81,30,81,63⟩,("Sheet.raising_column":Str)++".<locals>."++"<lambda>")]⟩
def aQ:Fn:=run 10 (af [] gf)
def ao:Fn:=run 1 (af [] j6)
def cD:Fn:=run 5 (af [] iu)
def cZ:Fn:=run 3 (af [cD] jz)
def cH:Fn:=run 4 (af [cD] g7)
def aj:Fn:=run 9 (af [ao,cD,cZ,cH] fm)
def aK:Fn:=run 11 (af [ao,aj] fj)
def dL:Fn:=run 10 (af [aQ,ao,aj,aK] gg)
def dW:Fn:=run 1 (af [] fq)
def bg:Fn:=run 4 (af [] fy)
def ak:Fn:=run 1 (af [] mE)
def gY:Fn:=run 4 (af [ak] gU)
def px:Fn:=run 4 (af [gY] uu)
def gD:Fn:=run 5 (af [ak] jS)
def oF:Fn:=run 3 (af [gD] ox)
def ld:Fn:=run 4 (af [gD] k7)
def oE:Fn:=run 3 (af [ak,oF,ld] ow)
def aO:Fn:=run 1 (af [px,oE] mB)
def aF:Fn:=run 3 (af [] fE)
def aN:Fn:=run 2 (af [] g8)
def bM:Fn:=run 7 (af [aO,ak,aF,aN] f9)
def cG:Fn:=run 2 (af [] eY)
def cq:Fn:=run 1 (af [] dI)
def aI:Fn:=run 4 (af [cq] dw)
def cw:Fn:=run 6 (af [] eG)
def aH:Fn:=run 5 (af [cw] du)
def aX:Fn:=run 5 (af [] d3)
def bJ:Fn:=run 8 (af [] dG)
def aL:Fn:=run 7 (af [bJ] fC)
def cE:Fn:=run 4 (af [aI,aH,aX,aL] eF)
def bQ:Fn:=run 3 (af [cq] dH)
def dM:Fn:=run 2 (af [] iR)
def cA:Fn:=run 4 (af [cG,cE,bQ,aL,dM] jy)
def bI:Fn:=run 3 (af [cE,aN] eL)
def j9:Fn:=run 2 (af [] oy)
def mH:Fn:=run 3 (af [] mC)
def jp:Fn:=run 5 (af [j9,mH] jn)
def cT:Fn:=run 6 (af [j9,jp] jm)
def dY:Fn:=run 2 (af [px] mD)
def aM:Fn:=run 11 (af [ak,cT,dY] eU)
def cO:Fn:=run 5 (af [] dQ)
def ah:Fn:=run 2 (af [cO] dy)
def bG:Fn:=run 4 (af [aI,aH,aL] fD)
def cX:Fn:=run 3 (af [ah] eV)
def cR:Fn:=run 6 (af [ak] eE)
def bH:Fn:=run 3 (af [ah] gA)
def aW:Fn:=run 2 (af [cR,bH] fA)
def bF:Fn:=run 5 (af [cX,aM,ah,aW] fB)
def cz:Fn:=run 4 (af [cR,ah] gH)
def gE:Fn:=run 9 (af [bM,cA,bI,aM,ah,bG,bF,aW,cz] mX)
def gC:Fn:=run 2 (af [] pf)
def dS:Fn:=run 8 (af [gC,bH] fg)
def bu:Fn:=run 5 (af [gE,dS] d5)
def cm:Fn:=run 8 (af [bg,bu] jo)
def c5:Fn:=run 4 (af [cm] eM)
def aS:Fn:=run 5 (af [c5] cS)
def fQ:Fn:=run 4 (af [aS] jk)
def dU:Fn:=run 2 (af [] fi)
def oG:Fn:=run 10 (af [dL,dW,cm,fQ,dU] qp)
def Fs:List Fn:=[aQ,ao,cD,cZ,cH,aj,aK,dL,dW,bg,ak,gY,px,gD,oF,ld,oE,aO,aF,aN,bM,cG,cq,aI,cw,aH,aX,bJ,aL,cE,bQ,dM,cA,bI,j9,mH,jp,cT,dY,aM,cO,ah,bG,cX,cR,bH,aW,bF,cz,gE,gC,dS,bu,cm,c5,aS,fQ,dU]
theorem IQ:ja [] pre=Fs:=xD (by(repeat refine⟨rfl,?_⟩);trivial)
theorem Ip:e_law.fn (ja [] pre)=oG:=by rw[IQ];rfl
def JZ:Fn:=oG
open PySem.Spec
open SX (Sh NP)
def Bd(w m:Nat)(S:Sh):Prop:=S.d.natAbs<2^9000/\∀i,i<m->∀j,j<w+1->(S.t i j).natAbs<2^9000
section
variable{st:aa}{k a b c g n u w m:Nat}{rows:List AV}{S:Sh}
theorem IA(R:Rep st k a b c g n u rows S)(P:NP w m S)(B:Bd w m S){i r q:Nat}(hi:i<m)(hr:r<m)(hq:q<w) :
  cw [.ref k,.int i,.int r,.int q] st=some (.bl (decide (S.t i w*- S.t r q<S.t r w*- S.t i q)||(decide (S.t i w*- S.t r q=S.t r w*- S.t i q)&&decide (S.s i<S.s r))),st):=by
 have m1:dD (S.t i w) (- S.t r q)=true:=cW (B.2 i hi w oM) (by rw [Int.natAbs_neg];exact B.2 r hr q oM);have m2:dD (S.t r w) (- S.t i q)=true:=cW (B.2 r hr w oM) (by rw [Int.natAbs_neg];exact B.2 i hi q oM);simp [cw,aD,eG,R.ins,R.line P hi,R.line P hr,R.last P hi,R.last P hr,R.cell P hi (show q < w + 1 by lia),R.cell P hr (show q < w + 1 by lia),cC m1,cC m2,R.side P hi,R.side P hr];by_cases h1:S.t i w * -S.t r q < S.t r w * -S.t i q <;> by_cases h2:S.t i w * -S.t r q=S.t r w * -S.t i q <;> simp [h1,h2]
theorem A2(R:Rep st k a b c g n u rows S)(P:NP w m S)(B:Bd w m S){i r q:Nat}(hi:i<m)(hr:r<m)(hq:q<w) :
  aX [.ref k,.int i,.int r,.int q] st=some (.bl (decide (S.t i w*S.t r q<=S.t r w*S.t i q)),st):=by
 have m1:dD (S.t i w) (S.t r q)=true:=cW (B.2 i hi w oM) (B.2 r hr q oM);have m2:dD (S.t r w) (S.t i q)=true:=cW (B.2 r hr w oM) (B.2 i hi q oM);simp [aX,aD,d3,R.ins,R.line P hi,R.line P hr,R.last P hi,R.last P hr,R.cell P hi (show q < w + 1 by lia),R.cell P hr (show q < w + 1 by lia),cC m1,cC m2]
theorem tY(R:Rep st k a b c g n u rows S)(P:NP w m S)(hw:w<=100):cq [.ref k] st=some (.fz (nL (bT S)),st):=by
 have he:nL (bT S)=(S.hd.zipIdx.filter fun z=>!decide (z.1∈S.nl)).map fun z=>(AV.int ((z.2:Nat):Int)):=by unfold nL bT;rw[List.map_map];rfl
 have hf:=jV (l:=bT S);rw [he] at hf ⊢;simp [cq,aD,dI,R.ins,jH R.hb,IZ,bW (show S.hd.length <= 1000 by rw [P.hd];lia)];rw [gx (B:=fun z=>!decide (z.1 ∈ S.nl)) (F:=fun z=>.int ((z.2:Nat):Int)) (gy R.hb) fun z _=>⟨_,rfl,by simp [R.ins,R.nin],fun _=>rfl⟩];simp [hf]
theorem qK(R:Rep st k a b c g n u rows S)(P:NP w m S)(hw:w<=100){p:Nat}(hp:p<m):∃o,aI [.ref k,.int p] st=some (oN o,st)/\SX.Rais w S p o:=by
 have ll:(bT S).length<=1000:=by
  unfold bT;rw[zH]
  have:=List.length_filter_le (fun z:Nat×Nat=>!decide (z.1∈S.nl)) S.hd.zipIdx
  rw[List.length_zipIdx,P.hd]at this;lia
 obtain⟨o,ho,h1,h2⟩:=GW (l:=(bT S).filter fun j=>decide (0<S.t p j)) (key:=S.h);have inl:∀j,j∈(bT S).filter (fun j=>decide (0<S.t p j)) ↔ (j<w/\S.h j∉S.nl)/\0<S.t p j:=fun j=>by rw[List.mem_filter,iY P];simp
 refine⟨o,?_,fun e j hj hn ht=>?_,fun q e=>?_⟩
 ·simp[aI,aD,dw,R.ins,R.line P hp,tY R P hw,nL,bW ll]
  rw [gx (B:=fun j=>decide (0 < S.t p j)) (F:=fun j:Nat=>.int (j:Int)) fN fun j hj=>⟨_,rfl,by simp [R.cell P hp (show j < w + 1 by have:=(iY P).mp hj;lia)],fun _=>rfl⟩];have hf:rfs (((bT S).filter fun j=>decide (0 < S.t p j)).map fun j:Nat=>(AV.int (j:Int)))=true:=jV;have hi:=t8 (l:=(bT S).filter fun j=>decide (0 < S.t p j));unfold nL at hi;simp [hf,qu,lsI,hi];rw [F0 (f:=S.h) fun q hq=>by simp [R.ins,R.head P ((inl q).mp hq).1.1]];simp [ho]
 ·have:=h1 e
  have hm:=(inl j).mpr ⟨⟨hj,hn⟩,ht⟩;rw[this]at hm;cases hm
 ·obtain⟨m1,m2⟩:=h2 q e
  have:=(inl q).mp m1
  exact⟨this.1.1,this.1.2,this.2,fun j hj hn ht=>m2 j ((inl j).mpr ⟨⟨hj,hn⟩,ht⟩)⟩
theorem tK(R:Rep st k a b c g n u rows S)(P:NP w m S)(B:Bd w m S){q:Nat}(hq:q<w):∃o,aH [.ref k,.int q] st=some (oN o,st)/\SX.NL S w q m o:=by
 have rl:rows.length=m:=by rw[R.len,P.ls]
 obtain⟨sl',st',e,rfl,o,x,y,rfl,T⟩:=eK (gd:=[(a,.lst rows)]) (g:=cj [cw] (.tu 2 (.cons (.nm 3) (.cons (.nm 4) .nil)))) (s:=af [cw] (.cons (.iff (.an (.cmp .Lt (.ix (.v 4) (.v 1)) (.i 0)) (.cmp .In (.ix (.fd "Sheet" "sides" (.v 0)) (.v 3)) (.fd "Sheet" "guarded" (.v 0))))
   (.cons (.iff (.or (.cmp .Is (.v 2) .n) (.va (.me "Sheet" "is_tighter" 0 (.v 0) (.cons (.v 3) (.cons (.v 2) (.cons (.v 1) .nil)))))) (.cons (.as (.v 3) (.nm 2)) .nil) .nil) .nil) .nil) .nil))
  (I:=fun i sl s=>s=st/\∃o x y,sl=[Rs k,Is q,some (oN o),x,y]/\SX.NL S w q i o) (xs:=eN 0 rows) (fun i sl s _ hI=>by rw[hI.1];exact gy R.ha)
  (fun i y sl s hy hI=>by
   obtain⟨rfl,o,x1,x2,rfl,T⟩:=hI;obtain⟨x,hx,rfl⟩:=oi hy;have hi:i<m:=by rw[<- rl];exact(zB.mp hx).1
   have ex:x=kI rows i:=by have:=R.rx P hi;rw[hx]at this;injection this
   subst ex;refine⟨_,[Rs k,Is q,some (oN (if S.t i q<0/\S.s i∈S.gd then(match o with|none=>some i|some r=>if S.t i w*- S.t r q<S.t r w*- S.t i q\/(S.t i w*- S.t r q=S.t r w*- S.t i q/\S.s i<S.s r) then some i else some r) else o)),Is i,some (kI rows i)],s,rfl,?_,rfl,_,_,_,rfl,?_⟩
   ·by_cases h1:S.t i q<0
    ·by_cases h2:S.s i∈S.gd
     ·cases o with
      | none=>simp [R.cell P hi (show q < w + 1 by lia),h1,R.side P hi,R.ins,R.ing,h2,oN]
      |some r =>
       have hr:=(T.2 r rfl).1
       have:=IA R P B hi (show r < m by lia) hq
       simp [R.cell P hi (show q < w + 1 by lia),h1,R.side P hi,R.ins,R.ing,h2,oN,this,eQ,bL,dr];split <;> rfl
     ·simp [R.cell P hi (show q < w + 1 by lia),h1,R.side P hi,R.ins,R.ing,h2]
    ·simp [R.cell P hi (show q < w + 1 by lia),h1]
   ·by_cases h1:S.t i q<0/\S.s i∈S.gd
    ·rw[yH h1]
     cases o with
     |none=>exact SX.tt_first h1.1 h1.2 T
     |some r =>
      dsimp only;split
      ·rename_i h2;exact SX.tt_new h1.1 h1.2 h2 T
      ·rename_i h2;exact SX.tt_old h1.1 h2 T
    ·rw[yG h1];exact SX.tt_skip h1 T) (sl:=[Rs k,Is q,some .non,none,none]) (st:=st) ⟨rfl,none,none,none,rfl,SX.tt_zero⟩
 rw[lN,rl]at T;refine⟨o,?_,T⟩;simp[aH,aD,du,R.ins,jH R.ha];rw[e];simp
end
open SX (gI chLine pvl sgn)
theorem qw:((iL l).zip (iL P)).map (fun z=>AV.tup [z.1,z.2])=(l.zip P).map fun z=>.tup [.int z.1,.int z.2]:=by
 unfold iL;rw[List.zip_map,List.map_map];rfl
section
variable{l P:List Int}{q w:Nat}{sg d:Int}
theorem lJ{M:Nat}(h:∀x∈l,x.natAbs<M)(hM:0<M)(j:Nat):(gI l j).natAbs<M:=by
 unfold gI;rw[zD];cases e:l[j]? with
 |none=>exact hM
 |some x=>exact h x (zW e)
theorem Lj(hl:l.length=w+1)(hP:P.length=w+1)(hq:q<w+1)(hw:w<=100)(bl:∀x∈l,x.natAbs<2^9000)(bP:∀x∈P,x.natAbs<2^9000)(hd:d≠0)(bd:d.natAbs<2^9000)(bs:sg.natAbs<2^9000) :
  ∃v st',bJ [.fz (iL l),.fz (iL P),.int q,.int sg,.int d] []=some (v,st')/\cQ st' v=some (.fz (iL (chLine l P q sg d))):=by
 have hM:(0:Nat)<2^9000:=Nat.two_pow_pos _;have x1:∀st:aa,aZ st (.fz (iL P)) (.int (q:Int))=some (.int (gI P q)):=fun st=>by rw[cB eJ,cb,bY oM]
 have x2:∀st:aa,aZ st (.fz (iL l)) (.int (q:Int))=some (.int (gI l q)):=fun st=>by rw[cB eJ,cb,bY oM]
 have bp:=lJ bP hM q;have bf:=lJ bl hM q;have dv:=sC hd bd;unfold chLine;by_cases h1:gI l q=0
 ·by_cases h2:gI P q=d
  ·refine⟨.fz (iL l),[],?_,by rw[yH h1,yH h2];rfl⟩
   simp[bJ,aD,dG,x1,x2,h1,h2]
  ·refine⟨.fz (iL (l.map fun x=>SX.fdvS (x*gI P q) d)),[],?_,by rw[yH h1,yG h2];rfl⟩
   simp [bJ,aD,dG,x1,x2,h1,h2,bW (show l.length <= 1000 by lia)];rw [jY (F:=fun x=>SX.fdvS (x * gI P q) d) fN fun x hx=>⟨_,rfl,rfl,by simp [cC (cW (bl x hx) bp),oA dv];rfl⟩];simp
 ·refine⟨.ref 0,[.lst (iL (((l.zip P).map fun z=>SX.fdvS (z.1*gI P q-gI l q*z.2) d).set q (sg*gI l q)))],?_,by rw[yG h1];exact lu rfl⟩
  have ml:=cW bs bf;have hz:((l.zip P).length)<=1000:=by rw[List.length_zip];lia
  simp[bJ,aD,dG,x1,x2,h1,iZ,qw];rw[yH (bW oM),xc (F:=fun z=>SX.fdvS (z.1*gI P q-gI l q*z.2) d) fN fun z hz=>⟨_,rfl,rfl,by
   have:=List.of_mem_zip hz
   simp[cC (cW (bl _ this.1) bp),cC (cW bf (bP _ this.2)),oA dv];rfl⟩]
  simp[cC ml];rw[dg (xs:=iL ((l.zip P).map fun z=>SX.fdvS (z.1*gI P q-gI l q*z.2) d)) rfl (by simp;lia),eZ];simp
theorem Jd(hx:RowR st x l)(hl:l.length=w+1)(hP:P.length=w+1)(hq:q<w+1)(hw:w<=100)(bl:∀x∈l,x.natAbs<2^9000)(bP:∀x∈P,x.natAbs<2^9000)(hd:d≠0)(bd:d.natAbs<2^9000)(bs:sg.natAbs<2^9000) :
  ∃st1,pm bJ [x,.fz (iL P),.int q,.int sg,.int d] st=some (.fz (iL (chLine l P q sg d)),st1)/\(st1=st\/∃r,x=.ref r/\st[r]?=some (.lst (iL l))/\st1=st.set r (.al (.fz (iL l)))):=by
 obtain⟨v,st',e1,e2⟩:=Lj hl hP hq hw bl bP hd bd bs;exact kM (rest:=[.fz (iL P),.int q,.int sg,.int d]) hx (by simp) rfl (fun s=>by simp[n8,pP,rf]) e1 e2 (by simp[flat])
end
section
variable{st:aa}{k a b c g n u w m:Nat}{rows:List AV}{S:Sh}
theorem Bd.row(B:Bd w m S)(P:NP w m S){i:Nat}(hi:i<m):∀x∈SX.row S i,x.natAbs<2^9000:=fun x hx=>by
 obtain⟨j,hj⟩:=z8 hx;have hl:=(zB.mp hj).1;rw[P.rl hi]at hl
 have:=B.2 i hi j hl
 have e:S.t i j=x:=by show(SX.row S i).getD j 0=x;rw[zD,hj];rfl
 rw[e]at this;exact this
theorem oh(R:Rep st k a b c g n u rows S)(P:NP w m S)(B:Bd w m S)(hd:S.d≠0)(hw:w<=100)(hm:m<=1000){p q:Nat}(hp:p<m)(hq:q<w) :
  ∃st' a' rows',aL [.ref k,.int p,.int q] st=some (.non,st')/\Rep st' k a' b c g n u rows' (SX.NN S p q):=by
 have rl:rows.length=m:=by rw[R.len,P.ls]
 obtain⟨sg,hsg⟩:∃x,x=sgn (S.t p q):=⟨_,rfl⟩;obtain⟨pl,hpl⟩:∃x,x=pvl S p q:=⟨_,rfl⟩;have hpl':pl=(SX.row S p).map fun x=>sg*x:=by rw[hpl,hsg];rfl
 have lp:pl.length=w+1:=by rw[hpl',zH];exact P.rl hp
 have sa:sg.natAbs=1:=by rw[hsg];unfold sgn;split<;>rfl
 have bs:sg.natAbs<2^9000:=by rw[sa];exact Nat.one_lt_two_pow oM
 have bP:∀x∈pl,x.natAbs<2^9000:=fun x hx=>by
  rw[hpl']at hx;obtain⟨y,hy,rfl⟩:=yC.mp hx;rw[yZ,sa,Nat.one_mul];exact B.row P hp y hy
 have s1:∃st1,gM [(a,.lst rows)] (cj [bJ] (.nm 7)) (jd [bJ] .no) (ev [bJ] (.ca true 0 (.cons (.v 7) (.cons (.v 4) (.cons (.v 2) (.cons (.v 3) (.cons (.v 5) .nil))))))) [Rs k,Is p,Is q,Is sg,Ls pl,Is S.d,none,none] rows st
   = some ((List.range rows.length).map fun i=>.fz (iL (chLine (SX.row S i) pl q sg S.d)),st1)/\Rep st1 k a b c g n u rows S:=by
  refine xb (J:=fun _ s=>Rep s k a b c g n u rows S) (fun _ s _ R'=>gy R'.ha) (fun i x s hx R'=>?_) R;have hi:i<m:=by rw[<- rl];exact(zB.mp hx).1
  obtain ⟨s1,e1,h1⟩:=Jd (R'.row i x hx) (P.rl hi) lp (show q < w + 1 by lia) hw (B.row P hi) bP hd B.1 bs;refine ⟨_,s1,rfl,rfl,by simp [e1],?_⟩;rcases h1 with rfl | ⟨r,rfl,h2,rfl⟩
  ·exact R'
  ·exact R'.freeze hx h2
 obtain⟨st1,e1,R1⟩:=s1;obtain⟨rows2,hr2⟩:∃x,x=(List.range rows.length).map fun i=>AV.fz (iL (chLine (SX.row S i) pl q sg S.d)):=⟨_,rfl⟩
 rw[<- hr2]at e1;have fz2:∀i x,rows2[i]?=some x->i<m/\x=.fz (iL (chLine (SX.row S i) pl q sg S.d)):=fun i x h=>by
  rw[hr2,zR]at h;obtain⟨j,h1,rfl⟩:=zE.mp h;have hl:=(zB.mp h1).1;rw[List.length_range]at hl;rw[List.getElem?_range hl]at h1;cases h1;exact⟨by lia,rfl⟩
 have l2:rows2.length=m:=by rw[hr2,zH,List.length_range,rl]
 have lt:∀{s:aa}{i:Nat}{x:NG},s[i]?=some x->i<s.length:=fun h=>(zB.mp h).1
 -- the new lines
 have R2:Rep ((st1++[NG.lst rows2]).set k (.ins "Sheet" (cV S.d st1.length b c g n u))) k st1.length b c g n u rows2 { S with ls:=S.ls.map fun l=>chLine l pl q sg S.d }:=by
  refine Rep.fields (S':={ S with ls:=S.ls.map fun l=>chLine l pl q sg S.d }) (R1.app (ys:=[NG.lst rows2])) gl rfl rfl rfl rfl rfl (by simp[l2,P.ls]) (fun i x h=>?_) (Nat.ne_of_gt (lt R1.hb)) (Nat.ne_of_gt (lt R1.hc)) fun i r h=>?_
  ·obtain⟨hi,rfl⟩:=fz2 i x h
   left;unfold SX.row;simp [zD,zF (show i < S.ls.length by rw [P.ls];exact hi)]
  ·have:=(fz2 i _ h).2;cases this
 obtain⟨t2,ht2⟩:∃x,x=(st1++[NG.lst rows2]).set k (.ins "Sheet" (cV S.d st1.length b c g n u)):=⟨_,rfl⟩;rw[<- ht2]at R2;obtain⟨a',ha'⟩:∃x,x=st1.length:=⟨_,rfl⟩;rw[<- ha']at R2 ht2;have R3:=Rep.rowset (p:=p) (x:=.ref t2.length) (l:=pl.map fun x=>- x) (R2.app (ys:=[NG.lst (iL (pl.map fun x=>- x))])) (.inr ⟨t2.length,rfl,.inl gl⟩) fun r e=>by cases e;exact⟨Nat.ne_of_gt (lt R2.ha),Nat.ne_of_gt (lt R2.hb),Nat.ne_of_gt (lt R2.hc)⟩
 obtain⟨t3,ht3⟩:∃x,x=(t2++[NG.lst (iL (pl.map fun x=>- x))]).set a' (.lst (rows2.set p (.ref t2.length))):=⟨_,rfl⟩;rw[<- ht3]at R3;have g3:t3[t2.length]?=some (.lst (iL (pl.map fun x=>- x))):=by rw[ht3,aq (zU (lt R2.ha))];exact gl
 have p3:(rows2.set p (.ref t2.length))[p]?=some (.ref t2.length):=by simp[l2,hp]
 have R4:=Rep.cellset (l:=(pl.map fun x=>- x).set q (sg*S.d)) R3 p3 fun i ne h=>by
  rw[yW,yG (fun z=>ne z.symm)]at h
  have:=(fz2 i _ h).2;cases this
 obtain⟨t4,ht4⟩:∃x,x=t3.set t2.length (.lst (iL ((pl.map fun x=>- x).set q (sg*S.d)))):=⟨_,rfl⟩;rw[<- ht4]at R4;have R5:=Rep.fields (S':={ d:=gI pl q,ls:=_,hd:=S.hd,sd:=S.sd,gd:=S.gd,nl:=S.nl,tn:=S.tn }) R4 R4.ha rfl rfl rfl rfl rfl R4.len R4.row R4.ab R4.ac R4.ra;obtain⟨t5,ht5⟩:∃x,x=t4.set k (.ins "Sheet" (cV (gI pl q) a' b c g n u)):=⟨_,rfl⟩;have R5:=ht5▸R5;have R6:=Rep.sides (sd':=S.sd.set p (S.h q)) R5;obtain⟨t6,ht6⟩:∃x,x=t5.set c (.lst (nL (S.sd.set p (S.h q)))):=⟨_,rfl⟩;rw[<- ht6]at R6;have R7:=Rep.heads (hd':=S.hd.set q (S.s p)) R6;obtain⟨t7,ht7⟩:∃x,x=t6.set b (.lst (nL (S.hd.set q (S.s p)))):=⟨_,rfl⟩;rw[<- ht7]at R7;refine⟨t7,a',rows2.set p (.ref t2.length),?_,?_⟩
 rotate_left
 ·have e:SX.NN S p q={ d:=gI pl q,ls:=((S.ls.map fun l=>chLine l pl q sg S.d).set p (pl.map fun x=>- x)).set p ((pl.map fun x=>- x).set q (sg*S.d)),hd:=S.hd.set q (S.s p),sd:=S.sd.set p (S.h q),gd:=S.gd,nl:=S.nl,tn:=S.tn }:=by
   unfold SX.NN;rw[List.set_set,hpl,hsg]
  rw[e];exact R7
 rw[aL,aD];unfold fC;refine ai (sl':=[Rs k,Is p,Is q,Is sg,none,none,none]) (st':=st) ?_ ?_
 ·by_cases h:S.t p q<0
  ·simp [R.ins,R.line P hp,R.cell P hp (show q < w + 1 by lia),h,hsg,sgn]
  ·simp [R.ins,R.line P hp,R.cell P hp (show q < w + 1 by lia),h,hsg,sgn]
 refine ai (sl':=[Rs k,Is p,Is q,Is sg,Ls pl,none,none]) (st':=st) ?_ ?_
 ·obtain⟨gd,i1,i2⟩:=(R.row p _ (R.rx P hp)).it
  simp [R.ins,R.line P hp,i1,bW (show (SX.row S p).length <= 1000 by rw [P.rl hp];lia)];rw [jY (F:=fun x=>sg * x) i2 fun x hx=>⟨_,rfl,rfl,by simp [cC (cW bs (B.row P hp x hx))]⟩];simp [hpl']
 refine ai (sl':=[Rs k,Is p,Is q,Is sg,Ls pl,Is S.d,none]) (st':=st) (by simp[R.ins]) ?_;refine ai (sl':=[Rs k,Is p,Is q,Is sg,Ls pl,Is S.d,none]) (st':=t2) ?_ ?_
 ·rw[im (v:=.ref a') (st':=st1++[.lst rows2]) (k:=k) (by simp[R.ins,oY R.ha,rl,bW hm,e1,ha']) (by simp) R1.app.ins rfl,zv,ht2]
 refine ai (sl':=[Rs k,Is p,Is q,Is sg,Ls pl,Is S.d,none]) (st':=t3) ?_ ?_
 ·simp [bW (show pl.length <= 1000 by lia)]
  rw [jY (F:=fun x=>- x) fN fun x hx=>⟨_,rfl,rfl,by simp⟩];simp [R2.app.ins,dg (R2.app (ys:=[NG.lst (iL (pl.map fun x=>- x))])).ha (show p < rows2.length by lia),ht3]
 have P4:NP w m { S with ls:=((S.ls.map fun l=>chLine l pl q sg S.d).set p (pl.map fun x=>- x)).set p ((pl.map fun x=>- x).set q (sg*S.d)) }:=by
  have:=SX.exch_shp (c:=q) P hp
  refine⟨by simp[P.ls],fun l hl=>this.row l ?_,P.hd,P.sd⟩;show l∈(S.ls.map fun l=>chLine l (pvl S p q) q (sgn (S.t p q)) S.d).set p _;rw[<- hpl,<- hsg];rw[List.set_set]at hl;exact hl
 have rx:kI (rows2.set p (.ref t2.length)) p=.ref t2.length:=by unfold kI;rw[zD,p3];rfl
 refine ai (sl':=[Rs k,Is p,Is q,Is sg,Ls pl,Is S.d,none]) (st':=t4) ?_ ?_
 ·have li:aZ t3 (.ref a') (.int (p:Int))=some (.ref t2.length):=by rw[cB (bB R3.ha),cb];exact p3
  simp [cC (cW bs B.1),R3.ins,li,dg g3 (show q < (iL (pl.map fun x=>- x)).length by simp;lia),eZ,ht4]
 refine ai (sl':=[Rs k,Is p,Is q,Is sg,Ls pl,Is S.d,none]) (st':=t5) ?_ ?_
 ·have xi:aZ t4 (.fz (iL pl)) (.int (q:Int))=some (.int (gI pl q)):=by rw[cB eJ,cb,bY oM]
  rw[im (v:=.int (gI pl q)) (st':=t4) (k:=k) (by simp[xi]) (by simp) R4.ins rfl,zw,ht5]
 have P5:NP w m { S with d:=gI pl q,ls:=((S.ls.map fun l=>chLine l pl q sg S.d).set p (pl.map fun x=>- x)).set p ((pl.map fun x=>- x).set q (sg*S.d)) }:=⟨P4.ls,P4.row,P4.hd,P4.sd⟩;refine ai (sl':=[Rs k,Is p,Is q,Is sg,Ls pl,Is S.d,Is (S.s p:Int)]) (st':=t5) ?_ ?_
 ·have:=R5.side P5 hp
  simp[R5.ins,this];rfl
 refine ai (sl':=[Rs k,Is p,Is q,Is sg,Ls pl,Is S.d,Is (S.s p:Int)]) (st':=t6) ?_ ?_
 ·have:=R5.head P5 hq
  simp [R5.ins,this,dg R5.hc (show p < (nL S.sd).length by simp [P.sd,hp]),ht6];rw [<- wV];rfl
 refine ai (sl':=[Rs k,Is p,Is q,Is sg,Ls pl,Is S.d,Is (S.s p:Int)]) (st':=t7) ?_ rfl;simp [R6.ins,dg R6.hb (show q < (nL S.hd).length by simp [P.hd,hq]),ht7,wV]
end
open SX (MI Rais NL Kept NN)
noncomputable def ins(l:List Nat)(q:Nat):List Nat:=if q∈l then l else l++[q]
section
variable{st:aa}{k a b c g n u w m:Nat}{rows:List AV}{S:Sh}{p q:Nat}
theorem uh(R:Rep st k a b c g n u rows S)(hl:S.gd.length<=1000):∃st',aN [.ref k,.int q] st=some (.non,st')/\Rep st' k a b c g n u rows { S with gd:=ins S.gd q }:=by
 refine⟨_,?_,R.guard⟩;simp[aN,aD,g8,R.ins,oX R.hg hl,ins]
theorem qU(R:Rep st k a b c g n u rows S)(hl:S.nl.length<=1000):∃st',dM [.ref k,.int q] st=some (.non,st')/\Rep st' k a b c g n u rows { S with nl:=ins S.nl q }:=by
 refine⟨_,?_,R.nail⟩;simp[dM,aD,iR,R.ins,oX R.hn hl,ins]
theorem DU(R:Rep st k a b c g n u rows S)(P:NP w m S)(hw:w<=100)(hp:p<m)(hl:S.tn.length<=1000):∃st' rows',cG [.ref k,.int p] st=some (.non,st')/\Rep st' k a b c g n u rows' (SX.trn S p):=by
 have R1:=Rep.rowset (p:=p) (x:=.fz (iL ((SX.row S p).map fun x=>- x))) (l:=(SX.row S p).map fun x=>- x) R (.inl rfl) fun r e=>nomatch e
 have R2:=Rep.turned (tn':=if S.s p∈S.tn then S.tn else S.tn++[S.s p]) R1;refine⟨_,_,?_,R2⟩;obtain⟨gd,i1,i2⟩:=(R.row p _ (R.rx P hp)).it;have P1:NP w m { S with ls:=S.ls.set p ((SX.row S p).map fun x=>- x) }:=⟨(SX.trn_shp P hp).ls,(SX.trn_shp P hp).row,P.hd,P.sd⟩;rw[cG,aD];unfold eY;refine ai (sl':=[Rs k,Is p]) (st':=st.set a (.lst (rows.set p (.fz (iL ((SX.row S p).map fun x=>- x)))))) ?_ ?_
 ·simp [R.ins,R.line P hp,i1,bW (show (SX.row S p).length <= 1000 by rw [P.rl hp];lia)]
  rw [jY (F:=fun x=>- x) i2 fun x hx=>⟨_,rfl,rfl,by simp⟩];simp [R.ins,dg R.ha (show p < rows.length by rw [R.len,P.ls];exact hp)]
 ·have:=R1.side P1 hp
  simp[R1.ins,this];rw[oX R1.hu hl];rfl
theorem Ie(R:Rep st k a b c g n u rows S)(P:NP w m S)(hw:w<=100)(hp:p<m):∃o:Option Nat,bQ [.ref k,.int p] st=some (oN o,st)/\(o=none->∀j,j<w->S.h j∉S.nl->S.t p j=0)/\∀q,o=some q->q<w/\S.h q∉S.nl/\S.t p q≠0:=by
 have ll:(bT S).length<=1000:=by
  unfold bT;rw[zH]
  have:=List.length_filter_le (fun z:Nat×Nat=>!decide (z.1∈S.nl)) S.hd.zipIdx
  rw[List.length_zipIdx,P.hd]at this;lia
 have inl:∀j,j∈(bT S).filter (fun j=>!decide (S.t p j=0)) ↔ (j<w/\S.h j∉S.nl)/\S.t p j≠0:=fun j=>by rw[List.mem_filter,iY P];simp
 have hm:∃o:Option Nat,Aj (((bT S).filter fun j=>!decide (S.t p j=0)).map fun j=>((j:Nat):Int))=oN o/\(o=none->(bT S).filter (fun j=>!decide (S.t p j=0))=[])/\∀q,o=some q->q∈(bT S).filter fun j=>!decide (S.t p j=0):=by
  generalize (bT S).filter (fun j=>!decide (S.t p j=0))=l;cases l with
  |nil=>exact⟨none,rfl,fun _=>rfl,fun q h=>nomatch h⟩
  |cons x l =>
   have h:=(DD.minF (l.map fun j=>((j:Nat):Int)) (x:Int)).1;rw[<- zO (f:=fun j:Nat=>((j:Nat):Int))]at h;obtain⟨y,hy,e⟩:=yC.mp h;refine⟨some y,?_,(fun z=>nomatch z),fun q z=>by cases z;exact hy⟩;show AV.int _=AV.int _;rw[e]
 obtain⟨o,ho,h1,h2⟩:=hm;refine⟨o,?_,fun e j hj hn=>Classical.byContradiction fun ht=>?_,fun q e=>?_⟩
 ·simp[bQ,aD,dH,R.ins,R.line P hp,tY R P hw,nL,bW ll]
  rw [gx (B:=fun j=>!decide (S.t p j=0)) (F:=fun j:Nat=>.int (j:Int)) fN fun j hj=>⟨_,rfl,by simp [R.cell P hp (show j < w + 1 by have:=(iY P).mp hj;lia)],fun _=>rfl⟩];have hf:rfs (((bT S).filter fun j=>!decide (S.t p j=0)).map fun j:Nat=>(AV.int (j:Int)))=true:=jV;have hi:=t8 (l:=(bT S).filter fun j=>!decide (S.t p j=0));unfold nL at hi;simp [hf,bN,nB,lsI,hi,ho]
 ·have hm:=(inl j).mpr ⟨⟨hj,hn⟩,ht⟩
  rw[h1 e]at hm;cases hm
 ·have:=(inl q).mp (h2 q e)
  exact⟨this.1.1,this.1.2,this.2⟩
end
section
variable{st:aa}{k a b c g n u w m:Nat}{rows:List AV}{S:Sh}{p:Nat}{v:Nat->Nat->Int}
structure Bnd(w m:Nat)(v:Nat->Nat->Int):Prop where
 ex:∃M:Nat,1<=M/\(∀q x,x<w+1->(v q x).natAbs<=M)/\SX.fct (w+1)*M^(w+1)<2^2500
 hw:w<=100
 hm:m<=1000
theorem Bnd.bd(H:Bnd w m v)(I:MI w m v S):Bd w m S:=by
 obtain⟨M,h1,h2,h3⟩:=H.ex;exact I.bound h1 h2 (Nat.lt_trans h3 (Nat.pow_lt_pow_right dC dC))
theorem Bnd.bd8(H:Bnd w m v)(I:MI w m v S):S.d.natAbs<2^8900/\∀i,i<m->∀j,j<w+1->(S.t i j).natAbs<2^8900:=by
 obtain⟨M,h1,h2,h3⟩:=H.ex;exact I.bound h1 h2 (Nat.lt_trans h3 (Nat.pow_lt_pow_right dC dC))
theorem Bnd.bd2(H:Bnd w m v)(I:MI w m v S):S.d.natAbs<2^2500/\∀i,i<m->∀j,j<w+1->(S.t i j).natAbs<2^2500:=by
 obtain⟨M,h1,h2,h3⟩:=H.ex;exact I.bound h1 h2 h3
def uy(w m:Nat)(v:Nat->Nat->Int)(k b c g n u p:Nat)(S0:Sh)(o:Out):Prop:=∃(S:Sh)(st':aa)(a':Nat)(rows':List AV),Rep st' k a' b c g n u rows' S/\Kept m p S0 S /\
 ((o=.rt (.bl true) st'/\MI w m v { S with gd:=S.gd++[S0.s p] }/\MI w m v { S with nl:=S.nl++[S0.s p] }) \/
  (o=.rt (.bl false) st'/\MI w m v S/\S.s p=S0.s p/\S.t p w<0/\∀j,j<w->S.h j∉S.nl->¬0<S.t p j) \/
  ∃sl,o=.nx sl st'/\MI w m v S/\S.s p=S0.s p/\0<=S0.t p w)
theorem xa(H:Bnd w m v)(R:Rep st k a b c g n u rows S0)(I:MI w m v S0)(hp:p<m)(ng:S0.s p∉S0.gd)(nn:S0.s p∉S0.nl) :
  ∃o,lZ (tv [aI,aH,aX,aL] (.cmp .Lt (.ix (.ix (.fd "Sheet" "lines" (.v 0)) (.v 1)) (.un .USub (.i 1))) (.i 0)))
   (af [aI,aH,aX,aL] (.cons (.as (.me "Sheet" "raising_column" 0 (.v 0) (.cons (.v 1) .nil)) (.nm 2))
    (.cons (.iff (.cmp .Is (.v 2) .n) (.cons (.rt (.b false)) .nil) .nil)
    (.cons (.as (.me "Sheet" "tightest_place" 1 (.v 0) (.cons (.v 2) .nil)) (.nm 3))
    (.cons (.iff (.or (.cmp .Is (.v 3) .n) (.va (.me "Sheet" "is_up_first" 2 (.v 0) (.cons (.v 1) (.cons (.v 3) (.cons (.v 2) .nil)))))) (.cons (.ex (.me "Sheet" "exchange" 3 (.v 0) (.cons (.v 1) (.cons (.v 2) .nil)))) (.cons (.rt (.b true)) .nil)) .nil)
    (.cons (.ex (.me "Sheet" "exchange" 3 (.v 0) (.cons (.v 3) (.cons (.v 2) .nil)))) .nil)))))) [Rs k,Is p,x,y] st=some o/\uy w m v k b c g n u p S0 o:=by
 refine tF (α:=Sh) (a0:=S0) (I:=fun S sl s=>(∃a' rows' x y,sl=[Rs k,Is p,x,y]/\Rep s k a' b c g n u rows' S)/\MI w m v S/\Kept m p S0 S/\S.s p=S0.s p/\(S0.t p w<0->S.t p w<0))
  (Q:=fun S T=>MI w m v S/\(∃r q e,SX.Bl w m p (·∈S.gd) (·∈S.nl) r q e (SX.toSt S) (SX.toSt T))/\Kept m p S T) (fun f h0 hf=>SX.no_chain hp f hf (by rw[h0];exact ng)) (fun S sl s hI=>?_) ⟨⟨a,rows,x,y,rfl,R⟩,I,Kept.refl,rfl,id⟩
 obtain⟨⟨a',rows',x,y,rfl,R⟩,I,K,sp,lw⟩:=hI;have B:=H.bd I;have P:=I.shp;have ng':S.s p∉S.gd:=by rw[sp,K.gd];exact ng
 have nn':S.s p∉S.nl:=by rw[sp,K.nl];exact nn
 have ht:tv [aI,aH,aX,aL] (.cmp .Lt (.ix (.ix (.fd "Sheet" "lines" (.v 0)) (.v 1)) (.un .USub (.i 1))) (.i 0)) [Rs k,Is p,x,y] s=some (decide (S.t p w<0),s):=by
  simp[R.ins,R.line P hp,R.last P hp]
 by_cases low:S.t p w<0
 ·rw[yV low]at ht
  obtain⟨o,e1,h1⟩:=qK R P H.hw hp;cases o with
  |none =>
   left;refine⟨_,qx (v:=.bl false) (st2:=s) ht ?_,S,s,a',rows',R,K,.inr (.inl ⟨rfl,I,sp,low,h1.1 rfl⟩)⟩;simp[R.ins,e1,oN]
  |some q =>
   obtain⟨q1,_,q3,_⟩:=h1.2 q rfl;obtain⟨o,e2,h2⟩:=tK R P B q1;have d0:S.d≠0:=by have:=I.lin.pos;lia
   have ay:(NL S w q m none\/∃r,NL S w q m (some r)/\S.t p w*S.t r q<=S.t r w*S.t p q)->o=none\/(∃r,o=some r/\S.t p w*S.t r q<=S.t r w*S.t p q)->∃o,db (tv [aI,aH,aX,aL] (.cmp .Lt (.ix (.ix (.fd "Sheet" "lines" (.v 0)) (.v 1)) (.un .USub (.i 1))) (.i 0)))
     (af [aI,aH,aX,aL] (.cons (.as (.me "Sheet" "raising_column" 0 (.v 0) (.cons (.v 1) .nil)) (.nm 2))
    (.cons (.iff (.cmp .Is (.v 2) .n) (.cons (.rt (.b false)) .nil) .nil)
    (.cons (.as (.me "Sheet" "tightest_place" 1 (.v 0) (.cons (.v 2) .nil)) (.nm 3))
    (.cons (.iff (.or (.cmp .Is (.v 3) .n) (.va (.me "Sheet" "is_up_first" 2 (.v 0) (.cons (.v 1) (.cons (.v 3) (.cons (.v 2) .nil)))))) (.cons (.ex (.me "Sheet" "exchange" 3 (.v 0) (.cons (.v 1) (.cons (.v 2) .nil)))) (.cons (.rt (.b true)) .nil)) .nil)
    (.cons (.ex (.me "Sheet" "exchange" 3 (.v 0) (.cons (.v 3) (.cons (.v 2) .nil)))) .nil)))))) 1 [Rs k,Is p,x,y] s=some o/\uy w m v k b c g n u p S0 o:=fun hT ho=>by
    obtain⟨st',a2,rows2,e3,R2⟩:=oh R P B d0 H.hw H.hm hp q1;obtain⟨m1,m2,m3⟩:=I.up hp ng' nn' low h1 hT;refine⟨_,qx (v:=.bl true) (st2:=st') ht ?_,NN S p q,st',a2,rows2,R2,K.trans m3,.inl ⟨rfl,by rw[<- sp];exact m1,by rw[<- sp];exact m2⟩⟩;rcases ho with rfl|⟨r,rfl,hu⟩
    ·simp[R.ins,e1,oN,e2,e3]
    ·have:=A2 R P B hp (h2.2 r rfl).1 q1
     simp[R.ins,e1,oN,e2,e3,this,eQ,bL,dr,hu]
   cases o with
   |none=>exact .inl (ay (.inl h2) (.inl rfl))
   |some r =>
    by_cases hu:S.t p w*S.t r q<=S.t r w*S.t p q
    ·exact .inl (ay (.inr ⟨r,h2,hu⟩) (.inr ⟨r,rfl,hu⟩))
    ·right
     have r1:=(h2.2 r rfl).1;obtain⟨st',a2,rows2,e3,R2⟩:=oh R P B d0 H.hw H.hm r1 q1;obtain⟨m1,m2,m3,m4⟩:=I.step hp ng' h1 h2;refine⟨NN S r q,[Rs k,Is p,Is q,Is r],st',⟨I,⟨r,q,_,m2⟩,m3⟩,⟨⟨a2,rows2,_,_,rfl,R2⟩,m1,K.trans m3,m4.trans sp,fun _=>I.low hp ng' h1 h2 hu⟩,fun n o h=>oJ ht ?_ h⟩
     have:=A2 R P B hp r1 q1
     simp[R.ins,e1,oN,e2,e3,this,eQ,bL,dr,hu]
 ·rw[z9 low]at ht
  left;exact⟨_,lm ht,S,s,a',rows',R,K,.inr (.inr ⟨_,rfl,I,sp,by
   rcases yU (S0.t p w) 0 with z|z
   ·exact absurd (lw z) low
   ·exact z⟩)⟩
end
section
variable{st:aa}{k a b c g n u w m:Nat}{rows:List AV}{S:Sh}{p:Nat}{v:Nat->Nat->Int}
theorem w6(H:Bnd w m v)(R:Rep st k a b c g n u rows S0)(I:MI w m v S0)(hp:p<m)(ng:S0.s p∉S0.gd)(nn:S0.s p∉S0.nl) :
  ∃(S:Sh)(st':aa)(a':Nat)(rows':List AV)(bb:Bool),cE [.ref k,.int p] st=some (.bl bb,st')/\Rep st' k a' b c g n u rows' S/\Kept m p S0 S /\
   ((bb=true/\MI w m v { S with gd:=S.gd++[S0.s p] }/\(S0.t p w<0->MI w m v { S with nl:=S.nl++[S0.s p] })) \/
    (bb=false/\MI w m v S/\S.s p=S0.s p/\S.t p w<0/\∀j,j<w->S.h j∉S.nl->¬0<S.t p j)):=by
 by_cases low:S0.t p w<0
 ·obtain⟨o,e,S,st',a',rows',R',K,h⟩:=xa H R I hp ng nn (x:=none) (y:=none)
  rcases h with⟨rfl,h1,h2⟩|⟨rfl,h1,h2,h3,h4⟩|⟨sl,rfl,h1,h2,h3⟩
  ·refine⟨S,st',a',rows',true,?_,R',K,.inl ⟨rfl,h1,fun _=>h2⟩⟩
   simp[cE,aD,eF,e]
  ·refine⟨S,st',a',rows',false,?_,R',K,.inr ⟨rfl,h1,h2,h3,h4⟩⟩
   simp[cE,aD,eF,e]
  ·lia
 ·refine⟨S0,st,a,rows,true,?_,R,Kept.refl,.inl ⟨rfl,I.guard hp oM,fun z=>absurd z low⟩⟩
  have P:=I.shp;rw[cE,aD];unfold eF;refine ai (sl':=[Rs k,Is p,none,none]) (st':=st) (m9 (n:=1) (lm (by simp[R.ins,R.line P hp,R.last P hp,low]))) ?_;simp
theorem Dz(H:Bnd w m v)(R:Rep st k a b c g n u rows S0)(I:MI w m v S0)(hp:p<m)(ng:S0.s p∉S0.gd) :
  ∃r,bG [.ref k,.int p] st=some r/\∃(S:Sh)(a':Nat)(rows':List AV),Rep r.2 k a' b c g n u rows' S/\Kept m p S0 S/\MI w m v S/\S.s p=S0.s p /\
   ((r.1=.non/\Rais w S p none)\/∃q,r.1=.int ((q:Nat):Int)/\Rais w S p (some q)/\NL S w q m none):=by
 rw[bG];simp only[aD];unfold fD;obtain⟨o,e1,h1⟩:=qK R I.shp H.hw hp;refine ag (sl':=[Rs k,Is p,some (oN o),none]) (st':=st) (by simp[R.ins,e1]) ?_;refine EB (Post:=fun out=>∃(S:Sh)(a':Nat)(rows':List AV)(st':aa),Rep st' k a' b c g n u rows' S/\Kept m p S0 S/\MI w m v S/\S.s p=S0.s p /\
   ((∃sl,out=.nx sl st'/\Rais w S p none)\/∃q,out=.rt (.int ((q:Nat):Int)) st'/\Rais w S p (some q)/\NL S w q m none))
  (tF (α:=Sh) (a0:=S0) (I:=fun S sl s=>(∃a' rows' x o,sl=[Rs k,Is p,some (oN o),x]/\Rep s k a' b c g n u rows' S/\Rais w S p o)/\MI w m v S/\Kept m p S0 S/\S.s p=S0.s p)
   (Q:=fun S T=>MI w m v S/\(∃r q e,SX.Bl w m p (·∈S.gd) (·∈S.nl) r q e (SX.toSt S) (SX.toSt T))/\Kept m p S T) (fun f h0 hf=>SX.no_chain hp f hf (by rw[h0];exact ng)) (fun S sl s hI=>?_) ⟨⟨a,rows,none,o,rfl,R,h1⟩,I,Kept.refl,rfl⟩) ?_
 ·obtain⟨⟨a',rows',x,o,rfl,R,h1⟩,I,K,sp⟩:=hI
  have B:=H.bd I;have P:=I.shp;have ng':S.s p∉S.gd:=by rw[sp,K.gd];exact ng
  cases o with
  |none =>
   left;exact⟨_,lm (st':=s) (by simp[oN]),S,a',rows',s,R,K,I,sp,.inl ⟨_,rfl,h1⟩⟩
  |some q =>
   obtain⟨q1,_,q3,_⟩:=h1.2 q rfl;obtain⟨o,e2,h2⟩:=tK R P B q1;cases o with
   |none =>
    left;refine⟨_,qx (v:=.int q) (st':=s) (st2:=s) (by simp[oN]) ?_,S,a',rows',s,R,K,I,sp,.inr ⟨q,rfl,h1,h2⟩⟩;simp[R.ins,oN,e2]
   |some r =>
    right;have d0:S.d≠0:=by have:=I.lin.pos;lia
    have r1:=(h2.2 r rfl).1;obtain⟨st',a2,rows2,e3,R2⟩:=oh R P B d0 H.hw H.hm r1 q1;obtain⟨m1,m2,m3,m4⟩:=I.step hp ng' h1 h2;obtain⟨o,e4,h4⟩:=qK R2 m1.shp H.hw hp;refine⟨NN S r q,[Rs k,Is p,some (oN o),Is r],st',⟨I,⟨r,q,_,m2⟩,m3⟩,⟨⟨a2,rows2,_,o,rfl,R2,h4⟩,m1,K.trans m3,m4.trans sp⟩,fun n o' h=>oJ (st':=s) (by simp[oN]) ?_ h⟩;simp[R.ins,oN,e2,e3,R2.ins,e4]
 ·rintro out ⟨S,a',rows',st',R',K,I',sp,⟨sl,rfl,h⟩|⟨q,rfl,h⟩⟩
  ·exact⟨(.non,st'),by simp,S,a',rows',R',K,I',sp,.inl ⟨rfl,h⟩⟩
  ·exact⟨(.int q,st'),by simp,S,a',rows',R',K,I',sp,.inr ⟨q,rfl,h⟩⟩
end
structure Kj(m p:Nat)(S T:Sh):Prop where
 tn:T.tn=S.tn\/T.tn=S.tn++[S.s p]
 si:∀i,i<m->i≠p->S.s i∉S.gd->T.s i=S.s i
section
variable{st:aa}{k a b c g n u w m:Nat}{rows:List AV}{S:Sh}{p:Nat}{v:Nat->Nat->Int}
theorem Ir(H:Bnd w m v)(R:Rep st k a b c g n u rows S0)(I:MI w m v S0)(hp:p<m)(ng:S0.s p∉S0.gd)(nn:S0.s p∉S0.nl)(hl:S0.gd.length<=1000) :
  ∃(S:Sh)(st':aa)(a':Nat)(rows':List AV)(bb:Bool),bI [.ref k,.int p] st=some (.bl bb,st')/\Rep st' k a' b c g n u rows' S/\Kj m p S0 S/\S.tn=S0.tn/\S.nl=S0.nl/\MI w m v S /\
   ((bb=true/\S.gd=S0.gd++[S0.s p])\/(bb=false/\S.gd=S0.gd/\S.s p=S0.s p/\S.t p w<0/\∀j,j<w->S.h j∉S.nl->¬0<S.t p j)):=by
 have P:=I.shp;obtain⟨S,st1,a1,rows1,bb,e1,R1,K,h⟩:=w6 H R I hp ng nn;rcases h with⟨rfl,h1,_⟩|⟨rfl,h1,h2⟩
 ·obtain⟨st2,e2,R2⟩:=uh (q:=S0.s p) R1 (by rw[K.gd];exact hl)
  have ei:ins S.gd (S0.s p)=S.gd++[S0.s p]:=yG (by rw[K.gd];exact ng);rw[ei]at R2;refine⟨{ S with gd:=S.gd++[S0.s p] },st2,a1,rows1,true,?_,R2,⟨.inl K.tn,K.si⟩,K.tn,K.nl,h1,.inl ⟨rfl,by rw[K.gd]⟩⟩;simp[bI,aD,eL,R.ins,R.side P hp,e1,eQ,bL,dr,R1.ins,e2]
 ·refine⟨S,st1,a1,rows1,false,?_,R1,⟨.inl K.tn,K.si⟩,K.tn,K.nl,h1,.inr ⟨rfl,K.gd,h2⟩⟩
  simp[bI,aD,eL,R.ins,R.side P hp,e1,eQ,bL,dr]
theorem Iu(H:Bnd w m v)(R:Rep st k a b c g n u rows S0)(I:MI w m v S0)(hp:p<m)(ng:S0.s p∉S0.gd)(nn:S0.s p∉S0.nl)(nt:S0.s p∉S0.tn)(hl:S0.nl.length<=1000)(hl2:S0.tn.length<=1000) :
  ∃(S:Sh)(st':aa)(a':Nat)(rows':List AV)(bb:Bool),cA [.ref k,.int p] st=some (.bl bb,st')/\Rep st' k a' b c g n u rows' S/\Kj m p S0 S/\S.gd=S0.gd/\MI w m v S /\
   ((bb=true/\S.nl=S0.nl++[S0.s p])\/(bb=false/\S.nl=S0.nl/\S.s p=S0.s p/\S.t p w<0/\∀j,j<w->S.h j∉S.nl->¬0<S.t p j)):=by
 have P:=I.shp
 -- turned about,if need be
 have s1:∃(S1:Sh)(st1:aa)(rows1:List AV),ci [cG,cE,bQ,aL,dM] (.iff (.cmp .Gt (.ix (.ix (.fd "Sheet" "lines" (.v 0)) (.v 1)) (.un .USub (.i 1))) (.i 0)) (.cons (.ex (.me "Sheet" "turn_line" 0 (.v 0) (.cons (.v 1) .nil))) .nil) .nil) [Rs k,Is p,Is (S0.s p:Int),none] st=some (.nx [Rs k,Is p,Is (S0.s p:Int),none] st1) /\
   Rep st1 k a b c g n u rows1 S1/\MI w m v S1/\S1.gd=S0.gd/\S1.nl=S0.nl/\(S1.tn=S0.tn\/S1.tn=S0.tn++[S0.s p])/\S1.sd=S0.sd/\S1.t p w<=0:=by
  by_cases h:0<S0.t p w
  ·obtain⟨st1,rows1,e1,R1⟩:=DU R P H.hw hp hl2
   refine⟨SX.trn S0 p,st1,rows1,?_,R1,I.turn hp ng nn nt,rfl,rfl,.inr (yG nt),rfl,?_⟩
   ·simp[R.ins,R.line P hp,R.last P hp,h,e1]
   ·rw[(SX.trn_t P hp).1 w oM];lia
  ·refine⟨S0,st,rows,?_,R,I,rfl,rfl,.inl rfl,rfl,by lia⟩
   simp[R.ins,R.line P hp,R.last P hp,h]
 obtain⟨S1,st1,rows1,e1,R1,I1,g1,n1,t1,d1,low1⟩:=s1;have ss:∀i,S1.s i=S0.s i:=fun i=>by show S1.sd.getD i 0=S0.sd.getD i 0;rw[d1]
 have P1:=I1.shp;have nn1:S1.s p∉S1.nl:=by rw[ss,n1];exact nn
 have ng1:S1.s p∉S1.gd:=by rw[ss,g1];exact ng
 have kj:∀T:Sh,Kept m p S1 T->Kj m p S0 T:=fun T K=>⟨by rw[K.tn];exact t1,fun i hi ne h=>by rw[K.si i hi ne (by rw[ss,g1];exact h),ss]⟩
 have hd:∀{r:AV×aa},(af [cG,cE,bQ,aL,dM] (.cons (.iff (.cmp .Lt (.ix (.ix (.fd "Sheet" "lines" (.v 0)) (.v 1)) (.un .USub (.i 1))) (.i 0)) (.cons (.iff (.no (.va (.me "Sheet" "lift" 1 (.v 0) (.cons (.v 1) .nil)))) (.cons (.rt (.b false)) .nil) .nil) .nil)
   (.cons (.as (.me "Sheet" "moving_column" 2 (.v 0) (.cons (.v 1) .nil)) (.nm 3)) (.cons (.iff (.cmp .IsNot (.v 3) .n) (.cons (.ex (.me "Sheet" "exchange" 3 (.v 0) (.cons (.v 1) (.cons (.v 3) .nil)))) .nil) .nil) .nil)))
   (.cons (.ex (.me "Sheet" "nail" 4 (.v 0) (.cons (.v 2) .nil))) (.cons (.rt (.b true)) .nil))) [Rs k,Is p,Is (S0.s p:Int),none] st1).bind ay=some r->cA [.ref k,.int p] st=some r:=fun h=>by
  rw[cA,aD];unfold jy;exact ai (sl':=[Rs k,Is p,Is (S0.s p:Int),none]) (st':=st) (by simp[R.ins,R.side P hp]) (ai e1 h)
 by_cases low:S1.t p w<0
 ·obtain⟨S,st2,a2,rows2,bb,e2,R2,K,h⟩:=w6 H R1 I1 hp ng1 nn1
  rcases h with⟨rfl,h1,h2⟩|⟨rfl,h1,h2⟩
  ·obtain⟨st3,e3,R3⟩:=qU (q:=S0.s p) R2 (by rw[K.nl,n1];exact hl)
   have ei:ins S.nl (S0.s p)=S.nl++[S0.s p]:=yG (by rw[K.nl,n1];exact nn);rw[ei]at R3;have h2:=h2 low;rw[ss]at h2;refine⟨{ S with nl:=S.nl++[S0.s p] },st3,a2,rows2,true,hd ?_,R3,⟨(kj S K).tn,(kj S K).si⟩,K.gd.trans g1,h2,.inl ⟨rfl,by rw[K.nl,n1]⟩⟩;simp[R1.ins,R1.line P1 hp,R1.last P1 hp,low,e2,eQ,bL,dr,R2.ins,e3]
  ·refine⟨S,st2,a2,rows2,false,hd ?_,R2,kj S K,K.gd.trans g1,h1,.inr ⟨rfl,K.nl.trans n1,h2.1.trans (ss p),h2.2⟩⟩
   simp[R1.ins,R1.line P1 hp,R1.last P1 hp,low,e2,eQ,bL,dr]
 ·have z0:S1.t p w=0:=by lia
  obtain⟨o,e2,h1,h2⟩:=Ie R1 P1 H.hw hp;cases o with
  |none =>
   obtain⟨st3,e3,R3⟩:=qU (q:=S0.s p) R1 (by rw[n1];exact hl);have ei:ins S1.nl (S0.s p)=S1.nl++[S0.s p]:=yG (by rw[n1];exact nn);rw[ei]at R3;have m1:=I1.nail hp z0 (h1 rfl);rw[ss]at m1;refine⟨{ S1 with nl:=S1.nl++[S0.s p] },st3,a,rows1,true,hd ?_,R3,⟨(kj S1 Kept.refl).tn,(kj S1 Kept.refl).si⟩,g1,m1,.inl ⟨rfl,by rw[n1]⟩⟩;simp[R1.ins,R1.line P1 hp,R1.last P1 hp,z0,e2,oN,e3]
  |some q =>
   obtain⟨q1,q2,q3⟩:=h2 q rfl;have d0:S1.d≠0:=by have:=I1.lin.pos;lia
   obtain⟨st2,a2,rows2,e4,R2⟩:=oh R1 P1 (H.bd I1) d0 H.hw H.hm hp q1;obtain⟨st3,e3,R3⟩:=qU (q:=S0.s p) R2 (by show S1.nl.length<=1000;rw[n1];exact hl);have ei:ins (NN S1 p q).nl (S0.s p)=S1.nl++[S0.s p]:=yG (by show S0.s p∉S1.nl;rw[n1];exact nn);rw[ei]at R3;obtain⟨m1,K⟩:=I1.move hp q1 q2 z0 q3;rw[ss]at m1;refine⟨{ NN S1 p q with nl:=S1.nl++[S0.s p] },st3,a2,rows2,true,hd ?_,R3,⟨(kj _ K).tn,(kj _ K).si⟩,g1,m1,.inl ⟨rfl,by rw[n1]⟩⟩;simp[R1.ins,R1.line P1 hp,R1.last P1 hp,z0,e2,oN,e4,R2.ins,e3]
end
open SX (openS)
structure Gv where
 row:List Int
 eq:Bool
 num:Int
def Gv.av(x:Gv):AV:=.tup [.fz (iL x.row),.str (if x.eq then "=" else ">"),.int x.num]
def au(RR:List (List Int))(gv:List Gv)(goal:List Int):List (List Int):=RR.map (·++[0])++gv.map (fun x=>x.row++[-x.num])++[goal.map (fun x=>- x)++[0]]
section
variable{w:Nat}{L RR:List (List Int)}{gv:List Gv}{goal:List Int}
abbrev pR:List (Str×AV):=[("below",.int 1)]
abbrev GJ:List (Str×AV):=[("below",.int 1),("lines",.ref 2)]
abbrev GI:List (Str×AV):=[("below",.int 1),("lines",.ref 2),("heads",.ref 3)]
abbrev GH:List (Str×AV):=[("below",.int 1),("lines",.ref 2),("heads",.ref 3),("sides",.ref 4)]
abbrev GG:List (Str×AV):=[("below",.int 1),("lines",.ref 2),("heads",.ref 3),("sides",.ref 4),("guarded",.ref 5)]
abbrev GE:List (Str×AV):=[("below",.int 1),("lines",.ref 2),("heads",.ref 3),("sides",.ref 4),("guarded",.ref 5),("nailed",.ref 6)]
abbrev LN(w:Nat)(L:List (List Int)):aa:=[.lst (aE L),.ins "Sheet" (cV 1 2 3 4 5 6 7),.lst (aE L),.lst (nL (List.range w)),.lst (nL ((List.range L.length).map (w+·))),.dK [],.dK [],.dK []]
theorem Gi(hw:w<=100)(hL:L.length<=400):aF [.ref 1,.int w,.ref 0] [.lst (aE L),.ins "Sheet" []]=some (.non,[.lst (aE L),.ins "Sheet" (cV 1 2 3 4 5 6 7),.lst (aE L),.lst (nL (List.range w)),.lst (nL ((List.range L.length).map (w+·))),.dK [],.dK [],.dK []]):=by
 have sm:lW (w:Int)=true:=by unfold lW;simp;lia
 have sm2:lW ((w:Int)+(L.length:Int))=true:=by unfold lW;simp;lia
 have l0:∀X:aa,bL (.lst (aE L)::X) (.ref 0)=some (aE L):=fun X=>bB rfl
 rw[aF,aD];unfold fE;refine ai (st':=[.lst (aE L),.ins "Sheet" pR]) (im (v:=.int 1) (st':=[.lst (aE L),.ins "Sheet" []]) (k:=1) (fs:=[]) rfl rfl rfl rfl) ?_;refine ai (st':=[.lst (aE L),.ins "Sheet" GJ,.lst (aE L)]) (im (v:=.ref 2) (st':=[.lst (aE L),.ins "Sheet" pR,.lst (aE L)]) (k:=1) (fs:=pR) ?_ rfl rfl rfl) ?_
 ·have e:=vA (gd:=[(0,.lst (aE L))]) (g:=cj [] (.nm 3)) (t:=jd [] .no) (f:=ev [] (.nw false (.lof (.v 3)))) (sl:=[Rs 1,Is w,Rs 0,none]) (st:=[.lst (aE L),.ins "Sheet" pR]) (em:=fun l=>.fz (iL l)) (F:=fun l=>l) (xs:=L) (gy rfl) fun l hl=>⟨_,rfl,rfl,by simp[mP]⟩
  rw [List.map_id'] at e;have e':gM [(0,.lst (aE L))] (cj [] (.nm 3)) (jd [] .no) (ev [] (.nw false (.lof (.v 3)))) [Rs 1,Is w,Rs 0,none] (aE L) [.lst (aE L),.ins "Sheet" pR]=some (aE L,[.lst (aE L),.ins "Sheet" pR]):=e;have i0:nO [.lst (aE L),.ins "Sheet" pR] (.ref 0)=some ⟨aE L,[(0,.lst (aE L))]⟩:=oY rfl;show ev [] (.nw true (.lc 1 (.e (.v 2)) (.nm 3) .no (.nw false (.lof (.v 3))))) [Rs 1,Is w,Rs 0] [.lst (aE L),.ins "Sheet" pR]=_;simp [-aE,i0,bW (show L.length <= 1000 by lia),e']
 refine ai (st':=[.lst (aE L),.ins "Sheet" GI,.lst (aE L),.lst (nL (List.range w))]) (im (v:=.ref 3) (st':=[.lst (aE L),.ins "Sheet" GJ,.lst (aE L),.lst (nL (List.range w))]) (k:=1) (fs:=GJ) ?_ rfl rfl rfl) ?_
 ·simp[oU,sm,lA]
 refine ai (st':=[.lst (aE L),.ins "Sheet" GH,.lst (aE L),.lst (nL (List.range w)),.lst (nL ((List.range L.length).map (w+·)))]) (im (v:=.ref 4) (st':=[.lst (aE L),.ins "Sheet" GI,.lst (aE L),.lst (nL (List.range w)),.lst (nL ((List.range L.length).map (w+·)))]) (k:=1) (fs:=GI) ?_ rfl rfl rfl) ?_
 ·simp[vk,sm,sm2,bN,de,l0]
  have e:((w:Int)+(L.length:Int)).toNat-w=L.length:=by lia
  rw[e,Hu,yH oM];simp
 refine ai (st':=[.lst (aE L),.ins "Sheet" GG,.lst (aE L),.lst (nL (List.range w)),.lst (nL ((List.range L.length).map (w+·))),.dK []]) (im (v:=.ref 5) (st':=[.lst (aE L),.ins "Sheet" GH,.lst (aE L),.lst (nL (List.range w)),.lst (nL ((List.range L.length).map (w+·))),.dK []]) (k:=1) (fs:=GH) rfl rfl rfl rfl) ?_;refine ai (st':=[.lst (aE L),.ins "Sheet" GE,.lst (aE L),.lst (nL (List.range w)),.lst (nL ((List.range L.length).map (w+·))),.dK [],.dK []]) (im (v:=.ref 6) (st':=[.lst (aE L),.ins "Sheet" GG,.lst (aE L),.lst (nL (List.range w)),.lst (nL ((List.range L.length).map (w+·))),.dK [],.dK []]) (k:=1) (fs:=GG) rfl rfl rfl rfl) ?_;refine ai (st':=[.lst (aE L),.ins "Sheet" (cV 1 2 3 4 5 6 7),.lst (aE L),.lst (nL (List.range w)),.lst (nL ((List.range L.length).map (w+·))),.dK [],.dK [],.dK []]) (im (v:=.ref 7) (st':=[.lst (aE L),.ins "Sheet" GE,.lst (aE L),.lst (nL (List.range w)),.lst (nL ((List.range L.length).map (w+·))),.dK [],.dK [],.dK []]) (k:=1) (fs:=GE) rfl rfl rfl rfl) ?_;rfl
theorem IV{k:Nat}(h1:ev ks a sl st=some (.ref k,st))(h2:ev ks e sl st=some (y,st))(h3:st[k]?=some (.lst xs))(h4:bL st y=some ys)(hl:xs.length+ys.length<=1000):ev ks (.mt .ext a (.cons e .nil)) sl st=some (.non,st.set k (.lst (xs++ys))):=by
 simp[kB,nE,nD,h1,mY,bB h3,h2,vw,fe,h3,h4,bW hl]
theorem Jw{k:Nat}(h1:ev ks a sl st=some (.ref k,st))(h2:ev ks e sl st=some (y,st))(h3:st[k]?=some (.lst xs))(hl:xs.length<=1000):ev ks (.mt .app a (.cons e .nil)) sl st=some (.non,st.set k (.lst (xs++[y]))):=by
 simp[kB,nE,nD,h1,mY,bB h3,h2,oW,fe,h3,bW hl]
theorem FC{n:Int}(HR:∀st,pm aO [.int n] st=some (.fz (aE RR),st))(HA:∀st,pm ak [.int n] st=some (.int w,st))(hw:w<=15)(hR:RR.length<=100)(hr:∀l∈RR,l.length=w)(hg:gv.length<=100)(hgr:∀x∈gv,x.row.length=w)(hgo:goal.length=w) :
  ∃st',bM [.int n,.fz (gv.map Gv.av),.fz (iL goal)] []=some (.ref 1,st')/\Rep st' 1 2 3 4 5 6 7 (aE (au RR gv goal)) (openS w (au RR gv goal) (w+RR.length)):=by
 have hL:(au RR gv goal).length=RR.length+gv.length+1:=by simp[au];lia
 -- the loop that guards
 have R0:Rep [.lst (aE (au RR gv goal)),.ins "Sheet" (cV 1 2 3 4 5 6 7),.lst (aE (au RR gv goal)),.lst (nL (List.range w)),.lst (nL ((List.range (au RR gv goal).length).map (w+·))),.dK [],.dK [],.dK []] 1 2 3 4 5 6 7 (aE (au RR gv goal)) (openS w (au RR gv goal) 0):=by
  refine⟨rfl,rfl,rfl,rfl,rfl,rfl,rfl,by simp[openS],fun i x h=>.inl ?_,by decide,by decide,by decide,by decide,by decide,by decide,fun i r h=>?_⟩
  ·unfold aE at h
   rw[zR]at h;obtain⟨l,h1,rfl⟩:=zE.mp h;show _=AV.fz (iL ((au RR gv goal).getD i []));rw[zD,h1];rfl
  ·unfold aE at h
   rw[zR]at h;obtain⟨l,h1,h2⟩:=zE.mp h;cases h2
 obtain⟨sl',st',e,x,rfl,R'⟩:=eK (gd:=[]) (g:=cj [aO,ak,aF,aN] (.nm 6)) (s:=af [aO,ak,aF,aN] (.cons (.ex (.me "Sheet" "guard" 3 (.v 5) (.cons (.v 6) .nil))) .nil))
  (I:=fun i sl s=>∃x,sl=[Is n,Zs (gv.map Gv.av),Ls goal,Rs 0,Is ((w:Int)+(RR.length:Int)),Rs 1,x]/\Rep s 1 2 3 4 5 6 7 (aE (au RR gv goal)) (openS w (au RR gv goal) i)) (xs:=dj 0 (w+RR.length)) (fun _ _ _ _ _=>rfl)
  (fun i y sl s hy hI=>by
   obtain⟨x,rfl,R⟩:=hI;rw[lA]at hy;have hi:i<w+RR.length:=by have:=(zB.mp hy).1;simpa using this
   have ey:y=.int ((i:Nat):Int):=by
    rw[iA (by simpa using hi)]at hy;injection hy with hy;rw[<- hy];simp[zD,hi]
   subst ey;obtain⟨s',e1,R1⟩:=uh (q:=i) R (by simp[openS];lia);refine⟨_,[Is n,Zs (gv.map Gv.av),Ls goal,Rs 0,Is ((w:Int)+(RR.length:Int)),Rs 1,Is ((i:Nat):Int)],s',rfl,?_,_,rfl,?_⟩
   ·simp[R.ins,e1]
   ·have:ins (List.range i) i=List.range (i+1):=by unfold ins;rw[yG (by simp),List.range_succ]
    have h2:{ openS w (au RR gv goal) i with gd:=ins (openS w (au RR gv goal) i).gd i }=openS w (au RR gv goal) (i+1):=by show Sh.mk _ _ _ _ (ins (List.range i) i) _ _=_;rw[this];rfl
    rw[h2]at R1;exact R1) (sl:=[Is n,Zs (gv.map Gv.av),Ls goal,Rs 0,Is ((w:Int)+(RR.length:Int)),Rs 1,none]) (st:=_) ⟨none,rfl,R0⟩
 have ll:(dj 0 (w+RR.length)).length=w+RR.length:=by rw[lA];simp
 rw[ll]at R';refine⟨st',?_,R'⟩;rw[bM,aD];unfold f9;refine ai (sl':=[Is n,Zs (gv.map Gv.av),Ls goal,Rs 0,none,none,none]) (st':=[.lst (aE (RR.map (·++[0])))]) ?_ ?_
 ·have lc:=vA (gd:=[]) (g:=cj [aO,ak,aF,aN] (.nm 7)) (t:=jd [aO,ak,aF,aN] .no) (f:=ev [aO,ak,aF,aN] (.nw false (.cat (.v 7) (.nw false (.li (.cons (.i 0) .nil))))))
   (sl:=[Is n,Zs (gv.map Gv.av),Ls goal,none,none,none,none,none]) (st:=[]) (em:=fun l=>.fz (iL l)) (F:=fun l=>l++[0]) (xs:=RR) rfl fun l hl=>⟨_,rfl,rfl,by
    rw[gZ,jQ (l:=l) (l':=[0]) (s1:=[]) (s2:=[]) (y:=.fz (iL [0])) rfl (by simp[cK,iL]) rfl rfl (by rw[hr l hl];simp;lia)];simp⟩
  have lc':gM [] (cj [aO,ak,aF,aN] (.nm 7)) (jd [aO,ak,aF,aN] .no) (ev [aO,ak,aF,aN] (.nw false (.cat (.v 7) (.nw false (.li (.cons (.i 0) .nil)))))) [Is n,Zs (gv.map Gv.av),Ls goal,none,none,none,none,none] (aE RR) []=some (aE (RR.map (·++[0])),[]):=lc;simp [HR,bW (show RR.length <= 1000 by lia),lc']
 have l0:∀(x:List AV)(X:aa),bL (.lst x::X) (.ref 0)=some x:=fun x X=>bB rfl
 refine ai (sl':=[Is n,Zs (gv.map Gv.av),Ls goal,Rs 0,Is ((w:Int)+(RR.length:Int)),none,none]) (st':=[.lst (aE (RR.map (·++[0])))]) (by simp[HA,bN,de,l0]) ?_;refine ai (sl':=[Is n,Zs (gv.map Gv.av),Ls goal,Rs 0,Is ((w:Int)+(RR.length:Int)),none,none]) (st':=[.lst (aE (RR.map (·++[0]))++aE (gv.map fun x=>x.row++[-x.num]))]) ?_ ?_
 ·rw[Ez,IV (k:=0) (xs:=aE (RR.map (·++[0]))) (ys:=aE (gv.map fun x=>x.row++[-x.num])) (y:=.fz (aE (gv.map fun x=>x.row++[-x.num]))) rfl ?_ rfl rfl (by simp;lia)]
  ·rfl
  ·have lc:=vA (gd:=[]) (g:=cj [aO,ak,aF,aN] (.tu 3 (.cons (.nm 7) (.cons (.nm 8) (.cons (.nm 9) .nil))))) (t:=jd [aO,ak,aF,aN] .no) (f:=ev [aO,ak,aF,aN] (.nw false (.cat (.nw false (.lof (.v 7))) (.nw false (.li (.cons (.un .USub (.v 9)) .nil))))))
    (sl:=[Is n,Zs (gv.map Gv.av),Ls goal,Rs 0,Is ((w:Int)+(RR.length:Int)),none,none,none,none,none]) (st:=[.lst (aE (RR.map (·++[0])))]) (em:=Gv.av) (F:=fun x=>x.row++[-x.num]) (xs:=gv) rfl fun x hx=>⟨_,rfl,rfl,by
     rw[gZ,jQ (l:=x.row) (l':=[-x.num]) (s1:=[.lst (aE (RR.map (·++[0])))]) (s2:=[.lst (aE (RR.map (·++[0])))]) (x:=.fz (iL x.row)) (y:=.fz (iL [-x.num])) (by simp[mP]) (by simp[cK,iL]) rfl rfl (by rw[hgr x hx];simp;lia)];simp⟩
   simp [bW (show gv.length <= 1000 by lia),lc]
 refine ai (sl':=[Is n,Zs (gv.map Gv.av),Ls goal,Rs 0,Is ((w:Int)+(RR.length:Int)),none,none]) (st':=[.lst (aE (au RR gv goal))]) ?_ ?_
 ·rw[Ez,Jw (k:=0) (xs:=aE (RR.map (·++[0]))++aE (gv.map fun x=>x.row++[-x.num])) (y:=.fz (iL (goal.map (fun x=>- x)++[0]))) rfl ?_ rfl (by simp;lia)]
  ·rw[bind_some]
   have:aE (RR.map (·++[0]))++aE (gv.map fun x=>x.row++[-x.num])++[AV.fz (iL (goal.map (fun x=>- x)++[0]))]=aE (au RR gv goal):=by
    simp[au,aE]
   show some (Out.nx _ [.lst (_++[_])])=_;rw[this]
  ·rw[gZ,jQ (l:=goal.map fun x=>- x) (l':=[0]) (s1:=[.lst (aE (RR.map (·++[0]))++aE (gv.map fun x=>x.row++[-x.num]))]) (s2:=[.lst (aE (RR.map (·++[0]))++aE (gv.map fun x=>x.row++[-x.num]))]) (x:=.fz (iL (goal.map fun x=>- x))) (y:=.fz (iL [0])) ?_ (by simp[cK,iL]) rfl rfl (by simp[hgo];lia)]
   ·simp
   ·simp [bW (show goal.length <= 1000 by lia)]
    rw[jY (F:=fun x=>- x) fN fun x hx=>⟨_,rfl,rfl,by simp⟩];simp
 refine ai (sl':=[Is n,Zs (gv.map Gv.av),Ls goal,Rs 0,Is ((w:Int)+(RR.length:Int)),Rs 1,none]) (st':=LN w (au RR gv goal)) ?_ ?_
 ·have:=Gi (w:=w) (L:=au RR gv goal) oM oM
  simp[xQ,HA,this]
 ·refine ai (sl':=[Is n,Zs (gv.map Gv.av),Ls goal,Rs 0,Is ((w:Int)+(RR.length:Int)),Rs 1,x]) (st':=st') ?_ (by simp)
  have rb:eR ((w:Int)+(RR.length:Int))=true:=by
   unfold eR;refine yK ?_;have:((w:Int)+(RR.length:Int)).natAbs=w+RR.length:=by lia
   rw[this];by_cases h0:w+RR.length=0
   ·rw[h0];decide
   ·exact yY ((Nat.log2_lt h0).mpr oM)
  simp[Bw,rb];rw[show((w:Int)+(RR.length:Int)).toNat=w+RR.length by lia];exact e
end
noncomputable def gL(l:List Int):Nat:=l.foldl (fun g x=>Nat.gcd g x.natAbs) 0
def aG(l:List Int):List Int:=if gL l=0 then l else l.map fun x=>x/(gL l:Int)
theorem AA{d o:Nat}:Nat.gcd o (d%o)=Nat.gcd d o:=by rw[Nat.gcd_comm,<- Nat.gcd_rec,Nat.gcd_comm]
theorem L8:∀(o d:Nat)(y:Option AV),∃y',ci [] (.wh (.cmp .NotEq (.v 3) (.i 0)) (.cons (.as (.bin .Mod (.v 1) (.v 3)) (.nm 4)) (.cons (.as (.v 3) (.nm 1)) (.cons (.as (.v 4) (.nm 3)) .nil)))) [l,Is d,x,Is o,y] st=some (.nx [l,Is (Nat.gcd d o:Nat),x,Is 0,y'] st):=by
 intro o
 induction o using Nat.strongRecOn with
 |_ o ih =>
  intro d y;by_cases h:o=0
  ·subst h
   refine⟨y,?_⟩;rw[Nat.gcd_zero_right];exact m9 (n:=1) (lm (by simp))
  ·obtain⟨y',e⟩:=ih (d%o) (Nat.mod_lt _ oM) o (some (.int ((d%o:Nat):Int)))
   obtain⟨n,e'⟩:=wP e;refine⟨y',?_⟩;rw[AA]at e';refine m9 (n:=n+1) (oJ (st':=st) (by simp;lia) ?_ e');have h0:(o:Int)≠0:=by lia
   have hm:oe (d:Int) (o:Int)=((d%o:Nat):Int):=by unfold oe;rw[yH oM];simp
   simp[oz h0,hm]
theorem xy:gL (a++b)=b.foldl (fun g x=>Nat.gcd g x.natAbs) (gL a):=by unfold gL;rw[List.foldl_append]
theorem sf:∀b:List Int,b.foldl (fun g x=>Nat.gcd g x.natAbs) 1=1
 |[]=>rfl
 |x::b=>by rw[List.foldl_cons,Nat.gcd_one_left];exact sf b
theorem Lk:∃r,cO [.fz (iL l)] st=some (r,st)/\r=.int (gL l:Int):=by
 have hl:=lK (gd:=[]) (g:=cj [] (.nm 2)) (s:=af [] (.cons (.as (.bi .abs (.cons (.v 2) .nil)) (.nm 3)) (.cons (.wh (.cmp .NotEq (.v 3) (.i 0)) (.cons (.as (.bin .Mod (.v 1) (.v 3)) (.nm 4)) (.cons (.as (.v 3) (.nm 1)) (.cons (.as (.v 4) (.nm 3)) .nil)))) (.cons (.iff (.cmp .Eq (.v 1) (.i 1)) (.cons (.rt (.i 1)) .nil) .nil) .nil))))
  (I:=fun i sl s=>s=st/\∃x y z,sl=[Ls l,Is (gL (l.take i):Nat),x,y,z]) (Post:=fun v s=>s=st/\v=.int (gL l:Nat)) (xs:=iL l) (fun _ _ _ _ _=>rfl)
  (fun i x sl s hx hI=>by
   obtain⟨rfl,x1,x2,x3,rfl⟩:=hI;have hi:i<l.length:=by have:=(zB.mp hx).1;simpa using this
   rw[bY hi]at hx;injection hx with hx;subst hx;have ht:l.take (i+1)=l.take i++[gI l i]:=by
    rw[List.take_succ,zF hi];unfold gI;rw[zD,zF hi];rfl
   have hg:gL (l.take (i+1))=Nat.gcd (gL (l.take i)) (gI l i).natAbs:=by rw[ht,xy];rfl
   obtain⟨y',e⟩:=L8 (l:=some (.fz (iL l))) (x:=some (.int (gI l i))) (st:=s) (gI l i).natAbs (gL (l.take i)) x3;rw[<- hg]at e;have ea:pv s [.int (gI l i)]=some (.int ((gI l i).natAbs:Nat)):=by
    show some (AV.int (if gI l i<0 then-gI l i else gI l i))=_;congr 2;split<;>lia
   have st1:ci [] (.as (.bi .abs (.cons (.v 2) .nil)) (.nm 3)) [Ls l,Is (gL (l.take i):Nat),Is (gI l i),x2,x3] s=some (.nx [Ls l,Is (gL (l.take i):Nat),Is (gI l i),Is ((gI l i).natAbs:Nat),x3] s):=by
    simp[bN,ea]
   by_cases h1:gL (l.take (i+1))=1
   ·refine⟨_,.rt (.int 1) s,rfl,ar st1 (ar e ?_),.inr ⟨_,s,rfl,rfl,?_⟩⟩
    ·simp[h1]
    ·have:gL l=1:=by
      have:l=l.take (i+1)++l.drop (i+1):=(List.take_append_drop _ _).symm;rw[this,xy,h1,sf]
     rw[this];rfl
   ·refine⟨_,.nx [Ls l,Is (gL (l.take (i+1)):Nat),Is (gI l i),Is 0,y'] s,rfl,ar st1 (ar e ?_),.inl ⟨_,s,rfl,rfl,_,_,_,rfl⟩⟩
    have:¬((gL (l.take (i+1)):Nat):Int)=1:=by lia
    simp[this]) (sl:=[Ls l,Is 0,none,none,none]) (st:=st) ⟨rfl,none,none,none,rfl⟩
 rcases hl with⟨sl',st',e,rfl,x,y,z,rfl⟩|⟨v,st',e,rfl,rfl⟩
 ·refine⟨_,?_,rfl⟩
  rw[gN,List.take_length]at e;simp[cO,aD,dQ,e]
 ·refine⟨_,?_,rfl⟩
  simp[cO,aD,dQ,e]
theorem xx:∀x∈l,gL l ∣ x.natAbs:=by
 have go:∀(b:List Int)(g:Nat),(b.foldl (fun g x=>Nat.gcd g x.natAbs) g) ∣ g/\∀x∈b,(b.foldl (fun g x=>Nat.gcd g x.natAbs) g) ∣ x.natAbs:=fun b=>by
  induction b with
  |nil=>intro g;exact⟨Nat.dvd_refl g,fun x hx=>by cases hx⟩
  |cons y b ih =>
   intro g;obtain⟨h1,h2⟩:=ih (Nat.gcd g y.natAbs);refine⟨Nat.dvd_trans h1 (Nat.gcd_dvd_left _ _),fun x hx=>?_⟩;rcases zT.mp hx with rfl|hx
   ·exact Nat.dvd_trans h1 (Nat.gcd_dvd_right _ _)
   ·exact h2 x hx
 exact(go l 0).2
theorem IL{B:Nat}(hB:0<B)(h:∀x∈l,x.natAbs<B):gL l<B:=by
 by_cases hz:∃x∈l,x≠0
 ·obtain⟨x,hx,h0⟩:=hz
  exact yL (Nat.le_of_dvd oM (xx x hx)) (h x hx)
 ·have:∀(b:List Int),(∀x∈b,x=0)->b.foldl (fun g x=>Nat.gcd g x.natAbs) 0=0:=fun b=>by
   induction b with
   |nil=>intro _;rfl
   |cons y b ih=>intro hb;rw[List.foldl_cons,hb y z7];exact ih fun x hx=>hb x (zQ _ hx)
  have e:gL l=0:=this l fun x hx=>Classical.byContradiction fun z=>hz ⟨x,hx,z⟩
  lia
theorem qf(hl:l.length<=1000)(hb:∀x∈l,x.natAbs<2^9000):ah [.fz (iL l)] []=some (.fz (iL (aG l)),[]):=by
 obtain⟨r,e,rfl⟩:=Lk (l:=l) (st:=[]);have ep:∀st,pm cO [.fz (iL l)] st=some (.int (gL l:Int),st):=fun st=>bO rfl e rfl
 unfold aG;by_cases h:gL l=0
 ·rw[yH h]
  simp[ah,aD,dy,ep,h,mP]
 ·rw[yG h]
  have h':¬((gL l:Nat):Int)=0:=by lia
  have dv:eC ((gL l:Nat):Int)=true:=sC h' (by rw[Int.natAbs_natCast];exact IL (Nat.two_pow_pos _) hb);simp[ah,aD,dy,ep,h,bW hl];rw[jY (F:=fun x=>x/(gL l:Int)) fN fun x hx=>⟨_,rfl,rfl,by
   simp[oA dv];unfold uk;rw[yH oM]⟩]
  simp
theorem rC(hl:l.length<=1000)(hb:∀x∈l,x.natAbs<2^9000):pm ah [.fz (iL l)] st=some (.fz (iL (aG l)),st):=bO rfl (qf hl hb) rfl
theorem iG:(aG l).length=l.length:=by unfold aG;split<;>simp
theorem GB{a b:Int}(ha:a.natAbs<2^9000)(hb:b.natAbs<2^9000):pm cX [.int a,.int b] st=some (.tup [.int (gI (aG [a,b]) 0),.int (gI (aG [a,b]) 1)],st):=by
 have e:=rC (l:=[a,b]) (st:=[]) (by simp) (fun x hx=>by simp at hx;rcases hx with rfl|rfl<;>assumption);have h2:(aG [a,b]).length=2:=iG;have x0:aZ [] (.fz (iL (aG [a,b]))) (.int 0)=some (.int (gI (aG [a,b]) 0)):=by
  have:=cB (st:=[]) (x:=.fz (iL (aG [a,b]))) (i:=((0:Nat):Int)) eJ;rw[cb,bY oM]at this;exact this
 have x1:aZ [] (.fz (iL (aG [a,b]))) (.int 1)=some (.int (gI (aG [a,b]) 1)):=by
  have:=cB (st:=[]) (x:=.fz (iL (aG [a,b]))) (i:=((1:Nat):Int)) eJ;rw[cb,bY oM]at this;exact this
 refine bO rfl (v:=.tup [.int (gI (aG [a,b]) 0),.int (gI (aG [a,b]) 1)]) (st':=[]) ?_ rfl;have e':pm ah [.fz [.int a,.int b]] []=some (.fz (iL (aG [a,b])),[]):=e;simp[cX,aD,eV,cK,e',x0,x1]
structure GX(S:Sh)(w cc k:Nat)(X:List Int):Prop where
 len:X.length=w
 at_:∀i,i<k->S.s i<w->gI X (S.s i)=S.t i cc
 no:∀q,q<w->(∀i,i<k->S.s i≠q)->gI X q=0
section
variable{st:aa}{k a b c g n u w m:Nat}{rows:List AV}{S:Sh}{v:Nat->Nat->Int}{nn:Int}
theorem Bf{j:Nat}(h:ev ks e sl st=some (.int (j:Int),st))(hj:j<=1000):jb ks (.rep (.cons (.i 0) .nil) e) sl st=some (iL (List.replicate j 0),st):=by
 rw[Ic];unfold vj;have h1:eB ks (.cons (.i 0) .nil) sl st=some ([.int 0],st):=rfl;rw[h1,bind_some];dsimp only;rw[h,bind_some];dsimp only;have rb:eR (j:Int)=true:=by
  unfold eR;refine yK ?_;rw[Int.natAbs_natCast];by_cases h0:j=0
  ·rw[h0];decide
  ·exact yY ((Nat.log2_lt h0).mpr (yL hj dC))
 rw[rb,bW (n:=[AV.int 0].length*((j:Int)).toNat) (by simp;lia),bW (n:=[AV.int 0].length) (by simp)];show some _=some _;congr 2;show(List.replicate j [AV.int 0]).flatten=iL (List.replicate j 0);unfold iL
 induction j with
 |zero=>rfl
 |succ j ih=>rw[List.replicate_succ,List.flatten_cons,List.replicate_succ,zO];simp
theorem xA{j q:Nat}:gI (List.replicate j 0) q=0:=by
 unfold gI;rw[zD,List.getElem?_replicate];split<;>rfl
theorem By(R:Rep st k a b c g n u rows S)(P:NP w m S)(Q:SX.Pm w m S.h S.s)(HA:∀st,pm ak [.int nn] st=some (.int w,st))(hw:w<=100)(hm:m<=1000){cI:Int}{cc:Nat}
  (hx:∀{s:aa}{a:Nat}{rows:List AV},Rep s k a b c g n u rows S->∀i,i<m->aZ s (kI rows i) (.int cI)=some (.int (S.t i cc))) :
  ∃X,cR [.int nn,.ref k,.int cI] st=some (.ref st.length,st++[.lst (iL X)])/\GX S w cc m X:=by
 have sl:S.sd.length=m:=P.sd;obtain⟨sl',st',e,X,x1,x2,rfl,rfl,hX⟩:=eK (gd:=[(c,.lst (nL S.sd))]) (g:=cj [ak] (.tu 2 (.cons (.nm 4) (.cons (.nm 5) .nil)))) (s:=af [ak] (.cons (.iff (.cmp .Lt (.v 5) (.bi .len (.cons (.v 3) .nil))) (.cons (.as (.ix (.ix (.fd "Sheet" "lines" (.v 1)) (.v 4)) (.v 2)) (.su (.v 3) (.v 5))) .nil) .nil) .nil))
  (I:=fun i sl s=>∃X x1 x2,s=st++[.lst (iL X)]/\sl=[Is nn,Rs k,Is cI,Rs st.length,x1,x2]/\GX S w cc i X) (xs:=eN 0 (nL S.sd)) (fun i sl s _ hI=>by obtain⟨X,_,_,rfl,_⟩:=hI;exact gy (R.app (ys:=[_])).hc)
  (fun i y sl s hy hI=>by
   obtain⟨X,x1,x2,rfl,rfl,hX⟩:=hI;obtain⟨x,hx',rfl⟩:=oi hy;have hi:i<m:=by have:=(zB.mp hx').1;simpa [sl] using this
   have hs0:(nL S.sd)[i]?=some (.int ((S.s i:Nat):Int)):=iA oM;rw[hs0]at hx';injection hx' with hx';subst hx';have Ra:=R.app (ys:=[NG.lst (iL X)]);have ll:bL (st++[NG.lst (iL X)]) (.ref st.length)=some (iL X):=bB gl;by_cases h:S.s i<w
   ·refine⟨_,[Is nn,Rs k,Is cI,Rs st.length,Is i,Is (S.s i:Int)],st++[.lst (iL (X.set (S.s i) (S.t i cc)))],rfl,?_,X.set (S.s i) (S.t i cc),_,_,rfl,rfl,?_⟩
    ·have hs:=dg (x:=.int (S.t i cc)) (gl (st:=st) (e:=NG.lst (iL X))) (show S.s i < (iL X).length by simp [hX.len,h])
     rw[eZ,d6]at hs;have lt':S.s i<X.length:=by rw[hX.len];exact h
     simp[bN,de,ll,lt',Ra.ins,Ra.line P hi,hx Ra i hi,hs]
    ·refine⟨by simp[hX.len],fun j hj hs=>?_,fun q hq hn=>?_⟩
     ·by_cases e:j=i
      ·subst e;rw[SX.gI_set_at (by rw[hX.len];exact h)]
      ·rw[SX.gI_set_ne (fun z=>e (Q.si j i oM hi z))];exact hX.at_ j oM hs
     ·rw[SX.gI_set_ne (fun z=>hn i oM z.symm)];exact hX.no q hq fun j hj=>hn j oM
   ·refine⟨_,[Is nn,Rs k,Is cI,Rs st.length,Is i,Is (S.s i:Int)],st++[.lst (iL X)],rfl,?_,X,_,_,rfl,rfl,?_⟩
    ·have lt':¬S.s i<X.length:=by rw[hX.len];exact h
     simp[bN,de,ll,lt']
    ·refine⟨hX.len,fun j hj hs=>?_,fun q hq hn=>hX.no q hq fun j hj=>hn j oM⟩
     by_cases e:j=i
     ·subst e;exact absurd hs h
     ·exact hX.at_ j oM hs) (sl:=[Is nn,Rs k,Is cI,Rs st.length,none,none]) (st:=st++[.lst (iL (List.replicate w 0))]) ⟨_,none,none,rfl,rfl,by simp,fun i hi=>by lia,fun q _ _=>xA⟩
 rw[lN,kN,sl]at hX;refine⟨X,?_,hX⟩;rw[cR,aD];unfold eE;refine ai (sl':=[Is nn,Rs k,Is cI,Rs st.length,none,none]) (st':=st++[.lst (iL (List.replicate w 0))]) ?_ ?_
 ·rw[fU,yg,Bf (j:=w) (by simp[HA]) oM];rfl
 refine ai (sl':=[Is nn,Rs k,Is cI,Rs st.length,x1,x2]) (st':=st++[.lst (iL X)]) ?_ (by simp);have Ra:=R.app (ys:=[NG.lst (iL (List.replicate w 0))]);simp[Ra.ins,jH Ra.hc];exact e
theorem ud{n:Nat}:(iL l).take n=iL (l.take n):=by unfold iL;rw[List.map_take]
theorem Dv{n:Nat}:(iL l).drop n=iL (l.drop n):=by unfold iL;rw[List.map_drop]
theorem sG{n:Nat}(hl:l.length=n+1):cut (iL l) none (some (-1))=iL (l.take n):=by
 unfold cut;rw[gN,hl,HT.sIx_none,List.drop_zero];have:HT.NR (n+1) (n+1) (some (-1))=n:=by
  show(if(-1:Int)<0 then((-1:Int)+((n+1:Nat):Int)).toNat else min (-1:Int).toNat (n+1))=n;rw[yH dC];lia
 rw[this,Nat.sub_zero,ud]
theorem DG{w m:Nat}(hl:l.length=w+(m+1)):cut (iL l) (some (w:Int)) (some (-1))=iL ((l.drop w).take m):=by
 unfold cut;rw[gN,hl,HT.sIx_nat];have:HT.NR (w+(m+1)) (w+(m+1)) (some (-1))=w+m:=by
  show(if(-1:Int)<0 then((-1:Int)+((w+(m+1):Nat):Int)).toNat else min (-1:Int).toNat (w+(m+1)))=w+m;rw[yH dC];lia
 rw[this,Nat.min_eq_left oM,Dv,ud,show w+m-w=m by lia]
theorem wX{d:Int}(hl:X.length<=100)(hb:∀x∈X,x.natAbs<2^9000)(hd:d.natAbs<2^9000):bH [.fz (iL X),.int d] []=some (.tup [.fz (iL ((aG (X++[d])).take X.length)),.int (gI (aG (X++[d])) X.length)],[]):=by
 have ll:(aG (X++[d])).length=X.length+1:=by rw[iG];simp
 have e:=rC (l:=X++[d]) (st:=[]) (by simp;lia) fun x hx=>by
  rcases zZ.mp hx with h|h
  ·exact hb x h
  ·rw[zM.mp h];exact hd
 have xl:aZ [] (.fz (iL (aG (X++[d])))) (.int (-1))=some (.int (gI (aG (X++[d])) X.length)):=by
  rw[cB eJ,ph (n:=X.length) (by simp[ll]),bY oM]
 rw[bH,aD];unfold gA;refine ai (sl':=[Ls X,Is d,Ls (aG (X++[d]))]) (st':=[]) ?_ ?_
 ·have c:=jQ (ks:=[ah]) (a:=.v 0) (b:=.nw false (.li (.cons (.v 1) .nil))) (sl:=[Ls X,Is d,none]) (st:=[]) (s1:=[]) (s2:=[]) (x:=.fz (iL X)) (y:=.fz (iL [d])) (l:=X) (l':=[d]) rfl (by simp[cK,iL]) rfl rfl (by simp;lia)
  simp[-vi,c,e]
 ·simp[qW,qR,sG ll,xl]
theorem A8(R:Rep st k a b c g n u rows S)(P:NP w m S)(Q:SX.Pm w m S.h S.s)(B:Bd w m S)(HA:∀st,pm ak [.int nn] st=some (.int w,st))(hw:w<=100)(hm:m<=1000) :
  ∃X T st1,aW [.int nn,.ref k] st=some (.tup [.fz (iL T),.int (gI (aG (X++[S.d])) w)],st1)/\T=(aG (X++[S.d])).take w/\GX S w w m X/\Rep st1 k a b c g n u rows S:=by
 obtain⟨X,e,hX⟩:=By (cI:=-1) (cc:=w) R P Q HA hw hm fun R' i hi=>R'.last P hi
 have hb:∀x∈X,x.natAbs<2^9000:=fun x hx=>by
  obtain⟨q,hq⟩:=z8 hx;have hl:=(zB.mp hq).1;rw[hX.len]at hl;have eg:gI X q=x:=by unfold gI;rw[zD,hq];rfl
  by_cases h:∃i,i<m/\S.s i=q
  ·obtain⟨i,hi,rfl⟩:=h
   rw[<- eg,hX.at_ i hi hl];exact B.2 i hi w oM
  ·rw[<- eg,hX.no q hl fun i hi z=>h ⟨i,hi,z⟩];exact Nat.two_pow_pos _
 obtain⟨st1,e1,h1⟩:=kM (fn:=bH) (rest:=[.int S.d]) (x:=.ref st.length) (l:=X) (.inr ⟨_,rfl,.inl (gl (st:=st) (e:=.lst (iL X)))⟩) rfl rfl (fun s=>by simp[n8,pP]) (wX (by rw[hX.len];lia) hb B.1) rfl (by simp[flat,og]);refine⟨X,_,st1,?_,rfl,hX,?_⟩
 ·have Ra:=R.app (ys:=[NG.lst (iL X)])
  rw[hX.len]at e1;simp[aW,aD,fA,e,Ra.ins,e1]
 ·rcases h1 with rfl|⟨r,hr,_,rfl⟩
  ·exact R.app
  ·cases hr;rw[d6];exact R.app
theorem Hg(R:Rep st k a b c g n u rows S)(P:NP w m S)(Q:SX.Pm w m S.h S.s)(B:Bd w m S)(HA:∀st,pm ak [.int nn] st=some (.int w,st))(hw:w<=100)(hm:m<=1000){q:Nat}(hq:q<w) :
  ∃X st1,cz [.int nn,.ref k,.int q] st=some (.fz (iL (aG (if S.h q<w then X.set (S.h q) S.d else X))),st1)/\GX S w q m X:=by
 obtain⟨X,e,hX⟩:=By (cI:=q) (cc:=q) R P Q HA hw hm fun R' i hi=>R'.cell P hi oM
 have hb:∀x∈X,x.natAbs<2^9000:=fun x hx=>by
  obtain⟨j,hj⟩:=z8 hx;have hl:=(zB.mp hj).1;rw[hX.len]at hl;have eg:gI X j=x:=by unfold gI;rw[zD,hj];rfl
  by_cases h:∃i,i<m/\S.s i=j
  ·obtain⟨i,hi,rfl⟩:=h
   rw[<- eg,hX.at_ i hi hl];exact B.2 i hi q oM
  ·rw[<- eg,hX.no j hl fun i hi z=>h ⟨i,hi,z⟩];exact Nat.two_pow_pos _
 have Ra:=R.app (ys:=[NG.lst (iL X)]);have ll:bL (st++[NG.lst (iL X)]) (.ref st.length)=some (iL X):=bB gl;by_cases h:S.h q<w
 ·have hb2:∀x∈X.set (S.h q) S.d,x.natAbs<2^9000:=fun x hx=>by
   rcases List.mem_or_eq_of_mem_set hx with h|h
   ·exact hb x h
   ·rw[h];exact B.1
  obtain ⟨st1,e1,h1⟩:=kM (fn:=ah) (rest:=[]) (st:=st++[.lst (iL (X.set (S.h q) S.d))]) (x:=.ref st.length) (l:=X.set (S.h q) S.d) (.inr ⟨_,rfl,.inl gl⟩) rfl rfl (fun s=>rfl) (qf (by simp [hX.len];lia) hb2) rfl (by simp [flat]);refine ⟨X,st1,?_,hX⟩;rw [yH h];have hs:=dg (x:=.int S.d) (gl (st:=st) (e:=NG.lst (iL X))) (show S.h q < (iL X).length by simp [hX.len,h]);rw [eZ,d6] at hs;have lt':S.h q < X.length:=by rw [hX.len];exact h
  simp[cz,aD,gH,e,Ra.ins,Ra.head P hq,bN,de,ll,lt',hs,e1]
 ·obtain⟨st1,e1,h1⟩:=kM (fn:=ah) (rest:=[]) (st:=st++[.lst (iL X)]) (x:=.ref st.length) (l:=X) (.inr ⟨_,rfl,.inl gl⟩) rfl rfl (fun s=>rfl) (qf (by simp[hX.len];lia) hb) rfl (by simp[flat])
  refine⟨X,st1,?_,hX⟩;rw[yG h];have lt':¬S.h q<X.length:=by rw[hX.len];exact h
  simp[cz,aD,gH,e,Ra.ins,Ra.head P hq,bN,de,ll,lt',e1]
end
open SX (NK)
structure TK(S:Sh)(w m p:Nat)(T:List Int):Prop where
 len:T.length=w+m
 hd:∀j,j<w->gI T (S.h j)=if S.h j∈S.tn then S.t p j else-S.t p j
 sd:gI T (S.s p)=if S.s p∈S.tn then-S.d else S.d
 no:∀q,q<w+m->(∀j,j<w->S.h j≠q)->q≠S.s p->gI T q=0
def wt(T:List Int)(HO:Nat->List Int)(w j k:Nat):Int:=gI T (w+k)+NK j fun x=>gI T x*gI (HO (x+1)) k
section
variable{st:aa}{k a b c g n u w m p:Nat}{rows:List AV}{S:Sh}{nn:Int}{HO:Nat->List Int}
abbrev KW:List Fn:=[ak,cT,dY]
theorem o6{q x:Nat}{y:Int}(h:q<T.length):gI (T.set q y) x=if x=q then y else gI T x:=by
 by_cases e:x=q
 ·subst e;rw[yH rfl,SX.gI_set_at h]
 ·rw[yG e,SX.gI_set_ne e]
theorem Ck(R:Rep st k a b c g n u rows S)(P:NP w m S)(Q:SX.Pm w m S.h S.s)(hp:p<m)(nt:S.tn.Nodup)(ht:∀q∈S.tn,q<w+m)(hw:w<=100)(hm:m<=800){ss:NQ}{r:AV×aa->Prop}
  (h:∀T x1 x2,TK S w m p T->∃z,(af KW ss [Is nn,Rs k,Is p,Rs st.length,x1,x2,none,none,none,none,none] (st++[NG.lst (iL T)])).bind ay=some z/\r z) :
  ∃z,(af KW (.cons (.as (.nw true (.rep (.cons (.i 0) .nil) (.bin .Add (.bi .len (.cons (.fd "Sheet" "heads" (.v 1)) .nil)) (.bi .len (.cons (.fd "Sheet" "sides" (.v 1)) .nil))))) (.nm 3))
   (.cons (.fo (.en (.fd "Sheet" "heads" (.v 1))) (.tu 2 (.cons (.nm 4) (.cons (.nm 5) .nil))) (.cons (.as (.un .USub (.ix (.ix (.fd "Sheet" "lines" (.v 1)) (.v 2)) (.v 4))) (.su (.v 3) (.v 5))) .nil))
   (.cons (.as (.fd "Sheet" "below" (.v 1)) (.su (.v 3) (.ix (.fd "Sheet" "sides" (.v 1)) (.v 2))))
   (.cons (.fd (.fd "Sheet" "turned" (.v 1)) (.nm 5) (.cons (.as (.un .USub (.ix (.v 3) (.v 5))) (.su (.v 3) (.v 5))) .nil)) ss)))) [Is nn,Rs k,Is p,none,none,none,none,none,none,none,none] st).bind ay=some z/\r z:=by
 have lh:bL st (.ref b)=some (nL S.hd):=bB R.hb;have lsd:bL st (.ref c)=some (nL S.sd):=bB R.hc;refine ag (sl':=[Is nn,Rs k,Is p,Rs st.length,none,none,none,none,none,none,none]) (st':=st++[NG.lst (iL (List.replicate (w+m) 0))]) ?_ ?_
 ·rw[fU,yg,Bf (j:=w+m) ?_ oM]
  ·rfl
  ·simp[R.ins,bN,de,lh,lsd,P.hd,P.sd]
 -- the heads
 obtain⟨sl',st',e,T,x1,x2,rfl,rfl,hl,h1,h2⟩:=eK (gd:=[(b,.lst (nL S.hd))]) (g:=cj KW (.tu 2 (.cons (.nm 4) (.cons (.nm 5) .nil)))) (s:=af KW (.cons (.as (.un .USub (.ix (.ix (.fd "Sheet" "lines" (.v 1)) (.v 2)) (.v 4))) (.su (.v 3) (.v 5))) .nil))
  (I:=fun i sl s=>∃T x1 x2,s=st++[NG.lst (iL T)]/\sl=[Is nn,Rs k,Is p,Rs st.length,x1,x2,none,none,none,none,none]/\T.length=w+m/\(∀j,j<i->gI T (S.h j)=- S.t p j)/\∀q,(∀j,j<i->S.h j≠q)->gI T q=0) (xs:=eN 0 (nL S.hd)) (fun i sl s _ hI=>by obtain⟨X,_,_,rfl,_⟩:=hI;exact gy (R.app (ys:=[_])).hb)
  (fun i y sl s hy hI=>by
   obtain⟨T,x1,x2,rfl,rfl,hl,h1,h2⟩:=hI;obtain⟨x,hx',rfl⟩:=oi hy;have hi:i<w:=by have:=(zB.mp hx').1;simpa [P.hd] using this
   have hs0:(nL S.hd)[i]?=some (.int ((S.h i:Nat):Int)):=iA (by rw [P.hd];exact hi);rw [hs0] at hx';injection hx' with hx';subst hx';have Ra:=R.app (ys:=[NG.lst (iL T)]);have hb:=Q.hl i hi;have hs:=dg (x:=.int (- S.t p i)) (gl (st:=st) (e:=NG.lst (iL T))) (show S.h i < (iL T).length by simp [hl,hb]);rw [eZ,d6] at hs;refine ⟨_,[Is nn,Rs k,Is p,Rs st.length,Is i,Is (S.h i:Int),none,none,none,none,none],st++[NG.lst (iL (T.set (S.h i) (- S.t p i)))],rfl,?_,T.set (S.h i) (- S.t p i),_,_,rfl,rfl,by simp [hl],fun j hj=>?_,fun q hq=>?_⟩
   ·simp [Ra.ins,Ra.line P hp,Ra.cell P hp (show i < w + 1 by lia),hs]
   ·rw[o6 (by rw[hl];exact hb)]
    by_cases e:j=i
    ·subst e;rw[yH rfl]
    ·rw[yG fun z=>e (Q.hi j i oM hi z)];exact h1 j oM
   ·rw[o6 (by rw[hl];exact hb),yG fun z=>hq i oM z.symm];exact h2 q fun j hj=>hq j oM) (sl:=[Is nn,Rs k,Is p,Rs st.length,none,none,none,none,none,none,none]) (st:=st++[NG.lst (iL (List.replicate (w+m) 0))]) ⟨_,none,none,rfl,rfl,by simp,fun j hj=>by lia,fun q _=>xA⟩
 rw[lN,kN,P.hd]at h1 h2;refine ag (sl':=[Is nn,Rs k,Is p,Rs st.length,x1,x2,none,none,none,none,none]) (st':=st++[NG.lst (iL T)]) ?_ ?_
 ·have Ra:=R.app (ys:=[NG.lst (iL (List.replicate (w+m) 0))])
  simp[Ra.ins,jH Ra.hb];exact e
 have Ra:=R.app (ys:=[NG.lst (iL T)]);have sb:=Q.sl p hp;have hs:=dg (x:=.int S.d) (gl (st:=st) (e:=NG.lst (iL T))) (show S.s p < (iL T).length by simp [hl,sb]);rw [eZ,d6] at hs;refine ag (sl':=[Is nn,Rs k,Is p,Rs st.length,x1,x2,none,none,none,none,none]) (st':=st++[NG.lst (iL (T.set (S.s p) S.d))]) (by simp [Ra.ins,Ra.side P hp,hs]) ?_;have l2:(T.set (S.s p) S.d).length=w + m:=by simp [hl]
 obtain⟨T2,hT2⟩:∃x,x=T.set (S.s p) S.d:=⟨_,rfl⟩;rw[<- hT2]at l2 ⊢
 -- the turned
 have Ru:=(R.app (ys:=[NG.lst (iL T2)])).hu;have ult:u<st.length:=(zB.mp R.hu).1;obtain⟨sl',st',e,T3,x2,rfl,rfl,l3,h3⟩:=eK (gd:=[]) (g:=cj KW (.nm 5)) (s:=af KW (.cons (.as (.un .USub (.ix (.v 3) (.v 5))) (.su (.v 3) (.v 5))) .nil))
  (I:=fun i sl s=>∃T3 x2,s=(st++[NG.lst (iL T3)]).set u (.wk (kL S.tn))/\sl=[Is nn,Rs k,Is p,Rs st.length,x1,x2,none,none,none,none,none]/\T3.length=w+m/\∀q,gI T3 q=if q∈S.tn.take i then-gI T2 q else gI T2 q) (xs:=nL S.tn) (fun _ _ _ _ _=>rfl)
  (fun i y sl s hy hI=>by
   obtain⟨T3,x2,rfl,rfl,l3,h3⟩:=hI;have hi:i<S.tn.length:=by have:=(zB.mp hy).1;simpa using this
   rw[iA hi]at hy;injection hy with hy;subst hy;obtain⟨q,hq⟩:∃q,q=S.tn.getD i 0:=⟨_,rfl⟩;rw[<- hq];have qi:S.tn[i]=q:=by rw[hq,zD,zF hi];rfl
   have qm:q∈S.tn:=by rw[<- qi];exact List.getElem_mem hi
   have ql:=ht q qm;have tk:S.tn.take (i+1)=S.tn.take i++[q]:=by rw[List.take_succ,zF hi,qi];rfl
   have qn:q∉S.tn.take i:=fun z=>by
    have:=nt.sublist (List.take_sublist (i+1) S.tn)
    rw[tk,List.nodup_append]at this;exact this.2.2 q z q (by simp) rfl
   have gc:((st++[NG.lst (iL T3)]).set u (.wk (kL S.tn)))[st.length]?=some (.lst (iL T3)):=by rw[aq (zU ult)];exact gl
   have hs:=dg (x:=.int (- gI T3 q)) gc (show q < (iL T3).length by simp [l3,ql]);have sc:((st++[NG.lst (iL T3)]).set u (.wk (kL S.tn))).set st.length (.lst (iL (T3.set q (- gI T3 q))))=(st++[NG.lst (iL (T3.set q (- gI T3 q)))]).set u (.wk (kL S.tn)):=by
    rw[List.set_comm _ _ (zU ult),d6]
   rw[eZ,sc]at hs;have xi:aZ ((st++[NG.lst (iL T3)]).set u (.wk (kL S.tn))) (.ref st.length) (.int (q:Int))=some (.int (gI T3 q)):=by rw[cB (bB gc),cb,bY oM]
   refine⟨_,[Is nn,Rs k,Is p,Rs st.length,x1,Is q,none,none,none,none,none],(st++[NG.lst (iL (T3.set q (- gI T3 q)))]).set u (.wk (kL S.tn)),rfl,?_,_,_,rfl,rfl,by simp[l3],fun x=>?_⟩
   ·simp[xi,hs]
   ·rw[o6 oM,tk]
    by_cases e:x=q
    ·subst e;rw[yH rfl,yH (by simp),h3 x,yG qn]
    ·rw[yG e,h3 x];simp[e]) (sl:=[Is nn,Rs k,Is p,Rs st.length,x1,x2,none,none,none,none,none]) (st:=(st++[NG.lst (iL T2)]).set u (.wk (kL S.tn))) ⟨T2,x2,rfl,rfl,l2,fun q=>by simp⟩
 rw[kN,List.take_length]at h3;refine ag (sl':=[Is nn,Rs k,Is p,Rs st.length,x1,x2,none,none,none,none,none]) (st':=st++[NG.lst (iL T3)]) ?_ (h T3 x1 x2 ?_)
 ·have Rb:=R.app (ys:=[NG.lst (iL T2)])
  have ky:(kL S.tn).map (fun q=>nK q.1)=nL S.tn:=by unfold kL nL;rw[List.map_map];rfl
  have f1:(((st++[NG.lst (iL T3)]).set u (.wk (kL S.tn))))[u]?=some (.wk (kL S.tn)):=fY (R.app (ys:=[NG.lst (iL T3)])).hu;have f2:((st++[NG.lst (iL T3)]).set u (.wk (kL S.tn))).set u (.dK (kL S.tn))=st++[NG.lst (iL T3)]:=by
   rw[List.set_set]
   have:=(R.app (ys:=[NG.lst (iL T3)])).hu
   obtain⟨hlt,hget⟩:=zB.mp this;rw[<- hget,List.set_getElem_self]
  simp[u6,Rb.ins,Rb.hu];rw[show(kL S.tn).map ((fun q=>nK q.1))=nL S.tn from ky]at *;rw[e];simp[A7,f1,f2]
 ·have e2:∀q,gI T2 q=if q=S.s p then S.d else gI T q:=fun q=>by rw[hT2,o6 (by rw[hl];exact sb)]
  refine⟨l3,fun j hj=>?_,?_,fun q hq hn hns=>?_⟩
  ·rw[h3,e2,yG (Q.hs j p hj hp),h1 j hj];split<;>lia
  ·rw[h3,e2,yH rfl]
  ·rw[h3,e2,yG hns,h2 q hn];split<;>rfl
end
structure HOk(nn:Int)(w nr:Nat)(HO:Nat->List Int):Prop where
 ex:∀grp:Nat,1<=grp->grp<=w->∃rr,(∀st,pm cT [.int nn,.int grp,.int 0] st=some (rr,st))/\∀st,pm dY [.int nn,rr] st=some (.fz (iL (HO grp)),st)
 len:∀grp:Nat,1<=grp->grp<=w->(HO grp).length=nr
 bd:∀(grp:Nat),1<=grp->grp<=w->∀x∈HO grp,x.natAbs<=15
section
variable{st:aa}{k a b c g n u w m p nr:Nat}{rows:List AV}{S:Sh}{nn:Int}{HO:Nat->List Int}
theorem Jv{r q:Nat}{x:Int}(h1:ev ks ea sl s=some (.ref r,s))(h2:ev ks eb sl s=some (.int (q:Int),s))(h3:ev ks ec sl s=some (.int x,s))(hr:s[r]?=some (.lst (iL l)))(hq:q<l.length):ci ks (.aus .Add ea eb ec) sl s=some (.nx sl (s.set r (.lst (iL (l.set q (gI l q+x)))))):=by
 rw[Ht];unfold u7;rw[h1,bind_some];dsimp only;rw[h2,bind_some];dsimp only;rw[bB hr,bind_some,cb,bY hq,bind_some,h3,bind_some];dsimp only;have:vR .Add s (.int (gI l q)) (.int x)=some (.int (gI l q+x)):=rfl;rw[this,bind_some,dg hr (by simp[hq]),eZ,bind_some]
theorem AX(R:Rep st k a b c g n u rows S)(P:NP w (m+1) S)(Q:SX.Pm w (m+1) S.h S.s)(hp:p<m+1)(nt:S.tn.Nodup)(ht:∀q∈S.tn,q<w+(m+1))(hw:w<=100)(hm:m+1<=800)(HA:∀st,pm ak [.int nn] st=some (.int w,st))(H:HOk nn w nr HO)(hnr:nr<=m) :
  ∃z,aM [.int nn,.ref k,.int p] st=some z/\∃T W,TK S w (m+1) p T/\W.length=m/\(∀x,x<m->gI W x=wt T HO w w x)/\z.1=.ref (st.length+1)/\z.2=st++[NG.lst (iL T)]++[NG.lst (iL W)]:=by
 rw[aM];simp only[aD];unfold eU;refine Ck R P Q hp nt ht hw hm fun T x1 x2 hT=>?_
 have sT:(st++[NG.lst (iL T)])[st.length]?=some (.lst (iL T)):=gl;refine ag (sl':=[Is nn,Rs k,Is p,Rs st.length,x1,x2,Rs (st.length+1),none,none,none,none]) (st':=st++[NG.lst (iL T)]++[NG.lst (iL ((T.drop w).take m))]) ?_ ?_
 ·simp[qW,qR,HA,bB sT,DG hT.len]
 have ll:(st++[NG.lst (iL T)]).length=st.length+1:=by simp
 have sT2:∀W:List Int,(st++[NG.lst (iL T)]++[NG.lst (iL W)])[st.length]?=some (.lst (iL T)):=fun W=>ga sT
 have sW:∀W:List Int,(st++[NG.lst (iL T)]++[NG.lst (iL W)])[st.length+1]?=some (.lst (iL W)):=fun W=>by rw[<- ll];exact gl
 have sSet:∀W W':List Int,(st++[NG.lst (iL T)]++[NG.lst (iL W)]).set (st.length+1) (.lst (iL W'))=st++[NG.lst (iL T)]++[NG.lst (iL W')]:=fun W W'=>by rw[<- ll];exact d6
 have hW0:∀x,x<m->gI ((T.drop w).take m) x=wt T HO w 0 x:=fun x hx=>by
  unfold wt gI;rw[zD,List.getElem?_take_of_lt hx,List.getElem?_drop,zD];simp[NK]
 obtain⟨sl',st',e,W,y1,y2,y3,y4,rfl,rfl,hl,hW⟩:=eK (gd:=[]) (g:=cj KW (.nm 7)) (s:=af KW (.cons (.as (.ix (.v 3) (.bin .Sub (.v 7) (.i 1))) (.nm 8)) (.cons (.iff (.cmp .NotEq (.v 8) (.i 0))
   (.cons (.fo (.en (.ca true 2 (.cons (.v 0) (.cons (.ca true 1 (.cons (.v 0) (.cons (.v 7) (.cons (.i 0) .nil)))) .nil)))) (.tu 2 (.cons (.nm 9) (.cons (.nm 10) .nil))) (.cons (.aus .Add (.v 6) (.v 9) (.bin .Mult (.v 8) (.v 10))) .nil)) .nil) .nil) .nil)))
  (I:=fun i sl s=>∃W y1 y2 y3 y4,s=st++[NG.lst (iL T)]++[NG.lst (iL W)]/\sl=[Is nn,Rs k,Is p,Rs st.length,x1,x2,Rs (st.length+1),y1,y2,y3,y4]/\W.length=m/\∀x,x<m->gI W x=wt T HO w i x) (xs:=dj 1 w) (fun _ _ _ _ _=>rfl)
  (fun i y sl s hy hI=>by
   obtain⟨W,y1,y2,y3,y4,rfl,rfl,hl,hW⟩:=hI;have hi:i<w:=by have:=(zB.mp hy).1;unfold dj at this;simpa using this
   have ey:y=.int (((i+1:Nat)):Int):=by
    unfold dj at hy;rw[zR,List.getElem?_range hi]at hy;injection hy with hy;rw[<- hy];show AV.int (1+(i:Int))=_;congr 1;lia
   subst ey;have xi:aZ (st++[NG.lst (iL T)]++[NG.lst (iL W)]) (.ref st.length) (.int (i:Int))=some (.int (gI T i)):=by rw[cB (bB (sT2 W)),cb,bY (by rw[hT.len];lia)]
   have st1:ci KW (.as (.ix (.v 3) (.bin .Sub (.v 7) (.i 1))) (.nm 8)) [Is nn,Rs k,Is p,Rs st.length,x1,x2,Rs (st.length+1),Is ((i+1:Nat):Int),y2,y3,y4] (st++[NG.lst (iL T)]++[NG.lst (iL W)])=some (.nx [Is nn,Rs k,Is p,Rs st.length,x1,x2,Rs (st.length+1),Is ((i+1:Nat):Int),Is (gI T i),y3,y4] (st++[NG.lst (iL T)]++[NG.lst (iL W)])):=by
    have e0:((i+1:Nat):Int)-1=(i:Int):=by lia
    have hb:aY .Sub (st++[NG.lst (iL T)]++[NG.lst (iL W)]) (.int ((i+1:Nat):Int)) (.int 1)=some (.int (i:Int)):=by rw[Jo,e0]
    simp only[fU,uA,A1,ka,tH,g9,iS,bind_some,hb,map_some,xi];rfl
   by_cases h0:gI T i=0
   ·refine⟨_,_,_,rfl,ar st1 ?_,W,Is ((i+1:Nat):Int),Is (gI T i),y3,y4,rfl,rfl,hl,fun x hx=>?_⟩
    ·simp[h0]
    ·rw[hW x hx];unfold wt;simp only[NK,h0];lia
   ·obtain⟨rr,r1,r2⟩:=H.ex (i+1) oM oM
    have hlen:=H.len (i+1) oM oM;obtain⟨sl',st',e,W',z3,z4,rfl,rfl,hl',hW'⟩:=eK (gd:=[]) (g:=cj KW (.tu 2 (.cons (.nm 9) (.cons (.nm 10) .nil)))) (s:=af KW (.cons (.aus .Add (.v 6) (.v 9) (.bin .Mult (.v 8) (.v 10))) .nil))
     (I:=fun j sl s=>∃W' z3 z4,s=st++[NG.lst (iL T)]++[NG.lst (iL W')]/\sl=[Is nn,Rs k,Is p,Rs st.length,x1,x2,Rs (st.length+1),Is ((i+1:Nat):Int),Is (gI T i),z3,z4]/\W'.length=m/\∀x,x<m->gI W' x=gI W x+if x<j then gI T i*gI (HO (i+1)) x else 0) (xs:=eN 0 (iL (HO (i+1)))) (fun _ _ _ _ _=>rfl)
     (fun j y sl s hy hI=>by
      obtain⟨W',z3,z4,rfl,rfl,hl',hW'⟩:=hI;obtain⟨x,hx',rfl⟩:=oi hy;have hj:j<nr:=by have:=(zB.mp hx').1;simpa [hlen] using this
      rw[bY oM]at hx';injection hx' with hx';subst hx';have hc:(gI (HO (i+1)) j).natAbs<=15:=by
       refine H.bd (i+1) oM oM _ ?_;unfold gI;exact SX.getD_mem oM
      have mb:dD (gI T i) (gI (HO (i+1)) j)=true:=by
       unfold dD;have:Nat.ble (gI (HO (i+1)) j).natAbs.log2 62=true:=yK (by
        by_cases hz:(gI (HO (i+1)) j).natAbs=0
        ·rw[hz];decide
        ·exact yY ((Nat.log2_lt hz).mpr (yL hc dC)))
       rw[this];simp
      refine⟨_,_,_,rfl,ar (Jv (r:=st.length+1) (q:=j) (l:=W') (x:=gI T i*gI (HO (i+1)) j) rfl rfl (by simp[cC mb]) (sW W') oM) rfl,W'.set j (gI W' j+gI T i*gI (HO (i+1)) j),_,_,sSet _ _,rfl,by simp[hl'],fun x hx=>?_⟩;rw[o6 oM];by_cases e:x=j
      ·subst e;rw[yH rfl,hW' x hx,yG oM,yH oM];lia
      ·rw[yG e,hW' x hx]
       by_cases e2:x<j
       ·rw[yH e2,yH oM]
       ·rw[yG e2,yG oM]) (sl:=[Is nn,Rs k,Is p,Rs st.length,x1,x2,Rs (st.length+1),Is ((i+1:Nat):Int),Is (gI T i),y3,y4]) (st:=st++[NG.lst (iL T)]++[NG.lst (iL W)]) ⟨W,y3,y4,rfl,rfl,hl,fun x hx=>by simp⟩
    rw[lN,gN,hlen]at hW';refine⟨_,_,_,rfl,ar st1 (ar (sl':=[Is nn,Rs k,Is p,Rs st.length,x1,x2,Rs (st.length+1),Is ((i+1:Nat):Int),Is (gI T i),z3,z4]) (st':=st++[NG.lst (iL T)]++[NG.lst (iL W')]) ?_ rfl),W',Is ((i+1:Nat):Int),Is (gI T i),z3,z4,rfl,rfl,hl',fun x hx=>?_⟩
    ·have r1':=r1 (st++[NG.lst (iL T)]++[NG.lst (iL W)])
     have r2':=r2 (st++[NG.lst (iL T)]++[NG.lst (iL W)]);simp only[iV,uU,ka,tH,g9,iS,bind_some,Lm,map_some,z9 h0,Bool.not_false,ite_true];refine ar (sl':=[Is nn,Rs k,Is p,Rs st.length,x1,x2,Rs (st.length+1),Is ((i+1:Nat):Int),Is (gI T i),z3,z4]) (st':=st++[NG.lst (iL T)]++[NG.lst (iL W')]) ?_ rfl;rw[kG,La];simp only[jr,c4,dA,ka,tH,g9,iS,bind_some,lD,ju,kP];rw[r1'];simp only[bind_some];rw[r2'];simp only[bind_some,Gc,map_some];exact e
    ·rw[hW' x hx,hW x hx]
     unfold wt;simp only[NK];by_cases e:x<nr
     ·rw[yH e];lia
     ·rw[yG e]
      have:gI (HO (i+1)) x=0:=by unfold gI;rw[zD,List.getElem?_eq_none oM];rfl
      rw[this,yO];lia) (sl:=[Is nn,Rs k,Is p,Rs st.length,x1,x2,Rs (st.length+1),none,none,none,none]) (st:=st++[NG.lst (iL T)]++[NG.lst (iL ((T.drop w).take m))]) ⟨_,none,none,none,none,rfl,rfl,by simp[hT.len],hW0⟩
 have rl:(dj 1 w).length=w:=by unfold dj;simp
 rw[rl]at hW;refine⟨(.ref (st.length+1),st++[NG.lst (iL T)]++[NG.lst (iL W)]),?_,T,W,hT,hl,hW,rfl,rfl⟩;refine ai (sl':=[Is nn,Rs k,Is p,Rs st.length,x1,x2,Rs (st.length+1),y1,y2,y3,y4]) (st':=st++[NG.lst (iL T)]++[NG.lst (iL W)]) ?_ (by simp);have rb1:eR 1=true:=by decide
 have rb2:eR ((w:Int)+1)=true:=by
  unfold eR;refine yK ?_;rw[show((w:Int)+1).natAbs=w+1 by lia];exact yY ((Nat.log2_lt oM).mpr oM)
 rw[kG];have ei:dR KW (.r2 (.i 1) (.bin .Add (.ca true 0 (.cons (.v 0) .nil)) (.i 1))) [Is nn,Rs k,Is p,Rs st.length,x1,x2,Rs (st.length+1),none,none,none,none] (st++[NG.lst (iL T)]++[NG.lst (iL ((T.drop w).take m))])=some (⟨dj 1 w,[]⟩,st++[NG.lst (iL T)]++[NG.lst (iL ((T.drop w).take m))]):=by
  have e2:((w:Int)+1-1).toNat=w:=by lia
  simp[-List.append_assoc,Bv,HA,rb1,rb2]
 rw[ei,bind_some];exact e
end
section
variable{st:aa}{k a b c g n u w m p nr:Nat}{rows:List AV}{S:Sh}{nn:Int}{HO:Nat->List Int}{v:Nat->Nat->Int}
theorem TK.bd(hT:TK S w m p T)(hp:p<m)(Q:SX.Pm w m S.h S.s)(B:S.d.natAbs<2^8900/\∀i,i<m->∀j,j<w+1->(S.t i j).natAbs<2^8900)(q:Nat):(gI T q).natAbs<2^8900:=by
 by_cases hq:q<w+m
 ·by_cases h1:∃j,j<w/\S.h j=q
  ·obtain⟨j,hj,rfl⟩:=h1
   rw[hT.hd j hj]
   have:=B.2 p hp j oM
   split
   ·exact this
   ·rw[Int.natAbs_neg];exact this
  ·by_cases h2:q=S.s p
   ·rw[h2,hT.sd]
    split
    ·rw[Int.natAbs_neg];exact B.1
    ·exact B.1
   ·rw[hT.no q hq (fun j hj z=>h1 ⟨j,hj,z⟩) h2];exact Nat.two_pow_pos _
 ·have:gI T q=0:=by unfold gI;rw[zD,List.getElem?_eq_none (by rw[hT.len];lia)];rfl
  rw[this];exact Nat.two_pow_pos _
theorem AY(hb:∀q,(gI T q).natAbs<2^8900)(H:HOk nn w nr HO)(hw:w<=15)(x:Nat):(wt T HO w w x).natAbs<2^9000:=by
 unfold wt;have h1:=SX.abs_sum (n:=w) (f:=fun y=>gI T y*gI (HO (y+1)) x) (M:=2^8900*15) fun i hi=>by
  rw[yZ];refine Nat.mul_le_mul (yY (hb i)) ?_;unfold gI;rw[zD];cases e:(HO (i+1))[x]? with
  |none=>simp
  |some z=>exact H.bd (i+1) oM oM z (zW e)
 have h2:=hb (w+x);have h3:=Int.natAbs_add_le (gI T (w+x)) (NK w fun y=>gI T y*gI (HO (y+1)) x);have h4:w*(2^8900*15)<=15*(2^8900*15):=Nat.mul_le_mul_right _ hw;have h5:(2:Nat)^9000=2^8900*2^100:=by rw[<- Nat.pow_add]
 have h6:(2:Nat)^100=1267650600228229401496703205376:=by decide
 rw[h5,h6];generalize (2:Nat)^8900=B at *;lia
theorem Aq(R:Rep st k a b c g n u rows S)(I:MI w (m+1) v S)(Hb:Bnd w (m+1) v)(hp:p<m+1)(nt:S.tn.Nodup)(ht:∀q∈S.tn,q<w+(m+1))(hw:w<=15)(hm:m+1<=400)(HA:∀st,pm ak [.int nn] st=some (.int w,st))(H:HOk nn w nr HO)(hnr:nr<=m) :
  ∃z,bF [.int nn,.ref k,.int p] st=some z/\∃X T W,GX S w w (m+1) X/\TK S w (m+1) p T/\W.length=m/\(∀x,x<m->gI W x=wt T HO w w x) /\
   z.1=.tup [.str "least",.tup [.int (gI (aG [- S.t p w,S.d]) 0),.int (gI (aG [- S.t p w,S.d]) 1)],.tup [.fz (iL ((aG (X++[S.d])).take w)),.int (gI (aG (X++[S.d])) w)],.int (gI (aG (W++[S.d])) m),.fz (iL ((aG (W++[S.d])).take m))]:=by
 have P:=I.shp;have B:=Hb.bd I;obtain⟨z,e1,T,W,hT,hl,hW,hz1,hz2⟩:=AX R P I.pm hp nt ht oM oM HA H hnr;obtain⟨z1,z2⟩:=z;dsimp only at hz1 hz2;subst hz1;subst hz2;have R2:=(R.app (ys:=[NG.lst (iL T)])).app (ys:=[NG.lst (iL W)]);have wb:∀x∈W++[S.d],x.natAbs<2^9000:=fun x hx=>by
  rcases zZ.mp hx with h|h
  ·obtain⟨j,hj⟩:=z8 h
   have hjl:=(zB.mp hj).1;have eg:gI W j=x:=by unfold gI;rw[zD,hj];rfl
   rw[<- eg,hW j oM];exact AY (hT.bd hp I.pm (Hb.bd8 I)) H hw j
  ·rw[zM.mp h];exact B.1
 have e2:=rC (l:=W++[S.d]) (st:=st++[NG.lst (iL T)]++[NG.lst (iL W)]) (by simp[hl];lia) wb;obtain⟨X,T',st3,e3,rfl,hX,R3⟩:=A8 R2 P I.pm B HA oM oM;have fr:=GB (a:=- S.t p w) (b:=S.d) (st:=st) (by rw[Int.natAbs_neg];exact B.2 p hp w oM) B.1;refine⟨(_,st3),?_,X,T,W,hX,hT,hl,hW,rfl⟩;have ll:(aG (W++[S.d])).length=m+1:=by rw[iG];simp[hl]
 rw[bF,aD];unfold fB;refine ai (sl':=[Is nn,Rs k,Is p,some (.tup [.int (gI (aG [- S.t p w,S.d]) 0),.int (gI (aG [- S.t p w,S.d]) 1)]),none]) (st':=st) (by simp[R.ins,R.line P hp,R.last P hp,fr]) ?_;refine ai (sl':=[Is nn,Rs k,Is p,some (.tup [.int (gI (aG [- S.t p w,S.d]) 0),.int (gI (aG [- S.t p w,S.d]) 1)]),Ls (aG (W++[S.d]))]) (st':=st++[NG.lst (iL T)]++[NG.lst (iL W)]) ?_ ?_
 ·have gW:(st++[NG.lst (iL T)]++[NG.lst (iL W)])[st.length+1]?=some (.lst (iL W)):=by
   have:(st++[NG.lst (iL T)]).length=st.length+1:=by simp
   rw[<- this];exact gl
  have c:=jQ (ks:=[cX,aM,ah,aW]) (a:=.ca false 1 (.cons (.v 0) (.cons (.v 1) (.cons (.v 2) .nil)))) (b:=.nw false (.li (.cons (.fd "Sheet" "below" (.v 1)) .nil)))
   (sl:=[Is nn,Rs k,Is p,some (.tup [.int (gI (aG [- S.t p w,S.d]) 0),.int (gI (aG [- S.t p w,S.d]) 1)]),none]) (st:=st) (s1:=st++[NG.lst (iL T)]++[NG.lst (iL W)]) (s2:=st++[NG.lst (iL T)]++[NG.lst (iL W)]) (x:=.ref (st.length+1)) (y:=.fz [AV.int S.d]) (l:=W) (l':=[S.d])
   (by simp only[jr,c4,dA,ka,g9,iS,bind_some,qd,ju,kP];exact e1) (by simp[-List.append_assoc,cK,R2.ins]) (bB gW) rfl (by simp[hl];lia)
  simp only[fU,jr,c4,dA,gZ,c,bind_some,dh,ite_true,lD,ju,kP,e2,AB];rfl
 ·have xl:aZ st3 (.fz (iL (aG (W++[S.d])))) (.int (-1))=some (.int (gI (aG (W++[S.d])) m)):=by rw[cB eJ,ph (n:=m) (by simp[ll]),bY oM]
  simp[-List.append_assoc,e3,qW,qR,sG ll,xl]
end
open SX (Qt v0)
def val(w:Nat)(r:List Int)(Y:Nat->Int):Int:=NK w fun x=>gI r x*Y x
section
variable{w:Nat}{Y Y':Nat->Int}{g:Int}
theorem Hh{r:List Int}(h:∀x,x<w->Y x=g*Y' x):val w r Y=g*val w r Y':=by
 unfold val;rw[<- SX.sum_mul];exact SX.sum_congr fun x hx=>by rw[h x hx];grind
theorem vy(l:List Int):∃g:Int,0<g/\∀i,gI l i=g*gI (aG l) i:=by
 by_cases h:gL l=0
 ·exact⟨1,by decide,fun i=>by unfold aG;rw[yH h,Int.one_mul]⟩
 ·refine⟨(gL l:Int),by lia,fun i=>?_⟩
  unfold aG;rw[yG h];unfold gI;rw[zD,zD,zR];cases e:l[i]? with
  |none=>simp
  |some x =>
   have:=xx x (zW e)
   exact(Int.mul_ediv_cancel' (Int.dvd_natAbs.mp (Int.natCast_dvd_natCast.mpr this))).symm
theorem nF{l:List Int}{M:Nat}(hM:0<M)(h:∀x∈l,x.natAbs<M)(i:Nat):(gI (aG l) i).natAbs<M:=by
 obtain⟨g,hg,e⟩:=vy l;have h1:=lJ h hM i;rw[e i,yZ]at h1;exact yL (Nat.le_mul_of_pos_left _ oM) h1
theorem q0{l:List Int}{P:Int->Prop}(h:∀i,i<l.length->P (gI l i)):∀x∈l,P x:=fun x hx=>by
 obtain⟨i,hi⟩:=z8 hx
 have:=h i (zB.mp hi).1
 unfold gI at this;rw[zD,hi]at this;exact this
theorem Dx{l:List Int}{w i:Nat}(h:i<w):gI (l.take w) i=gI l i:=by
 unfold gI;rw[zD,zD,List.getElem?_take_of_lt h]
end
def vY(w:Nat)(goal:List Int)(t:AV):Prop :=
 (∃W,t=.tup [.str "never",.fz (iL W)]) \/
 (∃p d X D K W,t=.tup [.str "least",.tup [.int p,.int d],.tup [.fz (iL X),.int D],.int K,.fz (iL W)]/\d.natAbs<2^2500) \/
 ∃X D Z,t=.tup [.str "endless",.tup [.fz (iL X),.int D],.fz (iL Z)]/\((X.length=w/\∀x∈X,x.natAbs<2^2500)/\0<D/\D.natAbs<2^2500)/\(Z.length=w/\∀x∈Z,x.natAbs<2^2500)/\val w goal (gI Z)<0
structure AI(w nr:Nat)(gv:List Gv)(L:List (List Int))(i:Nat)(S:Sh):Prop where
 mi:MI w (nr+gv.length+1) (v0 w L) S
 un:∀x,nr+i<=x->x<nr+gv.length+1->S.s x=w+x
 g1:∀q∈S.gd,q<w+nr\/∃y z,y<i/\gv[y]?=some z/\z.eq=false/\q=w+nr+y
 n1:∀q∈S.nl,∃y z,y<i/\gv[y]?=some z/\z.eq=true/\q=w+nr+y
 t1:∀q∈S.tn,q∈S.nl
 tn:S.tn.Nodup
 lg:S.gd.length<=w+nr+i
 ln:S.nl.length<=i
 lt:S.tn.length<=i
section
variable{w nr i:Nat}{RR:List (List Int)}{gv:List Gv}{goal:List Int}{S:Sh}{Y:Nat->Int}{e:Int}
theorem rY{c:Int}{x:Nat}(h:r.length=w):gI (r++[c]) x=if x<w then gI r x else if x=w then c else 0:=by
 unfold gI;simp only[zD];by_cases h1:x<w
 ·rw[yH h1,zN oM]
 ·rw[yG h1,z6 oM]
  by_cases h2:x=w
  ·rw[yH h2,h,h2];simp
  ·rw[yG h2,List.getElem?_eq_none (by simp;lia)];rfl
theorem DN{c:Int}{j:Nat}(hj:L[j]?=some (r++[c]))(hr:r.length=w):Qt w (v0 w L) Y e (w+j)=val w r Y+c*e:=by
 have hv:∀x,v0 w L (w+j) x=gI (r++[c]) x:=fun x=>by
  unfold v0;rw[yG oM,show w+j-w=j by lia,zD,hj];rfl
 unfold Qt val;rw[hv,rY hr,yG oM,yH rfl];congr 1;exact SX.sum_congr fun x hx=>by rw[hv,rY hr,yH hx]
theorem G7(hi:i<RR.length):(au RR gv goal)[i]?=some (RR[i]++[0]):=by
 unfold au;rw[yM,zN (by simpa using hi)];simp[hi]
theorem G8:(au RR gv goal)[RR.length+gv.length]?=some (goal.map (fun x=>- x)++[0]):=by
 unfold au;rw[z6 (by simp)];simp
theorem vV:(au RR gv goal).length=RR.length+gv.length+1:=by simp[au];lia
theorem Cb:val w (goal.map fun x=>- x) Y=- val w goal Y:=by
 unfold val;have:∀x,gI (goal.map fun x=>- x) x=- gI goal x:=fun x=>by
  unfold gI;rw[zD,zD,zR];cases goal[x]?<;>rfl
 rw[SX.sum_congr (g:=fun x=>(-1)*(gI goal x*Y x)) fun x _=>by rw[this];grind,SX.sum_mul];lia
structure Sz(w:Nat)(RR:List (List Int))(gv:List Gv)(goal:List Int):Prop where
 r:∀l∈RR,l.length=w
 g:∀z∈gv,z.row.length=w
 o:goal.length=w
theorem Cc:∀q,q<w->∀x,x<w+1->v0 w L q x=if x=q then 1 else 0:=fun q hq x _=>by unfold v0;rw[yH hq]
theorem AI.vert(Z:Sz w RR gv goal)(A:AI w RR.length gv (au RR gv goal) gv.length S){c:Nat}(hc:c<w+1){X:Nat->Int}(h1:∀i,i<RR.length+gv.length+1->S.s i<w->X (S.s i)=S.t i c)(h2:∀j,j<w->S.h j<w->X (S.h j)=if j=c then S.d else 0):val w goal X=- S.t (RR.length+gv.length) c:=by
 have I:=A.mi;have tw:∀q∈S.tn,w<=q:=fun q hq=>by obtain⟨y,z,_,_,_,rfl⟩:=A.n1 q (A.t1 q hq);lia
 obtain⟨v1,v2⟩:=I.vert Cc tw hc h1 h2;have hs:=A.un (RR.length+gv.length) oM oM;have h3:=v1 (RR.length+gv.length) oM;rw[hs]at h3;have hnt:w+(RR.length+gv.length)∉S.tn:=fun z=>by
  obtain⟨y,z',y1,_,_,y4⟩:=A.n1 _ (A.t1 _ z);lia
 rw[yG hnt,DN G8 (by rw[zH];exact Z.o),Cb,yP,Int.add_zero]at h3;lia
end
section
variable{w:Nat}{RR:List (List Int)}{gv:List Gv}{goal:List Int}{nn:Int}{HO:Nat->List Int}
theorem Dy{n0:Nat}{i:Nat}(h:(eN n0 xs)[i]?=some y):∃x,xs[i]?=some x/\y=.tup [.int ((n0+i:Nat):Int),x]:=by
 unfold eN at h;rw[zR]at h;obtain⟨z,h1,rfl⟩:=zE.mp h;rw[List.getElem?_zipIdx]at h1;obtain⟨x,h2,rfl⟩:=zE.mp h1;exact⟨x,h2,rfl⟩
theorem IY:b9 .Eq s (.str "=") (.str "=")=some true:=by kernel_rfl
theorem IH:b9 .Eq s (.str ">") (.str "=")=some false:=by kernel_rfl
structure Qu(nn:Int)(w:Nat)(RR:List (List Int))(HO:Nat->List Int)(gv:List Gv)(goal:List Int):Prop where
 HR:∀st,pm aO [.int nn] st=some (.fz (aE RR),st)
 HA:∀st,pm ak [.int nn] st=some (.int w,st)
 H:HOk nn w RR.length HO
 Z:Sz w RR gv goal
 hw:w<=15
 hR:RR.length<=100
 hg:gv.length<=100
 B:Bnd w (RR.length+gv.length+1) (v0 w (au RR gv goal))
theorem tW(q:Qu nn w RR HO gv goal){k a b c g n u p:Nat}(R:Rep st k a b c g n u rows S)(I:MI w (RR.length+gv.length+1) (v0 w (au RR gv goal)) S)(hp:p<RR.length+gv.length+1)(nt:S.tn.Nodup)(ht:∀x∈S.tn,x<w+(RR.length+gv.length+1)) :
  ∃st1 W st2,aM [.int nn,.ref k,.int p] st=some (.ref (st.length+1),st1)/\pm ah [.ref (st.length+1)] st1=some (.fz (iL W),st2):=by
 obtain⟨z,e1,T,W,hT,hl,hW,hz1,hz2⟩:=AX R I.shp I.pm hp nt ht (by have:=q.hw;lia) (by have:=q.hg;have:=q.hR;lia) q.HA q.H oM;obtain⟨z1,z2⟩:=z;dsimp only at hz1 hz2;subst hz1;subst hz2;have gW:(st++[NG.lst (iL T)]++[NG.lst (iL W)])[st.length+1]?=some (.lst (iL W)):=by
  have:(st++[NG.lst (iL T)]).length=st.length+1:=by simp
  rw[<- this];exact gl
 have wb:∀x∈W,x.natAbs<2^9000:=fun x hx=>by
  obtain⟨j,hj⟩:=z8 hx;have hjl:=(zB.mp hj).1;have eg:gI W j=x:=by unfold gI;rw[zD,hj];rfl
  rw[<- eg,hW j oM];exact AY (hT.bd hp I.pm (q.B.bd8 I)) q.H q.hw j
 obtain⟨st2,e2,_⟩:=kM (fn:=ah) (rest:=[]) (st:=st++[NG.lst (iL T)]++[NG.lst (iL W)]) (x:=.ref (st.length+1)) (l:=W) (.inr ⟨_,rfl,.inl gW⟩) rfl rfl (fun s=>rfl) (qf (by have:=q.hg;have:=q.hR;lia) wb) rfl (by simp[flat]);exact⟨_,_,st2,e1,e2⟩
theorem AS(q:Qu nn w RR HO gv goal):∃z,gE [.int nn,.fz (gv.map Gv.av),.fz (iL goal)] []=some z/\∃t,cQ z.2 z.1=some t/\vY w goal t:=by
 have Z:=q.Z;obtain⟨m,hm⟩:∃m,m=RR.length+gv.length:=⟨_,rfl⟩;have hLl:(au RR gv goal).length=m+1:=by rw[vV,hm]
 obtain⟨L,hL⟩:∃L,L=au RR gv goal:=⟨_,rfl⟩;obtain⟨st1,e1,R1⟩:=FC (gv:=gv) (goal:=goal) q.HR q.HA q.hw q.hR Z.r q.hg Z.g Z.o;have A0:AI w RR.length gv (au RR gv goal) 0 (SX.openS w (au RR gv goal) (w+RR.length)):=by
  have hLen:∀l∈au RR gv goal,l.length=w+1:=fun l hl=>by
   unfold au at hl;simp only[zZ,yC,zM]at hl;rcases hl with(⟨r,hr,rfl⟩|⟨z,hz,rfl⟩)|rfl
   ·simp[Z.r r hr]
   ·simp[Z.g z hz]
   ·simp[Z.o]
  have hI:=SX.open_MI (w:=w) (nr:=RR.length) (L:=au RR gv goal) hLen fun i hi=>by
   rw[zD,G7 hi];show gI (RR[i]++[0]) w=0;rw[rY (Z.r _ (List.getElem_mem hi)),yG oM,yH rfl]
  rw[vV]at hI;refine⟨hI,fun x _ hx=>SX.open_s (by rw[vV];exact hx),fun x hx=>.inl (List.mem_range.mp hx),fun x hx=>?_,fun x hx=>?_,List.nodup_nil,by simp[SX.openS],zP 0,zP 0⟩
  ·exact absurd (show x ∈ ([]:List Nat) from hx) (by simp)
  ·exact absurd (show x ∈ ([]:List Nat) from hx) (by simp)
 have sm:=q.hg;have sm2:=q.hR;have sm3:=q.hw;rw[gE];simp only[aD];unfold mX;refine ag (sl':=[Is nn,Zs (gv.map Gv.av),Ls goal,Rs 1,none,none,none,none,none]) (st':=st1) (by simp[e1]) ?_;have l2:bL st1 (.ref 2)=some (aE (au RR gv goal)):=bB R1.ha;refine ag (sl':=[Is nn,Zs (gv.map Gv.av),Ls goal,Rs 1,Is (m:Int),none,none,none,none]) (st':=st1) (by simp[R1.ins,bN,de,l2,hLl]) ?_
 -- the givens
 have loop:=lK (gd:=[]) (g:=cj [bM,cA,bI,aM,ah,bG,bF,aW,cz] (.tu 2 (.cons (.nm 5) (.cons (.nm 6) .nil))))
  (s:=af [bM,cA,bI,aM,ah,bG,bF,aW,cz] (.cons (.as (.ife (.cmp .Eq (.ix (.v 6) (.i 1)) (.s "=")) (.ca false 1 (.cons (.v 3) (.cons (.v 5) .nil))) (.ca false 2 (.cons (.v 3) (.cons (.v 5) .nil)))) (.nm 7))
   (.cons (.iff (.no (.va (.v 7))) (.cons (.rt (.tu (.cons (.s "never") (.cons (.ca true 4 (.cons (.ca false 3 (.cons (.v 0) (.cons (.v 3) (.cons (.v 5) .nil)))) .nil)) .nil)))) .nil) .nil) .nil)))
  (I:=fun i sl s=>∃a rows S x5 x6 x7,sl=[Is nn,Zs (gv.map Gv.av),Ls goal,Rs 1,Is (m:Int),x5,x6,x7,none]/\Rep s 1 a 3 4 5 6 7 rows S/\AI w RR.length gv (au RR gv goal) i S)
  (Post:=fun v s=>∃t,cQ s v=some t/\vY w goal t) (xs:=eN RR.length (gv.map Gv.av)) (fun _ _ _ _ _=>rfl)
  (fun i y sl s hy hI=>by
   obtain⟨a,rows,S,x5,x6,x7,rfl,R,A⟩:=hI;obtain⟨x,hx,rfl⟩:=Dy hy;rw[zR]at hx;obtain⟨z,hz,rfl⟩:=zE.mp hx;have hzm:=zW hz;have hi:=(zB.mp hz).1;have hp:RR.length+i<RR.length+gv.length+1:=by lia
   have I:=A.mi;have sp:S.s (RR.length+i)=w+RR.length+i:=by rw[A.un _ (zP _) hp];lia
   have ng:S.s (RR.length+i)∉S.gd:=fun h=>by
    rcases A.g1 _ h with h|⟨y,_,h,_,_,h2⟩<;>lia
   have nn':S.s (RR.length+i)∉S.nl:=fun h=>by obtain⟨y,_,h,_,_,h2⟩:=A.n1 _ h;lia
   have nt:S.s (RR.length+i)∉S.tn:=fun h=>nn' (A.t1 _ h)
   have unk:∀T:Sh,Kj (RR.length+gv.length+1) (RR.length+i) S T->∀x,RR.length+(i+1)<=x->x<RR.length+gv.length+1->T.s x=w+x:=fun T K x h1 h2=>by
    have e:=A.un x oM h2;rw[K.si x h2 oM (by rw[e];intro h;rcases A.g1 _ h with h|⟨y,_,h,_,_,h2⟩<;>lia),e]
   have lst:∀x∈S.nl,x<w+(RR.length+gv.length+1):=fun x hx=>by
    obtain⟨y,_,h,_,_,h2⟩:=A.n1 _ hx;lia
   cases hze:z.eq with
   |true =>
    obtain⟨T,s2,a2,rows2,bb,e2,R2,K,hg,I2,hb⟩:=Iu q.B R I hp ng nn' nt (by have:=A.ln;lia) (by have:=A.lt;lia);have tnd:T.tn.Nodup:=by
     rcases K.tn with h|h
     ·rw[h];exact A.tn
     ·rw[h]
      rw[List.nodup_append];exact⟨A.tn,by simp,fun x hx y hy e=>nt (by rw[<- zM.mp hy,<- e];exact hx)⟩
    have es:ci [bM,cA,bI,aM,ah,bG,bF,aW,cz] (.as (.ife (.cmp .Eq (.ix (.v 6) (.i 1)) (.s "=")) (.ca false 1 (.cons (.v 3) (.cons (.v 5) .nil))) (.ca false 2 (.cons (.v 3) (.cons (.v 5) .nil)))) (.nm 7)) [Is nn,Zs (gv.map Gv.av),Ls goal,Rs 1,Is (m:Int),Is ((RR.length+i:Nat):Int),some z.av,x7,none] s
      = some (.nx [Is nn,Zs (gv.map Gv.av),Ls goal,Rs 1,Is (m:Int),Is ((RR.length+i:Nat):Int),some z.av,some (.bl bb),none] s2):=by
     have xi:aZ s z.av (.int 1)=some (.str "="):=by
      have:z.av=.tup [.fz (iL z.row),.str "=",.int z.num]:=by unfold Gv.av;rw[hze];rfl
      rw[this];rfl
     simp only[fU,AZ,uU,uA,ka,tH,Jx,g9,iS,bind_some,xi,map_some,IY,ite_true,jr,c4,dA,qd,ju,kP,e2,AB];rfl
    rcases hb with⟨rfl,hn⟩|⟨rfl,hn,hs,low,hr⟩
    ·refine⟨_,.nx [Is nn,Zs (gv.map Gv.av),Ls goal,Rs 1,Is (m:Int),Is ((RR.length+i:Nat):Int),some z.av,some (.bl true),none] s2,rfl,ar es ?_,.inl ⟨_,s2,rfl,a2,rows2,T,_,_,_,rfl,R2,⟨I2,unk T K,fun x hx=>?_,fun x hx=>?_,fun x hx=>?_,tnd,?_,?_,?_⟩⟩⟩
     ·simp[eQ,bL,dr]
     ·rw[hg]at hx
      rcases A.g1 x hx with h|⟨y,z',h1,h2⟩
      ·exact .inl h
      ·exact .inr ⟨y,z',by lia,h2⟩
     ·rw[hn,zZ,zM]at hx
      rcases hx with hx|hx
      ·obtain⟨y,z',h1,h2⟩:=A.n1 x hx;exact⟨y,z',by lia,h2⟩
      ·exact⟨i,z,by lia,hz,hze,by rw[hx,sp]⟩
     ·rw[hn,zZ,zM]
      rcases K.tn with h|h
      ·rw[h]at hx;exact .inl (A.t1 x hx)
      ·rw[h,zZ,zM]at hx
       exact hx.imp (A.t1 x) id
     ·rw[hg];have:=A.lg;lia
     ·rw[hn,zV];have:=A.ln;simp;lia
     ·rcases K.tn with h|h
      ·rw[h];have:=A.lt;lia
      ·rw[h,zV];have:=A.lt;simp;lia
    ·have tq:∀x∈T.tn,x∈T.nl\/x=T.s (RR.length+i):=fun x hx=>by
      rw[hn,hs];rcases K.tn with h|h
      ·rw[h]at hx;exact .inl (A.t1 x hx)
      ·rw[h,zZ,zM]at hx
       exact hx.imp (A.t1 x) id
     obtain⟨s3,W,s4,e3,e4⟩:=tW q R2 I2 hp tnd fun x hx=>by
      rcases tq x hx with h|h
      ·rw[hn]at h;exact lst x h
      ·rw[h,hs,sp];lia
     refine⟨_,.rt (.tup [.str "never",.fz (iL W)]) s4,rfl,ar es ?_,.inr ⟨_,s4,rfl,_,rfl,.inl ⟨W,rfl⟩⟩⟩;rw[Int.natCast_add]at e3;simp[eQ,bL,dr,e3,e4]
   |false =>
    obtain⟨T,s2,a2,rows2,bb,e2,R2,K,ht,hn,I2,hb⟩:=Ir q.B R I hp ng nn' (by have:=A.lg;lia);have es:ci [bM,cA,bI,aM,ah,bG,bF,aW,cz] (.as (.ife (.cmp .Eq (.ix (.v 6) (.i 1)) (.s "=")) (.ca false 1 (.cons (.v 3) (.cons (.v 5) .nil))) (.ca false 2 (.cons (.v 3) (.cons (.v 5) .nil)))) (.nm 7)) [Is nn,Zs (gv.map Gv.av),Ls goal,Rs 1,Is (m:Int),Is ((RR.length+i:Nat):Int),some z.av,x7,none] s
      = some (.nx [Is nn,Zs (gv.map Gv.av),Ls goal,Rs 1,Is (m:Int),Is ((RR.length+i:Nat):Int),some z.av,some (.bl bb),none] s2):=by
     have xi:aZ s z.av (.int 1)=some (.str ">"):=by
      have:z.av=.tup [.fz (iL z.row),.str ">",.int z.num]:=by unfold Gv.av;rw[hze];rfl
      rw[this];rfl
     simp only[fU,AZ,uU,uA,ka,tH,Jx,g9,iS,bind_some,xi,map_some,IH,yA,ite_false,jr,c4,dA,qd,ju,kP,e2,AB];rfl
    rcases hb with⟨rfl,hg⟩|⟨rfl,hg,hs,low,hr⟩
    ·refine⟨_,.nx [Is nn,Zs (gv.map Gv.av),Ls goal,Rs 1,Is (m:Int),Is ((RR.length+i:Nat):Int),some z.av,some (.bl true),none] s2,rfl,ar es ?_,.inl ⟨_,s2,rfl,a2,rows2,T,_,_,_,rfl,R2,⟨I2,unk T K,fun x hx=>?_,fun x hx=>?_,fun x hx=>by rw[ht]at hx;rw[hn];exact A.t1 x hx,by rw[ht];exact A.tn,?_,by rw[hn];have:=A.ln;lia,by rw[ht];have:=A.lt;lia⟩⟩⟩
     ·simp[eQ,bL,dr]
     ·rw[hg,zZ,zM]at hx
      rcases hx with hx|hx
      ·rcases A.g1 x hx with h|⟨y,z',h1,h2⟩
       ·exact .inl h
       ·exact .inr ⟨y,z',by lia,h2⟩
      ·exact .inr ⟨i,z,by lia,hz,hze,by rw[hx,sp]⟩
     ·rw[hn]at hx
      obtain⟨y,z',h1,h2⟩:=A.n1 x hx;exact⟨y,z',by lia,h2⟩
     ·rw[hg,zV];have:=A.lg;simp;lia
    ·have tq:∀x∈T.tn,x∈T.nl\/x=T.s (RR.length+i):=fun x hx=>.inl (by rw[ht]at hx;rw[hn];exact A.t1 x hx)
     obtain⟨s3,W,s4,e3,e4⟩:=tW q R2 I2 hp (by rw[ht];exact A.tn) fun x hx=>by rw[ht]at hx;exact lst x (A.t1 x hx)
     refine⟨_,.rt (.tup [.str "never",.fz (iL W)]) s4,rfl,ar es ?_,.inr ⟨_,s4,rfl,_,rfl,.inl ⟨W,rfl⟩⟩⟩;rw[Int.natCast_add]at e3;simp[eQ,bL,dr,e3,e4]) (sl:=[Is nn,Zs (gv.map Gv.av),Ls goal,Rs 1,Is (m:Int),none,none,none,none]) (st:=st1) ⟨2,_,_,none,none,none,rfl,R1,A0⟩
 have ei:dR [bM,cA,bI,aM,ah,bG,bF,aW,cz] (.es (.v 1) (.bin .Sub (.v 4) (.bi .len (.cons (.v 1) .nil)))) [Is nn,Zs (gv.map Gv.av),Ls goal,Rs 1,Is (m:Int),none,none,none,none] st1=some (⟨eN RR.length (gv.map Gv.av),[]⟩,st1):=by
  have h1:(m:Int)-(gv.length:Int)=(RR.length:Int):=by lia
  have h2:Nat.ble RR.length 1000000=true:=yK oM;simp[vH,bN,de,h1];lia
 rcases loop with⟨sl',st2,e2,a,rows,S,x5,x6,x7,rfl,R,A⟩|⟨v,st2,e2,t,ht,hA⟩
 ·rw[show(eN RR.length (gv.map Gv.av)).length=gv.length by unfold eN;simp]at A
  refine ag (sl':=[Is nn,Zs (gv.map Gv.av),Ls goal,Rs 1,Is (m:Int),x5,x6,x7,none]) (st':=st2) (by rw[kG,ei,bind_some];exact e2) ?_;have hp:m<RR.length+gv.length+1:=by lia
  have spg:S.s m=w+m:=A.un m oM hp;have ng:S.s m∉S.gd:=fun h=>by rcases A.g1 _ h with h|⟨y,_,h,_,_,h2⟩<;>lia
  obtain⟨r,e3,S2,a3,rows3,R3,K,I3,sp3,h3⟩:=Dz q.B R A.mi hp ng;have A3:AI w RR.length gv (au RR gv goal) gv.length S2:=by
   refine⟨I3,fun x h1 h2=>?_,by rw[K.gd];exact A.g1,by rw[K.nl];exact A.n1,by rw[K.tn,K.nl];exact A.t1,by rw[K.tn];exact A.tn,by rw[K.gd];exact A.lg,by rw[K.nl];exact A.ln,by rw[K.tn];exact A.lt⟩;have:x=m:=by lia
   subst this;rw[sp3,spg]
  have P3:=I3.shp;have lst:∀x∈S2.tn,x<w+(RR.length+gv.length+1):=fun x hx=>by
   obtain⟨y,_,h,_,_,h2⟩:=A3.n1 _ (A3.t1 x hx);lia
  obtain⟨r1,r2⟩:=r;dsimp only at R3 h3;rcases h3 with⟨rfl,hr⟩|⟨qq,rfl,hr,htn⟩
  ·refine ag (sl':=[Is nn,Zs (gv.map Gv.av),Ls goal,Rs 1,Is (m:Int),x5,x6,x7,some .non]) (st':=r2) (by simp[R.ins,e3]) ?_
   obtain⟨z,e4,X,T,W,hX,hT,hl,hW,hz⟩:=Aq (m:=RR.length+gv.length) (p:=m) R3 I3 q.B oM A3.tn lst q.hw oM q.HA q.H oM;obtain⟨z1,z2⟩:=z;dsimp only at hz;have dd:∀x∈[- S2.t m w,S2.d],x.natAbs<2^2500:=fun x hx=>by
    simp only[zT,zX,or_false]at hx;rcases hx with rfl|rfl
    ·rw[Int.natAbs_neg];exact(q.B.bd2 I3).2 m oM w oM
    ·exact(q.B.bd2 I3).1
   exact⟨(z1,z2),by simp[e4],z1,by rw[hz];rfl,.inr (.inl ⟨_,_,_,_,_,_,hz,nF (Nat.two_pow_pos _) dd 1⟩)⟩
  ·refine ag (sl':=[Is nn,Zs (gv.map Gv.av),Ls goal,Rs 1,Is (m:Int),x5,x6,x7,Is (qq:Int)]) (st':=r2) (by simp[R.ins,e3]) ?_
   obtain⟨q1,q2,q3,_⟩:=hr.2 qq rfl;obtain⟨X,T,st4,e4,eT,hX,R4⟩:=A8 R3 P3 I3.pm (q.B.bd I3) q.HA oM oM;subst eT;have gb:∀c,c<w+1->∀X,GX S2 w c (RR.length+gv.length+1) X->∀x∈X,x.natAbs<2^2500:=fun c hc X hX=>q0 fun i hi=>by
    rw[hX.len]at hi;by_cases h:∃y,y<RR.length+gv.length+1/\S2.s y=i
    ·obtain⟨y,hy,rfl⟩:=h
     rw[hX.at_ y hy hi];exact(q.B.bd2 I3).2 y hy c hc
    ·rw[hX.no i hi fun y hy z=>h ⟨y,hy,z⟩];exact Nat.two_pow_pos _
   obtain⟨X2,st5,e5,hX2⟩:=Hg R4 P3 I3.pm (q.B.bd I3) q.HA oM oM q1;obtain⟨V,hV⟩:∃V,V=if S2.h qq<w then X2.set (S2.h qq) S2.d else X2:=⟨_,rfl⟩
   rw[<- hV]at e5;have hVl:V.length=w:=by rw[hV];split<;>simp[hX2.len]
   have hVb:∀x∈V,x.natAbs<2^2500:=fun x hx=>by
    rw[hV]at hx;split at hx
    ·rcases List.mem_or_eq_of_mem_set hx with h|h
     ·exact gb qq oM X2 hX2 x h
     ·rw[h];exact(q.B.bd2 I3).1
    ·exact gb qq oM X2 hX2 x hx
   have hVx:∀x,x<w->gI V x=if x=S2.h qq then S2.d else gI X2 x:=fun x hx=>by
    rw[hV];by_cases h:S2.h qq<w
    ·rw[yH h,o6 (by rw[hX2.len];exact h)]
    ·rw[yG h,yG oM]
   obtain⟨g',hg',eg⟩:=vy V;have lX:(X++[S2.d]).length=w+1:=by simp[hX.len]
   have bX:∀x∈X++[S2.d],x.natAbs<2^2500:=fun x hx=>by
    rcases zZ.mp hx with h|h
    ·exact gb w oM X hX x h
    ·rw[zM.mp h];exact(q.B.bd2 I3).1
   have dp:0<gI (aG (X++[S2.d])) w:=by
    obtain⟨g2,hg2,e2⟩:=vy (X++[S2.d]);have e3:=e2 w;have e4:gI (X++[S2.d]) w=S2.d:=by
     unfold gI;rw[zD,z6 (by rw[hX.len];exact zP _),hX.len,Nat.sub_self];rfl
    rw[e4]at e3
    have:=I3.lin.pos
    rcases Int.lt_trichotomy 0 (gI (aG (X++[S2.d])) w) with h|h|h
    ·exact h
    ·rw[<- h]at e3;lia
    ·have:=Int.mul_neg_of_pos_of_neg hg2 h;lia
   refine⟨(.tup [.str "endless",.tup [.fz (iL ((aG (X++[S2.d])).take w)),.int (gI (aG (X++[S2.d])) w)],.fz (iL (aG V))],st5),by simp[e4,e5],_,rfl,.inr (.inr ⟨_,_,_,rfl,⟨⟨by rw[List.length_take,iG,lX];lia,q0 fun i hi=>by rw[Dx (by rw[List.length_take]at hi;lia)];exact nF (Nat.two_pow_pos _) bX i⟩,dp,nF (Nat.two_pow_pos _) bX w⟩,⟨by rw[iG,hVl],q0 fun i _=>nF (Nat.two_pow_pos _) hVb i⟩,?_⟩)⟩;have e2:=A3.vert Z (c:=qq) oM (X:=fun x=>if x=S2.h qq then S2.d else gI X2 x) (fun i hi hs=>by
    rw[yG (Ne.symm (I3.pm.hs qq i q1 hi))];exact hX2.at_ i hi hs) (fun j hj h=>by
    by_cases e:j=qq
    ·subst e;rw[yH rfl,yH rfl]
    ·rw[yG fun z=>e (I3.pm.hi j qq hj q1 z),yG e]
     exact hX2.no _ h fun i hi=>Ne.symm (I3.pm.hs j i hj hi))
   rw[<- hm]at e2;have ew:∀x,x<w->(if x=S2.h qq then S2.d else gI X2 x)=g'*gI (aG V) x:=fun x hx=>by rw[<- eg,hVx x hx]
   rw[Hh ew]at e2;have:g'*val w goal (gI (aG V))<0:=by rw[e2];lia
   rcases yU (val w goal (gI (aG V))) 0 with h|h
   ·exact h
   ·have:=Int.mul_nonneg (Int.le_of_lt hg') h;lia
 ·refine⟨(v,st2),?_,t,ht,hA⟩
  refine cL ?_;rw[kG,ei,bind_some];exact e2
end
noncomputable def RR2:List (List Int):=[[0,-1,1],[-1,0,1],[1,1,-1]]
noncomputable def Kk:Nat->List Int
 |1=>[1,0,1]
 |2=>[0,1,1]
 |_=>[1,1,1]
noncomputable def RR3:List (List Int):=[[0,0,0,0,0,-1,1],[0,0,0,0,-1,0,1],[0,0,-1,0,0,0,1],[1,1,-1,0,0,0,0],[0,0,0,-1,1,1,-1],[1,0,0,1,-1,0,0],[0,-1,1,0,0,1,-1],[0,1,0,1,0,-1,0],[-1,0,1,0,1,0,-1]]
noncomputable def Ki:Nat->List Int
 |1=>[1,0,0,1,0,0,1,0,0]
 |2=>[0,1,0,1,0,0,0,0,1]
 |3=>[1,1,0,1,0,0,1,0,1]
 |4=>[0,0,1,0,0,1,0,0,1]
 |5=>[1,0,1,1,0,0,1,0,1]
 |6=>[0,1,1,1,0,0,1,0,1]
 |_=>[1,1,1,1,0,0,1,0,1]
noncomputable def mk(w p m:Nat):List Int:=(List.range w).map fun i=>if p.testBit i then 1 else if m.testBit i then -1 else 0
def RR4:List (List Int):=[(16384,8192),(16384,4096),(16384,1024),(16384,64),(3,4),(48,72),(768,1152),(12288,18432),(9,16),(36,66),(2304,4224),(9216,16896),(129,256),(516,1026),(2064,4104),(8256,16416),(10,32),(20,65),(2560,8320),(5120,16640),(130,512),(260,1025),(2080,8200),(4160,16400),(136,2048),(272,4097),(544,8194),(1088,16388)].map fun z:Nat×Nat=>mk 15 z.1 z.2
def Kh(g:Nat):List Int:=mk 28 ([33297,8519698,8552979,134349060,134382101,142737942,142770711,136318984,136348185,142745626,142770715,142754060,142770717,142770718,142770719].getD (g-1) 0) 0
theorem dX(hr:rfs args=true)(h:((fn args []).bind fun p=>cQ p.2 p.1)=some t):pm fn args st=some (t,st):=by
 obtain⟨p,h1,h2⟩:=zA h;exact bO hr h1 h2
def L3(nn:Int)(w nr:Nat)(HO:Nat->List Int):Bool:=(List.range w).all fun g=>(match (cT [.int nn,.int ((g+1:Nat):Int),.int 0] []).bind fun p=>cQ p.2 p.1 with
 |some rr=>rf rr&&(match (dY [.int nn,rr] []).bind fun p=>cQ p.2 p.1 with
  |some x=>cU x (.fz (iL (HO (g+1))))
  |none=>false)
 |none=>false)&&((HO (g+1)).length==nr&&(HO (g+1)).all fun x=>Nat.ble x.natAbs 15)
theorem qo{nn:Int}{w nr:Nat}{HO:Nat->List Int}(h:L3 nn w nr HO=true):HOk nn w nr HO:=by
 have at_:∀grp:Nat,1<=grp->grp<=w->(∃rr,(∀st,pm cT [.int nn,.int grp,.int 0] st=some (rr,st))/\∀st,pm dY [.int nn,rr] st=some (.fz (iL (HO grp)),st))/\(HO grp).length=nr/\∀x∈HO grp,x.natAbs<=15:=fun grp h1 h2=>by
  obtain⟨g,rfl⟩:∃g,grp=g+1:=⟨grp-1,by lia⟩;have h:=yQ.mp h g (List.mem_range.mpr oM);simp only[zC]at h;obtain⟨h3,h4,h5⟩:=h;refine⟨?_,yJ h4,fun x hx=>zS (yQ.mp h5 x hx)⟩;split at h3
  ·rename_i rr e1
   simp only[zC]at h3;obtain⟨h6,h7⟩:=h3;split at h7
   ·rename_i x e2
    rw[ut h7]at e2;exact⟨rr,fun st=>dX rfl e1,fun st=>dX (by simp[rfs,rf,h6]) e2⟩
   ·cases h7
  ·cases h3
 exact⟨fun grp h1 h2=>(at_ grp h1 h2).1,fun grp h1 h2=>(at_ grp h1 h2).2.1,fun grp h1 h2=>(at_ grp h1 h2).2.2⟩
theorem Mx:∀st,pm ak [.int 2] st=some (.int ((3:Nat):Int),st):=fun st=>dX rfl (by kernel_rfl)
theorem Mw:∀st,pm ak [.int 3] st=some (.int ((7:Nat):Int),st):=fun st=>dX rfl (by kernel_rfl)
theorem Mv:∀st,pm ak [.int 4] st=some (.int ((15:Nat):Int),st):=fun st=>dX rfl (by kernel_rfl)
theorem Mo:∀st,pm aO [.int 2] st=some (.fz (aE RR2),st):=fun st=>dX rfl (by kernel_rfl)
theorem Mn:∀st,pm aO [.int 3] st=some (.fz (aE RR3),st):=fun st=>dX rfl (by kernel_rfl)
theorem Mm:∀st,pm aO [.int 4] st=some (.fz (aE RR4),st):=fun st=>dX rfl (by kernel_rfl)
theorem Mt:HOk 2 3 RR2.length Kk:=qo (by kernel_rfl)
theorem Ms:HOk 3 7 RR3.length Ki:=qo (by kernel_rfl)
theorem Mr:HOk 4 15 RR4.length Kh:=qo (by kernel_rfl)
noncomputable def RR1:List (List Int):=[[1]]
noncomputable def Kl:Nat->List Int:=fun _=>[1]
theorem My:∀st,pm ak [.int 1] st=some (.int ((1:Nat):Int),st):=fun st=>dX rfl (by kernel_rfl)
theorem Mp:∀st,pm aO [.int 1] st=some (.fz (aE RR1),st):=fun st=>dX rfl (by kernel_rfl)
theorem Mu:HOk 1 1 RR1.length Kl:=qo (by kernel_rfl)
noncomputable def M0:Nat:=2^120
theorem GP{w:Nat}(hw:w<=15)(hR:RR.length<=100)(hg:gv.length<=100)(h1:∀l∈RR,∀x∈l,x.natAbs<=M0)(h2:∀z∈gv,(∀x∈z.row,x.natAbs<=M0)/\z.num.natAbs<=M0)(h3:∀x∈goal,x.natAbs<=M0):Bnd w (RR.length+gv.length+1) (v0 w (au RR gv goal)):=by
 refine⟨⟨M0,Nat.one_le_two_pow,fun q x hx=>?_,?_⟩,by lia,by lia⟩
 ·have hM:1<=M0:=Nat.one_le_two_pow
  unfold v0;split
  ·split<;>simp[hM]
  ·unfold gI
   rw[zD,zD];cases e:(au RR gv goal)[q-w]? with
   |none=>simp
   |some l =>
    have hl:=zW e;simp only[Option.getD_some];cases e2:l[x]? with
    |none=>simp
    |some y =>
     have hy:=zW e2;simp only[Option.getD_some];unfold au at hl;simp only[zZ,yC,zM]at hl;rcases hl with(⟨r,hr,rfl⟩|⟨z,hz,rfl⟩)|rfl
     ·rcases zZ.mp hy with h|h
      ·exact h1 r hr y h
      ·rw[zM.mp h];simp
     ·rcases zZ.mp hy with h|h
      ·exact(h2 z hz).1 y h
      ·rw[zM.mp h,Int.natAbs_neg];exact(h2 z hz).2
     ·rcases zZ.mp hy with h|h
      ·obtain⟨u,hu,rfl⟩:=yC.mp h
       rw[Int.natAbs_neg];exact h3 u hu
      ·rw[zM.mp h];simp
 ·have f:SX.fct (w+1)<=2^45:=by
   have:w=0\/w=1\/w=2\/w=3\/w=4\/w=5\/w=6\/w=7\/w=8\/w=9\/w=10\/w=11\/w=12\/w=13\/w=14\/w=15:=by lia
   rcases this with rfl|rfl|rfl|rfl|rfl|rfl|rfl|rfl|rfl|rfl|rfl|rfl|rfl|rfl|rfl|rfl<;>decide
  have p:M0^(w+1)<=2^1920:=by
   unfold M0;rw[<- Nat.pow_mul];exact Nat.pow_le_pow_right dC oM
  refine yL (Nat.mul_le_mul f p) ?_;rw[<- Nat.pow_add];exact Nat.pow_lt_pow_right dC dC
def iF(n:Nat):Prop:=n=1\/n=2\/n=3\/n=4
def BW(n:Nat):List (List Int):=if n=1 then RR1 else if n=2 then RR2 else if n=3 then RR3 else RR4
def Mq(n:Nat):Nat->List Int:=if n=1 then Kl else if n=2 then Kk else if n=3 then Ki else Kh
theorem LS{n:Nat}{gv:List Gv}{goal:List Int}(hn:iF n)(hg:gv.length<=100)(h2:∀z∈gv,z.row.length=2^n-1/\(∀x∈z.row,x.natAbs<=M0)/\z.num.natAbs<=M0)(h3:goal.length=2^n-1/\∀x∈goal,x.natAbs<=M0):Qu n (2^n-1) (BW n) (Mq n) gv goal:=by
 have h1:∀l∈BW n,l.length=2^n-1/\∀x∈l,x.natAbs<=1:=by rcases hn with rfl|rfl|rfl|rfl<;>decide +kernel
 have hR:(BW n).length<=100:=by rcases hn with rfl|rfl|rfl|rfl<;>decide
 have hw:2^n-1<=15:=by rcases hn with rfl|rfl|rfl|rfl<;>decide
 have hM:1<=M0:=Nat.one_le_two_pow;have B:=GP hw hR hg (fun l hl x hx=>z5 ((h1 l hl).2 x hx) hM) (fun z hz=>(h2 z hz).2) h3.2;have Z:Sz (2^n-1) (BW n) gv goal:=⟨fun l hl=>(h1 l hl).1,fun z hz=>(h2 z hz).1,h3.1⟩;rcases hn with rfl|rfl|rfl|rfl
 ·exact⟨Mp,My,Mu,Z,hw,hR,hg,B⟩
 ·exact⟨Mo,Mx,Mt,Z,hw,hR,hg,B⟩
 ·exact⟨Mn,Mw,Ms,Z,hw,hR,hg,B⟩
 ·exact⟨Mm,Mv,Mr,Z,hw,hR,hg,B⟩
theorem GY{nn:Int}{w:Nat}{RR:List (List Int)}{HO:Nat->List Int}{gv:List Gv}{goal:List Int}(q:Qu nn w RR HO gv goal):∃t,(∀st,pm gE [.int nn,.fz (gv.map Gv.av),.fz (iL goal)] st=some (t,st))/\vY w goal t:=by
 obtain⟨z,e,t,h,A⟩:=AS q;exact⟨t,fun st=>bO rfl e h,A⟩
theorem qe{a b:Int}(h:a.natAbs<2^62):dD a b=true:=by
 unfold dD;have:Nat.ble a.natAbs.log2 62=true:=yK (by
  by_cases hz:a.natAbs=0
  ·rw[hz];decide
  ·exact yY ((Nat.log2_lt hz).mpr h))
 rw[this];simp
theorem Bp{a b:Int}(h:b.natAbs<2^62):dD a b=true:=by
 unfold dD;have:Nat.ble b.natAbs.log2 62=true:=yK (by
  by_cases hz:b.natAbs=0
  ·rw[hz];decide
  ·exact yY ((Nat.log2_lt hz).mpr h))
 rw[this];simp
theorem BA{a b:Int}(h:0<b):oe a b=a%b:=yH h
theorem IU{a b:Int}(h:0<b):uk a b=a/b:=yH h
theorem Ih{a b:Int}(h:0<b):0<=a%b/\a%b<b:=⟨Int.emod_nonneg _ oM,Int.emod_lt_of_pos _ h⟩
theorem HQ{r:Nat}{x:Int}(h:st[r]?=some (.lst (iL (D++[x])))):ao [.ref r] st=some (.int x,st.set r (.lst (iL D))):=by
 have hp:∀l:List Int,aP (bU 8 st) (iL l)=some (l.map PyData.int):=fun l=>c6 (f:=bU 8 st) (i:=AV.int) (g:=PyData.int) (fun _=>rfl) l
 have hl:∀l:List Int,PyData.canLayAll0 (l.map PyData.int)=true:=fun l=>by
  induction l with
  |nil=>rfl
  |cons a l ih=>simp only[zO,PyData.canLayAll0,PyData.canLay0,ih,Bool.and_self]
 have c:b9 .Eq st (.ref r) (.fz [])=some false:=by
  show je st (.ref r) (.fz [])=_;unfold je;have p1:bU 9 st (.ref r)=some (.list ((D++[x]).map PyData.int)):=by
   unfold bU;simp only[h,hp,map_some]
  have p2:bU 9 st (.fz [])=some (.list []):=rfl;rw[p1,p2,bind_some,bind_some,yH ?_]
  ·rw[List.map_append]
   cases D.map PyData.int<;>rfl
  ·have h1:(PyData.list ((D++[x]).map PyData.int)).canLay0=true:=by unfold PyData.canLay0;exact hl _
   have h2:(PyData.list []).canLay0=true:=rfl;have h3:min (PyData.list ((D++[x]).map PyData.int)).depth (PyData.list []).depth<=50:=z5 (Nat.min_le_right _ _) dC;unfold DD.pyOk;rw[h1,h2,yV h3];rfl
 have e1:(iL (D++[x]))[D.length]?=some (.int x):=by unfold iL;simp
 have e2:(iL (D++[x])).dropLast=iL D:=by unfold iL;simp
 simp[ao,aD,j6,cK,c,kB,nE,nD,mY,bB h,vv,fe,h,e1,e2];exact(zB.mp e1).2
section
variable{ks:List Fn}{sl:Sl}{st:aa}{ss:NQ}{P:AV×aa->Prop}
theorem d7{s:Sx}{v:AV}{st':aa}(h:ci ks s sl st=some (.rt v st'))(hp:P (v,st')):∃r,(af ks (.cons s ss) sl st).bind ay=some r/\P r:=⟨_,cL h,hp⟩
theorem kJ{α:Type}{em:α->AV}{it:Ix}{t:Tg}{b:NQ}{xs:List α}{gd:Gd}{st0:aa}(I:Nat->Sl->aa->Prop)(hi:dR ks it sl st=some (⟨xs.map em,gd⟩,st0))(hg:∀i sl st,I i sl st->cg gd st=true)(h0:I 0 sl st0)
  (h:∀i x sl st,xs[i]?=some x->I i sl st->∃p sl2 st2,cj ks t (em x) sl st=some p/\af ks b p.1 p.2=some (.nx sl2 st2)/\I (i+1) sl2 st2)
  (hr:∀sl' st',I xs.length sl' st'->∃r,(af ks ss sl' st').bind ay=some r/\P r):∃r,(af ks (.cons (.fo it t b) ss) sl st).bind ay=some r/\P r:=by
 obtain⟨sl',st',e,hI⟩:=eK (gd:=gd) (g:=cj ks t) (s:=af ks b) (I:=I) (xs:=xs.map em) (fun i sl st _ hI=>hg i sl st hI) (fun i y sl st hy hI=>by
  rw[zR]at hy;obtain⟨x,hx,rfl⟩:=zE.mp hy;exact h i x sl st hx hI) h0
 rw[zH]at hI;obtain⟨r,e2,hp⟩:=hr sl' st' hI;exact⟨r,ai (by rw[kG,hi,bind_some];exact e) e2,hp⟩
theorem Hf{α:Type}{em:α->AV}{it:Ix}{t:Tg}{b:NQ}{xs:List α}{gd:Gd}{st0:aa}{Q:Out->Prop}(I:Nat->Sl->aa->Prop)(hi:dR ks it sl st=some (⟨xs.map em,gd⟩,st0))(hg:∀i sl st,I i sl st->cg gd st=true)(h0:I 0 sl st0)
  (h:∀i x sl st,xs[i]?=some x->I i sl st->∃p sl2 st2,cj ks t (em x) sl st=some p/\af ks b p.1 p.2=some (.nx sl2 st2)/\I (i+1) sl2 st2)
  (hr:∀sl' st',I xs.length sl' st'->∃r,af ks ss sl' st'=some r/\Q r):∃r,af ks (.cons (.fo it t b) ss) sl st=some r/\Q r:=by
 obtain⟨sl',st',e,hI⟩:=eK (gd:=gd) (g:=cj ks t) (s:=af ks b) (I:=I) (xs:=xs.map em) (fun i sl st _ hI=>hg i sl st hI) (fun i y sl st hy hI=>by
  rw[zR]at hy;obtain⟨x,hx,rfl⟩:=zE.mp hy;exact h i x sl st hx hI) h0
 rw[zH]at hI;obtain⟨r,e2,hp⟩:=hr sl' st' hI;exact⟨r,ar (by rw[kG,hi,bind_some];exact e) e2,hp⟩
theorem yb{s:Sx}{sl':Sl}{st':aa}{Q:Out->Prop}(h:ci ks s sl st=some (.nx sl' st'))(h2:∃r,af ks ss sl' st'=some r/\Q r):∃r,af ks (.cons s ss) sl st=some r/\Q r:=by
 obtain⟨r,e,q⟩:=h2;exact⟨r,ar h e,q⟩
end
theorem Eh{f:AV->AV->Option AV}{h:Nat->Nat->Nat} (t:∀x:Nat,x<16->∀y:Nat,y<16->(match f (.int x) (.int y) with
  |some (.int b)=>decide (b=(h x y:Int))
  |_=>false)=true) {x y:Nat} (hx:x<16) (hy:y<16):f (.int (x:Int)) (.int (y:Int))=some (.int (h x y:Int)):=by
 have t:=t x hx y hy;split at t
 ·rename_i b e
  rw[of_decide_eq_true t]at e;exact e
 ·cases t
section
variable{st:aa}{os:List Nat}{n g k j:Nat}{D:List Int}
theorem qQ{x y:Nat}(hx:x<16)(hy:y<16):aY .BitOr st (.int (x:Int)) (.int (y:Int))=some (.int ((x ||| y:Nat):Int)):=by
 show aY .BitOr [] (.int (x:Int)) (.int (y:Int))=_;exact Eh (f:=aY .BitOr []) (h:=fun x y=>x ||| y) (by decide +kernel) hx hy
theorem qc{ks:List Fn}{a:Ex}{sl:Sl}{n:Nat}(h:ev ks a sl st=some (.int (n:Int),st))(hn:n<=1000):dR ks (.r1 a) sl st=some (⟨(List.range n).map fun q:Nat=>AV.int (q:Int),[]⟩,st):=by
 show(ev ks a sl st).bind _=_;rw[h,bind_some];dsimp only;have:eR (n:Int)=true:=by
  unfold eR;refine yK ?_;rw[Int.natAbs_natCast];by_cases hz:n=0
  ·subst hz;decide
  ·exact yY ((Nat.log2_lt hz).mpr (yL hn dC))
 rw[yH this,Int.toNat_natCast,lA];rfl
theorem qt{ks:List Fn}{a e:Ex}{sl:Sl}{y:AV}{xs:List AV}{k:Nat}(h1:ev ks a sl st=some (.ref k,st))(h2:ev ks e sl st=some (y,st))(h3:st[k]?=some (.lst xs))(hl:xs.length<=1000):ci ks (.ex (.mt .app a (.cons e .nil))) sl st=some (.nx sl (st.set k (.lst (xs++[y])))):=by
 simp[kB,nE,nD,h1,mY,bB h3,h2,oW,fe,h3,bW hl]
theorem kO{α:Type}{ks:List Fn}{k:Nat}{it:Ix}{t:Tg}{c:Cx'}{e:Ex}{sl:Sl}{gd:Gd}{em:α->AV}{B:α->Bool}{F:α->AV}{xs:List α}(hi:dR ks it sl st=some (⟨xs.map em,gd⟩,st))(hg:cg gd st=true)(hz:xs.length<=1000)
  (h:∀x∈xs,∃sl1,cj ks t (em x) (sl++List.replicate k none) st=some (sl1,st)/\jd ks c sl1 st=some (B x,st)/\(B x=true->ev ks e sl1 st=some (F x,st))):jb ks (.lc k it t c e) sl st=some ((xs.filter B).map F,st):=by
 rw[FN,hi,bind_some];dsimp only;rw[yH (bW (by rw[zH];exact hz))];exact gx hg h
theorem jE{b:Bool}:eQ st (.bl b)=some b:=rfl
theorem rh{m:Nat}{l:List Int}:aP (bU (m+1) st) (iL l)=some (l.map PyData.int):=c6 (f:=bU (m+1) st) (i:=AV.int) (g:=PyData.int) (fun _=>rfl) l
theorem qh(h:D≠[]):∃D' x,D=D'++[x]:=⟨D.dropLast,D.getLast h,(List.dropLast_concat_getLast h).symm⟩
end
section
variable{st:aa}{os:List Nat}{n g k j:Nat}{A B O:NG}{D T:List Int}
def okD(D:List Int):Prop:=∀x∈D,0<=x/\x<2147483587
theorem okD.at{D:List Int}{x:Int}(h:okD (D++[x])):0<=x/\okD D:=⟨(h x (by simp)).1,fun y hy=>h y (by simp[hy])⟩
theorem JU{i:Nat}(hi:i<T.length):aZ st (.fz (iL T)) (.int (i:Int))=some (.int (SX.gI T i)):=by rw[cB eJ,cb,bY hi]
theorem gT{z c:Int}(hc:eC c=true)(h0:0<c):aY .FloorDiv st (.int z) (.int c)=some (.int (z/c)):=by rw[oA hc];exact congrArg (fun q=>some (AV.int q)) (yH h0)
theorem eA{z c:Int}(h0:0<c):aY .Mod st (.int z) (.int c)=some (.int (z%c)):=by rw[oz oM];exact congrArg (fun q=>some (AV.int q)) (yH h0)
theorem Im{l:List Int}:bN de [.fz (iL l)] st=some (.int ((l.length:Nat):Int),st):=by
 show some (AV.int ((iL l).length:Int),st)=_;rw[gN]
theorem BP{l:List AV}{i:Int}(h0:0<=i)(h1:i<l.length):∃x∈l,aZ st (.fz l) (.int i)=some x:=by
 obtain⟨q,rfl⟩:∃q:Nat,i=(q:Int):=⟨i.toNat,by lia⟩;have hq:q<l.length:=by lia
 refine⟨l[q],List.getElem_mem hq,?_⟩;rw[cB eJ,cb,zF hq]
end
section
variable{st:aa}
theorem Ik{l:List Int}:lsI st (.fz (iL l))=some l:=by
 unfold lsI;rw[eJ,bind_some];unfold gG;rw[show iL l=l.map AV.int from rfl,c6 (i:=AV.int) (g:=id) (fun _=>rfl),List.map_id]
theorem qr:∀l:List Gv,rfs (l.map Gv.av)=true:=fun l=>fH fun x hx=>by
 obtain⟨z,_,rfl⟩:=yC.mp hx;simp[Gv.av,rf,rfs,dh]
theorem ny{a b:Int}{m n:Nat}(ha:a.natAbs<2^m)(hb:b.natAbs<2^n):(a*b).natAbs<2^(m+n):=by
 rw[yZ,Nat.pow_add];exact Nat.mul_lt_mul'' ha hb
theorem wU{a b:Int}{m:Nat}(ha:a.natAbs<2^m)(hb:b.natAbs<2^m):(a+b).natAbs<2^(m+1):=by
 rw[Nat.pow_succ];generalize 2^m=q at *;lia
end
section
variable{st:aa}{w:Nat}{r X Z goal:List Int}{D num:Int}
theorem Er(n:Nat)(f:Nat->Int):NK (n+1) f=f 0+NK n fun i=>f (i+1):=by
 induction n with
 |zero=>simp[NK]
 |succ n ih=>rw[NK,ih,NK];lia
theorem tN:∀(r X:List Int),r.length=X.length->((r.zip X).map fun z=>z.1*z.2).sum=NK r.length fun x=>gI r x*gI X x
 |[],_,_=>rfl
 |x::r,[],h=>by simp at h
 |x::r,y::X,h=>by
  rw[List.zip_cons_cons,zO,List.sum_cons,tN r X (by simpa using h),yX,Er];rfl
theorem tG(hr:r.length=w)(hX:X.length=w)(hw:w<=15)(br:∀x∈r,x.natAbs<2^9000)(bX:∀x∈X,x.natAbs<2^9000):pm gC [.fz (iL r),.fz (iL X)] st=some (.int (val w r (gI X)),st):=by
 have e:=kO (st:=[]) (ks:=[]) (k:=2) (it:=.zi (.v 0) (.v 1)) (t:=.tu 2 (.cons (.nm 2) (.cons (.nm 3) .nil))) (c:=.no) (e:=.bin .Mult (.v 2) (.v 3)) (sl:=[Ls r,Ls X]) (gd:=[]) (em:=fun z:Int×Int=>AV.tup [.int z.1,.int z.2]) (xs:=r.zip X) (B:=fun _=>true) (F:=fun z=>AV.int (z.1*z.2)) (by
  rw[<- qw];rfl) rfl (by rw[List.length_zip];lia) fun z hz=>by
   have:=List.of_mem_zip hz
   exact⟨[Ls r,Ls X,Is z.1,Is z.2],rfl,rfl,fun _=>by simp[cC (cW (br _ this.1) (bX _ this.2))]⟩
 rw[List.filter_eq_self.mpr (fun _ _=>rfl),show(r.zip X).map (fun z=>AV.int (z.1*z.2))=iL ((r.zip X).map fun z=>z.1*z.2) by unfold iL;rw[List.map_map];rfl]at e;have e2:ev [] (.nw false (.lc 2 (.zi (.v 0) (.v 1)) (.tu 2 (.cons (.nm 2) (.cons (.nm 3) .nil))) .no (.bin .Mult (.v 2) (.v 3)))) [Ls r,Ls X] []=some (.fz (iL ((r.zip X).map fun z=>z.1*z.2)),[]):=by
  rw[gZ,e,bind_some,yH dh]
 refine bO (by simp[rfs,rf,dh]) (v:=.int (val w r (gI X))) (st':=[]) ?_ rfl;rw[gC,aD];show(af [] pf [Ls r,Ls X] []).bind ay=_;refine cL ?_;simp only[mM,Km,c4,dA,e2,bind_some,GR,bN,qA,Ik,map_some];rw[tN r X oM,hr];rfl
theorem v7{M N:Nat}(hr:r.length=w)(hX:X.length=w)(hw:w<=15)(br:∀x∈r,x.natAbs<2^M)(bX:∀x∈X,x.natAbs<2^N):(val w r (gI X)).natAbs<2^(M+N+4):=by
 have h:=SX.abs_sum (n:=w) (f:=fun x=>gI r x*gI X x) (M:=2^(M+N)) fun i hi=>by
  rw[yZ,Nat.pow_add];exact Nat.mul_le_mul (yY (lJ br (Nat.two_pow_pos _) i)) (yY (lJ bX (Nat.two_pow_pos _) i))
 have h2:w*2^(M+N)<=15*2^(M+N):=Nat.mul_le_mul_right _ hw;have hp:=Nat.two_pow_pos (M+N);unfold val;rw[Nat.pow_add _ (M+N)];generalize 2^(M+N)=B at *;lia
theorem gV{x:Int}{M:Nat}(h:x.natAbs<2^M)(hM:M<=9000):x.natAbs<2^9000:=zJ h (Nat.pow_le_pow_right dC hM)
theorem Ii{a b:Int}:bN oV [.int a,.int b] st=some (.int (max a b),st):=by
 have:bN oV [.int a,.int b] st=some (.int (if b > a then b else a),st):=rfl;rw[this];congr 3;split<;>lia
theorem DL(hw:w<=15)(hr:r.length=w)(br:∀x∈r,x.natAbs<2^121)(bn:num.natAbs<2^121)(T:(X.length=w/\∀x∈X,x.natAbs<2^2500)/\0<D/\D.natAbs<2^2500)(hZ:Z.length=w/\∀x∈Z,x.natAbs<2^2500)(hn:val w r (gI Z)<0) :
  ∃V E,∀st,pm dS [.tup [.fz (iL X),.int D],.fz (iL Z),.fz (iL r),.int num] st=some (.tup [.fz (iL V),.int E],st):=by
 obtain⟨⟨hl,bX⟩,hD,bD⟩:=T;obtain⟨Zl,bZ⟩:=hZ;have bx:=v7 hr hl hw br bX;have bz:=v7 hr Zl hw br bZ;have vx:=fun st=>tG (st:=st) hr hl hw (fun x h=>gV (br x h) dC) (fun x h=>gV (bX x h) dC)
 have vz:=fun st=>tG (st:=st) hr Zl hw (fun x h=>gV (br x h) dC) (fun x h=>gV (bZ x h) dC)
 generalize hvx:val w r (gI X)=ax at *;generalize hvz:val w r (gI Z)=az at *;obtain⟨ab,hab⟩:∃ab,ab=ax-num*D:=⟨_,rfl⟩;obtain⟨fl,hfl⟩:∃fl,fl=- az*D:=⟨_,rfl⟩;have m1:dD num D=true:=cW (gV bn dC) (gV bD dC);have m2:dD (- az) D=true:=cW (by rw[Int.natAbs_neg];exact gV bz dC) (gV bD dC);have f0:0<fl:=by rw[hfl];exact Int.mul_pos oM hD
 have bfl:fl.natAbs<2^5125:=by
  have:=ny (a:=- az) (b:=D) (by rw[Int.natAbs_neg];exact bz) bD
  rw[hfl];exact this
 have bab:ab.natAbs<2^2627:=by
  have h1:=ny bn bD;have h2:ax.natAbs<2^2626:=zJ bx (Nat.pow_le_pow_right dC dC);have h3:(- (num*D)).natAbs<2^2626:=by rw[Int.natAbs_neg];exact zJ h1 (Nat.pow_le_pow_right dC dC)
  have:=wU h2 h3
  rw[hab,Int.sub_eq_add_neg];exact this
 obtain⟨s,hs⟩:∃s,s=max 0 (ab/fl+1):=⟨_,rfl⟩;have bs:s.natAbs<2^2629:=by
  have h1:(ab/fl).natAbs<=ab.natAbs+1:=by
   have:=Int.natAbs_ediv_le_natAbs ab fl
   lia
  have h2:(2:Nat)^2629=2^2627*4:=by rw[show(4:Nat)=2^2 from rfl,<- Nat.pow_add]
  have h3:=Nat.two_pow_pos 2627;rw[hs,h2];generalize (2:Nat)^2627=B at *;lia
 have bsD:=ny bs bD;have m3:dD s D=true:=cW (gV bs dC) (gV bD dC);have dv:eC fl=true:=sC oM (gV bfl dC);obtain⟨V,hV⟩:∃V,V=(X.zip Z).map fun z=>z.1+s*D*z.2:=⟨_,rfl⟩
 have lV:V.length=w:=by rw[hV,zH,List.length_zip];lia
 have bV:∀x∈V,x.natAbs<2^9000:=fun x hx=>by
  rw [hV] at hx;obtain ⟨z,hz,rfl⟩:=yC.mp hx;obtain ⟨z1,z2⟩:=List.of_mem_zip hz;have h1:=ny bsD (bZ _ z2);have h2:=wU (zJ (bX _ z1) (Nat.pow_le_pow_right dC (show 2500 <= 2629 + 2500 + 2500 by decide))) h1;exact gV h2 dC
 refine⟨(aG (V++[D])).take w,gI (aG (V++[D])) w,fun st=>?_⟩
 ·have lt:=wX (X:=V) (d:=D) oM bV (gV bD dC)
  rw[lV]at lt;have lt:pm bH [.fz (iL V),.int D] []=some (.tup [.fz (iL ((aG (V++[D])).take w)),.int (gI (aG (V++[D])) w)],[]):=bO (by simp[rfs,rf,dh]) lt rfl;refine bO (by simp[rfs,rf,dh]) (v:=.tup [.fz (iL ((aG (V++[D])).take w)),.int (gI (aG (V++[D])) w)]) (st':=[]) ?_ rfl;have i0:aZ [] (.tup [.fz (iL X),.int D]) (.int 0)=some (.fz (iL X)):=rfl;have i1:aZ [] (.tup [.fz (iL X),.int D]) (.int 1)=some (.int D):=rfl;rw[dS,aD];show(af [gC,bH] fg [some (.tup [.fz (iL X),.int D]),Ls Z,Ls r,Is num,none,none,none,none] []).bind ay=_;unfold fg;refine ai (sl':=[some (.tup [.fz (iL X),.int D]),Ls Z,Ls r,Is num,Is D,none,none,none]) (st':=[]) (by simp[i1]) ?_;refine ai (sl':=[some (.tup [.fz (iL X),.int D]),Ls Z,Ls r,Is num,Is D,Is ab,none,none]) (st':=[]) (by simp[i0,vx,cC m1,hab]) ?_;refine ai (sl':=[some (.tup [.fz (iL X),.int D]),Ls Z,Ls r,Is num,Is D,Is ab,Is fl,none]) (st':=[]) (by simp[vz,cC m2,hfl,kE]) ?_;refine ai (sl':=[some (.tup [.fz (iL X),.int D]),Ls Z,Ls r,Is num,Is D,Is ab,Is fl,Is s]) (st':=[]) (by simp[gT dv f0,Ii,<- hs]) (cL ?_);have e:=kO (st:=[]) (ks:=[gC,bH]) (k:=2) (it:=.zi (.ix (.v 0) (.i 0)) (.v 1)) (t:=.tu 2 (.cons (.nm 8) (.cons (.nm 9) .nil))) (c:=.no) (e:=.bin .Add (.v 8) (.bin .Mult (.bin .Mult (.v 7) (.v 4)) (.v 9))) (sl:=[some (.tup [.fz (iL X),.int D]),Ls Z,Ls r,Is num,Is D,Is ab,Is fl,Is s]) (gd:=[]) (em:=fun z:Int×Int=>AV.tup [.int z.1,.int z.2]) (xs:=X.zip Z) (B:=fun _=>true) (F:=fun z=>AV.int (z.1+s*D*z.2)) (by
   rw[<- qw];rfl) rfl (by rw[List.length_zip];lia) fun z hz=>by
    have:=List.of_mem_zip hz
    exact⟨[some (.tup [.fz (iL X),.int D]),Ls Z,Ls r,Is num,Is D,Is ab,Is fl,Is s,Is z.1,Is z.2],rfl,rfl,fun _=>by simp[cC m3,cC (cW (gV bsD dC) (gV (bZ _ this.2) dC))]⟩
  rw[List.filter_eq_self.mpr (fun _ _=>rfl),show(X.zip Z).map (fun z=>AV.int (z.1+s*D*z.2))=iL V by rw[hV];unfold iL;rw[List.map_map];rfl]at e;have e2:ev [gC,bH] (.nw false (.lc 2 (.zi (.ix (.v 0) (.i 0)) (.v 1)) (.tu 2 (.cons (.nm 8) (.cons (.nm 9) .nil))) .no (.bin .Add (.v 8) (.bin .Mult (.bin .Mult (.v 7) (.v 4)) (.v 9))))) [some (.tup [.fz (iL X),.int D]),Ls Z,Ls r,Is num,Is D,Is ab,Is fl,Is s] []=some (.fz (iL V),[]):=by
   rw[gZ,e,bind_some,yH dh]
  simp only[mM,jr,c4,dA,e2,ka,g9,iS,bind_some,map_some,lD,ju,kP,lt]
end
section
variable{nn:Int}{st:aa}{w:Nat}{RR:List (List Int)}{HO:Nat->List Int}{gv:List Gv}{r X Z goal:List Int}{Y:Nat->Int}{e D num:Int}{z:Gv}
inductive Pp where
 |nv (W:List Int)
 |by_ (K:Int) (W:List Int)
def Pp.av:Pp->AV
 |.nv W=>.tup [.str "never",.fz (iL W)]
 |.by_ K W=>.tup [.str "by",.int K,.fz (iL W)]
theorem Bk{n:Nat}(p:Pp):bh (n+1) st p.av=some p.av:=by cases p<;>(cases n<;>rfl)
theorem HP{k:Nat}{ps:List Pp}(h:st[k]?=some (.lst (ps.map Pp.av))):cQ st (.tup [.bl true,.ref k])=some (.tup [.bl true,.fz (ps.map Pp.av)]):=by
 have e:aP (bh 4 st) (ps.map Pp.av)=some (ps.map Pp.av):=c6 (f:=bh 4 st) (i:=Pp.av) (g:=Pp.av) (fun p=>Bk p) ps;show(aP (bh 5 st) [.bl true,.ref k]).map AV.tup=_;have e2:bh 5 st (.ref k)=some (.fz (ps.map Pp.av)):=by
  show(match st[k]? with
  |some (.lst xs)=>(aP (bh 4 st) xs).map AV.fz
  |some (.al t)=>some t
  |_=>none)=_
  rw[h];simp only[e,map_some]
 simp only[aP,e2,show bh 5 st (.bl true)=some (.bl true) from rfl,bind_some,map_some]
def FU(t:AV):Prop:=∃(c:Bool)(x:AV),t=.tup [.bl c,x]/\rf x=true/\((∃p:Pp,x=p.av)\/c=false)/\∀st j,bh (j+1) st x=some x
theorem Gu(p:Pp):FU (.tup [.bl true,p.av]):=⟨true,_,rfl,by cases p<;>simp[Pp.av,rf,rfs,dh],.inl ⟨p,rfl⟩,fun _ _=>Bk p⟩
theorem Gw{V:List Int}{E:Int}:FU (.tup [.bl false,.tup [.fz (iL V),.int E]]):=⟨false,_,rfl,by simp[rf,rfs,dh],.inr rfl,fun st j=>by cases j<;>rfl⟩
theorem Lg(q:Qu nn w RR HO gv r)(br:∀x∈r,x.natAbs<2^121)(bn:num.natAbs<2^121):∃t,(∀st,pm bu [.int nn,.fz (gv.map Gv.av),.fz (iL r),.int num] st=some (t,st))/\FU t:=by
 obtain⟨t,ea,A⟩:=GY q;have ea:=ea [];have key:∃r',bu [.int nn,.fz (gv.map Gv.av),.fz (iL r),.int num] []=some r'/\∃t,cQ r'.2 r'.1=some t/\FU t:=by
  rw[bu,aD];show ∃r',(af [gE,dS] d5 [Is nn,Zs (gv.map Gv.av),Ls r,Is num,none] []).bind ay=some r'/\_;unfold d5;refine ag (sl':=[Is nn,Zs (gv.map Gv.av),Ls r,Is num,some t]) (st':=[]) (by simp[ea]) ?_;rcases A with⟨W,rfl⟩|⟨p,q',X,D,K,W,rfl,bq⟩|⟨X,D,Z,rfl,TX,hZ,vZ⟩
  ·refine d7 (v:=.tup [.bl true,.tup [.str "never",.fz (iL W)]]) (st':=[]) ?_ ⟨_,rfl,Gu (.nv W)⟩
   have i0:aZ [] (.tup [.str "never",.fz (iL W)]) (.int 0)=some (.str "never"):=rfl;have eq:b9 .Eq [] (.str "never") (.str "never")=some true:=by kernel_rfl
   simp[i0,eq,l7]
  ·obtain⟨u,hu⟩:∃u,u=AV.tup [.str "least",.tup [.int p,.int q'],.tup [.fz (iL X),.int D],.int K,.fz (iL W)]:=⟨_,rfl⟩
   have i0:aZ [] u (.int 0)=some (.str "least"):=by rw[hu];rfl
   have i1:aZ [] u (.int 1)=some (.tup [.int p,.int q']):=by rw[hu];rfl
   have i2:aZ [] u (.int 2)=some (.tup [.fz (iL X),.int D]):=by rw[hu];rfl
   have i3:aZ [] u (.int 3)=some (.int K):=by rw[hu];rfl
   have i4:aZ [] u (.int 4)=some (.fz (iL W)):=by rw[hu];rfl
   have j0:aZ [] (.tup [.int p,.int q']) (.int 0)=some (.int p):=rfl;have j1:aZ [] (.tup [.int p,.int q']) (.int 1)=some (.int q'):=rfl;have q1:b9 .Eq [] (.str "least") (.str "never")=some false:=by kernel_rfl
   have q2:b9 .Eq [] (.str "least") (.str "endless")=some false:=by kernel_rfl
   have mm:aY .Mult [] (.int num) (.int q')=some (.int (num*q')):=cC (cW (gV bn dC) (gV bq dC));rw[<- hu];refine ag (sl':=[Is nn,Zs (gv.map Gv.av),Ls r,Is num,some u]) (st':=[]) (by simp[i0,q1]) ?_;refine ag (sl':=[Is nn,Zs (gv.map Gv.av),Ls r,Is num,some u]) (st':=[]) (by simp[i0,q2]) ?_;by_cases hl:p<num*q'
   ·refine d7 (v:=.tup [.bl false,.tup [.fz (iL X),.int D]]) (st':=[]) (by simp[i1,i2,j0,j1,mm,hl,l7]) ⟨_,rfl,Gw⟩
   ·refine ag (sl':=[Is nn,Zs (gv.map Gv.av),Ls r,Is num,some u]) (st':=[]) (by simp[i1,j0,j1,mm,hl]) ?_
    refine d7 (v:=.tup [.bl true,.tup [.str "by",.int K,.fz (iL W)]]) (st':=[]) (by simp[i3,i4]) ⟨_,rfl,Gu (.by_ K W)⟩
  ·obtain⟨V,E,ev'⟩:=DL (num:=num) q.hw q.Z.o br bn TX hZ vZ
   have ev':=ev' [];obtain⟨u,hu⟩:∃u,u=AV.tup [.str "endless",.tup [.fz (iL X),.int D],.fz (iL Z)]:=⟨_,rfl⟩;have i0:aZ [] u (.int 0)=some (.str "endless"):=by rw[hu];rfl
   have i1:aZ [] u (.int 1)=some (.tup [.fz (iL X),.int D]):=by rw[hu];rfl
   have i2:aZ [] u (.int 2)=some (.fz (iL Z)):=by rw[hu];rfl
   have q1:b9 .Eq [] (.str "endless") (.str "never")=some false:=by kernel_rfl
   have q2:b9 .Eq [] (.str "endless") (.str "endless")=some true:=by kernel_rfl
   rw[<- hu];refine ag (sl':=[Is nn,Zs (gv.map Gv.av),Ls r,Is num,some u]) (st':=[]) (by simp[i0,q1]) ?_;refine d7 (v:=.tup [.bl false,.tup [.fz (iL V),.int E]]) (st':=[]) (by simp[i0,i1,i2,q2,ev',l7]) ⟨_,rfl,Gw⟩
 obtain⟨r',e1,t,e2,F⟩:=key;exact⟨t,fun st=>bO (by simp[rfs,rf,dh,qr]) e1 e2,F⟩
noncomputable def pG(l:List Int):List Int:=l.map fun x=>- x
def kD(z:Gv):List Gv:=⟨z.row,false,z.num⟩::if z.eq=true then [⟨pG z.row,false,- z.num⟩] else []
theorem Kn(hl:z.row.length<=1000):pm bg [z.av] st=some (.fz ((kD z).map Gv.av),st):=by
 obtain⟨r,b,num⟩:=z;have hl:r.length<=1000:=hl;have i0:∀st,aZ st (Gv.av ⟨r,b,num⟩) (.int 0)=some (.fz (iL r)):=fun _=>rfl
 have i1:∀st,aZ st (Gv.av ⟨r,b,num⟩) (.int 1)=some (.str (if b=true then "=" else ">")):=fun _=>rfl
 have i2:∀st,aZ st (Gv.av ⟨r,b,num⟩) (.int 2)=some (.int num):=fun _=>rfl
 have eq:∀st,b9 .Eq st (.str (if b=true then "=" else ">")) (.str "=")=some b:=fun st=>by cases b<;>kernel_rfl
 obtain⟨u,hu⟩:∃u,u=Gv.av ⟨r,b,num⟩:=⟨_,rfl⟩;have ru:rf u=true:=by rw[hu];simp[Gv.av,rf,rfs,dh]
 rw[<- hu]at i0 i1 i2 ⊢;have key:∃st',bg [u] []=some (.ref 0,st')/\st'[0]?=some (.lst ((kD ⟨r,b,num⟩).map Gv.av)):=by
  rw[bg,aD];unfold fy;have e0:∀{x y},(af [] x [some u,Ls r,Is num,Rs 0] [.lst [Gv.av ⟨r,false,num⟩]]).bind ay=some y->(af [] (.cons (.as (.ix (.v 0) (.i 0)) (.nm 1)) (.cons (.as (.ix (.v 0) (.i 2)) (.nm 2)) (.cons (.as (.nw true (.li (.cons (.tu (.cons (.v 1) (.cons (.s ">") (.cons (.v 2) .nil)))) .nil))) (.nm 3)) x))) [some u,none,none,none] []).bind ay=some y:=fun {x y} h=>by
   refine ai (sl':=[some u,Ls r,none,none]) (st':=[]) (by simp[i0]) ?_;refine ai (sl':=[some u,Ls r,Is num,none]) (st':=[]) (by simp[i2]) ?_;exact ai (sl':=[some u,Ls r,Is num,Rs 0]) (st':=[.lst [Gv.av ⟨r,false,num⟩]]) (by simp[cK];rfl) h
  cases b with
  |false =>
   refine⟨[.lst [Gv.av ⟨r,false,num⟩]],e0 (ai (sl':=[some u,Ls r,Is num,Rs 0]) (st':=[.lst [Gv.av ⟨r,false,num⟩]]) (by
    have eq:=eq [.lst [Gv.av ⟨r,false,num⟩]];have i1:=i1 [.lst [Gv.av ⟨r,false,num⟩]];generalize AV.str (if false=true then "=" else ">")=s at eq i1;simp[i1,eq]) (cL rfl)),rfl⟩
  |true =>
   refine⟨[.lst [Gv.av ⟨r,false,num⟩,Gv.av ⟨pG r,false,- num⟩]],e0 (ai (sl':=[some u,Ls r,Is num,Rs 0]) (st':=[.lst [Gv.av ⟨r,false,num⟩,Gv.av ⟨pG r,false,- num⟩]]) ?_ (cL rfl)),rfl⟩;have eq:=eq [.lst [Gv.av ⟨r,false,num⟩]];have i1:=i1 [.lst [Gv.av ⟨r,false,num⟩]];have e:=kO (st:=[.lst [Gv.av ⟨r,false,num⟩]]) (ks:=[]) (k:=1) (it:=.e (.v 1)) (t:=.nm 4) (c:=.no) (e:=.un .USub (.v 4)) (sl:=[some u,Ls r,Is num,Rs 0]) (gd:=[]) (em:=AV.int) (xs:=r) (B:=fun _=>true) (F:=fun x=>AV.int (- x)) rfl rfl hl fun x hx=>⟨[some u,Ls r,Is num,Rs 0,Is x],rfl,rfl,fun _=>rfl⟩
   rw[List.filter_eq_self.mpr (fun _ _=>rfl),show r.map (fun x=>AV.int (- x))=iL (pG r) by unfold iL pG;rw[List.map_map];rfl]at e;have e2:ev [] (.nw false (.lc 1 (.e (.v 1)) (.nm 4) .no (.un .USub (.v 4)))) [some u,Ls r,Is num,Rs 0] [.lst [Gv.av ⟨r,false,num⟩]]=some (.fz (iL (pG r)),[.lst [Gv.av ⟨r,false,num⟩]]):=by
    rw[gZ,e,bind_some,yH dh]
   have ap:=qt (ks:=[]) (a:=.v 3) (e:=.tu (.cons (.nw false (.lc 1 (.e (.v 1)) (.nm 4) .no (.un .USub (.v 4)))) (.cons (.s ">") (.cons (.un .USub (.v 2)) .nil)))) (y:=Gv.av ⟨pG r,false,- num⟩) (k:=0) (xs:=[Gv.av ⟨r,false,num⟩]) (sl:=[some u,Ls r,Is num,Rs 0]) (st:=[.lst [Gv.av ⟨r,false,num⟩]]) rfl (by
    simp only[yf,c4,dA,e2,bind_some,map_some];rfl) rfl (by simp)
   generalize AV.str (if true=true then "=" else ">")=s at eq i1;have tt:tv [] (.cmp .Eq (.ix (.v 0) (.i 1)) (.s "=")) [some u,Ls r,Is num,Rs 0] [.lst [Gv.av ⟨r,false,num⟩]]=some (true,[.lst [Gv.av ⟨r,false,num⟩]]):=by simp[i1,eq]
   rw[iV,tt,bind_some];exact ar ap rfl
 obtain⟨st',e1,e2⟩:=key;refine bO (by simp[rfs,ru]) e1 ?_;have:∀l:List Gv,aP (bh 5 st') (l.map Gv.av)=some (l.map Gv.av):=fun l=>c6 (f:=bh 5 st') (i:=Gv.av) (g:=Gv.av) (fun z=>rfl) l
 show bh 6 st' (.ref 0)=_;unfold bh;simp only[e2,this,map_some]
end
section
variable{nn:Int}{st:aa}{w:Nat}{RR:List (List Int)}{HO:Nat->List Int}{gv:List Gv}{Y:Nat->Int}{e:Int}{z:Gv}
def FS(t:AV):Prop:=∃(c:Bool)(x:AV),t=.tup [.bl c,x]/\rf x=true/\∀st j,bh (j+1) st x=some x
theorem IN(hs:z.row.length<=1000)(hu:∀u∈kD z,Qu nn w RR HO gv u.row/\(∀x∈u.row,x.natAbs<2^121)/\u.num.natAbs<2^121):∃t,(∀st,pm cm [.int nn,.fz (gv.map Gv.av),z.av] st=some (t,st))/\FS t:=by
 have hf:∀u∈kD z,u.eq=false:=fun u h=>by
  unfold kD at h;rcases zT.mp h with rfl|h
  ·rfl
  ·split at h
   ·rw[zM.mp h]
   ·cases h
 have loop:=lK (gd:=[]) (g:=cj [bg,bu] (.tu 3 (.cons (.nm 4) (.cons (.nm 5) (.cons (.nm 6) .nil)))))
  (s:=af [bg,bu] (.cons (.as (.ca true 1 (.cons (.v 0) (.cons (.v 1) (.cons (.v 4) (.cons (.v 6) .nil))))) (.nm 7))
 (.cons (.iff (.no (.va (.ix (.v 7) (.i 0))))
 (.cons (.rt (.v 7))
 .nil)
 .nil)
 (.cons (.ex (.mt .app (.v 3) (.cons (.ix (.v 7) (.i 1)) .nil)))
 .nil))))
  (I:=fun i sl st=>∃(ps:List Pp)(a b c d:Option AV),st=[.lst (ps.map Pp.av)]/\ps.length=i/\sl=[Is nn,Zs (gv.map Gv.av),some z.av,Rs 0,a,b,c,d])
  (Post:=fun v _=>FS v/\∀st,cQ st v=some v) (xs:=(kD z).map Gv.av) (fun _ _ _ _ _=>rfl) (fun i x sl st hx hq0=>by
   obtain⟨ps,a,b,c,d,es,hl,esl⟩:=hq0;subst es;subst esl;rw[zR]at hx;obtain⟨u,hxu,rfl⟩:=zE.mp hx;have hm:=zW hxu;have hi2:i<2:=by
    have h1:=(zB.mp hxu).1;have h2:(kD z).length<=2:=by unfold kD;split<;>simp
    lia
   obtain⟨q,b1,b2⟩:=hu u hm;obtain⟨t,et,F⟩:=Lg q b1 b2;have et:=et [.lst (ps.map Pp.av)];obtain⟨ur,ub,un⟩:=u;have:ub=false:=hf _ hm;subst this;obtain⟨c',x,rfl,rx,hx,sx⟩:=F;have slt:∀st,cQ st (.tup [.bl c',x])=some (.tup [.bl c',x]):=fun st=>by
    show(aP (bh 5 st) [.bl c',x]).map AV.tup=_;simp only[aP,sx,show bh 5 st (.bl c')=some (.bl c') from rfl,bind_some,map_some]
   cases c' with
   |true =>
    obtain⟨p,rfl⟩:∃p:Pp,x=p.av:=hx.elim id fun h=>(nomatch h)
    have j0:∀st,aZ st (.tup [.bl true,p.av]) (.int 0)=some (.bl true):=fun _=>rfl
    have j1:∀st,aZ st (.tup [.bl true,p.av]) (.int 1)=some p.av:=fun _=>rfl
    obtain⟨t,ht⟩:∃t,t=AV.tup [.bl true,p.av]:=⟨_,rfl⟩;rw[<- ht]at j0 j1 et;refine⟨([Is nn,Zs (gv.map Gv.av),some z.av,Rs 0,Ls ur,some (.str ">"),Is un,d],[.lst (ps.map Pp.av)]),.nx [Is nn,Zs (gv.map Gv.av),some z.av,Rs 0,Ls ur,some (.str ">"),Is un,some t] [.lst ((ps++[p]).map Pp.av)],rfl,?_,.inl ⟨_,_,rfl,ps++[p],_,_,_,_,rfl,by simp[hl],rfl⟩⟩
    ·refine ar (sl':=[Is nn,Zs (gv.map Gv.av),some z.av,Rs 0,Ls ur,some (.str ">"),Is un,some t]) (st':=[.lst (ps.map Pp.av)]) (by simp[et]) ?_
     refine ar (sl':=[Is nn,Zs (gv.map Gv.av),some z.av,Rs 0,Ls ur,some (.str ">"),Is un,some t]) (st':=[.lst (ps.map Pp.av)]) (by simp[j0,jE]) ?_;have ap:=qt (ks:=[bg,bu]) (a:=.v 3) (e:=.ix (.v 7) (.i 1)) (y:=p.av) (k:=0) (xs:=ps.map Pp.av) (sl:=[Is nn,Zs (gv.map Gv.av),some z.av,Rs 0,Ls ur,some (.str ">"),Is un,some t]) (st:=[.lst (ps.map Pp.av)]) rfl (by simp[j1]) rfl (by simp;lia);refine ar ap ?_;show some _=some _;simp
   |false =>
    have j0:∀st,aZ st (.tup [.bl false,x]) (.int 0)=some (.bl false):=fun _=>rfl
    have fs:FS (.tup [.bl false,x]):=⟨false,x,rfl,rx,sx⟩;generalize AV.tup [.bl false,x]=t at *;refine⟨([Is nn,Zs (gv.map Gv.av),some z.av,Rs 0,Ls ur,some (.str ">"),Is un,d],[.lst (ps.map Pp.av)]),.rt t [.lst (ps.map Pp.av)],rfl,?_,.inr ⟨_,_,rfl,fs,slt⟩⟩;refine ar (sl':=[Is nn,Zs (gv.map Gv.av),some z.av,Rs 0,Ls ur,some (.str ">"),Is un,some t]) (st':=[.lst (ps.map Pp.av)]) (by simp[et]) ?_;refine fR ?_;simp[j0,jE,l7]) (sl:=[Is nn,Zs (gv.map Gv.av),some z.av,Rs 0,none,none,none,none]) (st:=[.lst []]) ⟨[],_,_,_,_,rfl,rfl,rfl⟩
 have key:∃r',cm [.int nn,.fz (gv.map Gv.av),z.av] []=some r'/\∃t,cQ r'.2 r'.1=some t/\FS t:=by
  rw[cm,aD];show ∃r',(af [bg,bu] jo [Is nn,Zs (gv.map Gv.av),some z.av,none,none,none,none,none] []).bind ay=some r'/\_;unfold jo;refine ag (sl':=[Is nn,Zs (gv.map Gv.av),some z.av,Rs 0,none,none,none,none]) (st':=[.lst []]) rfl ?_;have us:=Kn (st:=[.lst []]) hs;have ei:dR [bg,bu] (.e (.ca true 0 (.cons (.v 2) .nil))) [Is nn,Zs (gv.map Gv.av),some z.av,Rs 0,none,none,none,none] [.lst []]=some (⟨(kD z).map Gv.av,[]⟩,[.lst []]):=by simp[us]
  rcases loop with⟨sl',st',e1,ps,a,b,c,d,rfl,hl,rfl⟩|⟨v,st',e1,fs,slt⟩
  ·refine ag (sl':=[Is nn,Zs (gv.map Gv.av),some z.av,Rs 0,a,b,c,d]) (st':=[.lst (ps.map Pp.av)]) (by rw[kG,ei,bind_some];exact e1) ?_
   refine d7 (v:=.tup [.bl true,.ref 0]) (st':=[.lst (ps.map Pp.av)]) rfl ⟨_,HP rfl,true,_,rfl,?_,fun _ _=>rfl⟩;have:rfs (ps.map Pp.av)=true:=fH fun y hy=>by
    obtain⟨p,_,rfl⟩:=yC.mp hy;cases p<;>simp[Pp.av,rf,rfs,dh]
   simpa [rf] using this
  ·exact⟨(v,st'),cL (by rw[kG,ei,bind_some];exact e1),_,slt _,fs⟩
 obtain⟨r',e1,t,e2,F⟩:=key;have rz:rf z.av=true:=by simp[Gv.av,rf,rfs,dh]
 exact⟨t,fun st=>bO (by simp[rfs,rf,qr,rz]) e1 e2,F⟩
theorem Lh{n:Nat}(hn:iF n)(hg:gv.length<=100)(h2:∀z∈gv,z.row.length=2^n-1/\(∀x∈z.row,x.natAbs<=M0)/\z.num.natAbs<=M0)(h3:z.row.length=2^n-1/\(∀x∈z.row,x.natAbs<=M0)/\z.num.natAbs<=M0):∃t,(∀st,pm cm [.int n,.fz (gv.map Gv.av),z.av] st=some (t,st))/\FS t:=by
 have hN:2^n-1<=15:=by rcases hn with rfl|rfl|rfl|rfl<;>decide
 have M1:M0<2^121:=Nat.pow_lt_pow_right dC dC;have hu:∀u∈kD z,u.row.length=2^n-1/\(∀x∈u.row,x.natAbs<=M0)/\u.num.natAbs<=M0:=fun u h=>by
  unfold kD at h;rcases zT.mp h with rfl|h
  ·exact h3
  ·split at h
   ·rw[zM.mp h]
    refine⟨by simp[pG,h3.1],fun x hx=>?_,by rw[Int.natAbs_neg];exact h3.2.2⟩;obtain⟨y,hy,rfl⟩:=yC.mp hx;rw[Int.natAbs_neg];exact h3.2.1 y hy
   ·cases h
 exact IN oM fun u h=>⟨LS hn hg h2 ⟨(hu u h).1,(hu u h).2.1⟩,fun x hx=>yL ((hu u h).2.1 x hx) M1,yL (hu u h).2.2 M1⟩
end
section
variable{n w:Nat}{Y:Nat->Int}{ts:List (Nat×Int)}{L:List Int}{a b c k j g:Nat}
def fu(L:List Int)(t:Nat×Int):List Int:=if t.1=0 then L else L.set (t.1-1) (gI L (t.1-1)+t.2)
def dZ(n:Nat)(ts:List (Nat×Int)):List Int:=ts.foldl fu (List.replicate (2^n-1) 0)
theorem zd{t:Nat×Int}:(fu L t).length=L.length:=by unfold fu;split<;>simp
theorem mV:∀(ts:List (Nat×Int))(L:List Int),(ts.foldl fu L).length=L.length
 |[],_=>rfl
 |t::ts,L=>by rw[List.foldl_cons,mV ts,zd]
theorem zc:(dZ n ts).length=2^n-1:=by unfold dZ;rw[mV];simp
noncomputable def lY(a b c:Nat):List (Nat×Int):=[(a ||| c,1),(b ||| c,1),(a ||| b ||| c,-1),(c,-1)]
end
section
variable{ns:List Int}{st:aa}
theorem dO{ks:List Fn}{ss b:NQ}{c:Tx}{sl:Sl}{P:AV×aa->Prop}(h:tv ks c sl st=some (false,st))(h2:∃r,(af ks ss sl st).bind ay=some r/\P r):∃r,(af ks (.cons (.iff c b .nil) ss) sl st).bind ay=some r/\P r:=ag (sl':=sl) (st':=st) (by rw[iV,h];rfl) h2
theorem fV{ks:List Fn}{ss b b2:NQ}{c:Tx}{sl:Sl}{P:AV×aa->Prop}(h:tv ks c sl st=some (true,st))(h2:∃r,af ks b sl st=some r/\∃v st',r=.rt v st'/\P (v,st')):∃r,(af ks (.cons (.iff c b b2) ss) sl st).bind ay=some r/\P r:=by
 obtain⟨r,e,v,st',rfl,hp⟩:=h2;exact⟨_,cL (by rw[iV,h,bind_some];exact e),hp⟩
theorem FY{x c:Int}(h:0<c)(hc:c<2147483648):∃y:Int,y=x%c/\0<=y/\y<c/\y.natAbs<2^62:=by
 have h1:=Int.emod_nonneg x (show c ≠ 0 by lia);have h2:=Int.emod_lt_of_pos x h;exact ⟨_,rfl,h1,h2,zJ (m:=2147483648) oM dC⟩
theorem DA(hn:ns.length<=63):∃D R,aQ [.fz (iL ns),.int 2,.int 30] []=some (.ref 0,NG.lst (iL D)::R)/\D.length=30/\∀x∈D,0<=x/\x<2147483587:=by
 obtain⟨C,hC⟩:∃C,C=ns++[2]:=⟨_,rfl⟩;have lC:C.length=ns.length+1:=by rw[hC];simp
 have key:∃r,aQ [.fz (iL ns),.int 2,.int 30] []=some r/\∃D R,r=(.ref 0,NG.lst (iL D)::R)/\D.length=30/\∀x∈D,0<=x/\x<2147483587:=by
  rw[aQ,aD];show ∃r,(af [] gf [Ls ns,Is 2,Is 30,none,none,none,none,none,none,none] []).bind ay=some r/\_;unfold gf;refine ag (sl':=[Ls ns,Is 2,Is 30,Ls C,none,none,none,none,none,none]) (st':=[]) ?_ ?_
  ·have cu:cut (iL ns) none (some 63)=iL ns:=by
    unfold cut;have:HT.NR (iL ns).length (iL ns).length (some 63)=(iL ns).length:=by
     rw[show(63:Int)=((63:Nat):Int) from rfl,HT.sIx_nat,gN];lia
    rw[this,HT.sIx_none,List.drop_zero,Nat.sub_zero,List.take_length]
   have c:=jQ (ks:=[]) (a:=.nw false (.sl (.v 0) .no (.so (.i 63)))) (b:=.nw false (.li (.cons (.v 1) .nil))) (sl:=[Ls ns,Is 2,Is 30,none,none,none,none,none,none,none]) (st:=[]) (s1:=[]) (s2:=[]) (x:=.fz (iL ns)) (y:=.fz [AV.int 2]) (l:=ns) (l':=[2]) (by simp[qW,qR,cu]) (by simp[cK]) rfl rfl (by simp;lia);simp[-vi,c,hC]
  refine ag (sl':=[Ls ns,Is 2,Is 30,Ls C,Rs 0,none,none,none,none,none]) (st':=[.lst (iL [])]) rfl ?_;have x0:∀st:aa,aZ st (.fz (iL C)) (.int 0)=some (.int (gI C 0)):=fun st=>by rw[cB eJ,show(0:Int)=((0:Nat):Int) from rfl,cb,bY oM]
  have t1:∀st,tv [] (.cmp .Eq (.bin .Mod (.bin .FloorDiv (.ix (.v 3) (.i 0)) (.i 50000)) (.i 2)) (.i 1)) [Ls ns,Is 2,Is 30,Ls C,Rs 0,none,none,none,none,none] st=some (decide (gI C 0/50000%2=1),st):=fun st=>by
   by_cases h:gI C 0 / 50000 % 2=1 <;> simp [x0,gT (show eC 50000=true from rfl),eA (show (0:Int) < 2 by decide),h]
  have itr:∀N:Nat,N<=1000->∀sl st,∀a:Ex,ev [] a sl st=some (.int (N:Int),st)->dR [] (.r1 a) sl st=some (⟨(List.range N).map fun q:Nat=>AV.int (q:Int),[]⟩,st):=fun N h sl st a e=>qc e h
  by_cases hm:gI C 0/50000%2=1
  ·refine fV (by rw[t1,yV hm]) ?_
   refine yb (sl':=[Ls ns,Is 2,Is 30,Ls C,Rs 0,Rs 1,none,none,none,none]) (st':=[.lst (iL []),.lst (iL (C.map fun x=>x/100000))]) ?_ ?_
   ·have dv:eC 100000=true:=by decide
    simp [bW (show C.length <= 1000 by lia)];rw [jY (F:=fun x=>x / 100000) fN fun x hx=>⟨_,rfl,rfl,by simp [oA dv,IU (show (0:Int) < 100000 by decide)]⟩];simp
   refine Hf (em:=fun q:Nat=>.int (q:Int)) (xs:=List.range 32) (gd:=[]) (st0:=[.lst (iL []),.lst (iL (C.map fun x=>x/100000))]) (fun i sl s=>∃fd lf x6 x7,s=[.lst (iL fd),.lst (iL lf)]/\sl=[Ls ns,Is 2,Is 30,Ls C,Rs 0,Rs 1,x6,x7,none,none]/\lf.length=C.length/\fd.length=i-2/\∀x∈fd,0<=x/\x<2147483587) (itr 32 dC _ _ _ rfl) (fun _ _ _ _=>rfl) ⟨[],_,_,_,rfl,rfl,by simp,rfl,by simp⟩ ?_ ?_
   ·rintro i q sl s hq ⟨fd,lf,x6,x7,rfl,rfl,hl,hf,hb⟩
    obtain⟨hi,rfl⟩:i<32/\q=i:=by
     have:=(zB.mp hq).1
     rw[List.getElem?_range (by simpa using this)]at hq;exact⟨by simpa using this,(yD hq).symm⟩
    obtain⟨j,hj⟩:∃j,j=q%C.length:=⟨_,rfl⟩;have jl:j<C.length:=by rw[hj];exact Nat.mod_lt _ oM
    have am:oe ((q:Nat):Int) ((C.length:Nat):Int)=((j:Nat):Int):=by rw[BA oM,hj];simp
    have xL:∀fd:List Int,aZ [.lst (iL fd),.lst (iL lf)] (.ref 1) (.int (j:Int))=some (.int (gI lf j)):=fun fd=>by rw[cB (bB (xs:=iL lf) rfl),cb,bY oM]
    have ss:∀fd:List Int,g6 [.lst (iL fd),.lst (iL lf)] (.ref 1) (.int (j:Int)) (.int (gI lf j/2147483587))=some [.lst (iL fd),.lst (iL (lf.set j (gI lf j/2147483587)))]:=fun fd=>by
     have:=dg (st:=[NG.lst (iL fd),.lst (iL lf)]) (k:=1) (q:=j) (xs:=iL lf) (x:=.int (gI lf j/2147483587)) rfl (by simp;lia)
     rw[eZ]at this;exact this
    have lv:bN de [.ref 1] [.lst (iL fd),.lst (iL lf)]=some (.int ((C.length:Nat):Int),[.lst (iL fd),.lst (iL lf)]):=by
     show some (AV.int ((iL lf).length:Int),_)=_;rw[gN,hl]
    have dv:eC 2147483587=true:=by decide
    by_cases h2:2<=q
    ·refine⟨_,[Ls ns,Is 2,Is 30,Ls C,Rs 0,Rs 1,Is (q:Int),Is (j:Int),none,none],[.lst (iL (fd++[gI lf j%2147483587])),.lst (iL (lf.set j (gI lf j/2147483587)))],rfl,?_,_,_,_,_,rfl,rfl,by simp[hl],by simp[hf];lia,fun x hx=>?_⟩
     ·refine ar (sl':=[Ls ns,Is 2,Is 30,Ls C,Rs 0,Rs 1,Is (q:Int),Is (j:Int),none,none]) (st':=[.lst (iL fd),.lst (iL lf)]) (by simp [lv,oz (show ((C.length:Nat):Int) ≠ 0 by lia),am]) ?_
      have ap:=qt (ks:=[]) (a:=.v 4) (e:=.bin .Mod (.ix (.v 5) (.v 7)) (.i 2147483587)) (y:=.int (gI lf j % 2147483587)) (k:=0) (xs:=iL fd) (sl:=[Ls ns,Is 2,Is 30,Ls C,Rs 0,Rs 1,Is (q:Int),Is (j:Int),none,none]) (st:=[.lst (iL fd),.lst (iL lf)]) rfl (by simp [xL,eA (show (0:Int) < 2147483587 by decide)]) rfl (by simp;lia);rw [xq,rV] at ap;refine ar (sl':=[Ls ns,Is 2,Is 30,Ls C,Rs 0,Rs 1,Is (q:Int),Is (j:Int),none,none]) (st':=[.lst (iL (fd++[gI lf j % 2147483587])),.lst (iL lf)]) ?_ ?_
      ·have tt:tv [] (.cmp .GtE (.v 6) (.v 1)) [Ls ns,Is 2,Is 30,Ls C,Rs 0,Rs 1,Is (q:Int),Is (j:Int),none,none] [.lst (iL fd),.lst (iL lf)]=some (true,[.lst (iL fd),.lst (iL lf)]):=by simp[show(2:Int)<=(q:Int) by lia]
       rw[iV,tt,bind_some];exact ar ap rfl
      ·exact ar (sl':=[Ls ns,Is 2,Is 30,Ls C,Rs 0,Rs 1,Is (q:Int),Is (j:Int),none,none]) (st':=[.lst (iL (fd++[gI lf j%2147483587])),.lst (iL (lf.set j (gI lf j/2147483587)))]) (by simp[xL,ss,gT dv]) rfl
     ·rcases zZ.mp hx with h|h
      ·exact hb x h
      ·rw[zM.mp h];exact Ih dC
    ·refine⟨_,[Ls ns,Is 2,Is 30,Ls C,Rs 0,Rs 1,Is (q:Int),Is (j:Int),none,none],[.lst (iL fd),.lst (iL (lf.set j (gI lf j/2147483587)))],rfl,?_,_,_,_,_,rfl,rfl,by simp[hl],by lia,hb⟩
     refine ar (sl':=[Ls ns,Is 2,Is 30,Ls C,Rs 0,Rs 1,Is (q:Int),Is (j:Int),none,none]) (st':=[.lst (iL fd),.lst (iL lf)]) (by simp [lv,oz (show ((C.length:Nat):Int) ≠ 0 by lia),am]) ?_;refine ar (sl':=[Ls ns,Is 2,Is 30,Ls C,Rs 0,Rs 1,Is (q:Int),Is (j:Int),none,none]) (st':=[.lst (iL fd),.lst (iL lf)]) (by simp [show ¬ (2:Int) <= (q:Int) by lia]) ?_;exact ar (sl':=[Ls ns,Is 2,Is 30,Ls C,Rs 0,Rs 1,Is (q:Int),Is (j:Int),none,none]) (st':=[.lst (iL fd),.lst (iL (lf.set j (gI lf j / 2147483587)))]) (by simp [xL,ss,gT dv]) rfl
   ·rintro sl s ⟨fd,lf,x6,x7,rfl,rfl,hl,hf,hb⟩
    exact⟨_,fR rfl,_,_,rfl,fd,_,rfl,by simpa using hf,hb⟩
  ·refine dO (by rw[t1,z9 hm]) ?_
   refine kJ (em:=fun q:Nat=>.int (q:Int)) (xs:=List.range 30) (gd:=[]) (st0:=[.lst (iL [])]) (fun i sl s=>∃fd x6 x8 x9,s=[.lst (iL fd)]/\sl=[Ls ns,Is 2,Is 30,Ls C,Rs 0,none,x6,none,x8,x9]/\fd.length=i/\∀x∈fd,0<=x/\x<2147483587) (itr 30 dC _ _ _ rfl) (fun _ _ _ _=>rfl) ⟨[],_,_,_,rfl,rfl,rfl,by simp⟩ ?_ ?_
   ·rintro i q sl s hq ⟨fd,x6,x8,x9,rfl,rfl,hf,hb⟩
    obtain⟨hi,rfl⟩:i<30/\q=i:=by
     have:=(zB.mp hq).1
     rw[List.getElem?_range (by simpa using this)]at hq;exact⟨by simpa using this,(yD hq).symm⟩
    obtain⟨j,hj⟩:∃j,j=q%C.length:=⟨_,rfl⟩;have jl:j<C.length:=by rw[hj];exact Nat.mod_lt _ oM
    have am:oe ((q:Nat):Int) ((C.length:Nat):Int)=((j:Nat):Int):=by rw[BA oM,hj];simp
    have xC:aZ [.lst (iL fd)] (.fz (iL C)) (.int (j:Int))=some (.int (gI C j)):=by rw[cB eJ,cb,bY jl]
    obtain⟨p,hp,p62⟩:∃p:Int,p=((q:Int)+2)*((q:Int)+2)*7919+104729/\(((q:Int)+2)*((q:Int)+2)).natAbs<2^62:=by
     refine ⟨_,rfl,?_⟩;rw [yZ];exact yL (Nat.mul_le_mul (show ((q:Int) + 2).natAbs <= 32 by lia) (show ((q:Int) + 2).natAbs <= 32 by lia)) dC
    obtain⟨u,hu,_,_,u62⟩:=FY (x:=(gI C j%2147483647+p)*48271) (c:=2147483647) dC dC;obtain⟨v,hv,_,_,v62⟩:=FY (x:=u*u+69621*(q:Int)) (c:=2147483629) dC dC;obtain⟨w,hw,w0,w1,_⟩:=FY (x:=v*v) (c:=2147483587) dC dC;have m1:aY .Mult [.lst (iL fd)] (.int ((q:Int)+2)) (.int ((q:Int)+2))=some (.int (((q:Int)+2)*((q:Int)+2))):=cC (qe (yL (m:=32) oM dC));have m2:aY .Mult [.lst (iL fd)] (.int (((q:Int)+2)*((q:Int)+2))) (.int 7919)=some (.int (((q:Int)+2)*((q:Int)+2)*7919)):=cC (Bp dC);have m3:aY .Mult [.lst (iL fd)] (.int (gI C j%2147483647+p)) (.int 48271)=some (.int ((gI C j%2147483647+p)*48271)):=cC (Bp dC);have m4:aY .Mult [.lst (iL fd)] (.int u) (.int u)=some (.int (u*u)):=cC (qe u62);have m5:aY .Mult [.lst (iL fd)] (.int 69621) (.int (q:Int))=some (.int (69621*(q:Int))):=cC (qe dC);have m6:aY .Mult [.lst (iL fd)] (.int v) (.int v)=some (.int (v*v)):=cC (qe v62);refine⟨_,[Ls ns,Is 2,Is 30,Ls C,Rs 0,none,Is (q:Int),none,Is p,Is v],[.lst (iL (fd++[w]))],rfl,?_,_,_,_,_,rfl,rfl,by simp[hf],fun x hx=>?_⟩
    ·refine ar (sl':=[Ls ns,Is 2,Is 30,Ls C,Rs 0,none,Is (q:Int),none,Is p,x9]) (st':=[.lst (iL fd)]) (by simp[m1,m2,<- hp]) ?_
     refine ar (sl':=[Ls ns,Is 2,Is 30,Ls C,Rs 0,none,Is (q:Int),none,Is p,Is u]) (st':=[.lst (iL fd)]) (by simp [bN,de,oz (show ((C.length:Nat):Int) ≠ 0 by lia),am,xC,eA (show (0:Int) < 2147483647 by decide),m3,<- hu]) ?_;refine ar (sl':=[Ls ns,Is 2,Is 30,Ls C,Rs 0,none,Is (q:Int),none,Is p,Is v]) (st':=[.lst (iL fd)]) (by simp [m4,m5,eA (show (0:Int) < 2147483629 by decide),<- hv]) ?_;have ap:=qt (ks:=[]) (a:=.v 4) (e:=.bin .Mod (.bin .Mult (.v 9) (.v 9)) (.i 2147483587)) (y:=.int w) (k:=0) (xs:=iL fd) (sl:=[Ls ns,Is 2,Is 30,Ls C,Rs 0,none,Is (q:Int),none,Is p,Is v]) (st:=[.lst (iL fd)]) rfl (by simp [m6,eA (show (0:Int) < 2147483587 by decide),<- hw]) rfl (by simp;lia);rw [xq,rV] at ap;exact ar ap rfl
    ·rcases zZ.mp hx with h|h
     ·exact hb x h
     ·rw[zM.mp h];exact⟨w0,w1⟩
   ·rintro sl s ⟨fd,x6,x8,x9,rfl,rfl,hf,hb⟩
    exact⟨_,rfl,fd,_,rfl,by simpa using hf,hb⟩
 obtain⟨r,e,D,R,rfl,h⟩:=key;exact⟨D,R,e,h⟩
end
section
variable{st:aa}{n a b c:Nat}{ts:List (Nat×Int)}{D:List Int}{R:aa}{G:List Gv}
noncomputable def kh(z:Nat×Int):AV:=.tup [.int (z.1:Int),.int z.2]
theorem Hj:∀l:List (Nat×Int),rfs (l.map kh)=true:=fun l=>fH fun x hx=>by
 obtain⟨z,_,rfl⟩:=yC.mp hx;rfl
theorem lx(hn:iF n)(ht:∀t∈ts,t.1<2^n):pm cD [.int n,.fz (ts.map kh)] st=some (.fz (iL (dZ n ts)),st):=by
 have hN:2^n-1<=15:=by rcases hn with rfl|rfl|rfl|rfl<;>decide
 have key:∃r,cD [.int n,.fz (ts.map kh)] []=some r/\cQ r.2 r.1=some (.fz (iL (dZ n ts))):=by
  rw[cD,aD];show ∃r,(af [] iu [Is n,Zs (ts.map kh),none,none,none] []).bind ay=some r/\_;unfold iu;refine ag (sl':=[Is n,Zs (ts.map kh),Rs 0,none,none]) (st':=[.lst (iL (List.replicate (2^n-1) 0))]) (by rcases hn with rfl|rfl|rfl|rfl<;>rfl) ?_;refine kJ (em:=kh) (xs:=ts) (gd:=[]) (st0:=[.lst (iL (List.replicate (2^n-1) 0))]) (fun i sl s=>s=[.lst (iL ((ts.take i).foldl fu (List.replicate (2^n-1) 0)))]/\∃x y,sl=[Is n,Zs (ts.map kh),Rs 0,x,y]) rfl (fun _ _ _ _=>rfl) ⟨rfl,_,_,rfl⟩ ?_ ?_
  ·rintro i ⟨g,c⟩ sl s hz ⟨rfl,x,y,rfl⟩
   have hg:=ht _ (zW hz);have hL:((ts.take i).foldl fu (List.replicate (2^n-1) 0)).length=2^n-1:=by rw[mV];simp
   have e1:(ts.take (i+1)).foldl fu (List.replicate (2^n-1) 0)=fu ((ts.take i).foldl fu (List.replicate (2^n-1) 0)) (g,c):=by
    rw[List.take_add_one,hz,Option.toList_some,List.foldl_append];rfl
   rw[e1];generalize (ts.take i).foldl fu (List.replicate (2^n-1) 0)=L at *;refine⟨([Is n,Zs (ts.map kh),Rs 0,Is (g:Int),Is c],[.lst (iL L)]),[Is n,Zs (ts.map kh),Rs 0,Is (g:Int),Is c],[.lst (iL (fu L (g,c)))],rfl,?_,rfl,_,_,rfl⟩;unfold fu;dsimp only at hg ⊢;refine ar (s:=.iff _ _ _) ?_ rfl;by_cases h0:g=0
   ·rw[yH h0];subst h0;rfl
   ·rw[yG h0]
    have hg':g-1<L.length:=by lia
    have ix:aZ [.lst (iL L)] (.ref 0) (.int ((g-1:Nat):Int))=some (.int (SX.gI L (g-1))):=by rw[cB (bB (xs:=iL L) rfl),cb,bY hg']
    have hs:=dg (st:=[.lst (iL L)]) (k:=0) (q:=g-1) (xs:=iL L) (x:=.int (SX.gI L (g-1)+c)) rfl (by rw[gN];exact hg');rw[eZ]at hs;have e1:(g:Int)-1=((g-1:Nat):Int):=by lia
    simp [eq_true (show 0 < g by lia),e1,ix,hs]
  ·rintro sl s ⟨rfl,x,y,rfl⟩
   rw[List.take_length];exact⟨_,rfl,lu rfl⟩
 obtain⟨r,e1,e2⟩:=key;exact bO (by simp[rfs,rf,Hj]) e1 e2
theorem jt(hn:iF n)(h:a<2^n):a<16:=zJ h (by rcases hn with rfl|rfl|rfl|rfl<;>decide)
theorem Dm(hn:iF n)(ha:a<2^n)(hb:b<2^n):pm cZ [.int n,.int a,.int b] st=some (.fz (iL (dZ n [(a ||| b,1),(b,-1)])),st):=by
 have l1:a ||| b<2^n:=Nat.or_lt_two_pow ha hb;have o1:=qQ (st:=[]) (jt hn ha) (jt hn hb);have e:=lx (st:=[]) (ts:=[(a ||| b,1),(b,-1)]) hn (by simp only[zT,zX,or_false];rintro t (rfl|rfl)<;>assumption);refine bO rfl (v:=.fz (iL (dZ n [(a ||| b,1),(b,-1)]))) (st':=[]) ?_ rfl;rw[cZ,aD];unfold jz;refine cL ?_;simp only[zO,List.map_nil,kh]at e;generalize a ||| b=q1 at *;simp[cK,rfs,rf,o1,e,kE]
theorem wY(hn:iF n)(ha:a<2^n)(hb:b<2^n)(hc:c<2^n):pm cH [.int n,.int a,.int b,.int c] st=some (.fz (iL (dZ n (lY a b c))),st):=by
 have l1:a ||| c<2^n:=Nat.or_lt_two_pow ha hc;have l2:b ||| c<2^n:=Nat.or_lt_two_pow hb hc;have l0:a ||| b<2^n:=Nat.or_lt_two_pow ha hb;have l3:a ||| b ||| c<2^n:=Nat.or_lt_two_pow l0 hc;have o1:=qQ (st:=[]) (jt hn ha) (jt hn hc);have o2:=qQ (st:=[]) (jt hn hb) (jt hn hc);have o3:=qQ (st:=[]) (jt hn ha) (jt hn hb);have o4:=qQ (st:=[]) (jt hn l0) (jt hn hc);have e:=lx (st:=[]) (ts:=lY a b c) hn (by simp only[lY,zT,zX,or_false];rintro t (rfl|rfl|rfl|rfl)<;>assumption);refine bO rfl (v:=.fz (iL (dZ n (lY a b c)))) (st':=[]) ?_ rfl;rw[cH,aD];unfold g7;refine cL ?_;simp only[lY,zO,List.map_nil,kh]at e ⊢;generalize a ||| b ||| c=q4 at *;generalize a ||| b=q3 at *;generalize a ||| c=q1 at *;generalize b ||| c=q2 at *;simp[cK,rfs,rf,o1,o2,o3,o4,e,kE]
theorem ly{m k:Nat}(h:∀t∈ts,t.2.natAbs<=k)(hl:ts.length*k<=m):∀x∈dZ n ts,x.natAbs<=m:=by
 have go:∀(ts:List (Nat×Int))(L:List Int)(b:Nat),(∀t∈ts,t.2.natAbs<=k)->(∀x∈L,x.natAbs<=b)->∀x∈ts.foldl fu L,x.natAbs<=b+ts.length*k:=fun ts=>by
  induction ts with
  |nil=>intro L b _ h x hx;have:=h x hx;lia
  |cons t ts ih =>
   intro L b h1 h2 x hx
   have:=ih (fu L t) (b+k) (fun y hy=>h1 y (zQ _ hy)) (fun y hy=>by
    unfold fu at hy;split at hy
    ·have:=h2 y hy;lia
    ·rcases List.mem_or_eq_of_mem_set hy with h|h
     ·have:=h2 y h;lia
     ·have h3:(gI L (t.1-1)).natAbs<b+1:=lJ (fun x hx=>Nat.lt_succ_of_le (h2 x hx)) (Nat.succ_pos b) _
      have:=h1 t z7
      rw[h];lia) x hx
   rw[yX,Nat.add_mul];lia
 intro x hx
 have:=go ts _ 0 h (fun x hx=>by rw[List.eq_of_mem_replicate hx];decide) x hx
 lia
def okB(n:Nat)(z:Gv):Prop:=z.row.length=2^n-1/\(∀x∈z.row,x.natAbs<=16)/\z.num.natAbs<=200000000000
theorem vd{x:Int}:ao [.ref 0] (.lst (iL (D++[x]))::R)=some (.int x,.lst (iL D)::R):=HQ (st:=.lst (iL (D++[x]))::R) (r:=0) rfl
theorem mR{z:Int}{m:Nat}(h:0<m):∃q:Nat,q<m/\z%(m:Int)=(q:Int):=by
 have h1:=Int.emod_nonneg z (show (m:Int) ≠ 0 by lia);have h2:=Int.emod_lt_of_pos z (show (0:Int) < (m:Int) by lia);exact ⟨(z % (m:Int)).toNat,by lia,by lia⟩
theorem qE(hn:iF n)(hD:2<=D.length)(hd:okD D):∃(D':List Int)(z:Gv),aj [.ref 0,.int n] (.lst (iL D)::R)=some (z.av,.lst (iL D')::R)/\(okB n z/\z.num.natAbs<=100000000000)/\okD D'/\D.length=D'.length+2:=by
 obtain⟨D1,x,rfl⟩:=qh (D:=D) (fun z=>by rw[z]at hD;simp at hD);obtain⟨hx,hd1⟩:=hd.at;have p1:=vd (R:=R) (D:=D1) (x:=x);simp only[zV,List.length_singleton]at hD ⊢;obtain⟨D2,y,rfl⟩:=qh (D:=D1) (fun z=>by rw[z]at hD;simp at hD);obtain⟨hy,hd2⟩:=hd1.at;have p2:=vd (R:=R) (D:=D2) (x:=y);obtain⟨S,hS⟩:∃S,S=NG.lst (iL D2)::R:=⟨_,rfl⟩;obtain⟨S1,hS1⟩:∃S1,S1=NG.lst (iL (D2++[y]))::R:=⟨_,rfl⟩;obtain⟨w,hw,w0⟩:∃w:Nat,w+1=2^n/\0<w:=by rcases hn with rfl|rfl|rfl|rfl<;>exact⟨_,rfl,by decide⟩
 obtain⟨a,ha,ea⟩:∃a:Nat,a<2^n/\1+x/64%(w:Int)=(a:Int):=by obtain⟨q,h,e⟩:=mR (z:=x/64) w0;exact⟨q+1,by lia,by lia⟩
 obtain⟨b,hb,eb⟩:∃a:Nat,a<2^n/\1+x/960%(w:Int)=(a:Int):=by obtain⟨q,h,e⟩:=mR (z:=x/960) w0;exact⟨q+1,by lia,by lia⟩
 obtain⟨c,hc,ec⟩:∃a:Nat,a<2^n/\x/14400%((w:Int)+1)=(a:Int):=by obtain⟨q,h,e⟩:=mR (z:=x/14400) (m:=w+1) oM;exact⟨q,by lia,e⟩
 obtain⟨g,hg,eg⟩:∃a:Nat,a<2^n/\1+(c:Int)%(w:Int)=(a:Int):=by obtain⟨q,h,e⟩:=mR (z:=(c:Int)) w0;exact⟨q+1,by lia,by lia⟩
 obtain⟨k,hk,k2⟩:∃k:Int,x/16%4-1=k/\k.natAbs<=2:=by
  have h1:=Int.emod_nonneg (x / 16) (show (4:Int) ≠ 0 by decide);have h2:=Int.emod_lt_of_pos (x / 16) (show (0:Int) < 4 by decide);exact ⟨_,rfl,by lia⟩
 obtain⟨sg,es⟩:∃sg:Bool,aZ S1 (.fz [.str "=",.str ">"]) (.int (x/8%2))=some (.str (if sg=true then "=" else ">")):=by
  rcases Int.emod_two_eq (x/8) with h|h<;>rw[h]
  ·exact⟨true,rfl⟩
  ·exact⟨false,rfl⟩
 have w1:=Int.emod_nonneg y (show (8:Int) ≠ 0 by decide);have w2:=Int.emod_lt_of_pos y (show (0:Int) < 8 by decide);have p11:∀ st,aY .Pow st (.int 10) (.int 11)=some (.int 100000000000):=fun _=>by kernel_rfl
 have u1:∀st,kE .USub st (.int 1)=some (.int (-1)):=fun _=>rfl
 obtain⟨v,hv,xv⟩:=BP (st:=S) (l:=[.int 0,.int 0,.int 1,.int 2,.int 3,.int 5,.int (-1),.int 100000000000]) w1 w2;obtain⟨ct,rfl,hct⟩:∃ct:Int,v=.int ct/\ct.natAbs<=100000000000:=by
  simp only[zT,zX,or_false]at hv;rcases hv with rfl|rfl|rfl|rfl|rfl|rfl|rfl|rfl<;>exact⟨_,rfl,by decide⟩
 have key:∃r,aj [.ref 0,.int n] (.lst (iL (D2++[y]++[x]))::R)=some r/\∃z:Gv,r=(z.av,S)/\okB n z/\z.num.natAbs<=100000000000:=by
  rw[aj,aD];show ∃r,(af [ao,cD,cZ,cH] fm [Rs 0,Is n,none,none,none,none,none,none,none] (.lst (iL (D2++[y]++[x]))::R)).bind ay=some r/\_;unfold fm;have ew:∀sl st,ev [ao,cD,cZ,cH] (.bin .Sub (.bin .LShift (.i 1) (.v 1)) (.i 1)) (Rs 0::Is n::sl) st=some (.int (w:Int),st):=fun sl st=>by
   have:w=2^n-1:=by lia
   rw[this];rcases hn with rfl|rfl|rfl|rfl<;>rfl
  rw[<- hS1]at p1;rw[<- hS]at p2;rw[<- hS1]at p2;generalize (NG.lst (iL (D2++[y]++[x]))::R)=S0 at *;have d0:(0:Int)<(w:Int):=by lia
  refine ag (sl':=[Rs 0,Is n,Is x,none,none,none,none,none,none]) (st':=S1) (by simp [p1,ki]) ?_;refine ag (sl':=[Rs 0,Is n,Is x,Is (w:Int),none,none,none,none,none]) (st':=S1) (by rw [fU,ew];rfl) ?_;refine ag (sl':=[Rs 0,Is n,Is x,Is (w:Int),Is (a:Int),none,none,none,none]) (st':=S1) (by simp [gT (show eC 64=true from rfl),eA d0,ea]) ?_;refine ag (sl':=[Rs 0,Is n,Is x,Is (w:Int),Is (a:Int),Is (b:Int),none,none,none]) (st':=S1) (by simp [gT (show eC 960=true from rfl),eA d0,eb]) ?_;refine ag (sl':=[Rs 0,Is n,Is x,Is (w:Int),Is (a:Int),Is (b:Int),Is (c:Int),none,none]) (st':=S1) (by simp [gT (show eC 14400=true from rfl),eA (show (0:Int) < (w:Int) + 1 by lia),ec]) ?_;refine ag (sl':=[Rs 0,Is n,Is x,Is (w:Int),Is (a:Int),Is (b:Int),Is (c:Int),some (.str (if sg=true then "=" else ">")),none]) (st':=S1) (by simp [gT (show eC 8=true from rfl),eA (show (0:Int) < 2 by decide),es,cK,rfs,rf]) ?_;refine ag (sl':=[Rs 0,Is n,Is x,Is (w:Int),Is (a:Int),Is (b:Int),Is (c:Int),some (.str (if sg=true then "=" else ">")),Is ct]) (st':=S) (by simp [u1,p11,p2,ki,eA (show (0:Int) < 8 by decide),xv,cK,rfs,rf]) ?_;have m8:aY .Mod S (.int x) (.int 8)=some (.int (x % 8)):=eA dC;have f16:aY .FloorDiv S (.int x) (.int 16)=some (.int (x / 16)):=gT rfl dC;have m4:aY .Mod S (.int (x / 16)) (.int 4)=some (.int (x / 16 % 4)):=eA dC;have mw:aY .Mod S (.int (c:Int)) (.int (w:Int))=some (.int ((c:Int) % (w:Int))):=eA d0;have r1:=lx (st:=S) (ts:=[(a,1)]) hn (by simp only [zM];rintro t rfl;exact ha);have r2:=Dm (st:=S) hn ha hc;have r3:=wY (st:=S) hn ha hb hc;have r4:=lx (st:=S) (ts:=[(a,k),(b,1),(g,-1)]) hn (by simp only [zT,zX,or_false];rintro t (rfl | rfl | rfl) <;> assumption);have o1:∀ x ∈ dZ n [(a,1)],x.natAbs <= 16:=ly (k:=1) (by simp) (by simp);have o2:∀ x ∈ dZ n [(a ||| c,1),(c,-1)],x.natAbs <= 16:=ly (k:=1) (by simp) (by simp);have o3:∀ x ∈ dZ n (lY a b c),x.natAbs <= 16:=ly (k:=1) (by simp [lY]) (by simp [lY]);have o4:∀ x ∈ dZ n [(a,k),(b,1),(g,-1)],x.natAbs <= 16:=ly (k:=2) (by simp;lia) (by simp);have lr:∀ ts,(dZ n ts).length=2 ^ n - 1:=fun _=>zc
  have l1:=lr [(a,1)];have l2:=lr [(a ||| c,1),(c,-1)];have l3:=lr (lY a b c);have l4:=lr [(a,k),(b,1),(g,-1)];simp only[zO,List.map_nil,kh]at r1 r4;generalize dZ n [(a,1)]=R1 at *;generalize dZ n [(a ||| c,1),(c,-1)]=R2 at *;generalize dZ n (lY a b c)=R3 at *;generalize dZ n [(a,k),(b,1),(g,-1)]=R4 at *;have ret:∀(L:List Int)(sg:Bool)(c:Int)(e:NQ)(sl:Sl),L.length=2^n-1->(∀x∈L,x.natAbs<=16)->c.natAbs<=100000000000->af [ao,cD,cZ,cH] e sl S=some (.rt (.tup [.fz (iL L),.str (if sg=true then "=" else ">"),.int c]) S)->∃r,af [ao,cD,cZ,cH] e sl S=some r/\∃v st',r=.rt v st'/\∃z:Gv,(v,st')=(z.av,S)/\okB n z/\z.num.natAbs<=100000000000:=fun L sg c e sl h1 h2 h3 h4=>⟨_,h4,_,_,rfl,⟨L,sg,c⟩,rfl,⟨h1,h2,by dsimp only;lia⟩,h3⟩
  have e8:=Int.emod_nonneg x (show (8:Int) ≠ 0 by decide);generalize x % 8=q at *;generalize hsx:AV.str (if sg=true then "=" else ">")=sx at *;by_cases h1:q < 2
  ·refine fV (by simp[m8,h1]) (ret R1 sg ct _ _ l1 o1 hct ?_)
   rw[hsx];refine fR ?_;simp[cK,rfs,rf,r1]
  refine dO (by simp[m8,h1]) ?_;by_cases h2:q=2
  ·refine fV (by simp[m8,h2]) (ret R2 sg ct _ _ l2 o2 hct ?_)
   rw[hsx];refine fR ?_;simp[r2]
  refine dO (by simp[m8,h2]) ?_;by_cases h3:q=3
  ·refine fV (by simp[m8,h3]) (ret R2 true 0 _ _ l2 o2 dC ?_)
   refine fR ?_;simp[r2]
  refine dO (by simp[m8,h3]) ?_;by_cases h4:q=4
  ·refine fV (by simp[m8,h4]) (ret R3 sg ct _ _ l3 o3 hct ?_)
   rw[hsx];refine fR ?_;simp[r3]
  refine dO (by simp[m8,h4]) ?_;by_cases h5:q=5
  ·refine fV (by simp[m8,h5]) (ret R3 true 0 _ _ l3 o3 dC ?_)
   refine fR ?_;simp[r3]
  refine dO (by simp[m8,h5]) ?_;refine d7 (v:=.tup [.fz (iL R4),sx,.int ct]) (st':=S) ?_ ⟨⟨R4,sg,ct⟩,by rw[<- hsx];rfl,⟨l4,o4,by dsimp only;lia⟩,hct⟩;simp[f16,m4,hk,mw,eg,u1,cK,rfs,rf,r4]
 obtain⟨r,e,z,rfl,hz⟩:=key;exact⟨D2,z,by rw[hS]at e;exact e,hz,hd2,by simp⟩
end
section
variable{st:aa}{n kb:Nat}{D:List Int}{R:aa}{G:List Gv}
def fX(z:Gv):PyData:=.tuple [.list (z.row.map PyData.int),.str (if z.eq=true then "=" else ">"),.int z.num]
theorem Bj(z:Gv):bU 8 st z.av=some (fX z):=by
 obtain⟨r,e,m⟩:=z;have:bU 7 st (.fz (iL r))=some (.list (r.map PyData.int)):=by show(aP (bU 6 st) _).map _=_;rw[rh];rfl
 show(aP (bU 7 st) [.fz (iL r),_,_]).map _=_;simp only[aP,this,bind_some];cases e<;>rfl
theorem F5(z:Gv):(fX z).canLay0=true:=by
 obtain⟨r,e,m⟩:=z;have:∀l:List Int,PyData.canLayAll0 (l.map PyData.int)=true:=fun l=>by
  induction l with
  |nil=>rfl
  |cons x l ih=>simp only[zO,PyData.canLayAll0,PyData.canLay0,ih,Bool.and_self]
 have s1:PyData.strOk "="=true:=by decide +kernel
 have s2:PyData.strOk ">"=true:=by decide +kernel
 cases e<;>simp[fX,PyData.canLay0,PyData.canLayAll0,this,s1,s2]
theorem rH:∀G:List Gv,PyData.canLayAll0 (G.map fX)=true
 |[]=>rfl
 |x::l=>by simp only[zO,PyData.canLayAll0,F5,rH l,Bool.and_self]
theorem IX{r:Nat}(h:st[r]?=some (.lst (G.map Gv.av))):b9 .Eq st (.ref r) (.fz [])=some G.isEmpty:=by
 change je st (.ref r) (.fz [])=_;have h1:bU 9 st (.ref r)=some (.list (G.map fX)):=by
  unfold bU;have:aP (bU 8 st) (G.map Gv.av)=some (G.map fX):=c6 (f:=bU 8 st) (i:=Gv.av) (g:=fX) (fun z=>Bj z) G;simp only[h,this,map_some]
 unfold je;rw[h1,show bU 9 st (.fz [])=some (.list []) from rfl,bind_some,bind_some,yH (by
  unfold DD.pyOk;rw[show(PyData.list (G.map fX)).canLay0=true by simp only[PyData.canLay0,rH],yV (z5 (Nat.min_le_right _ _) dC)];rfl)]
 cases G<;>rfl
def wO(n:Nat)(z:Gv):Prop:=z.row.length=2^n-1/\(∀x∈z.row,x.natAbs<=32)/\z.num.natAbs<=1000000000000
theorem Bz{T:List Int}{q:Nat}(h:q<T.length):SX.gI T q∈T:=by
 unfold SX.gI;rw[zD,zF h];exact List.getElem_mem h
theorem okB.w{z:Gv}(h:okB n z):wO n z:=⟨h.1,fun x hx=>by have:=h.2.1 x hx;lia,by have:=h.2.2;lia⟩
theorem qg{ks:List Fn}{e:Ex}{sl:Sl}{l:List Int}(h:ev ks e sl st=some (.fz (iL l),st))(hl:l.length<=1000):ev ks (.nw false (.lof e)) sl st=some (.fz (iL l),st):=by
 simp[mP,h,bW hl]
theorem vD{r i:Nat}(h:st[r]?=some (.lst (G.map Gv.av)))(hi:i<G.length):∃z∈G,aZ st (.ref r) (.int (i:Int))=some z.av:=by
 refine⟨G[i],List.getElem_mem hi,?_⟩;rw[cB (bB h),cb,zR,zF hi];rfl
theorem yd(hn:iF n)(hD:3<=D.length)(hd:okD D)(hR:R[kb]?=some (.lst (G.map Gv.av)))(hG:G.length<=6)(hz:∀z∈G,okB n z):∃(D':List Int)(z:Gv),aK [.ref 0,.int n,.ref (kb+1)] (.lst (iL D)::R)=some (z.av,.lst (iL D')::R)/\wO n z:=by
 have hN:2^n-1<=15:=by rcases hn with rfl|rfl|rfl|rfl<;>decide
 obtain⟨D1,x,rfl⟩:=qh (D:=D) (fun z=>by rw[z]at hD;simp at hD);obtain⟨hx,hd1⟩:=hd.at;have p1:=vd (R:=R) (D:=D1) (x:=x);simp only[zV,List.length_singleton]at hD;obtain⟨D2,o,e2,⟨ho,_⟩,hd2,hl2⟩:=qE (R:=R) hn oM hd1;have key:∃r,aK [.ref 0,.int n,.ref (kb+1)] (.lst (iL (D1++[x]))::R)=some r/\∃z:Gv,r=(z.av,.lst (iL D2)::R)/\wO n z:=by
  rw[aK,aD];show ∃r,(af [ao,aj] fj [Rs 0,Is n,Rs (kb+1),none,none,none,none,none,none,none,none] (.lst (iL (D1++[x]))::R)).bind ay=some r/\_;unfold fj;obtain⟨S,hS⟩:∃S,S=NG.lst (iL D2)::R:=⟨_,rfl⟩;have gS:S[kb+1]?=some (.lst (G.map Gv.av)):=by rw[hS];exact hR
  obtain⟨oo,hoo⟩:∃oo,oo=o.av:=⟨_,rfl⟩;rw[<- hS,<- hoo]at e2;rw[<- hS];refine ag (sl':=[Rs 0,Is n,Rs (kb+1),Is x,none,none,none,none,none,none,none]) (st':=.lst (iL D1)::R) (by simp[p1,ki]) ?_;refine ag (sl':=[Rs 0,Is n,Rs (kb+1),Is x,some oo,none,none,none,none,none,none]) (st':=S) (by simp[e2,ki]) ?_;have m4:aY .Mod S (.int x) (.int 4)=some (.int (x%4)):=eA dC;have eg:=IX gS;have tt:tv [ao,aj] (.or (.cmp .Eq (.v 2) (.nw false (.li .nil))) (.cmp .Eq (.bin .Mod (.v 3) (.i 4)) (.i 0))) [Rs 0,Is n,Rs (kb+1),Is x,some oo,none,none,none,none,none,none] S=some (G.isEmpty||decide (x%4=0),S):=by
   cases hG:G.isEmpty <;> (rw [hG] at eg;simp [eg,m4,cK])
  cases hc:(G.isEmpty||decide (x%4=0)) with
  |true=>exact fV (by rw[tt,hc]) ⟨_,rfl,_,_,rfl,o,by rw[hoo],ho.w⟩
  |false =>
  rw[hc]at tt;refine dO tt ?_;rw[Bool.or_eq_false_iff]at hc;have h0:¬x%4=0:=of_decide_eq_false hc.2;have gl:0<G.length:=by
   cases G with
   |nil=>cases hc.1
   |cons _ _=>simp
  obtain⟨i,hi,ei⟩:=mR (z:=x/4) gl;obtain⟨j,hj,ej⟩:=mR (z:=x/24) gl;obtain⟨z1,h1,x1⟩:=vD gS hi;obtain⟨z2,h2,x2⟩:=vD gS hj;obtain⟨b11,b12,b13⟩:=hz _ h1;obtain⟨b21,b22,b23⟩:=hz _ h2;obtain⟨r1,s1,n1⟩:=z1;obtain⟨r2,s2,n2⟩:=z2;dsimp only at b11 b12 b13 b21 b22 b23;have ln:bN de [.ref (kb+1)] S=some (.int (G.length:Int),S):=by simp[bN,de,bB gS]
  have f4:aY .FloorDiv S (.int x) (.int 4)=some (.int (x/4)):=gT rfl dC;have f24:aY .FloorDiv S (.int x) (.int 24)=some (.int (x/24)):=gT rfl dC;have f144:aY .FloorDiv S (.int x) (.int 144)=some (.int (x/144)):=gT rfl dC;have mi:aY .Mod S (.int (x/4)) (.int (G.length:Int))=some (.int (i:Int)):=by rw[eA oM,ei]
  have mj:aY .Mod S (.int (x/24)) (.int (G.length:Int))=some (.int (j:Int)):=by rw[eA oM,ej]
  have m2:aY .Mod S (.int (x/144)) (.int 2)=some (.int (x/144%2)):=eA dC;refine ag (sl':=[Rs 0,Is n,Rs (kb+1),Is x,some oo,Ls r1,some (.str (if s1=true then "=" else ">")),Is n1,none,none,none]) (st':=S) (by simp[f4,ln,mi,x1];rfl) ?_;refine ag (sl':=[Rs 0,Is n,Rs (kb+1),Is x,some oo,Ls r1,some (.str (if s1=true then "=" else ">")),Is n1,Ls r2,some (.str (if s2=true then "=" else ">")),Is n2]) (st':=S) (by simp[f24,ln,mj,x2];rfl) ?_;obtain⟨v1,hv1⟩:∃v,v=AV.str (if s1=true then "=" else ">"):=⟨_,rfl⟩;obtain⟨v2,hv2⟩:∃v,v=AV.str (if s2=true then "=" else ">"):=⟨_,rfl⟩;rw[<- hv1,<- hv2];by_cases h1:x%4=1
  ·refine fV (by simp[m4,h1]) ⟨_,fR (v:=(⟨r1,false,n1-x/144%2⟩:Gv).av) (st':=S) ?_,_,_,rfl,⟨r1,false,n1-x/144%2⟩,rfl,b11,fun y hy=>by have:=b12 y hy;lia,by dsimp only;lia⟩
   have lo:=qg (st:=S) (ks:=[ao,aj]) (e:=.v 5) (sl:=[Rs 0,Is n,Rs (kb+1),Is x,some oo,Ls r1,some v1,Is n1,Ls r2,some v2,Is n2]) (l:=r1) rfl oM;generalize Ex.nw false (.lof (.v 5))=ee at *;simp[lo,f144,m2,Gv.av]
  refine dO (by simp[m4,h1]) ?_;by_cases h2:x%4=2
  ·obtain⟨sg,esg⟩:∃sg:Bool,ev [ao,aj] (.ix (.nw false (.li (.cons (.s "=") (.cons (.s ">") .nil)))) (.bi .int (.cons (.cmp .In (.s ">") (.tu (.cons (.v 6) (.cons (.v 9) .nil)))) .nil))) [Rs 0,Is n,Rs (kb+1),Is x,some oo,Ls r1,some v1,Is n1,Ls r2,some v2,Is n2] S=some (.str (if sg=true then "=" else ">"),S):=by
    have key:∃b:Bool,b9 .In S (.str ">") (.tup [v1,v2])=some b:=by
     rw[hv1,hv2];refine⟨!(s1&&s2),?_⟩;cases s1<;>cases s2<;>kernel_rfl
    obtain⟨b,hb⟩:=key;have k0:aZ S (.fz [.str "=",.str ">"]) (.int 0)=some (.str "="):=rfl;have k1:aZ S (.fz [.str "=",.str ">"]) (.int 1)=some (.str ">"):=rfl;cases b with
    |true=>exact⟨false,by simp[cK,rfs,rf,hb,bN,oZ,k1]⟩
    |false=>exact⟨true,by simp[cK,rfs,rf,hb,bN,oZ,k0]⟩
   have lc:=kO (st:=S) (ks:=[ao,aj]) (k:=1) (it:=.r1 (.bi .len (.cons (.v 5) .nil))) (t:=.nm 11) (c:=.no) (e:=.bin .Add (.ix (.v 5) (.v 11)) (.ix (.v 8) (.v 11))) (sl:=[Rs 0,Is n,Rs (kb+1),Is x,some oo,Ls r1,some v1,Is n1,Ls r2,some v2,Is n2]) (gd:=[]) (em:=fun q:Nat=>AV.int (q:Int)) (xs:=List.range r1.length) (B:=fun _=>true) (F:=fun q=>AV.int (gI r1 q+gI r2 q)) (qc (by simp[Im]) oM) rfl (by simp;lia) fun q hq=>by
    have hq:=List.mem_range.mp hq;have i1:=JU (st:=S) (T:=r1) (i:=q) hq;have i2:=JU (st:=S) (T:=r2) (i:=q) oM;exact⟨[Rs 0,Is n,Rs (kb+1),Is x,some oo,Ls r1,some v1,Is n1,Ls r2,some v2,Is n2,Is (q:Int)],rfl,rfl,fun _=>by simp[i1,i2]⟩
   rw[List.filter_eq_self.mpr (fun _ _=>rfl),show(List.range r1.length).map (fun q=>AV.int (gI r1 q+gI r2 q))=iL ((List.range r1.length).map fun q=>gI r1 q+gI r2 q) by unfold iL;rw[List.map_map];rfl]at lc;obtain⟨r3,hr3⟩:∃r3,r3=(List.range r1.length).map fun q=>gI r1 q+gI r2 q:=⟨_,rfl⟩
   rw[<- hr3]at lc;have e2:ev [ao,aj] (.nw false (.lc 1 (.r1 (.bi .len (.cons (.v 5) .nil))) (.nm 11) .no (.bin .Add (.ix (.v 5) (.v 11)) (.ix (.v 8) (.v 11))))) [Rs 0,Is n,Rs (kb+1),Is x,some oo,Ls r1,some v1,Is n1,Ls r2,some v2,Is n2] S=some (.fz (iL r3),S):=by rw[gZ,lc,bind_some,yH dh]
   refine fV (by simp[m4,h2]) ⟨_,fR (v:=(⟨r3,sg,n1+n2⟩:Gv).av) (st':=S) ?_,_,_,rfl,⟨r3,sg,n1+n2⟩,rfl,by simp[hr3,b11],fun y hy=>?_,by dsimp only;lia⟩
   ·simp only[mM,yf,c4,dA,e2,esg,A1,ka,g9,iS,bind_some,map_some]
    rfl
   ·have hy:y∈r3:=hy
    rw[hr3]at hy;obtain⟨q,hq,rfl⟩:=yC.mp hy;have hq:=List.mem_range.mp hq
    have:=b12 _ (Bz (T:=r1) (q:=q) hq)
    have:=b22 _ (Bz (T:=r2) (q:=q) oM)
    lia
  refine dO (by simp[m4,h2]) ?_;obtain⟨ro,so,no⟩:=o;obtain⟨c1,c2,c3⟩:=ho;dsimp only at c1 c2 c3;have xo0:aZ S oo (.int 0)=some (.fz (iL ro)):=by rw[hoo];rfl
  have xo2:aZ S oo (.int 2)=some (.int no):=by rw[hoo];rfl
  refine d7 (v:=(⟨ro,false,0-(no.natAbs:Int)⟩:Gv).av) (st':=S) ?_ ⟨⟨ro,false,0-(no.natAbs:Int)⟩,rfl,c1,fun y hy=>by have:=c2 y hy;lia,by dsimp only;lia⟩;have lo:=qg (st:=S) (ks:=[ao,aj]) (e:=.ix (.v 4) (.i 0)) (sl:=[Rs 0,Is n,Rs (kb+1),Is x,some oo,Ls r1,some v1,Is n1,Ls r2,some v2,Is n2]) (l:=ro) (by simp[xo0]) oM;have ab:bN pv [.int no] S=some (.int (no.natAbs:Int),S):=by
   have:((no.natAbs:Nat):Int)=if no<0 then -no else no:=by split<;>lia
   rw[this];rfl
  generalize Ex.nw false (.lof (.ix (.v 4) (.i 0)))=ee at *;simp[lo,xo2,ab,Gv.av]
 obtain⟨r,e,z,rfl,hz⟩:=key;exact⟨D2,z,e,hz⟩
end
section
variable{st:aa}{n:Nat}{G:List Gv}{ns:List Int}
theorem BN{m:Nat}(z:Gv):bh (m+1) st z.av=some z.av:=by cases m<;>rfl
theorem II{m:Nat}(G:List Gv):aP (bh (m+1) st) (G.map Gv.av)=some (G.map Gv.av):=c6 (f:=bh (m+1) st) (i:=Gv.av) (g:=Gv.av) (fun z=>BN z) G
theorem DB(hns:ns.length<=63):∃(n:Nat)(G:List Gv)(z:Gv),(∀st,pm dL [.fz (iL ns),.int 4] st=some (.tup [.int n,.fz (G.map Gv.av),z.av],st))/\iF n/\G.length<=6/\(∀z∈G,okB n z)/\wO n z:=by
 obtain⟨D,R0,e1,hD,hd⟩:=DA hns;have hd:okD D:=hd;obtain⟨D1,x,rfl⟩:=qh (D:=D) (fun z=>by rw[z]at hD;simp at hD);obtain⟨hx,hd1⟩:=hd.at;have p1:=vd (R:=R0) (D:=D1) (x:=x);simp only[zV,List.length_singleton]at hD;have key:∃r,dL [.fz (iL ns),.int 4] []=some r/\∃(n:Nat)(G:List Gv)(z:Gv),cQ r.2 r.1=some (.tup [.int n,.fz (G.map Gv.av),z.av])/\iF n/\G.length<=6/\(∀z∈G,okB n z)/\wO n z:=by
  rw [dL,aD];show ∃ r,(af [aQ,ao,aj,aK] gg [Ls ns,Is 4,none,none,none,none,none,none,none,none] []).bind ay=some r/\_;unfold gg;obtain ⟨S,hS⟩:∃ S,S=NG.lst (iL D1)::R0:=⟨_,rfl⟩;rw [<- hS] at p1;have w1:=Int.emod_nonneg x (show (8:Int) ≠ 0 by decide);have w2:=Int.emod_lt_of_pos x (show (0:Int) < 8 by decide);obtain ⟨v,hv,xv⟩:=BP (st:=S) (l:=[.int 3,.int 2,.int 3,.int 1,.int 3,.int 2,.int 3,.int 2]) w1 w2;obtain ⟨n0,rfl,hn0⟩:∃ n:Nat,v=.int (n:Int)/\iF n:=by
   unfold iF;simp only[zT,zX,or_false]at hv;rcases hv with rfl|rfl|rfl|rfl|rfl|rfl|rfl|rfl
   ·exact⟨3,rfl,by decide⟩
   ·exact⟨2,rfl,by decide⟩
   ·exact⟨3,rfl,by decide⟩
   ·exact⟨1,rfl,by decide⟩
   ·exact⟨3,rfl,by decide⟩
   ·exact⟨2,rfl,by decide⟩
   ·exact⟨3,rfl,by decide⟩
   ·exact⟨2,rfl,by decide⟩
  obtain⟨c0,hc0,ec0⟩:∃c:Nat,c<5/\x/8%5=(c:Int):=mR dC;have f8:aY .FloorDiv S (.int x) (.int 8)=some (.int (x/8)):=gT rfl dC;have f64:aY .FloorDiv S (.int x) (.int 64)=some (.int (x/64)):=gT rfl dC;have m8:aY .Mod S (.int x) (.int 8)=some (.int (x%8)):=eA dC;have m5:aY .Mod S (.int (x/8)) (.int 5)=some (.int (c0:Int)):=by rw[eA dC,ec0]
  have m16:aY .Mod S (.int (x/64)) (.int 16)=some (.int (x/64%16)):=eA dC;refine ag (sl':=[Ls ns,Is 4,Rs 0,none,none,none,none,none,none,none]) (st':=.lst (iL (D1++[x]))::R0) (by simp[e1,ki]) ?_;refine ag (sl':=[Ls ns,Is 4,Rs 0,Is x,none,none,none,none,none,none]) (st':=S) (by simp[p1,ki]) ?_;refine ag (sl':=[Ls ns,Is 4,Rs 0,Is x,Is n0,none,none,none,none,none]) (st':=S) (by simp[m8,xv,cK,rfs,rf]) ?_;refine ag (sl':=[Ls ns,Is 4,Rs 0,Is x,Is n0,Is (c0:Int),none,none,none,none]) (st':=S) (by simp[f8,m5]) ?_;obtain⟨n1,c1,hn1,hc1,s1⟩:∃n1 c1:Nat,iF n1/\c1<5/\ci [aQ,ao,aj,aK] (.iff (.cmp .Eq (.bin .Mod (.bin .FloorDiv (.v 3) (.i 64)) (.i 16)) (.i 0))
 (.cons (.as (.tu (.cons (.i 4) (.cons (.bi .min (.cons (.v 5) (.cons (.i 1) .nil))) .nil))) (.tu 2 (.cons (.nm 4) (.cons (.nm 5) .nil))))
 .nil)
 .nil) [Ls ns,Is 4,Rs 0,Is x,Is n0,Is (c0:Int),none,none,none,none] S=some (.nx [Ls ns,Is 4,Rs 0,Is x,Is n1,Is (c1:Int),none,none,none,none] S):=by
   by_cases h:x/64%16=0
   ·have em:bN qZ [.int (c0:Int),.int 1] S=some (.int ((if 1<c0 then 1 else c0:Nat):Int),S):=by
     have:((if 1<c0 then 1 else c0:Nat):Int)=if(1:Int)<(c0:Int) then 1 else(c0:Int):=by split<;>split<;>lia
     rw[this];rfl
    refine⟨4,if 1<c0 then 1 else c0,.inr (.inr (.inr rfl)),by split<;>lia,?_⟩;generalize (if 1<c0 then 1 else c0:Nat)=c1 at *;simp[f64,m16,h,em];rfl
   ·exact⟨n0,c0,hn0,hc0,by simp[f64,m16,h]⟩
  refine ag s1 ?_;obtain⟨n2,c2,hn2,hc2,s2⟩:∃n2 c2:Nat,iF n2/\c2<=6/\ci [aQ,ao,aj,aK] (.iff (.cmp .Eq (.bin .Mod (.bin .FloorDiv (.v 3) (.i 64)) (.i 16)) (.i 1))
 (.cons (.as (.tu (.cons (.i 2) (.cons (.i 6) .nil))) (.tu 2 (.cons (.nm 4) (.cons (.nm 5) .nil))))
 .nil)
 .nil) [Ls ns,Is 4,Rs 0,Is x,Is n1,Is (c1:Int),none,none,none,none] S=some (.nx [Ls ns,Is 4,Rs 0,Is x,Is n2,Is (c2:Int),none,none,none,none] S):=by
   by_cases h:x/64%16=1
   ·exact⟨2,6,.inr (.inl rfl),by decide,by simp[f64,m16,h];rfl⟩
   ·exact⟨n1,c1,hn1,by lia,by simp[f64,m16,h]⟩
  refine ag s2 ?_
  -- the book
  have hc:∀D:List Int,∃p:List Int×Gv,(2<=D.length/\okD D)->aj [.ref 0,.int n2] (.lst (iL D)::R0)=some (p.2.av,.lst (iL p.1)::R0)/\(okB n2 p.2/\p.2.num.natAbs<=100000000000)/\okD p.1/\D.length=p.1.length+2:=fun D=>by
   by_cases h:2<=D.length/\okD D
   ·obtain⟨D',z,h1,h2⟩:=qE (R:=R0) hn2 h.1 h.2
    exact⟨(D',z),fun _=>⟨h1,h2⟩⟩
   ·exact⟨([],⟨[],true,0⟩),fun z=>absurd z h⟩
  obtain⟨f,hf⟩:=Classical.axiomOfChoice hc;obtain⟨it,it0,NH⟩:∃it:Nat->List Int,it 0=D1/\∀i,it (i+1)=(f (it i)).1:=⟨fun i=>Nat.rec D1 (fun _ D=>(f D).1) i,rfl,fun _=>rfl⟩;have hJ:∀i,i<=c2->okD (it i)/\(it i).length+2*i=29:=fun i=>by
   induction i with
   |zero=>intro _;rw[it0];exact⟨hd1,by lia⟩
   |succ i ih =>
    intro hi;obtain⟨h1,h2⟩:=ih oM;obtain⟨_,_,h3,h4⟩:=hf (it i) ⟨by lia,h1⟩;rw[NH];exact⟨h3,by lia⟩
  have hF:∀i,i<c2->aj [.ref 0,.int n2] (.lst (iL (it i))::R0)=some ((f (it i)).2.av,.lst (iL (it (i+1)))::R0)/\(okB n2 (f (it i)).2/\(f (it i)).2.num.natAbs<=100000000000):=fun i hi=>by
   obtain⟨h1,h2⟩:=hJ i oM;obtain⟨h3,h4,_⟩:=hf (it i) ⟨by lia,h1⟩;rw[NH];exact⟨h3,h4⟩
  obtain⟨st',e3,hl,es'⟩:=xb (gd:=[]) (g:=cj [aQ,ao,aj,aK] (.nm 10)) (t:=jd [aQ,ao,aj,aK] .no) (f:=ev [aQ,ao,aj,aK] (.ca false 2 (.cons (.v 2) (.cons (.v 4) .nil)))) (sl:=[Ls ns,Is 4,Rs 0,Is x,Is n2,Is (c2:Int),none,none,none,none,none]) (xs:=(List.range c2).map fun q:Nat=>AV.int (q:Int))
   (J:=fun i st=>i<=c2/\st=.lst (iL (it i))::R0) (F:=fun i=>(f (it i)).2.av) (fun _ _ _ _=>rfl) (fun i y st hy hq0=>by
    obtain⟨hi,hst⟩:=hq0;have hi2:i<c2:=by have:=(zB.mp hy).1;simpa using this
    subst hst;have h:=(hF i hi2).1;exact⟨[Ls ns,Is 4,Rs 0,Is x,Is n2,Is (c2:Int),none,none,none,none,some y],_,rfl,rfl,by simp[h,ki],by lia,rfl⟩) (st:=S) ⟨Nat.zero_le _,by rw[it0];exact hS⟩
  obtain⟨G0,hG0⟩:∃G0,G0=(List.range c2).map fun i=>(f (it i)).2:=⟨_,rfl⟩
  have lG0:G0.length=c2:=by rw[hG0];simp
  have bG0:∀z∈G0,okB n2 z/\z.num.natAbs<=100000000000:=fun z hz=>by
   rw[hG0]at hz;obtain⟨i,hi,rfl⟩:=yC.mp hz;exact(hF i (List.mem_range.mp hi)).2
  rw[zH,List.length_range]at e3 es';have eG0:(List.range c2).map (fun i=>(f (it i)).2.av)=G0.map Gv.av:=by rw[hG0,List.map_map];rfl
  rw[eG0]at e3;obtain⟨hd2,hl2⟩:=hJ c2 (zP _);generalize it c2=D2 at *;subst es';have e4:ev [aQ,ao,aj,aK] (.nw true (.lc 1 (.r1 (.v 5)) (.nm 10) .no (.ca false 2 (.cons (.v 2) (.cons (.v 4) .nil))))) [Ls ns,Is 4,Rs 0,Is x,Is n2,Is (c2:Int),none,none,none,none] S=some (.ref (R0.length+1),.lst (iL D2)::(R0++[.lst (G0.map Gv.av)])):=by
   have rb:=qc (st:=S) (ks:=[aQ,ao,aj,aK]) (a:=.v 5) (sl:=[Ls ns,Is 4,Rs 0,Is x,Is n2,Is (c2:Int),none,none,none,none]) (n:=c2) rfl oM;rw[yg,FN,rb,bind_some];dsimp only;rw[yH (bW (by simp;lia))];show((gM [] _ _ _ [Ls ns,Is 4,Rs 0,Is x,Is n2,Is (c2:Int),none,none,none,none,none] _ _).bind _)=_;rw[e3];rfl
  refine ag (sl':=[Ls ns,Is 4,Rs 0,Is x,Is n2,Is (c2:Int),Rs (R0.length+1),none,none,none]) (st':=.lst (iL D2)::(R0++[.lst (G0.map Gv.av)])) (by rw[fU,e4];rfl) ?_;clear e3 e4 hF hJ hf hc s1 s2;obtain⟨G1,y7,y8,y9,lG1,bG1,s3⟩:∃(G1:List Gv)(y7 y8 y9:Option AV),G1.length=c2/\(∀z∈G1,okB n2 z)/\ci [aQ,ao,aj,aK] (.iff (.an (.cmp .Gt (.v 5) (.i 1)) (.cmp .Eq (.bin .Mod (.bin .FloorDiv (.v 3) (.i 1024)) (.i 4)) (.i 0)))
 (.cons (.as (.ix (.v 6) (.i 0)) (.tu 3 (.cons (.nm 7) (.cons (.nm 8) (.cons (.nm 9) .nil)))))
 (.cons (.as (.tu (.cons (.nw false (.lof (.v 7))) (.cons (.ix (.nw false (.li (.cons (.s ">") (.cons (.v 8) .nil)))) (.bin .Mod (.bin .FloorDiv (.v 3) (.i 4096)) (.i 2))) (.cons (.bin .Sub (.v 9) (.bin .Mod (.bin .FloorDiv (.v 3) (.i 8192)) (.i 2))) .nil)))) (.su (.v 6) (.un .USub (.i 1))))
 .nil))
 .nil) [Ls ns,Is 4,Rs 0,Is x,Is n2,Is (c2:Int),Rs (R0.length+1),none,none,none] (.lst (iL D2)::(R0++[.lst (G0.map Gv.av)]))=some (.nx [Ls ns,Is 4,Rs 0,Is x,Is n2,Is (c2:Int),Rs (R0.length+1),y7,y8,y9] (.lst (iL D2)::(R0++[.lst (G1.map Gv.av)]))):=by
   have gS:(NG.lst (iL D2)::(R0++[.lst (G0.map Gv.av)]))[R0.length+1]?=some (.lst (G0.map Gv.av)):=by simp
   have sS:∀y,(NG.lst (iL D2)::(R0++[.lst (G0.map Gv.av)])).set (R0.length+1) y=NG.lst (iL D2)::(R0++[y]):=fun y=>by simp
   generalize hT:(NG.lst (iL D2)::(R0++[.lst (G0.map Gv.av)]))=T at *;have f1:aY .FloorDiv T (.int x) (.int 1024)=some (.int (x/1024)):=gT rfl dC;have f2:aY .FloorDiv T (.int x) (.int 4096)=some (.int (x/4096)):=gT rfl dC;have f3:aY .FloorDiv T (.int x) (.int 8192)=some (.int (x/8192)):=gT rfl dC;have m1:aY .Mod T (.int (x/1024)) (.int 4)=some (.int (x/1024%4)):=eA dC;have m2:aY .Mod T (.int (x/4096)) (.int 2)=some (.int (x/4096%2)):=eA dC;have m3:aY .Mod T (.int (x/8192)) (.int 2)=some (.int (x/8192%2)):=eA dC;by_cases h:1<c2/\x/1024%4=0
   ·obtain⟨h1,h2⟩:=h
    obtain⟨z,hz,xz⟩:=vD gS (i:=0) oM;have xz:aZ T (.ref (R0.length+1)) (.int 0)=some z.av:=xz;obtain⟨⟨b1,b2,b3⟩,b4⟩:=bG0 z hz;obtain⟨r,s,m⟩:=z;dsimp only at b1 b2 b3 b4;have hN:2^n2-1<=15:=by rcases hn2 with rfl|rfl|rfl|rfl<;>decide
    have q1:=Int.emod_nonneg (x / 8192) (show (2:Int) ≠ 0 by decide);have q2:=Int.emod_lt_of_pos (x / 8192) (show (0:Int) < 2 by decide);obtain ⟨sg,es⟩:∃ sg:Bool,aZ T (.fz [.str ">",.str (if s=true then "=" else ">")]) (.int (x / 4096 % 2))=some (.str (if sg=true then "=" else ">")):=by
     rcases Int.emod_two_eq (x/4096) with h|h<;>rw[h]
     ·exact⟨false,rfl⟩
     ·exact⟨s,rfl⟩
    have lo:=qg (st:=T) (ks:=[aQ,ao,aj,aK]) (e:=.v 7) (sl:=[Ls ns,Is 4,Rs 0,Is x,Is n2,Is (c2:Int),Rs (R0.length+1),Ls r,some (.str (if s=true then "=" else ">")),Is m]) (l:=r) rfl oM;have sa:g6 T (.ref (R0.length+1)) (.int (-1)) (⟨r,sg,m-x/8192%2⟩:Gv).av=some (NG.lst (iL D2)::(R0++[.lst ((G0.set (c2-1) ⟨r,sg,m-x/8192%2⟩).map Gv.av)])):=by
     unfold g6;simp only[gS];have:km (G0.map Gv.av).length (-1)=some (c2-1):=by
      unfold km;rw[zH,lG0,yG oM];rw[yH oM];congr 1;lia
     rw[this];simp only[bind_some,map_some,sS,List.map_set]
    refine⟨G0.set (c2-1) ⟨r,sg,m-x/8192%2⟩,Ls r,some (.str (if s=true then "=" else ">")),Is m,by simp[lG0],fun y hy=>?_,?_⟩
    ·rcases List.mem_or_eq_of_mem_set hy with hy|hy
     ·exact(bG0 y hy).1
     ·rw[hy];exact⟨b1,b2,by dsimp only;lia⟩
    ·have tt:tv [aQ,ao,aj,aK] (.an (.cmp .Gt (.v 5) (.i 1)) (.cmp .Eq (.bin .Mod (.bin .FloorDiv (.v 3) (.i 1024)) (.i 4)) (.i 0))) [Ls ns,Is 4,Rs 0,Is x,Is n2,Is (c2:Int),Rs (R0.length+1),none,none,none] T=some (true,T):=by simp[show(1:Int)<(c2:Int) by lia,f1,m1,h2]
     rw[iV,tt,bind_some];show af _ _ _ _=_;refine ar (sl':=[Ls ns,Is 4,Rs 0,Is x,Is n2,Is (c2:Int),Rs (R0.length+1),Ls r,some (.str (if s=true then "=" else ">")),Is m]) (st':=T) (by simp[xz];rfl) ?_;generalize hv:AV.str (if s=true then "=" else ">")=v8 at *;refine ar (sl':=[Ls ns,Is 4,Rs 0,Is x,Is n2,Is (c2:Int),Rs (R0.length+1),Ls r,some v8,Is m]) (st':=NG.lst (iL D2)::(R0++[.lst ((G0.set (c2-1) ⟨r,sg,m-x/8192%2⟩).map Gv.av)])) ?_ rfl;have rv8:rf v8=true:=by rw[<- hv];rfl
     have ex:ev [aQ,ao,aj,aK] (.tu (.cons (.nw false (.lof (.v 7))) (.cons (.ix (.nw false (.li (.cons (.s ">") (.cons (.v 8) .nil)))) (.bin .Mod (.bin .FloorDiv (.v 3) (.i 4096)) (.i 2))) (.cons (.bin .Sub (.v 9) (.bin .Mod (.bin .FloorDiv (.v 3) (.i 8192)) (.i 2))) .nil)))) [Ls ns,Is 4,Rs 0,Is x,Is n2,Is (c2:Int),Rs (R0.length+1),Ls r,some v8,Is m] T=some ((⟨r,sg,m-x/8192%2⟩:Gv).av,T):=by
      generalize Ex.nw false (.lof (.v 7))=ee at *;simp[lo,cK,rfs,rf,rv8,f2,m2,es,f3,m3,Gv.av]
     rw[fU,ex];have u1:kE .USub T (.int 1)=some (.int (-1)):=rfl;simp[u1,sa]
   ·refine⟨G0,none,none,none,lG0,fun z hz=>(bG0 z hz).1,?_⟩
    by_cases h1:1<c2
    ·have h2:¬x/1024%4=0:=fun e=>h ⟨h1,e⟩
     simp[show(1:Int)<(c2:Int) by lia,f1,m1,h2];exact hT.symm
    ·simp[show ¬(1:Int)<(c2:Int) by lia]
     exact hT.symm
  refine ag s3 ?_;obtain⟨D3,z,ew,hz⟩:=yd (R:=R0++[.lst (G1.map Gv.av)]) (kb:=R0.length) (G:=G1) hn2 oM hd2 (by simp) oM bG1;refine d7 (v:=.tup [.int n2,.ref (R0.length+1),z.av]) (st':=.lst (iL D3)::(R0++[.lst (G1.map Gv.av)])) ?_ ⟨n2,G1,z,?_,hn2,by lia,bG1,hz⟩
  ·have rv:∀st:aa,True:=fun _=>trivial
   simp only[mM,yf,c4,dA,ka,g9,iS,bind_some,jr,qd,ju,kP,ew];rfl
  ·have g1:(NG.lst (iL D3)::(R0++[.lst (G1.map Gv.av)]))[R0.length+1]?=some (.lst (G1.map Gv.av)):=by simp
   have e2:bh 5 (NG.lst (iL D3)::(R0++[.lst (G1.map Gv.av)])) (.ref (R0.length+1))=some (.fz (G1.map Gv.av)):=by
    unfold bh;simp only[g1,II,map_some]
   show(aP (bh 5 _) [.int n2,.ref (R0.length+1),z.av]).map AV.tup=_;simp only[aP,e2,BN,show ∀i st,bh 5 st (.int i)=some (.int i) from fun _ _=>rfl,bind_some,map_some]
 obtain⟨r,e1,n,G,z,e2,h⟩:=key;exact⟨n,G,z,fun st=>bO (by simp[rfs,rf,dh]) e1 e2,h⟩
theorem AM(hG:G.length<=100)(hz:∀z∈G,z.row.length<=1000):pm dW [.fz (G.map Gv.av)] st=some (.fz (G.map Gv.av),st):=by
 have rG:rfs (G.map Gv.av)=true:=qr _;refine bO (by simp[rfs,rf,rG]) (v:=.fz (G.map Gv.av)) (st':=[]) ?_ rfl;rw[dW,aD];show(af [] fq [Zs (G.map Gv.av)] []).bind ay=_;unfold fq;refine cL ?_;have e:=kO (st:=[]) (ks:=[]) (k:=3) (it:=.e (.v 0)) (t:=.tu 3 (.cons (.nm 1) (.cons (.nm 2) (.cons (.nm 3) .nil)))) (c:=.no) (e:=.tu (.cons (.nw false (.lof (.v 1))) (.cons (.v 2) (.cons (.v 3) .nil)))) (sl:=[Zs (G.map Gv.av)]) (gd:=[]) (em:=Gv.av) (xs:=G) (B:=fun _=>true) (F:=Gv.av) rfl rfl oM fun z h=>by
  have lo:=qg (st:=[]) (ks:=[]) (e:=.v 1) (sl:=[Zs (G.map Gv.av),Ls z.row,some (.str (if z.eq=true then "=" else ">")),Is z.num]) (l:=z.row) rfl (hz z h);refine⟨[Zs (G.map Gv.av),Ls z.row,some (.str (if z.eq=true then "=" else ">")),Is z.num],rfl,rfl,fun _=>?_⟩;generalize Ex.nw false (.lof (.v 1))=ee at *;simp[lo,Gv.av]
 rw[List.filter_eq_self.mpr (fun _ _=>rfl)]at e;rw[mM,gZ,e,bind_some,yH rG];rfl
end
section
variable{st:aa}{n zz:AV}{GA:List AV}{k:Nat}{ps:List Nat}
theorem oR:∀{xs:List AV}{y:AV},rfs xs=true->y∈xs->rf y=true
 |[],_,_,h=>nomatch h
 |z::xs,y,h,hm=>by
  simp only[rfs,zC]at h;rcases zT.mp hm with rfl|hm
  ·exact h.1
  ·exact oR h.2 hm
theorem vE(h:k<GA.length):aZ st (.fz GA) (.int (k:Int))=some (GA.getD k .non):=by
 rw[cB eJ,cb,zD,zF h];rfl
theorem Bb{ks:List Fn}{it c v:Nat}{sl:Sl}(H:∀p∈ps,p<GA.length)(hl:ps.length<=6)(rg:rfs GA=true)(hc:sl.length=c)(h1:dR ks (.e (.v it)) sl st=some (⟨nL ps,[]⟩,st))(h2:∀y,ev ks (.v v) (sl++[y]) st=some (.fz GA,st)):ev ks (.nw false (.lc 1 (.e (.v it)) (.nm c) .no (.ix (.v v) (.v c)))) sl st=some (.fz (ps.map fun p=>GA.getD p .non),st):=by
 have e:=kO (st:=st) (ks:=ks) (k:=1) (it:=.e (.v it)) (t:=.nm c) (c:=.no) (e:=.ix (.v v) (.v c)) (sl:=sl) (gd:=[]) (em:=fun q:Nat=>AV.int (q:Int)) (xs:=ps) (B:=fun _=>true) (F:=fun p=>GA.getD p .non) h1 rfl oM fun p hp=>by
  refine⟨sl++[Is (p:Int)],?_,rfl,fun _=>?_⟩
  ·show some ((sl++[none]).set c (some (.int (p:Int))),st)=_
   rw[<- hc,List.set_append_right _ _ (zP _),Nat.sub_self];rfl
  ·have v1:=h2 (Is (p:Int))
   have vc:ev ks (.v c) (sl++[Is (p:Int)]) st=some (.int (p:Int),st):=by
    show(aV c _ st)=_;have:(sl++[Is (p:Int)])[c]?=some (Is (p:Int)):=by rw[<- hc];simp
    unfold aV;rw[this]
   simp only[uA,v1,vc,bind_some,vE (H p hp),map_some]
 rw[List.filter_eq_self.mpr (fun _ _=>rfl)]at e;have rr:rfs (ps.map fun p=>GA.getD p .non)=true:=fH fun y hy=>by
  obtain⟨p,hp,rfl⟩:=yC.mp hy;rw[zD,zF (H p hp)];exact oR rg (List.getElem_mem (H p hp))
 rw[gZ,e,bind_some,yH rr]
theorem yc(h:ps.length<=6):pm dU [.fz (nL ps),.int (ps.length:Int)] st=some (.bl true,st):=by
 refine bO (by simp[rfs,rf]) (v:=.bl true) (st':=[]) ?_ rfl;rw[dU,aD];show(af [] fi [Zs (nL ps),Is (ps.length:Int)] []).bind ay=_;unfold fi;have ln:bN de [.fz (nL ps)] []=some (.int (ps.length:Int),[]):=by
  show some (AV.int ((nL ps).length:Int),_)=_;rw[kN]
 have il:ev [] (.is "list" (.v 0)) [Zs (nL ps),Is (ps.length:Int)] []=some (.bl true,[]):=rfl;refine ai (sl':=[Zs (nL ps),Is (ps.length:Int)]) (st':=[]) (by
  generalize Ex.is "list" (.v 0)=ee at *;simp[ln,il,jE]) (cL ?_)
 have e:=kO (st:=[]) (ks:=[]) (k:=1) (it:=.e (.v 0)) (t:=.nm 2) (c:=.so (.or (.no (.va (.is "int" (.v 2)))) (.va (.is "bool" (.v 2))))) (e:=.v 2) (sl:=[Zs (nL ps),Is (ps.length:Int)]) (gd:=[]) (em:=fun q:Nat=>AV.int (q:Int)) (xs:=ps) (B:=fun _=>false) (F:=fun q=>AV.int (q:Int)) rfl rfl oM fun p hp=>⟨[Zs (nL ps),Is (ps.length:Int),Is (p:Int)],rfl,rfl,fun h=>(nomatch h)⟩
 rw[List.filter_eq_nil_iff.mpr (fun _ _=>by simp)]at e;have e2:ev [] (.nw false (.lc 1 (.e (.v 0)) (.nm 2) (.so (.or (.no (.va (.is "int" (.v 2)))) (.va (.is "bool" (.v 2))))) (.v 2))) [Zs (nL ps),Is (ps.length:Int)] []=some (.fz [],[]):=by rw[gZ,e,bind_some];rfl
 have q:b9 .Eq [] (.fz []) (.fz [])=some true:=by kernel_rfl
 simp only[mM,Hi,e2,bind_some];simp[cK,q]
theorem vL:∀l:List Int,PyData.eqvAll (l.map PyData.int) (l.map PyData.int)=true
 |[]=>rfl
 |x::l=>by simp[PyData.eqvAll,PyData.eqv,vL l]
theorem BB:∀G:List Gv,PyData.eqvAll (G.map fX) (G.map fX)=true
 |[]=>rfl
 |z::G=>by
  obtain⟨r,e,m⟩:=z;simp[PyData.eqvAll,PyData.eqv,fX,vL r,BB G]
theorem Ja(G:List Gv):(PyData.list (G.map fX)).depth<=50:=by
 have h1:∀l:List Int,PyData.depthAll (l.map PyData.int)=0:=fun l=>by
  induction l with
  |nil=>rfl
  |cons x l ih=>simp only[zO,PyData.depthAll,PyData.depth,ih,Nat.max_self]
 have h2:∀z:Gv,(fX z).depth<=10:=fun z=>by
  obtain⟨r,e,m⟩:=z;simp[fX,PyData.depth,PyData.depthAll,h1]
 have h3:∀G:List Gv,PyData.depthAll (G.map fX)<=10:=fun G=>by
  induction G with
  |nil=>simp[PyData.depthAll]
  |cons z G ih =>
   have:=h2 z
   simp only[zO,PyData.depthAll];lia
 have:=h3 G
 simp only[PyData.depth];lia
theorem Di(G:List Gv):b9 .NotEq st (.fz (G.map Gv.av)) (.fz (G.map Gv.av))=some false:=by
 change (je st _ _).map (fun b=>!b)=_;have h1:bU 9 st (.fz (G.map Gv.av))=some (.list (G.map fX)):=by
  have:aP (bU 8 st) (G.map Gv.av)=some (G.map fX):=c6 (f:=bU 8 st) (i:=Gv.av) (g:=fX) (fun z=>Bj z) G;show(aP (bU 8 st) _).map _=_;rw[this];rfl
 unfold je;rw[h1,bind_some,bind_some,yH (by
  unfold DD.pyOk;rw[show(PyData.list (G.map fX)).canLay0=true by simp only[PyData.canLay0,rH],yV (z5 (Nat.min_le_left _ _) (Ja G))];rfl)]
 simp[PyData.eqv,BB G]
end
structure Fo(n:AV)(GA:List AV)(b:List Nat->Nat->Bool)(x:List Nat->Nat->AV):Prop where
 rn:rf n=true
 sn:∀st,cQ st n=some n
 rg:rfs GA=true
 hf:∀(ps:List Nat)(q:Nat),(∀p∈ps,p<GA.length)->q<GA.length->ps.length<=6->∀st,pm cm [n,.fz (ps.map fun p=>GA.getD p .non),GA.getD q .non] st=some (.tup [.bl (b ps q),x ps q],st)
 rx:∀ps q,rf (x ps q)=true
 sx:∀ps q st j,bh (j+1) st (x ps q)=some (x ps q)
 lg:GA.length<=6
section
variable{st:aa}{n:AV}{GA:List AV}{b:List Nat->Nat->Bool}{x:List Nat->Nat->AV}{ps:List Nat}{p q k:Nat}
noncomputable def tq(b:List Nat->Nat->Bool)(x:List Nat->Nat->AV)(ps:List Nat)(q:Nat):AV:=.tup [.bl (b ps q),x ps q]
theorem Gz(F:Fo n GA b x)(H:∀p∈ps,p<GA.length)(hq:q<GA.length)(hl:ps.length<=6):pm c5 [n,.fz GA,.fz (nL ps),GA.getD q .non] st=some (tq b x ps q,st):=by
 have sv:=Bb (st:=[]) (v:=1) (ks:=[cm]) (it:=2) (c:=4) (sl:=[some n,Zs GA,Zs (nL ps),some (GA.getD q .non)]) H hl F.rg rfl rfl fun _=>rfl
 have e:=F.hf ps q H hq hl [];have rq:rf (GA.getD q .non)=true:=by
  rw[zD,zF hq];exact oR F.rg (List.getElem_mem hq)
 have sl:cQ [] (tq b x ps q)=some (tq b x ps q):=by
  show(aP (bh 5 []) [.bl (b ps q),x ps q]).map AV.tup=_;simp only[aP,F.sx,show bh 5 [] (.bl (b ps q))=some (.bl (b ps q)) from rfl,bind_some,map_some];rfl
 have rn:=F.rn;have rg:=F.rg;generalize GA.getD q .non=zz at *;refine bO (by simp[rfs,rf,rn,rg,rq]) (v:=tq b x ps q) (st':=[]) ?_ sl;rw[c5,aD];show(af [cm] eM [some n,Zs GA,Zs (nL ps),some zz] []).bind ay=_;unfold eM;refine cL ?_;simp only[mM,jr,c4,dA,ka,g9,iS,bind_some,sv,lD,ju,e,map_some];rfl
theorem BL{ks:List Fn}{it c v:Nat}{sl:Sl}(hl:ps.length<=6)(hc:sl.length=c)(h1:dR ks (.e (.v it)) sl st=some (⟨nL ps,[]⟩,st))(h2:∀y,ev ks (.v v) (sl++[y]) st=some (.int (q:Int),st)):ev ks (.nw false (.lc 1 (.e (.v it)) (.nm c) (.so (.cmp .NotEq (.v c) (.v v))) (.v c))) sl st=some (.fz (nL (ps.filter fun p=>p !=q)),st):=by
 have e:=kO (st:=st) (ks:=ks) (k:=1) (it:=.e (.v it)) (t:=.nm c) (c:=.so (.cmp .NotEq (.v c) (.v v))) (e:=.v c) (sl:=sl) (gd:=[]) (em:=fun q:Nat=>AV.int (q:Int)) (xs:=ps) (B:=fun p=>p !=q) (F:=fun p=>AV.int (p:Int)) h1 rfl oM fun p hp=>by
  have v1:=h2 (Is (p:Int));have vc:ev ks (.v c) (sl++[Is (p:Int)]) st=some (.int (p:Int),st):=by
   show(aV c _ st)=_;have:(sl++[Is (p:Int)])[c]?=some (Is (p:Int)):=by rw[<- hc];simp
   unfold aV;rw[this]
  refine⟨sl++[Is (p:Int)],?_,?_,fun _=>vc⟩
  ·show some ((sl++[none]).set c (some (.int (p:Int))),st)=_
   rw[<- hc,List.set_append_right _ _ (zP _),Nat.sub_self];rfl
  ·have ne:b9 .NotEq st (.int (p:Int)) (.int (q:Int))=some (p !=q):=by
    show some (!((p:Int)==(q:Int)))=some (!(p==q));have:((p:Int)==(q:Int))=(p==q):=by
     by_cases h:p=q
     ·rw[h,beq_self_eq_true,beq_self_eq_true]
     ·have h2:¬(p:Int)=(q:Int):=by lia
      rw[beq_eq_false_iff_ne.mpr h,beq_eq_false_iff_ne.mpr h2]
    rw[this]
   show(tv ks (.cmp .NotEq (.v c) (.v v)) _ st)=_;generalize Ex.v c=e1 at *;generalize Ex.v v=e2 at *;simp[vc,v1,ne]
 rw[gZ,e,bind_some];dsimp only;rw[show(ps.filter fun p=>p !=q).map (fun p:Nat=>AV.int (p:Int))=nL (ps.filter fun p=>p !=q) from rfl,yH Bo]
theorem Ia(F:Fo n GA b x)(H:∀p∈ps,p<GA.length)(hq:q<GA.length)(hl:ps.length<=6):pm aS [n,.fz GA,.fz (nL ps),.int (q:Int)] st=some (.bl (b (ps.filter fun p=>p !=q) q),st):=by
 refine bO (by simp[rfs,rf,F.rn,F.rg]) (v:=.bl (b (ps.filter fun p=>p !=q) q)) (st':=[]) ?_ rfl;rw[aS,aD];show(af [c5] cS [some n,Zs GA,Zs (nL ps),Is (q:Int),none] []).bind ay=_;unfold cS;have bv:=BL (st:=[]) (ks:=[c5]) (it:=2) (c:=5) (v:=3) (sl:=[some n,Zs GA,Zs (nL ps),Is (q:Int),none]) (q:=q) hl rfl rfl fun _=>rfl
 have fl:(ps.filter fun p=>p !=q).length<=6:=z5 (List.length_filter_le _ _) hl;have fv:=Gz (st:=[]) F (fun p hp=>H p (List.mem_filter.mp hp).1) hq fl;have ig:=vE (st:=[]) hq;have i0:aZ [] (tq b x (ps.filter fun p=>p !=q) q) (.int 0)=some (.bl (b (ps.filter fun p=>p !=q) q)):=rfl;generalize ps.filter (fun p=>p !=q)=qs at *;generalize GA.getD q .non=zz at *;refine ai (sl':=[some n,Zs GA,Zs (nL ps),Is (q:Int),Zs (nL qs)]) (st':=[]) (by rw[fU,bv];rfl) (cL ?_);generalize tq b x qs q=tt at *;simp[ig,fv,i0]
theorem tT{fn:Fn}{args ts:List AV}{v t:AV}{st':aa}(h:rfs args=false)(m:aP (cQ st) args=some ts)(e:fn ts []=some (v,st'))(r:cQ st' v=some t)(f:flat t=true):pm fn args st=some (t,st):=by
 unfold pm;rw[yG (by rw[h];decide),m,bind_some,e,bind_some];dsimp only;rw[r,bind_some,yH f]
theorem Be{k:Nat}{l:List Nat}(h:st[k]?=some (.lst (nL l))):cQ st (.ref k)=some (.fz (nL l)):=by
 have e:nL l=iL (l.map fun q:Nat=>(q:Int)):=by unfold nL iL;rw[List.map_map];rfl
 rw[e]at h ⊢;exact lu h
theorem Bm{fn:Fn}{args:List AV}{t:AV}(h:∀st,pm fn args st=some (t,st))(hr:rfs args=true):∃v st',fn args []=some (v,st')/\cQ st' v=some t:=by
 have key:=h [];unfold pm at key;rw[yH hr]at key;obtain⟨⟨v,s'⟩,e1,e2⟩:=zA key;obtain⟨t',e3,e4⟩:=zE.mp e2;simp only[Prod.mk.injEq,and_true]at e4;subst e4;exact⟨v,s',e1,e3⟩
theorem Hv{l:List Nat}(h:st[k]?=some (.lst (nL l)))(hp:p∈l)(hd:l.Nodup)(hl:l.length<=1000):rp (.ref k) [.int (p:Int)] st=some (.non,st.set k (.lst (nL (l.filter fun q=>q !=p)))):=by
 have en:nL l=iL (l.map fun q:Nat=>(q:Int)):=by unfold nL iL;rw[List.map_map];rfl
 have ii:gG (nL l)=some (l.map fun q:Nat=>(q:Int)):=by rw[en];exact Av _
 have ix:∀l:List Nat,(l.map fun q:Nat=>(q:Int)).idxOf (p:Int)=l.idxOf p:=fun l=>by
  induction l with
  |nil=>rfl
  |cons a l ih =>
   rw[zO,List.idxOf_cons,List.idxOf_cons,ih];by_cases h:a=p
   ·rw[h,beq_self_eq_true,beq_self_eq_true]
   ·have h2:¬(a:Int)=(p:Int):=by lia
    rw[beq_eq_false_iff_ne.mpr h,beq_eq_false_iff_ne.mpr h2]
 have er:∀l:List Nat,p∈l->l.eraseIdx (l.idxOf p)=l.erase p:=fun l=>by
  induction l with
  |nil=>intro h;cases h
  |cons a l ih =>
   intro h;rw[List.idxOf_cons,List.erase_cons];cases e:a==p with
   |true=>rfl
   |false =>
    have h:p∈l:=by
     rcases zT.mp h with h|h
     ·rw[h]at e;simp at e
     ·exact h
    show a::l.eraseIdx (l.idxOf p)=a::l.erase p;rw[ih h]
 unfold rp;simp only[fe,h,bind_some,ii];rw[yH (by rw[zC];exact⟨yV (yC.mpr ⟨p,hp,rfl⟩),bW (by simpa using hl)⟩),ix];have e2:∀j,(nL l).eraseIdx j=nL (l.eraseIdx j):=fun j=>by unfold nL;simp only[List.eraseIdx_eq_take_drop_succ,List.map_append,List.map_take,List.map_drop]
 rw[e2,er l hp,hd.erase_eq_filter]
noncomputable def dN(b:List Nat->Nat->Bool)(l:List Nat)(p:Nat):List Nat:=if b (l.filter fun q=>q !=p) p=true then l.filter fun q=>q !=p else l
noncomputable def d9(m:Nat):List Nat:=(List.range m).map fun i=>m-1-i
def aB(b:List Nat->Nat->Bool)(m:Nat):List Nat:=(d9 m).foldl (dN b) (List.range m)
theorem Et{l:List Nat}{m:Nat}(h:l.Nodup/\(∀q∈l,q<m)/\l.length<=m):(dN b l p).Nodup/\(∀q∈dN b l p,q<m)/\(dN b l p).length<=m:=by
 unfold dN;split
 ·exact⟨h.1.filter _,fun q hq=>h.2.1 q (List.mem_filter.mp hq).1,z5 (List.length_filter_le _ _) h.2.2⟩
 ·exact h
theorem Co{l:List Nat}(h:q∈l)(hne:q≠p):q∈dN b l p:=by
 unfold dN;split
 ·exact List.mem_filter.mpr ⟨h,by simpa using hne⟩
 ·exact h
theorem lL{m:Nat}:∀(ps l:List Nat),l.Nodup/\(∀q∈l,q<m)/\l.length<=m->(ps.foldl (dN b) l).Nodup/\(∀q∈ps.foldl (dN b) l,q<m)/\(ps.foldl (dN b) l).length<=m
 |[],_,h=>h
 |p::ps,l,h=>by rw[List.foldl_cons];exact lL ps _ (Et h)
theorem sj:∀(ps l:List Nat)(q:Nat),q∈l->q∉ps->q∈ps.foldl (dN b) l
 |[],_,_,h,_=>h
 |p::ps,l,q,h,hn=>by
  rw[List.foldl_cons];exact sj ps _ q (Co h fun e=>hn (by rw[e];exact z7)) fun z=>hn (zQ _ z)
theorem qG{m:Nat}:(List.range m).Nodup/\(∀q∈List.range m,q<m)/\(List.range m).length<=m:=⟨List.nodup_range,fun q h=>List.mem_range.mp h,by simp⟩
theorem wH{m i:Nat}(h:i<m):(d9 m)[i]?=some (m-1-i)/\(m-1-i)∉(d9 m).take i:=by
 refine⟨by simp[d9,h],fun hm=>?_⟩;unfold d9 at hm;rw[<- List.map_take,List.take_range]at hm;obtain⟨j,hj,e⟩:=yC.mp hm
 have:=List.mem_range.mp hj
 lia
theorem KU{m:Nat}(h:m<=6):∀st,(∀sl:Sl,ev [aS] (.bin .Sub (.bi .len (.cons (.v 1) .nil)) (.i 1)) sl st=some (.int ((m:Int)-1),st)->dR [aS] (.r3 (.bin .Sub (.bi .len (.cons (.v 1) .nil)) (.i 1)) (.un .USub (.i 1)) (.un .USub (.i 1))) sl st=some (⟨(d9 m).map fun q:Nat=>AV.int (q:Int),[]⟩,st)):=fun st sl he=>by
 have un:ev [aS] (.un .USub (.i 1)) sl st=some (.int (-1),st):=rfl;show xp _ _ _ sl st=_;unfold xp;rw[he,bind_some];dsimp only;rw[un,bind_some];dsimp only;rw[un,bind_some];dsimp only;have:m=0\/m=1\/m=2\/m=3\/m=4\/m=5\/m=6:=by lia
 rcases this with rfl|rfl|rfl|rfl|rfl|rfl|rfl<;>kernel_rfl
theorem wp(F:Fo n GA b x):fQ [n,.fz GA] st=some (.ref st.length,st++[.lst (nL (aB b GA.length))]):=by
 have key:∃r,fQ [n,.fz GA] st=some r/\r=(.ref st.length,st++[.lst (nL (aB b GA.length))]):=by
  rw[fQ,aD];show ∃r,(af [aS] jk [some n,Zs GA,none,none] st).bind ay=some r/\_;unfold jk;have ln:∀st:aa,bN de [.fz GA] st=some (.int (GA.length:Int),st):=fun st=>rfl
  have lg:=F.lg;refine ag (sl':=[some n,Zs GA,Rs st.length,none]) (st':=st++[.lst (nL (List.range GA.length))]) (by
   have:eR (GA.length:Int)=true/\lW (GA.length:Int)=true:=by
    have:GA.length=0\/GA.length=1\/GA.length=2\/GA.length=3\/GA.length=4\/GA.length=5\/GA.length=6:=by lia
    rcases this with h|h|h|h|h|h|h<;>rw[h]<;>decide
   simp[ln,oU,this,lA]) ?_
  refine kJ (em:=fun q:Nat=>AV.int (q:Int)) (xs:=d9 GA.length) (gd:=[]) (st0:=st++[.lst (nL (List.range GA.length))]) (fun i sl s=>∃y,s=st++[.lst (nL (((d9 GA.length).take i).foldl (dN b) (List.range GA.length)))]/\sl=[some n,Zs GA,Rs st.length,y]) (KU F.lg _ _ (by simp[ln])) (fun _ _ _ _=>rfl) ⟨_,rfl,rfl⟩ ?_ ?_
  ·rintro i p sl s hp ⟨y,rfl,rfl⟩
   have hil:i<GA.length:=by have:=(zB.mp hp).1;simpa [d9] using this
   obtain⟨e1,e2⟩:=wH hil;rw[e1]at hp;obtain rfl:=yD hp;have hL:=lL (b:=b) ((d9 GA.length).take i) (List.range GA.length) qG;have hM:=sj (b:=b) ((d9 GA.length).take i) (List.range GA.length) (GA.length-1-i) (List.mem_range.mpr oM) e2;have eT:((d9 GA.length).take (i+1)).foldl (dN b) (List.range GA.length)=dN b (((d9 GA.length).take i).foldl (dN b) (List.range GA.length)) (GA.length-1-i):=by
    rw[List.take_add_one,e1,Option.toList_some,List.foldl_append];rfl
   rw[eT];generalize ((d9 GA.length).take i).foldl (dN b) (List.range GA.length)=L at *;have hq:GA.length-1-i<GA.length:=by lia
   generalize GA.length-1-i=p at *;have g1:(st++[NG.lst (nL L)])[st.length]?=some (.lst (nL L)):=by simp
   obtain ⟨v,s',u1,u2⟩:=Bm (fun st=>Ia (st:=st) F hL.2.1 hq oM) (show rfs [n,.fz GA,.fz (nL L),.int (p:Int)]=true by simp [rfs,rf,F.rn,F.rg]);have rn0:∀ st,cQ st n=some n:=fun st=>by
    exact F.sn st
   have pl:=tT (st:=st++[.lst (nL L)]) (args:=[n,.fz GA,.ref st.length,.int (p:Int)]) (ts:=[n,.fz GA,.fz (nL L),.int (p:Int)]) (by simp[rfs,rf]) (by simp only[aP,rn0,Be g1,show cQ (st++[NG.lst (nL L)]) (.fz GA)=some (.fz GA) from rfl,show cQ (st++[NG.lst (nL L)]) (.int (p:Int))=some (.int (p:Int)) from rfl,bind_some,map_some]) u1 u2 rfl;refine⟨_,[some n,Zs GA,Rs st.length,Is (p:Int)],st++[.lst (nL (dN b L p))],rfl,ar (s:=.iff _ _ _) ?_ rfl,_,rfl,rfl⟩;have tt:tv [aS] (.va (.ca true 0 (.cons (.v 0) (.cons (.v 1) (.cons (.v 2) (.cons (.v 3) .nil)))))) [some n,Zs GA,Rs st.length,Is (p:Int)] (st++[.lst (nL L)])=some (b (L.filter fun q=>q !=p) p,st++[.lst (nL L)]):=by simp[pl,jE]
   show ci _ _ [some n,Zs GA,Rs st.length,Is (p:Int)] _=_;rw[iV,tt,bind_some];unfold dN;cases hb:b (L.filter fun q=>q !=p) p with
   |false=>rfl
   |true =>
    rw[yH rfl];refine ar (s:=.ex _) ?_ rfl;have rv:=Hv (st:=st++[.lst (nL L)]) (k:=st.length) (p:=p) g1 hM hL.1 oM;have se:(st++[NG.lst (nL L)]).set st.length (.lst (nL (L.filter fun q=>q !=p)))=st++[.lst (nL (L.filter fun q=>q !=p))]:=d6;rw[se]at rv;have l1:bL (st++[NG.lst (nL L)]) (.ref st.length)=some (nL L):=bB g1;simp[kB,nE,nD,mY,l1,rv]
  ·rintro sl s ⟨y,rfl,rfl⟩
   rw[List.take_of_length_le (zP _)];exact⟨_,rfl,rfl⟩
 obtain⟨r,e,rfl⟩:=key;exact e
end
abbrev KL:List Fn:=[dL,dW,cm,fQ,dU]
section
variable{st:aa}{ns:List Int}{n:Nat}{G:List Gv}
theorem IP(hn:iF n)(hG:G.length<=6)(hb:∀y∈G,okB n y):∃b x,Fo (.int n) (G.map Gv.av) b x:=by
 have M1:1000000000000<=M0:=by unfold M0;decide
 have bw:∀y∈G,y.row.length=2^n-1/\(∀x∈y.row,x.natAbs<=M0)/\y.num.natAbs<=M0:=fun y h=>by
  have h:=(hb y h).w;exact⟨h.1,fun x hx=>by have:=h.2.1 x hx;lia,by have:=h.2.2;lia⟩
 have gd:∀p,p<(G.map Gv.av).length->(G.map Gv.av).getD p .non=(G.getD p ⟨[],true,0⟩).av/\G.getD p ⟨[],true,0⟩∈G:=fun p hp=>by
  rw[zH]at hp;have e:G.getD p ⟨[],true,0⟩=G[p]:=by rw[zD,zF hp];rfl
  refine⟨?_,by rw[e];exact List.getElem_mem hp⟩;rw[e,zD,zR,zF hp];rfl
 have hc:∀pq:List Nat×Nat,∃q:Bool×AV,(rf q.2=true/\∀st j,bh (j+1) st q.2=some q.2)/\((∀p∈pq.1,p<(G.map Gv.av).length)->pq.2<(G.map Gv.av).length->pq.1.length<=6->∀st,pm cm [.int n,.fz (pq.1.map fun p=>(G.map Gv.av).getD p .non),(G.map Gv.av).getD pq.2 .non] st=some (.tup [.bl q.1,q.2],st)):=fun hq0=>by
  obtain⟨ps,q⟩:=hq0;by_cases h:(∀p∈ps,p<(G.map Gv.av).length)/\q<(G.map Gv.av).length/\ps.length<=6
  ·obtain⟨h1,h3,h2⟩:=h
   have es:(ps.map fun p=>(G.map Gv.av).getD p .non)=(ps.map fun p=>G.getD p ⟨[],true,0⟩).map Gv.av:=by
    rw[List.map_map];exact List.map_congr_left fun p hp=>(gd p (h1 p hp)).1
   obtain⟨t,et,F⟩:=Lh (gv:=ps.map fun p=>G.getD p ⟨[],true,0⟩) (z:=G.getD q ⟨[],true,0⟩) hn (by rw[zH];lia) (fun y hy=>by
    obtain⟨p,hp,rfl⟩:=yC.mp hy;exact bw _ (gd p (h1 p hp)).2) (bw _ (gd q h3).2)
   rw[<- es,<- (gd q h3).1]at et;obtain⟨c,x,rfl,rx,sx⟩:=F;exact⟨(c,x),⟨rx,sx⟩,fun _ _ _=>et⟩
  ·exact⟨(false,.non),⟨rfl,fun _ _=>rfl⟩,fun h1 h2 h3=>absurd ⟨h1,h2,h3⟩ h⟩
 obtain⟨f,hf⟩:=Classical.axiomOfChoice hc;exact⟨fun ps q=>(f (ps,q)).1,fun ps q=>(f (ps,q)).2,rfl,fun _=>rfl,qr _,fun ps q h1 h2 h3=>(hf (ps,q)).2 h1 h2 h3,fun ps q=>(hf (ps,q)).1.1,fun ps q=>(hf (ps,q)).1.2,by simpa using hG⟩
theorem IB{ks:List Fn}{c:Tx}{a b:NQ}{sl:Sl}{st st':aa}{v:Bool}(h:tv ks c sl st=some (v,st')):ci ks (.iff c a b) sl st=if v=true then af ks a sl st' else af ks b sl st':=by rw[iV,h];rfl
theorem GL{l:List Nat}{k:Nat}(h:st[k]?=some (.lst (nL l))):b9 .NotEq st (.ref k) (.fz (nL l))=some false:=by
 have hl:∀l:List Int,(PyData.list (l.map PyData.int)).canLay0=true:=fun l=>by
  simp only[PyData.canLay0]
  induction l with
  |nil=>rfl
  |cons x l ih=>simp only[zO,PyData.canLayAll0,PyData.canLay0,ih,Bool.and_self]
 have dp:∀l:List Int,PyData.depthAll (l.map PyData.int)=0:=fun l=>by
  induction l with
  |nil=>rfl
  |cons x l ih=>simp only[zO,PyData.depthAll,PyData.depth,ih,Nat.max_self]
 have en:nL l=iL (l.map fun q:Nat=>(q:Int)):=by unfold nL iL;rw[List.map_map];rfl
 rw[en]at h ⊢;generalize l.map (fun q:Nat=>(q:Int))=l at *;change (je st _ _).map (fun b=>!b)=_;unfold je;have py:bU 9 st (.fz (iL l))=some (.list (l.map PyData.int)):=by show(aP (bU 8 st) _).map _=_;rw[rh];rfl
 have pr:bU 9 st (.ref k)=some (.list (l.map PyData.int)):=by
  unfold bU;rw[h];show(aP (bU 8 st) _).map _=_;rw[rh];rfl
 rw[py,pr,bind_some,bind_some,yH (by
  unfold DD.pyOk;rw[hl,yV (z5 (Nat.min_le_left _ _) (by simp only[PyData.depth,dp];decide))];rfl)]
 simp[PyData.eqv,vL l]
theorem Io(hns:ns.length<=63):∃st,oG [.fz (iL ns)] []=some (.bl true,st):=by
 have key:∃r,oG [.fz (iL ns)] []=some r/\r.1=.bl true:=by
  obtain⟨n,G,z,e1,hn,hG,hb,hz⟩:=DB hns;obtain⟨b,x,F⟩:=IP hn hG hb;have e1:=e1 [];have cp:=AM (st:=[]) (G:=G) oM fun y hy=>by
   have hN:2^n-1<=15:=by rcases hn with rfl|rfl|rfl|rfl<;>decide
   have:=(hb y hy).1;lia
  have nes:=fun st=>Di (st:=st) G
  have lg:=F.lg;have zr:rf z.av=true:=by obtain⟨r,e,m⟩:=z;simp[Gv.av,rf,rfs,dh]
  rw[oG,aD];show ∃r,(af KL qp [Ls ns,none,none,none,none,none,none,none,none,none] []).bind ay=some r/\_;unfold qp;generalize G.map Gv.av=GA at *;generalize z.av=zz at *;have ln:∀st:aa,bN de [.fz GA] st=some (.int (GA.length:Int),st):=fun st=>rfl
  refine ag (sl':=[Ls ns,Is n,Zs GA,some zz,none,none,none,none,none,none]) (st':=[]) (by
   rw[fU];simp only[jr,c4,dA,ka,tH,g9,bind_some,map_some,lD,ju,e1];rfl) ?_
  refine ag (sl':=[Ls ns,Is n,Zs GA,some zz,Zs GA,none,none,none,none,none]) (st':=[]) (by
   rw[fU];simp only[jr,c4,dA,ka,g9,iS,bind_some,map_some,lD,ju,kP,cp];rfl) ?_
  refine ag (sl':=[Ls ns,Is n,Zs GA,some zz,Zs GA,Zs (nL (List.range GA.length)),none,none,none,none]) (st':=[]) (by
   have:eR (GA.length:Int)=true/\lW (GA.length:Int)=true:=by
    have:GA.length=0\/GA.length=1\/GA.length=2\/GA.length=3\/GA.length=4\/GA.length=5\/GA.length=6:=by lia
    rcases this with h|h|h|h|h|h|h<;>rw[h]<;>decide
   simp[ln,oU,this,lA,Bo]) ?_
  refine kJ (em:=fun q:Nat=>AV.int (q:Int)) (xs:=List.range GA.length) (gd:=[]) (st0:=[]) (fun i sl s=>∃y6 y7 y8,s=[]/\sl=[Ls ns,Is n,Zs GA,some zz,Zs GA,Zs (nL (((d9 GA.length).take i).foldl (dN b) (List.range GA.length))),y6,y7,y8,none]) (qc (by simp[ln]) oM) (fun _ _ _ _=>rfl) ⟨_,_,_,rfl,rfl⟩ ?_ ?_
  ·rintro i p sl s hp ⟨y6,y7,y8,rfl,rfl⟩
   have hil:i<GA.length:=by have:=(zB.mp hp).1;simpa using this
   obtain rfl:i=p:=by have:=(zB.mp hp).2;simpa using this
   obtain⟨e1,e2⟩:=wH hil;have hL:=lL (b:=b) ((d9 GA.length).take i) (List.range GA.length) qG;have eT:((d9 GA.length).take (i+1)).foldl (dN b) (List.range GA.length)=dN b (((d9 GA.length).take i).foldl (dN b) (List.range GA.length)) (GA.length-1-i):=by
    rw[List.take_add_one,e1,Option.toList_some,List.foldl_append];rfl
   rw[eT];generalize ((d9 GA.length).take i).foldl (dN b) (List.range GA.length)=L at *;have hq:GA.length-1-i<GA.length:=by lia
   have ep:((GA.length:Int)-1)-(i:Int)=((GA.length-1-i:Nat):Int):=by lia
   generalize GA.length-1-i=p at *;have fl:(L.filter fun q=>q !=p).length<=6:=z5 (List.length_filter_le _ _) oM;have hF:∀q∈L.filter (fun q=>q !=p),q<GA.length:=fun q h=>hL.2.1 q (List.mem_filter.mp h).1
   refine⟨_,[Ls ns,Is n,Zs GA,some zz,Zs GA,Zs (nL (dN b L p)),Is (i:Int),Is (p:Int),Zs (nL (L.filter fun q=>q !=p)),none],[],rfl,?_,_,_,_,rfl,rfl⟩;refine ar (sl':=[Ls ns,Is n,Zs GA,some zz,Zs GA,Zs (nL L),Is (i:Int),Is (p:Int),y8,none]) (st':=[]) (by simp[ln,ep]) ?_;have bv:=BL (st:=[]) (ks:=KL) (it:=5) (c:=10) (v:=7) (sl:=[Ls ns,Is n,Zs GA,some zz,Zs GA,Zs (nL L),Is (i:Int),Is (p:Int),y8,none]) (ps:=L) (q:=p) oM rfl rfl fun _=>rfl
   refine ar (sl':=[Ls ns,Is n,Zs GA,some zz,Zs GA,Zs (nL L),Is (i:Int),Is (p:Int),Zs (nL (L.filter fun q=>q !=p)),none]) (st':=[]) (by rw[fU,bv];rfl) ?_;have sv:=Bb (st:=[]) (ks:=KL) (it:=8) (c:=10) (v:=4) (sl:=[Ls ns,Is n,Zs GA,some zz,Zs GA,Zs (nL L),Is (i:Int),Is (p:Int),Zs (nL (L.filter fun q=>q !=p)),none]) hF fl F.rg rfl rfl fun _=>rfl
   have e:=F.hf _ p hF hq fl [];have ig:=vE (st:=[]) hq;have i0:aZ [] (tq b x (L.filter fun q=>q !=p) p) (.int 0)=some (.bl (b (L.filter fun q=>q !=p) p)):=rfl;refine ar (s:=.iff _ _ _) ?_ rfl;have tt:tv KL (.va (.ix (.ca true 2 (.cons (.v 1) (.cons (.nw false (.lc 1 (.e (.v 8)) (.nm 10) .no (.ix (.v 4) (.v 10)))) (.cons (.ix (.v 4) (.v 7)) .nil)))) (.i 0))) [Ls ns,Is n,Zs GA,some zz,Zs GA,Zs (nL L),Is (i:Int),Is (p:Int),Zs (nL (L.filter fun q=>q !=p)),none] []=some (b (L.filter fun q=>q !=p) p,[]):=by
    change pm cm _ []=some (tq b x _ _,[]) at e;generalize Ex.nw false (.lc 1 (.e (.v 8)) (.nm 10) .no (.ix (.v 4) (.v 10)))=e5 at *;generalize tq b x (L.filter fun q=>q !=p) p=tt at *;generalize List.map (fun p=>GA.getD p AV.non) (L.filter fun q=>q !=p)=mm at *;generalize GA.getD p AV.non=zq at *;simp[sv,ig,e,i0,jE]
   show ci _ _ [Ls ns,Is n,Zs GA,some zz,Zs GA,Zs (nL L),Is (i:Int),Is (p:Int),Zs (nL (L.filter fun q=>q !=p)),none] _=_;refine(IB tt).trans ?_;unfold dN;cases hb:b (L.filter fun q=>q !=p) p with
   |false=>rfl
   |true=>rfl
  ·rintro sl s ⟨y6,y7,y8,rfl,rfl⟩
   have lT:(d9 GA.length).length=GA.length:=by simp[d9]
   rw[List.length_range,List.take_of_length_le oM];have tn:((d9 GA.length).foldl (dN b) (List.range GA.length))=aB b GA.length:=rfl;rw[tn];have lT:=(lL (b:=b) (d9 GA.length) (List.range GA.length) qG).2.2;rw[tn]at lT;generalize hT:aB b GA.length=T at *;refine kJ (em:=fun q:Nat=>AV.int (q:Int)) (xs:=List.range 2) (gd:=[]) (st0:=[]) (fun i sl s=>∃y6 y9,sl=[Ls ns,Is n,Zs GA,some zz,Zs GA,Zs (nL T),y6,y7,y8,y9]) rfl (fun _ _ _ _=>rfl) ⟨_,_,rfl⟩ ?_ ?_
   ·rintro i p sl s hp ⟨y6,y9,rfl⟩
    have tv0:=wp (st:=s) F;rw[hT]at tv0;have g1:(s++[NG.lst (nL T)])[s.length]?=some (.lst (nL T)):=by simp
    refine⟨_,[Ls ns,Is n,Zs GA,some zz,Zs GA,Zs (nL T),Is (p:Int),y7,y8,Rs s.length],s++[.lst (nL T++[.int 0])],rfl,?_,_,_,rfl⟩;refine ar (sl':=[Ls ns,Is n,Zs GA,some zz,Zs GA,Zs (nL T),Is (p:Int),y7,y8,Rs s.length]) (st':=s++[.lst (nL T)]) (by
     show ci KL _ [Ls ns,Is n,Zs GA,some zz,Zs GA,Zs (nL T),Is (p:Int),y7,y8,y9] s=_;rw[fU];simp[tv0]) ?_
    have ln:bN de [.fz (nL T)] (s++[.lst (nL T)])=some (.int (T.length:Int),s++[.lst (nL T)]):=by
     show some (AV.int ((nL T).length:Int),_)=_;rw[kN]
    obtain⟨v,s',u1,u2⟩:=Bm (fun st=>yc (st:=st) (ps:=T) oM) (by simp[rfs,rf]);have pl:=tT (st:=s++[.lst (nL T)]) (args:=[.ref s.length,.int (T.length:Int)]) (ts:=[.fz (nL T),.int (T.length:Int)]) (by simp[rfs,rf]) (by simp only[aP,Be g1,show cQ (s++[NG.lst (nL T)]) (.int (T.length:Int))=some (.int (T.length:Int)) from rfl,bind_some,map_some]) u1 u2 rfl;have ed:=GL g1;have nes:=nes (s++[.lst (nL T)]);refine ar (sl':=[Ls ns,Is n,Zs GA,some zz,Zs GA,Zs (nL T),Is (p:Int),y7,y8,Rs s.length]) (st':=s++[.lst (nL T)]) (by
     simp[ln,pl,ed,nes,jE]) ?_
    refine ar (st':=s++[.lst (nL T++[.int 0])]) ?_ rfl;have l1:bL (s++[NG.lst (nL T)]) (.ref s.length)=some (nL T):=bB g1;simp [kB,nE,nD,mY,l1,oW,fe,bW (show T.length <= 1000 by lia)]
   ·rintro sl s ⟨y6,y9,rfl⟩
    exact⟨_,cL rfl,rfl⟩
 obtain⟨⟨v,s⟩,e,h⟩:=key;have h:v=.bl true:=h;subst h;exact⟨s,e⟩
theorem KK:Room e_law.d callerA:=⟨rfl,by decide,by decide,rfl⟩
theorem Cl:∀t∈(NI.tb:List (Addr×Pos×Str)),t.1∈([(119,117)]:List (Addr×Addr)).map (·.2):=by
 intro t ht;have:t=(117,⟨81,30,81,63⟩,("Sheet.raising_column":Str)++".<locals>."++"<lambda>"):=zM.mp ht;rw[this];exact zM.mpr rfl
theorem holds:∀ns:List Int,ns.length<=63->∃st,JZ [.fz (ns.map .int)] []=some (.bl true,st):=fun _ h=>Io h
end
end LW
namespace PySem.W.Fast
def tw528757003380873043:=()
def tw6776950874534006479:=()
def tw14852636222787509530:=()
def tw6447830105855434634:=()
def tw13311892762746697708:=()
def tw3810306385147670744:=()
def tw11491101104834437363:=()
def tw12955708433351475347:=()
def tw15631402169076366279:=()
def tw1036824531298646673:=()
def tw12904326166323105190:=()
def tw2223164912121579769:=()
def tw2130268596477374199:=()
def tw10956441957079353998:=()
def tw8577784356372591279:=()
def tw4008385333439295831:=()
def tw1045124581899736861:=()
def tw14762366587108846028:=()
def tw11891696856394984097:=()
def tw2482850841920340162:=()
def tw12150582350269831215:=()
def tw17920187532647985053:=()
def tw10972923350632123832:=()
def tw4897988528615457316:=()
def tw18422931645638573135:=()
def tw862251474815453595:=()
def tw16768036820642529244:=()
def tw5040623754607423249:=()
def tw13129017313306059086:=()
def tw15384461135059415599:=()
def tw15251502305930740019:=()
def tw12254118929073406487:=()
def tw17469317654623388691:=()
def tw15871043768162377934:=()
def tw17550043082288934005:=()
def tw8212257353365819816:=()
def tw13975281072373894169:=()
def tw10052921392685642811:=()
def tw6009310928764394258:=()
def tw9822976166063179548:=()
def tw15177228911567935322:=()
def tw5108003301393286454:=()
def tw10391001712048835218:=()
def tw1247111422776458698:=()
def tw8815453621418544827:=()
def tw7471928425984299817:=()
def tw9315258764757993957:=()
def tw16379389072160011029:=()
def tw10939190268575771577:=()
def tw1953507292950864654:=()
def tw8157000887020384523:=()
def tw2537138873476113295:=()
def tw7289046534886799443:=()
def tw7374456511175970186:=()
def tw9089149017596433202:=()
def tw3171282744838700783:=()
def tw9044103846213309571:=()
def tw15259434648121144315:=()
def tw16418613642642875323:=()
def tw8590348245848527146:=()
def tw16633937000351940199:=()
def tw14168666799411250901:=()
def tw17236453695561922602:=()
def tw3011758163862933870:=()
def tw5985072420267465649:=()
def tw8154396478196847420:=()
def tw13649366825642143881:=()
def tw11772781945867363339:=()
def tw16630702173625789256:=()
def tw66030159908973432:=()
def tw6609165904972063994:=()
def tw9613012984857537888:=()
def tw13295164469469373572:=()
def tw2348671247280713196:=()
def tw4513245097675000659:=()
def tw8380214862957937507:=()
def tw17730918934052677543:=()
def tw15464539556498464071:=()
def tw677939756709468991:=()
def tw17129640208900712863:=()
def tw17500712078237701609:=()
def tw6373267628198829365:=()
def tw16514410959470214584:=()
def tw6710293806158770349:=()
def tw5702895903405984449:=()
def tw15676688713462634760:=()
def tw17406776296361610368:=()
def tw643404437700046780:=()
def tw9608875079307391340:=()
def tw4642683697661380652:=()
def tw7056313161248748218:=()
def tw8786252587383290658:=()
def tw983682168354434317:=()
def tw15774950760754870334:=()
def tw10880935070195088186:=()
def tw13313582528842193156:=()
def tw7580336176713752509:=()
def tw10087755213011181422:=()
def tw14736788894155313211:=()
def tw9417407211732663887:=()
def tw15450856686364117440:=()
def tw10669822355152055974:=()
def tw17889537523264295508:=()
def tw2807220663115748227:=()
def tw17875104777691218826:=()
def tw8976118394380897684:=()
def tw2033372046472495920:=()
def tw7685172981236186170:=()
def tw11113232463029063536:=()
def tw3301995095273642393:=()
def tw4119852323525757471:=()
def tw1232857674639707635:=()
def tw5945644187148887005:=()
def tw16841748434558431538:=()
def tw4801047731296260412:=()
def tw4350607233465005043:=()
def tw8052228482726824111:=()
def tw1923128799523758910:=()
def tw14462061464987460355:=()
def tw16210785841538061741:=()
def tw14580494817898898943:=()
def tw6784958136288215374:=()
def tw6598940770863937993:=()
def tw18346599127237287724:=()
def tw12080560404696230846:=()
def tw10425822828640776478:=()
def tw6021242045614925244:=()
def tw2672399075880703961:=()
def tw1253502412455083016:=()
def tw9797703186315858192:=()
def tw9721180577236538247:=()
def tw9202689389105443348:=()
def tw4506921538112007302:=()
def tw16082636842888634184:=()
def tw17549860000278394641:=()
def tw1309932274022874250:=()
def tw7084686359212090013:=()
def tw349002267063760837:=()
def tw2583338268772218271:=()
def tw7072994571810243613:=()
def tw4689909078714591317:=()
def tw17764323039236214906:=()
def tw5709442965383147991:=()
def tw2003624520963790521:=()
def tw17251449798970532515:=()
def tw13520586099247187724:=()
def tw6481376821311434984:=()
def tw15109444012726543930:=()
def tw2528208230639287719:=()
def tw13375353446113616082:=()
def tw9910373899088822457:=()
def tw10042619611188037205:=()
def tw9063079162068635734:=()
def tw2643931855612886972:=()
def tw14763518530801789107:=()
def tw15678065382759349871:=()
def tw9310703330963537885:=()
def tw677273907845586783:=()
def tw3802327360350032932:=()
def tw14652159464717988396:=()
def tw11927973287199684023:=()
def tw10643802330707432260:=()
def tw15620343926147578678:=()
def tw2817073505358872017:=()
def tw14271027032774684791:=()
def tw2176286282322860775:=()
def tw13716737489197894521:=()
def tw9985793549613081422:=()
def tw898359124201220407:=()
def tw14408403665649530825:=()
def tw17330581421320297557:=()
def tw10100565170445629049:=()
def tw4775542359053424882:=()
def tw16231240753334760686:=()
def tw14212495280224151233:=()
def tw6677196427157431192:=()
def tw5182127142117719186:=()
def tw3211196245062714761:=()
def tw13624429882334439934:=()
def tw7008311669425919194:=()
def tw13203488321321648520:=()
def tw4188861375966086215:=()
def tw11690450376275841895:=()
def tw9404526713667115481:=()
def tw9335033691174228647:=()
def tw8954458471787649539:=()
def tw7715086732020181520:=()
def tw17563349412447572996:=()
def tw13088101913072580063:=()
def tw8199949190540959318:=()
def tw1424935974439254839:=()
def tw3719746199239655862:=()
def tw14127614788866907370:=()
def tw8198110999027750161:=()
def tw6682712045413126915:=()
def tw17564728446824429827:=()
def tw16979393161705563239:=()
def tw10267310348877482640:=()
def tw15851861478965548142:=()
def tw9547287181293552741:=()
def tw8997720726242361468:=()
def tw8457828802233535270:=()
def tw485283008267953768:=()
def tw15810994498638682116:=()
def tw9425075457342550195:=()
def tw9256489000925211412:=()
def tw7626857551343234186:=()
def tw7413682495863609435:=()
def tw6679493469678366842:=()
def tw656034081114712315:=()
def tw6274682916984957929:=()
def tw5630851515174138367:=()
def tw5174000692338291049:=()
def tw460667002233125749:=()
def tw4438378703969221065:=()
def tw3665311620212137620:=()
def tw2938385309232902719:=()
def tw2594058168846933426:=()
def tw2441242225441757187:=()
def tw2253713332890374361:=()
def tw17746913925845017826:=()
def tw17599538377762853416:=()
def tw17526073624169915419:=()
def tw17234017572141752835:=()
def tw17220388840653889295:=()
def tw15112821115330731644:=()
def tw1422547998647077199:=()
def tw13260202707147430037:=()
def tw1291002827397819784:=()
def tw12646259353423582870:=()
def tw12315162312808564866:=()
def tw108692099391431760:=()
def tw10671923727894235388:=()
def tw10251089189865709673:=()
def tw1024193530671101604:=()
def tw11122080072463498295:=()
def tw13607348196579095164:=()
def tw15774746702927633523:=()
def tw17516870554230543937:=()
def tw5039831897772166005:=()
def tw7490540308280815216:=()
def tw443613788875630376:=()
def tw12227927018611055237:=()
def tw16336314829914090703:=()
def tw10749909461536492120:=()
def tw5063561367625490521:=()
def tw3373418605925172131:=()
def tw13063151698416283434:=()
def tw7943678657996592474:=()
def tw12773845584104191672:=()
end PySem.W.Fast
open PySem PySem.W PyProof.Rows
set_option maxRecDepth 100000 in
set_option maxHeartbeats 0 in
theorem PySem.Challenge.cw_telltight_k22_thinned_books_holds : PySem.Challenge.rw_telltight_k22_thinned_books.Holds := by
 w_on; o_law; k_head; (case hw => w_witness2)
 k_fill
 refine R.walk_R (l := PySem.Challenge.rw_telltight_k22_thinned_books) (k := LW.e_law.d) (fn := LW.JZ) (tabs := [(119, 117)]) rfl rfl ?hrr (fun w h Y => ⟨km_in_of Y, fun q hq => km_tabs_of Y q.2 (by simp only [zM] at hq ⊢; rw [hq])⟩) ?hcc ?hKK ?htt LW.holds ?F
 case hrr => exact LW.KK
 case hcc => intro w q hq; simp only [zM] at hq; rw [hq]; kernel_rfl
 case hKK => intro w; kernel_rfl
 case htt => intro t ht; exact LW.Cl t ht
 case F =>
  intro w mg fa h KX G hmg;refine R.law_F (gs := LW.gs) (cl := LW.cl) (pre := LW.pre) (e := LW.e_law) KX G hmg ?nb ?gs ?cl LW.DH LW.DI rfl ?fs ?law rfl LW.Ip
  case nb => kernel_rfl
  case gs => intro p hp; simp only [LW.gs, zT, zX, or_false] at hp
  case cl => intro p hp; simp only [LW.cl, zT, zX, or_false] at hp; rcases hp with rfl <;> exact ⟨⟨_, by k_is, by kernel_rfl, by kernel_rfl, by kernel_rfl, by kernel_rfl⟩, ⟨_, by k_is, by kernel_rfl⟩⟩
  case law => exact ⟨_, _, _, _, _, _, _, _, _, _, by k_is, by k_is, by kernel_rfl, by k_is, .inl rfl⟩
  case fs =>
   repeat' refine And.intro ?_ ?_
   all_goals first | trivial | exact ⟨_, _, _, _, _, _, _, _, _, _, by k_is, by k_is, by kernel_rfl, by k_is, .inl rfl⟩ | exact ⟨_, _, _, _, _, _, _, _, _, _, _, by k_is, by k_is, by k_is, by kernel_rfl, by k_is, by k_is, .inl rfl⟩ | exact ⟨_, _, _, _, _, _, _, _, _, _, _, by k_is, by k_is, by k_is, by kernel_rfl, by k_is, by k_is, .inr ⟨_, _, _, rfl, rfl, by kernel_rfl, rfl⟩⟩ | exact ⟨_, by k_is, by kernel_rfl, by kernel_rfl⟩
#print axioms PySem.Challenge.cw_telltight_k22_thinned_books_holds
