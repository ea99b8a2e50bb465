import PyProof.Rows.All
import Wide.All
import OpenK.AllK
import Wide.FinOn
import PySem.Challenge.RW_telltight_k08_whole_kinds_of_answers
set_option bootstrap.genMatcherCode false
set_option compiler.extract_closed false
noncomputable section
open Option (bind_some map_some)
open PySem.W (CodeHd Frag InitBack InstAt TabsAt any_some bind_fn callWith_K cellsFrom_some codeHdIn codeHd_of_K codeIn codeRec_of emptyDict findIn findObj_own fnOf get_value handedIn hasDictIn hideAll hideAll_get hideAll_none hideAll_size instObj isFn keepIn ki_setAt ki_setBack kla_callFunE kla_codeExpr kla_eval kla_fn kla_makeFunction kla_makeFunctionHit km_in_of km_tabs_of lookIn looks_clsIn looks_findIn make_core makesIn makes_of mem_of_lookupK methodCall_KW methodObj method_fn mg_none_of mg_of noTabs nsIn of_hideAll osa_open plainGet plainGet_of plainOver set_plain tabObj takerIn truthy_bytes typeIn)
theorem oM{p:Prop}(h:p:=by first|lia|omega|(refine @id (@Ne Nat _ _) ?_;omega)):p:=h
theorem dC{p:Prop}(h:p:=by decide):p:=h
set_option Elab.async false
set_option linter.all false
set_option maxRecDepth 100000
theorem zA{α β}{o:Option α}{f:α->Option β}{b}:o.bind f=some b->∃a,o=some a∧f a=some b:=Option.bind_eq_some_iff.mp
theorem zD:type_of% @List.getElem?_eq_some_iff:=@List.getElem?_eq_some_iff
theorem zE:type_of% @Bool.and_eq_true:=@Bool.and_eq_true
theorem zF:type_of% @List.getD_eq_getElem?_getD:=@List.getD_eq_getElem?_getD
theorem zH:type_of% @Option.map_eq_some_iff:=@Option.map_eq_some_iff
theorem zI:type_of% @List.getElem?_eq_getElem:=@List.getElem?_eq_getElem
theorem zJ:type_of% @PySem.Heap.get?_push_of_some:=@PySem.Heap.get?_push_of_some
theorem zK:type_of% @List.length_map:=@List.length_map
theorem zL:type_of% @List.size_toArray:=@List.size_toArray
theorem zM:type_of% @Nat.lt_of_lt_of_le:=@Nat.lt_of_lt_of_le
theorem zN:type_of% @List.mem_append_right:=@List.mem_append_right
theorem zO:type_of% @List.mem_append_left:=@List.mem_append_left
theorem zP:type_of% @List.mem_singleton:=@List.mem_singleton
theorem zQ:type_of% @List.getElem?_append_left:=@List.getElem?_append_left
theorem zR:type_of% @List.map_cons:=@List.map_cons
theorem zS:type_of% @Nat.le_refl:=@Nat.le_refl
theorem zT:type_of% @List.mem_cons_of_mem:=@List.mem_cons_of_mem
theorem zU:type_of% @List.getElem?_map:=@List.getElem?_map
theorem zV:type_of% @Nat.le_of_ble_eq_true:=@Nat.le_of_ble_eq_true
theorem zW:type_of% @List.mem_cons:=@List.mem_cons
theorem zX:type_of% @Nat.ne_of_lt:=@Nat.ne_of_lt
theorem zY:type_of% @List.length_append:=@List.length_append
theorem zZ:type_of% @List.mem_of_getElem?:=@List.mem_of_getElem?
theorem z5:type_of% @List.not_mem_nil:=@List.not_mem_nil
theorem z6:type_of% @PySem.Heap.get?_push_size:=@PySem.Heap.get?_push_size
theorem z7:type_of% @List.mem_append:=@List.mem_append
theorem z9:type_of% @Nat.le_trans:=@Nat.le_trans
theorem yA:type_of% @List.getElem?_append_right:=@List.getElem?_append_right
theorem yB:type_of% @List.mem_cons_self:=@List.mem_cons_self
theorem yC:type_of% @List.getElem?_of_mem:=@List.getElem?_of_mem
theorem yD:type_of% @decide_eq_false:=@decide_eq_false
theorem yE:type_of% @Bool.false_eq_true:=@Bool.false_eq_true
theorem yF:type_of% @decide_eq_true_eq:=@decide_eq_true_eq
theorem yG:type_of% @List.mem_map:=@List.mem_map
theorem yH:type_of% @Option.some.inj:=@Option.some.inj
theorem yI:type_of% @PySem.wpAny_bind:=@PySem.wpAny_bind
theorem yJ:type_of% @PySem.wpAny_pure:=@PySem.wpAny_pure
theorem yK:type_of% @if_neg:=@if_neg
theorem yL:type_of% @if_pos:=@if_pos
theorem yM:type_of% @PySem.Heap.lt_size:=@PySem.Heap.lt_size
theorem yN:type_of% @eq_of_beq:=@eq_of_beq
theorem yO:type_of% @Nat.ble_eq_true_of_le:=@Nat.ble_eq_true_of_le
theorem yP:type_of% @Nat.lt_of_le_of_lt:=@Nat.lt_of_le_of_lt
theorem yQ:type_of% @List.append_assoc:=@List.append_assoc
theorem yR:type_of% @List.lookup_cons:=@List.lookup_cons
theorem yS:type_of% @Int.mul_zero:=@Int.mul_zero
theorem yT:type_of% @Int.zero_mul:=@Int.zero_mul
theorem yU:type_of% @List.all_eq_true:=@List.all_eq_true
theorem yV:type_of% @PySem.wpAny_holding:=@PySem.wpAny_holding
theorem yW:type_of% @PySem.wpAny_mono:=@PySem.wpAny_mono
theorem yX:type_of% @Nat.lt_or_ge:=@Nat.lt_or_ge
theorem yY:type_of% @Int.lt_or_le:=@Int.lt_or_le
theorem yZ:type_of% @decide_eq_true:=@decide_eq_true
theorem xA:type_of% @List.getElem?_set:=@List.getElem?_set
theorem xB:type_of% @List.length_cons:=@List.length_cons
theorem xD:type_of% @Nat.le_of_lt:=@Nat.le_of_lt
theorem xE:type_of% @Int.natAbs_mul:=@Int.natAbs_mul
theorem xF:type_of% @Nat.lt_irrefl:=@Nat.lt_irrefl
namespace L2
open PySem PySem.Spec PyProof.Rows
abbrev aR:=Sum Int Str
def gE:aR->Value->Bool
 |.inl k,v=>Value.isInt k v
 |.inr x,v=>Value.isStrOf x v
def JS(w:World):aR->Int
 |.inl k=>hashInt k
 |.inr x=>hashStr w x
theorem cp:∀{k:aR}{v:Value},gE k v=true->(∃i t,k=Sum.inl i/\v=Value.int i t)\/(∃x t,k=Sum.inr x/\v=Value.str x t)
 |.inl i,v,h=>by
  obtain⟨t,e⟩:=Value.isInt_shape (k:=i) (v:=v) h;exact .inl ⟨i,t,rfl,e⟩
 |.inr x,v,h=>by
  obtain⟨t,e⟩:=Value.isStrOf_shape (x:=x) (v:=v) h;exact .inr ⟨x,t,rfl,e⟩
theorem wq(i:Int)(t:Tok):gE (.inl i) (.int i t)=true:=by simp[gE,Value.isInt]
theorem wo(x:Str)(t:Tok):gE (.inr x) (.str x t)=true:=by simp[gE,Value.isStrOf]
theorem Fc(a b:Int):decide ((Sum.inl a:aR)=Sum.inl b)=(a==b):=by
 by_cases e:a=b
 ·subst e;simp
 ·have h:¬(Sum.inl a:aR)=Sum.inl b:=fun q=>e (Sum.inl.inj q)
  rw[yD h];exact(beq_eq_false_iff_ne.mpr e).symm
theorem E9(a b:Str):decide ((Sum.inr a:aR)=Sum.inr b)=decide (a=b):=by
 by_cases e:a=b
 ·subst e;simp
 ·have h:¬(Sum.inr a:aR)=Sum.inr b:=fun q=>e (Sum.inr.inj q)
  rw[yD h,yD e]
theorem Fb(a:Int)(b:Str):decide ((Sum.inl a:aR)=Sum.inr b)=false:=yD (fun q=>nomatch q)
theorem Fa(a:Str)(b:Int):decide ((Sum.inr a:aR)=Sum.inl b)=false:=yD (fun q=>nomatch q)
def bJ(prog:Program)(w:World):PySem.KeyKind prog w aR where
 is:=gE
 hash:=JS w
 inj:=fun v a b ha hb=>by
  rcases cp ha with⟨i,t,rfl,rfl⟩|⟨x,t,rfl,rfl⟩
  ·rcases cp hb with⟨j,u,rfl,e⟩|⟨y,u,rfl,e⟩
   ·injection e with e1 _;rw[e1]
   ·exact nomatch e
  ·rcases cp hb with⟨j,u,rfl,e⟩|⟨y,u,rfl,e⟩
   ·exact nomatch e
   ·injection e with e1 _;rw[e1]
 byValue:=fun k v h=>by
  rcases cp h with⟨i,t,rfl,rfl⟩|⟨x,t,rfl,rfl⟩<;>rfl
 pyHash:=fun hv h=>by
  rcases cp hv with⟨i,t,rfl,rfl⟩|⟨x,t,rfl,rfl⟩
  ·exact wpAny_pyHash_int h
  ·exact wpAny_pyHash_str h
 eqBool:=fun hu hv h=>by
  rcases cp hu with⟨i,t,rfl,rfl⟩|⟨x,t,rfl,rfl⟩
  ·rcases cp hv with⟨j,u,rfl,rfl⟩|⟨y,u,rfl,rfl⟩
   ·rw[Fc]at h;exact wpAny_eqBool_int h
   ·rw[Fb]at h;exact SeqAt.EqAt.int_str i t y u _ _ _ _ h
  ·rcases cp hv with⟨j,u,rfl,rfl⟩|⟨y,u,rfl,rfl⟩
   ·rw[Fa]at h;exact SeqAt.EqAt.str_int x t j u _ _ _ _ h
   ·rw[E9]at h;exact wpAny_eqBool_str h
 «strs»:=fun k x t v h=>by
  rcases cp h with⟨i,u,rfl,e⟩|⟨y,u,rfl,e⟩
  ·exact nomatch e
  ·injection e with e1 _
   subst e1;cases v<;>rfl
theorem rg(prog:Program)(w:World)(i:Int)(t:Tok):(bJ prog w).is (.inl i) (.int i t)=true:=wq i t
theorem re(prog:Program)(w:World)(x:Str)(t:Tok):(bJ prog w).is (.inr x) (.str x t)=true:=wo x t
inductive V where
 |non|bl (b:Bool)|int (i:Int)|str (x:Str)|byt (b:Array UInt8)|flt (b:UInt64)|ref (a:Addr)|ty (n:String)
 deriving DecidableEq
def RelV:V->Value->Prop
 |.non,u=>u=Value.none
 |.bl b,u=>u=Value.bool b
 |.int i,u=>∃t,u=Value.int i t
 |.str x,u=>∃t,u=Value.str x t
 |.byt b,u=>∃t,u=Value.bytes b t
 |.flt b,u=>∃t,u=Value.float b t
 |.ref a,u=>u=Value.ref a
 |.ty n,u=>u=Value.type n
abbrev Vals:List V->List Value->Prop:=Paired RelV
theorem Vals.length{xs:List V}{us:List Value}(r:Vals xs us):xs.length=us.length:=Paired.length r
theorem Vals.get:∀{xs:List V}{us:List Value}{i:Nat}{x:V},Vals xs us->xs[i]?=some x->∃u,us[i]?=some u/\RelV x u
 |_,_,_,_,.nil,e=>by simp at e
 |_,_,0,_,.cons r _,e=>by simp at e;subst e;exact⟨_,rfl,r⟩
 |_,_,i+1,x,.cons _ t,e=>by
  obtain⟨u,h1,h2⟩:=Vals.get (i:=i) (x:=x) t (by simpa using e);exact⟨u,by simpa using h1,h2⟩
theorem Vals.set{x:V}{u:Value}(r:RelV x u):∀{xs:List V}{us:List Value} (i:Nat),Vals xs us->Vals (xs.set i x) (us.set i u)
 |_,_,_,.nil=>.nil
 |_,_,0,.cons _ t=>.cons r t
 |_,_,i+1,.cons q t=>.cons q (Vals.set r i t)
theorem Vals.append:∀{xs ys:List V}{us ws:List Value},Vals xs us->Vals ys ws->Vals (xs++ys) (us++ws):=by
 intro xs ys us ws h s
 induction h with
 |nil=>exact s
 |cons r t ih=>exact .cons r ih
theorem Vals.take:∀{xs:List V}{us:List Value} (n:Nat),Vals xs us->Vals (xs.take n) (us.take n):=by
 intro xs us n h
 induction h generalizing n with
 |nil=>cases n<;>exact .nil
 |cons r t ih=>cases n with
  |zero=>exact .nil
  |succ n=>exact .cons r (ih n)
theorem Vals.drop:∀{xs:List V}{us:List Value} (n:Nat),Vals xs us->Vals (xs.drop n) (us.drop n):=by
 intro xs us n h
 induction h generalizing n with
 |nil=>cases n<;>exact .nil
 |cons r t ih=>cases n with
  |zero=>exact .cons r t
  |succ n=>exact ih n
def RelO:Option V->Option Value->Prop
 |some v,some u=>RelV v u
 |none,none=>True
 |_,_=>False
def KV{κ:Type}:List (κ×V)->List (κ×Value)->Prop:=Paired fun(p:κ×V)(q:κ×Value)=>p.1=q.1/\RelV p.2 q.2
def kV:aR->V
 |.inl i=>.int i
 |.inr x=>.str x
inductive HO where
  |lst (xs:List V)
  |tup (xs:List V)
  |dK (Mx:List (aR×V))|dT (Mx:List (List aR×V))
  |set (S:Int->Bool) (n:Nat)
  |ins (C dx:Addr) (fs:List (Str×V))
  |own (x:Addr)
  |xd (fs:List (Str×V))
  |met (f x:Addr)
  |rng (lo hi:Int)
  |frz (o:Obj) (u:HO)
  |tbl (ps:Array Value)
  |ext (φ:Heap->Prop)
abbrev Hp:=Addr->Option HO
def ae(H:Hp)(a:Addr)(o:HO):Hp:=fun b=>if b=a then some o else H b
theorem aq{H:Hp}{a:Addr}{o:HO}:ae H a o a=some o:=by unfold ae;rw[yL rfl]
theorem ad{H:Hp}{a b:Addr}{o:HO}(h:b≠a):ae H a o b=H b:=by unfold ae;rw[yK h]
theorem tZ{H:Hp}{a b:Addr}{o u:HO}(h:H a=some o)(h':H b=some u)(d:o≠u):a≠b:=by
 intro e;subst e;rw[h]at h';exact d (yH h')
theorem aT{H:Hp}{a b:Addr}{o:HO}(h:H a=some o)(h':H b=none):a≠b:=by
 intro e;subst e;rw[h]at h';cases h'
section
variable(P:Program)(w:World)
def ObjOk(H:Hp)(h:Heap)(a:Addr):HO->Prop
 |.lst xs=>xs.length<=sizeLine/\∃(Mz:List Value)(n:Nat),Vals xs Mz/\h.get? a=some { cls:=.type "list",data:=.seq Mz.toArray n }
 |.tup xs=>xs.length<=sizeLine/\∃Mz:List Value,Vals xs Mz/\IsTup h a Mz.toArray
 |.dK Mx=>Mx.length<=sizeLine/\(a==sysModules)=false/\∃vs,KV Mx vs/\h.DictOf (bJ P w) a vs
 |.dT Mx=>Mx.length<=sizeLine/\(a==sysModules)=false/\∃xs:List (List aR×Addr×Value),
   Paired (fun(p:List aR×V)(q:List aR×Addr×Value)=>p.1=q.1/\H q.2.1=some (.tup (p.1.map kV))/\RelV p.2 q.2.2) Mx xs /\
   ∃o es ep,h.get? a=some o/\o.ExactDict/\o.data=.dict es ep/\es.toList=xs.map (entryOfKey (tupleKind (bJ P w)))/\(xs.map (·.1)).Nodup
 |.set S n=>h.SetOf (intKind P w) a S n
 |.ins C dx fs=>H dx=some (.own a)/\fs.length<=1000/\dx≠a/\h.get? a=some (instObj C dx) /\
   ∃mA,h.Ns1 dx mA/\(∀f,RelO (fs.lookup f) (mA f))/\PySem.Within mA (fs.map (·.1))
 |.own _=>∃o,h.get? a=some o
 |.xd fs=>∃mA,h.Ns1 a mA/\∀f,RelO (fs.lookup f) (mA f)
 |.rng lo hi=>∃t u v,h.get? a=some { cls:=.type "range",data:=.fields #[.int lo t,.int hi u,.int 1 v] }
 |.frz o u=>h.get? a=some o/\ObjOk H h a u
 |.tbl ps=>h.get? a=some { cls:=.none,data:=.fields ps }
 |.met f x=>h.get? a=some (methodObj (.ref f) (.ref x))
 |.ext φ=>φ h/\(∃o,h.get? a=some o)/\∀h1 h2:Heap,φ h1->(∀o,h1.get? a=some o->h2.get? a=some o)->φ h2
def HOk(H:Hp)(h:Heap):Prop:=∀a o,H a=some o->ObjOk P w H h a o
end
section
variable{P:Program}{w:World}{H H':Hp}{h h':Heap}{a:Addr}{o:HO}
theorem ObjOk.lt(x:ObjOk P w H h a o):a<h.objs.size:=by
 cases o with
 |lst xs=>obtain⟨_,_,_,_,e⟩:=x;exact yM e
 |tup xs=>obtain⟨_,_,_,p⟩:=x;exact p.lt
 |dK Mx=>obtain⟨_,_,_,_,o,_,_,e,_⟩:=x;exact yM e
 |dT Mx=>obtain⟨_,_,_,_,o,_,_,e,_⟩:=x;exact yM e
 |set S n=>obtain⟨o,_,_,_,e,_⟩:=x;exact yM e
 |ins C dx fs=>obtain⟨_,_,_,e,_⟩:=x;exact yM e
 |own y=>obtain⟨_,e⟩:=x;exact yM e
 |xd fs=>obtain⟨_,⟨_,_,_,e,_⟩,_⟩:=x;exact yM e
 |rng lo hi=>obtain⟨_,_,_,e⟩:=x;exact yM e
 |frz ob u=>obtain⟨e,_⟩:=x;exact yM e
 | tbl ps=>exact yM (show h.get? a=some _ from x)
 | met f y=>exact yM (show h.get? a=some _ from x)
 |ext φ=>obtain⟨_,⟨_,e⟩,_⟩:=x;exact yM e
theorem Paired.mapP{α β:Type}{F G:α->β->Prop}:∀{l₁:List α}{l₂:List β},Paired F l₁ l₂->(∀a b,F a b->G a b)->Paired G l₁ l₂:=by
 intro l₁ l₂ h f
 induction h with
 |nil=>exact .nil
 |cons r t ih=>exact .cons (f _ _ r) ih
theorem ObjOk.stay(x:ObjOk P w H h a o)(k:∀b u,(b=a\/H b=some (.own a))->h.get? b=some u->h'.get? b=some u)
  (ho:∀b,H b=some (.own a)->H' b=some (.own a)) (ht:∀b xs,H b=some (.tup xs)->H' b=some (.tup xs)):ObjOk P w H' h' a o:=by
 induction o with
 |lst xs=>obtain⟨z,Mz,n,r,e⟩:=x;exact⟨z,Mz,n,r,k _ _ (.inl rfl) e⟩
 |tup xs=>obtain⟨z,Mz,r,ob,e,c⟩:=x;exact⟨z,Mz,r,ob,k _ _ (.inl rfl) e,c⟩
 |dK Mx=>obtain⟨z,y,vs,r,ob,es,ep,e,c⟩:=x;exact⟨z,y,vs,r,ob,es,ep,k _ _ (.inl rfl) e,c⟩
 |dT Mx =>
  obtain⟨z,y,xs,r,ob,es,ep,e,c⟩:=x;exact⟨z,y,xs,Paired.mapP r fun p q z=>⟨z.1,ht _ _ z.2.1,z.2.2⟩,ob,es,ep,k _ _ (.inl rfl) e,c⟩
 |set S n=>obtain⟨ob,es,ep,t,e,c⟩:=x;exact⟨ob,es,ep,t,k _ _ (.inl rfl) e,c⟩
 |ins C dx fs =>
  obtain⟨d,z,ne,e,mA,⟨od,es,ep,e2,c⟩,r⟩:=x;exact⟨ho _ d,z,ne,k _ _ (.inl rfl) e,mA,⟨od,es,ep,k _ _ (.inr d) e2,c⟩,r⟩
 |own y=>obtain⟨ob,e⟩:=x;exact⟨ob,k _ _ (.inl rfl) e⟩
 |xd fs=>obtain⟨mA,⟨od,es,ep,e,c⟩,r⟩:=x;exact⟨mA,⟨od,es,ep,k _ _ (.inl rfl) e,c⟩,r⟩
 |rng lo hi=>obtain⟨t,u,v,e⟩:=x;exact⟨t,u,v,k _ _ (.inl rfl) e⟩
 |frz ob u ih=>obtain⟨e,q⟩:=x;exact⟨k _ _ (.inl rfl) e,ih q⟩
 |tbl ps =>
  have e:h.get? a=some { cls:=.none,data:=.fields ps }:=x;show h'.get? a=some { cls:=.none,data:=.fields ps };exact k a _ (.inl rfl) e
 |met f y =>
  have e:h.get? a=some (methodObj (.ref f) (.ref y)):=x;show h'.get? a=some (methodObj (.ref f) (.ref y));exact k a _ (.inl rfl) e
 |ext φ=>obtain⟨p,⟨o,e⟩,st⟩:=x;exact⟨st _ _ p fun o q=>k _ _ (.inl rfl) q,⟨o,k _ _ (.inl rfl) e⟩,st⟩
theorem HOk.lt(x:HOk P w H h)(e:H a=some o):a<h.objs.size:=(x a o e).lt
theorem HOk.fresh(x:HOk P w H h)(e:h.objs.size<=a):H a=none:=by
 cases q:H a with
 |none=>rfl
 |some u=>exact absurd (zM (x.lt q) e) (xF _)
theorem HOk.kept(x:HOk P w H h)(k:∀b u,h.get? b=some u->h'.get? b=some u):HOk P w H h':=fun a o e =>
 (x a o e).stay (fun b u _ q=>k b u q) (fun _ q=>q) fun _ _ q=>q
theorem HOk.laid(x:HOk P w H h)(k:∀b u,h.get? b=some u->h'.get? b=some u)(hp:h.objs.size<=a)(new:ObjOk P w (ae H a o) h' a o):HOk P w (ae H a o) h':=fun b u e=>by
 have hn:=x.fresh hp;by_cases hb:b=a
 ·subst hb;rw[aq]at e;cases e;exact new
 ·rw[ad hb]at e
  exact(x b u e).stay (fun c v _ q=>k c v q) (fun c q=>by rw[ad (aT q hn)];exact q) fun c xs q=>by rw[ad (aT q hn)];exact q
end
def Rd(H:Hp)(a:Addr)(u:HO):Prop:=H a=some u\/∃o,H a=some (.frz o u)
theorem Rd.ok{P:Program}{w:World}{H:Hp}{h:Heap}{a:Addr}{u:HO}(r:Rd H a u)(x:HOk P w H h):ObjOk P w H h a u:=by
 rcases r with r|⟨o,r⟩
 ·exact x a u r
 ·obtain⟨_,q⟩:=x a _ r
  exact q
def wX:Option HO->Prop
 |some (.lst _)=>True
 |some (.dK _)=>True
 |some (.dT _)=>True
 |some (.set _ _)=>True
 |some (.ins _ _ _)=>True
 |some (.ext _)=>True
 |_=>False
section
variable{P:Program}{w:World}{H:Hp}{h h':Heap}{x e:Addr}{o':HO}
theorem HOk.write(ok:HOk P w H h)(mu:wX (H x))(he:e=x\/H e=some (.own x))(k:∀b u,b≠e->h.get? b=some u->h'.get? b=some u)(heo:∃u,h'.get? e=some u)
  (new:ObjOk P w (ae H x o') h' x o'):HOk P w (ae H x o') h':=fun b u q=>by
 have nown:∀c y,H c=some (.own y)->c≠x:=fun c y r z=>by subst z;rw[r]at mu;exact mu
 have ntup:∀c xs,H c=some (.tup xs)->c≠x:=fun c xs r z=>by subst z;rw[r]at mu;exact mu
 by_cases hb:b=x
 ·subst hb;rw[aq]at q;cases q;exact new
 ·rw[ad hb]at q
  by_cases hbe:b=e
  ·have q':H b=some (.own x):=by
    rcases he with z|z
    ·exact absurd (hbe.trans z) hb
    ·rw[hbe];exact z
   rw[q]at q';cases q';obtain⟨v,hv⟩:=heo;exact⟨v,by rw[hbe];exact hv⟩
  ·refine(ok b u q).stay (fun c v hc r=>k c v ?_ r) (fun c r=>by rw[ad (nown c b r)];exact r) fun c xs r=>by rw[ad (ntup c xs r)];exact r
   rcases hc with rfl|hc
   ·exact hbe
   ·rintro rfl
    rcases he with z|z
    ·exact nown c b hc z
    ·rw[hc]at z;cases z;exact hb rfl
end
structure Un(fs ex:List Addr)(H H':Hp)(h h':Heap):Prop where
 keep:∀b o,h.get? b=some o->H b=none->b∉fs->b∉ex->h'.get? b=some o
 slot:∀b o,h.get? b=some o->H b=none->b∈fs->b∉ex->∃sl,h'.get? b=some { o with slots:=sl }
 free:∀b o,h.get? b=some o->H b=none->b∉ex->H' b=none
 there:∀b o,h.get? b=some o->b∉ex->∃o',h'.get? b=some o'
 tups:∀b xs,H b=some (.tup xs)->H' b=some (.tup xs)
 frzs:∀b o u,H b=some (.frz o u)->H' b=some (.frz o u)
 tbls:∀b ps,H b=some (.tbl ps)->∃more,H' b=some (.tbl (ps++more))
section
variable{fs fs' ex ex':List Addr}{H H1 H2:Hp}{h h1 h2 h':Heap}{a x e:Addr}{o:HO}
theorem Un.any(u:Un fs ex H H1 h h1){b:Addr}{ob:Obj}(q:h.get? b=some ob)(n:H b=none)(hx:b∉ex):∃sl,h1.get? b=some { ob with slots:=sl }:=by
 by_cases hb:b∈fs
 ·exact u.slot b ob q n hb hx
 ·exact⟨ob.slots,u.keep b ob q n hb hx⟩
theorem Un.kept(k:∀b u,h.get? b=some u->h'.get? b=some u):Un fs ex H H h h' :=
 ⟨fun b ob q _ _ _=>k b ob q,fun b ob q _ _ _=>⟨ob.slots,k b ob q⟩,fun _ _ _ n _=>n,fun b ob q _=>⟨ob,k b ob q⟩,fun _ _ q=>q,fun _ _ _ q=>q,fun _ ps q=>⟨#[],by rw[q];simp⟩⟩
theorem Un.refl:Un fs ex H H h h:=Un.kept fun _ _ q=>q
theorem Un.laid(k:∀b u,h.get? b=some u->h'.get? b=some u)(hp:h.objs.size<=a)(hn:H a=none):Un fs ex H (ae H a o) h h' where
 keep:=fun b u q _ _ _=>k b u q
 slot:=fun b u q _ _ _=>⟨u.slots,k b u q⟩
 free:=fun b u q n _=>by rw[ad (zX (zM (yM q) hp))];exact n
 there:=fun b u q _=>⟨u,k b u q⟩
 tups:=fun b xs q=>by rw[ad (aT q hn)];exact q
 frzs:=fun b u xs q=>by rw[ad (aT q hn)];exact q
 tbls:=fun b ps q=>⟨#[],by rw[ad (aT q hn),q];simp⟩
theorem Un.write(mu:wX (H x))(he:e=x\/H e=some (.own x))(k:∀b u,b≠e->h.get? b=some u->h'.get? b=some u)(heo:∃u,h'.get? e=some u):Un fs ex H (ae H x o) h h':=by
 have hx:∀b,H b=none->b≠x:=fun b n z=>by subst z;rw[n]at mu;exact mu
 have hb:∀b,H b=none->b≠e:=fun b n z=>by
  subst z;rcases he with r|r
  ·exact hx b n r
  ·rw[n]at r;cases r
 have hm:∀b u,H b=some u->¬wX (some u)->b≠x:=fun b u q nm z=>by subst z;rw[q]at mu;exact nm mu
 refine⟨fun b u q n _ _=>k b u (hb b n) q,fun b u q n _ _=>⟨u.slots,k b u (hb b n) q⟩,fun b u q n _=>by rw[ad (hx b n)];exact n,fun b u q _=>?_,
  fun b xs q=>by rw[ad (hm b _ q fun z=>z)];exact q,fun b u xs q=>by rw[ad (hm b _ q fun z=>z)];exact q,fun b ps q=>⟨#[],by rw[ad (hm b _ q fun z=>z),q];simp⟩⟩
 by_cases hbe:b=e
 ·subst hbe;exact heo
 ·exact⟨u,k b u hbe q⟩
end
def Ai(h:Heap)(H:Hp):List Addr:=(List.range h.objs.size).filter fun a=>(H a).isSome
def iI(h:Heap)(H:Hp):Heap:=hideAll h (Ai h H)
theorem wy(h:Heap)(H:Hp):(iI h H).objs.size=h.objs.size:=hideAll_size _ _
theorem zf{h:Heap}{H:Hp}{b:Addr}{o:Obj}(e:h.get? b=some o)(n:H b=none):(iI h H).get? b=some o :=
 hideAll_get _ e fun hm=>by
  have q:(H b).isSome=true:=(List.mem_filter.mp hm).2;rw[n]at q;simp at q
theorem Cm{h:Heap}{H:Hp}{b:Addr}{o:Obj}(e:(iI h H).get? b=some o):h.get? b=some o/\H b=none:=by
 have e':h.get? b=some o:=of_hideAll (Ai h H) e;refine⟨e',?_⟩;cases q:H b with
 |none=>rfl
 |some x =>
  have hm:b∈Ai h H:=List.mem_filter.mpr ⟨List.mem_range.mpr (yM e'),by simp[q]⟩;have z:(iI h H).get? b=none:=hideAll_none (Ai h H) hm;rw[z]at e;cases e
structure Mod(K:Frag)(mg:Str->Option Value)(base:Heap):Prop where
 kin:K.In base
 glob:base.Ns mainGlobals mg
 blt:∃mb,base.Ns builtinsNs mb/\∀x:Str,x≠"__name__"->mb x=bootBuiltins x
 nolimit:base.NoLimit
structure Cx where
 prog:Program
 w:World
 K:Frag
 mg:Str->Option Value
 base:Heap
 A:Around
 N:List Str
 s₀:Shared
 H₀:Hp
 env:Env
 outer:List Env
 stack:List Env
 ex:List Addr
 fn:Str->Bool
 calm:Bool
 pn:List (Addr×Obj)
 xe:Value->Shared->Prop
noncomputable def iX(l:List Env):List Addr:=l.filterMap (·.frame)
abbrev Cx.fs(X:Cx):List Addr:=iX X.outer
def wU(sc:Scope)(x:Str):Prop:=sc.names.lookup x=some .local\/sc.names.lookup x=some .cell\/sc.names.lookup x=some .free
def Loc(sc:Scope)(x:Str):Prop:=sc.names.lookup x=some .local\/sc.names.lookup x=some .cell
def Kc(env:Env)(h:Heap)(m:Str->Option Value)(x:Str)(u:Value):Prop :=
 (env.kindOf x=some .local/\m x=some u)\/((env.kindOf x=some .cell\/env.kindOf x=some .free)/\∃c,env.cells.lookup x=some c/\h.IsCell c (some u))
structure Cx.Ok(X:Cx):Prop where
 mod:Mod X.K X.mg X.base
 kind:X.env.scope.kind=.function
 glob:X.env.globals=mainGlobals
 blt:X.env.builtins=builtinsNs
 above:X.s₀.heap.objs.size<=X.env.locals
 inj:∀x y c,X.env.cells.lookup x=some c->X.env.cells.lookup y=some c->x=y
 has:∀x,(X.env.kindOf x=some .cell\/X.env.kindOf x=some .free)->∃c,X.env.cells.lookup x=some c
 cab:∀x c,X.fn x=true->X.env.cells.lookup x=some c->X.s₀.heap.objs.size<=c
 hd:X.calm=true->X.A.handled=none
 frames:X.A.frames=some X.stack
 stk:X.stack=X.outer\/(X.stack=X.env::X.outer/\X.env.frame=some X.env.locals)
 exf:∀b∈X.ex,b≠X.env.locals/\∀x c,X.env.cells.lookup x=some c->c≠b
 bs:∀b o,X.base.get? b=some o->X.s₀.heap.get? b=some o/\X.H₀ b=none
 bsz:X.base.objs.size<=X.s₀.heap.objs.size
 noex:∀b o,X.base.get? b=some o->b∉X.ex
 exfs:∀b∈X.ex,b∉X.fs
 funs:X.s₀.heap.FunFrames X.base X.outer
 frf:∀b∈X.fs,X.H₀ b=none
structure Inv(X:Cx)(Mv:List (Addr×Obj))(σ:List (Option V))(H:Hp)(s:Shared):Prop where
 ok:X.Ok
 os:s.os=X.s₀.os
 bare:AllBare s.gens
 base:Un X.fs X.ex X.H₀ H X.s₀.heap s.heap
 loc:∃m,s.heap.Ns X.env.locals m/\∀(i:Nat)(x:Str)(v:V),X.N[i]?=some x->σ[i]?=some (some v)->wU X.env.scope x->∃u,RelV v u/\Kc X.env s.heap m x u
 cell:∀x c,X.env.cells.lookup x=some c->∃v,s.heap.IsCell c v
 free:H X.env.locals=none
 freeC:∀x c,X.env.cells.lookup x=some c->H c=none
 pin:∀p∈X.pn++Mv,s.heap.get? p.1=some p.2/\H p.1=none/\p.1≠X.env.locals/\p.1∉X.fs/\∀v,p.2.data≠.cell v
 MD:HOk X.prog X.w H s.heap
 len:σ.length=X.N.length
section
variable{X:Cx}{Mv:List (Addr×Obj)}{σ:List (Option V)}{H H':Hp}{s:Shared}{h':Heap}
theorem Cx.Ok.nofr(ok:X.Ok){b:Addr}{o:Obj}(e:X.base.get? b=some o):b∉X.fs:=fun hb=>by
 have:=(ok.funs.mem hb).1
 rw[e]at this;cases this
theorem Inv.bs(I:Inv X Mv σ H s):∀b o,X.base.get? b=some o->s.heap.get? b=some o/\H b=none:=fun b o e =>
 ⟨I.base.keep b o (I.ok.bs b o e).1 (I.ok.bs b o e).2 (I.ok.nofr e) (I.ok.noex b o e),I.base.free b o (I.ok.bs b o e).1 (I.ok.bs b o e).2 (I.ok.noex b o e)⟩
theorem Inv.bk(I:Inv X Mv σ H s):∀b o,X.base.get? b=some o->s.heap.get? b=some o:=fun b o e=>(I.bs b o e).1
theorem Inv.mod(I:Inv X Mv σ H s):Mod X.K X.mg X.base:=I.ok.mod
theorem Inv.kIn(I:Inv X Mv σ H s):X.K.In s.heap:=I.ok.mod.kin.keeps I.bk
theorem Inv.nolimit(I:Inv X Mv σ H s):s.heap.NoLimit:=I.ok.mod.nolimit.keeps I.bk
theorem Inv.lt(I:Inv X Mv σ H s):X.env.locals<s.heap.objs.size:=let⟨_,hn,_⟩:=I.loc;hn.lt
theorem Inv.sz(I:Inv X Mv σ H s):X.s₀.heap.objs.size<=s.heap.objs.size:=z9 I.ok.above (xD I.lt)
theorem Inv.nofs(I:Inv X Mv σ H s){a:Addr}(h:s.heap.objs.size<=a):a∉X.fs:=fun hb=>by
 obtain⟨_,o,ho,_⟩:=I.ok.funs.mem hb;exact absurd (zM (yM ho) (z9 I.sz h)) (xF _)
theorem Inv.cne(I:Inv X Mv σ H s):∀x c,X.env.cells.lookup x=some c->c≠X.env.locals:=fun x c e z=>by
 obtain⟨v,o,ho,hd⟩:=I.cell x c e;obtain⟨m,⟨o',es,ep,ho',hd',_⟩,_⟩:=I.loc;rw[z,ho']at ho;cases ho;rw[hd']at hd;cases hd
theorem Inv.funs(I:Inv X Mv σ H s):s.heap.FunFrames X.base X.outer:=by
 have all:∀(l:List Env),(∀b∈iX l,b∈X.fs)->X.s₀.heap.FunFrames X.base l->s.heap.FunFrames X.base l:=by
  intro l
  induction l with
  |nil=>intro _ _;trivial
  |cons env r ih =>
   intro hs hl;obtain⟨hk,⟨L,o,hf,hn,ho,hd⟩,hr⟩:=hl;have hL:L∈X.fs:=hs L (by unfold iX;rw[List.filterMap_cons,hf];exact yB);obtain⟨sl,e⟩:=I.base.slot L o ho (I.ok.frf L hL) hL fun z=>I.ok.exfs L z hL
   exact⟨hk,⟨L,_,hf,hn,e,hd⟩,ih (fun b hb=>hs b (by unfold iX;rw[List.filterMap_cons,hf];exact zT _ hb)) hr⟩
 exact all X.outer (fun _ hb=>hb) I.ok.funs
theorem Inv.stack(I:Inv X Mv σ H s):s.heap.FunFrames X.base X.stack:=by
 rcases I.ok.stk with e|⟨e,hf⟩
 ·rw[e];exact I.funs
 ·rw[e]
  obtain⟨m,hn,_⟩:=I.loc;refine .cons (by rw[I.ok.kind];decide) hf hn ?_ I.funs;exact Heap.get?_none_of_le (z9 I.ok.bsz I.ok.above)
theorem Inv.stkSub(I:Inv X Mv σ H s):∀b∈iX X.stack,b∈X.env.locals::X.fs:=fun b hb=>by
 rcases I.ok.stk with e|⟨e,hf⟩
 ·rw[e]at hb;exact zT _ hb
 ·rw[e]at hb
  unfold iX at hb;rw[List.filterMap_cons,hf]at hb;exact hb
theorem Inv.stkFree(I:Inv X Mv σ H s):∀b∈iX X.stack,H b=none:=fun b hb=>by
 rcases zW.mp (I.stkSub b hb) with e|hb
 ·rw[e];exact I.free
 ·obtain⟨_,o,ho,_⟩:=I.ok.funs.mem hb
  exact I.base.free b o ho (I.ok.frf b hb) fun z=>I.ok.exfs b z hb
theorem Inv.step{g':Array GenState}{t':Nat}{d':Drawn}{ch:List Addr}(I:Inv X Mv σ H s)
  (hch:∀b∈ch,(b∈X.ex\/X.s₀.heap.objs.size<=b)/\b≠X.env.locals/\(∀x c,X.env.cells.lookup x=some c->c≠b)/\∀p∈X.pn++Mv,p.1≠b)
  (keep:∀b o,b≠X.env.locals->b∉X.fs->b∉ch->s.heap.get? b=some o->H b=none->h'.get? b=some o)
  (slot:∀b o,b≠X.env.locals->b∈X.fs->b∉ch->s.heap.get? b=some o->H b=none->∃sl,h'.get? b=some { o with slots:=sl }) (free:∀b o,b∉ch->s.heap.get? b=some o->H b=none->H' b=none)
  (there:∀b o,b∉ch->s.heap.get? b=some o->∃o',h'.get? b=some o')
  (tups:∀b xs,H b=some (.tup xs)->H' b=some (.tup xs)) (frzs:∀b o u,H b=some (.frz o u)->H' b=some (.frz o u)) (tbls:∀b ps,H b=some (.tbl ps)->∃more,H' b=some (.tbl (ps++more)))
  (ns:∀m,s.heap.Ns X.env.locals m->h'.Ns X.env.locals m) (MD:HOk X.prog X.w H' h') (hg:AllBare g') :
  Inv X Mv σ H' { s with heap:=h',gens:=g',drawn:=d',toks:=t' }:=by
 have neL:∀b o,X.s₀.heap.get? b=some o->b≠X.env.locals:=fun b o e=>zX (zM (yM e) I.ok.above)
 have neC:∀b o,X.s₀.heap.get? b=some o->b∉X.ex->b∉ch:=fun b o e hx hb=>by
  rcases(hch b hb).1 with z|z
  ·exact hx z
  ·exact absurd (zM (yM e) z) (xF _)
 have cellK:∀x c,X.env.cells.lookup x=some c->∀v,s.heap.IsCell c v->h'.IsCell c v:=fun x c e v hq0=>by
  obtain⟨o,ho,hd⟩:=hq0;have nch:c∉ch:=fun z=>(hch c z).2.2.1 x c e rfl
  by_cases hc:c∈X.fs
  ·obtain⟨sl,q⟩:=slot c o (I.cne x c e) hc nch ho (I.freeC x c e)
   exact⟨_,q,hd⟩
  ·exact⟨o,keep c o (I.cne x c e) hc nch ho (I.freeC x c e),hd⟩
 refine⟨I.ok,I.os,hg,⟨fun b o e n hb hx=>?_,fun b o e n hb hx=>?_,fun b o e n hx=>?_,fun b o e hx=>?_,fun b xs e=>tups b xs (I.base.tups b xs e),fun b o xs e=>frzs b o xs (I.base.frzs b o xs e),fun b ps e=>?_⟩,?_,fun x c e=>?_,?_,fun x c e=>?_,fun p hp=>?_,MD,I.len⟩
 ·exact keep b o (neL b o e) hb (neC b o e hx) (I.base.keep b o e n hb hx) (I.base.free b o e n hx)
 ·obtain⟨sl,e1⟩:=I.base.slot b o e n hb hx
  obtain⟨sl',e2⟩:=slot b _ (neL b o e) hb (neC b o e hx) e1 (I.base.free b o e n hx);exact⟨sl',e2⟩
 ·obtain⟨o',e1⟩:=I.base.there b o e hx
  exact free b o' (neC b o e hx) e1 (I.base.free b o e n hx)
 ·obtain⟨o',e1⟩:=I.base.there b o e hx
  exact there b o' (neC b o e hx) e1
 ·obtain⟨m1,e1⟩:=I.base.tbls b ps e
  obtain⟨m2,e2⟩:=tbls b _ e1;exact⟨m1++m2,by rw[e2,Array.append_assoc]⟩
 ·obtain⟨m,hn,hl⟩:=I.loc
  refine⟨m,ns m hn,fun i x v e1 e2 e3=>?_⟩;obtain⟨u,r,l⟩:=hl i x v e1 e2 e3;refine⟨u,r,?_⟩;rcases l with l|⟨k,c,e,z⟩
  ·exact .inl l
  ·exact .inr ⟨k,c,e,cellK x c e _ z⟩
 ·obtain⟨v,z⟩:=I.cell x c e
  exact⟨v,cellK x c e v z⟩
 ·obtain⟨m,⟨o,_,_,ho,_⟩,_⟩:=I.loc
  exact free _ o (fun z=>(hch _ z).2.1 rfl) ho I.free
 ·obtain⟨v,o,ho,hd⟩:=I.cell x c e
  exact free c o (fun z=>(hch c z).2.2.1 x c e rfl) ho (I.freeC x c e)
 ·obtain⟨e,n,ne,nf,d⟩:=I.pin p hp
  have nch:p.1∉ch:=fun z=>(hch p.1 z).2.2.2 p hp rfl
  exact⟨keep p.1 p.2 ne nf nch e n,free p.1 p.2 nch e n,ne,nf,d⟩
theorem Inv.un{t':Nat}(I:Inv X Mv σ H s)(u:Un X.fs [] H H' s.heap h')(MD:HOk X.prog X.w H' h'):Inv X Mv σ H' { s with heap:=h',toks:=t' }:=by
 obtain⟨m,⟨o,es,ep,ho,r⟩,_⟩:=id I.loc;obtain⟨sl,hL⟩:=u.any ho I.free (by simp);exact I.step (g':=s.gens) (d':=s.drawn) (ch:=[]) (fun _ z=>nomatch z) (fun b o _ hb _ e n=>u.keep b o e n hb (by simp)) (fun b o _ hb _ e n=>u.slot b o e n hb (by simp)) (fun b o _ e n=>u.free b o e n (by simp)) (fun b o _ e=>u.there b o e (by simp)) u.tups u.frzs u.tbls (fun m' hm=>by
  obtain⟨o',es',ep',ho',r'⟩:=hm;rw[ho]at ho';cases ho';exact⟨_,es',ep',hL,r'⟩) MD I.bare
theorem Inv.call{g':Array GenState}{t':Nat}{d':Drawn}{ch:List Addr}(I:Inv X Mv σ H s)(u:Un (iX X.stack) ch H H' s.heap h')(MD:HOk X.prog X.w H' h')(hg:AllBare g')
  (hch:∀b∈ch,(b∈X.ex\/X.s₀.heap.objs.size<=b)/\b≠X.env.locals/\(∀x c,X.env.cells.lookup x=some c->c≠b)/\∀p∈X.pn++Mv,p.1≠b) :
  Inv X Mv σ H' { s with heap:=h',gens:=g',drawn:=d',toks:=t' }:=by
 obtain⟨m,⟨o,es,ep,ho,r⟩,_⟩:=id I.loc;obtain⟨sl,hL⟩:=u.any ho I.free fun z=>(hch _ z).2.1 rfl
 exact I.step (ch:=ch) hch (fun b o hL hb hc e n=>u.keep b o e n (fun z=>(zW.mp (I.stkSub b z)).elim hL hb) hc) (fun b o _ _ hc e n=>u.any e n hc) (fun b o hc e n=>u.free b o e n hc) (fun b o hc e=>u.there b o e hc) u.tups u.frzs u.tbls (fun m' hm=>by
  obtain⟨o',es',ep',ho',r'⟩:=hm;rw[ho]at ho';cases ho';exact⟨_,es',ep',hL,r'⟩) MD hg
theorem Inv.turned{t':Nat}{it:Addr}(I:Inv X Mv σ H s)(k:∀b o,b≠it->s.heap.get? b=some o->h'.get? b=some o)(hn:H it=none)(hL:it≠X.env.locals)
  (h1:it∈X.ex\/X.s₀.heap.objs.size<=it) (h2:∀x c,X.env.cells.lookup x=some c->c≠it) (h3:∀p∈X.pn++Mv,p.1≠it):Inv X Mv σ H { s with heap:=h',toks:=t' }:=by
 have nit:∀b u,H b=some u->b≠it:=fun b u e z=>by rw[z,hn]at e;cases e
 refine I.step (g':=s.gens) (d':=s.drawn) (ch:=[it]) (fun b hb=>?_) (fun b o _ _ hc e _=>k b o (fun z=>hc (by simp[z])) e) (fun b o _ _ hc e _=>⟨o.slots,k b o (fun z=>hc (by simp[z])) e⟩) (fun _ _ _ _ n=>n)
  (fun b o hc e=>⟨o,k b o (fun z=>hc (by simp[z])) e⟩) (fun _ _ e=>e) (fun _ _ _ e=>e) (fun b ps e=>⟨#[],by rw[e];simp⟩) (fun m hm=>?_) (fun b u e=>?_) I.bare
 ·have e:b=it:=by simpa using hb
  subst e;exact⟨h1,hL,h2,h3⟩
 ·obtain⟨o,es,ep,ho,r⟩:=hm
  exact⟨o,es,ep,k _ o (Ne.symm hL) ho,r⟩
 ·refine(I.MD b u e).stay (fun c v hc q=>k c v ?_ q) (fun _ q=>q) fun _ _ q=>q
  rcases hc with z|z
  ·rw[z];exact nit b u e
  ·exact nit c _ z
theorem Inv.tok(I:Inv X Mv σ H s)(t:Nat):Inv X Mv σ H { s with toks:=t }:=I.un (h':=s.heap) (t':=t) Un.refl I.MD
theorem Inv.kept{t':Nat}(I:Inv X Mv σ H s)(k:∀b u,s.heap.get? b=some u->h'.get? b=some u):Inv X Mv σ H { s with heap:=h',toks:=t' }:=I.un (Un.kept k) (I.MD.kept k)
theorem Inv.laid{a:Addr}{o:HO}{t':Nat}(I:Inv X Mv σ H s)(k:∀b u,s.heap.get? b=some u->h'.get? b=some u)(hp:s.heap.objs.size<=a)(new:ObjOk X.prog X.w (ae H a o) h' a o) :
  Inv X Mv σ (ae H a o) { s with heap:=h',toks:=t' }:=I.un (Un.laid k hp (I.MD.fresh hp)) (I.MD.laid k hp new)
theorem Inv.write{x e:Addr}{o:HO}{t':Nat}(I:Inv X Mv σ H s)(mu:wX (H x))(he:e=x\/H e=some (.own x))(k:∀b u,b≠e->s.heap.get? b=some u->h'.get? b=some u)(heo:∃u,h'.get? e=some u)
  (new:ObjOk X.prog X.w (ae H x o) h' x o):Inv X Mv σ (ae H x o) { s with heap:=h',toks:=t' }:=I.un (Un.write mu he k heo) (I.MD.write mu he k heo new)
theorem Inv.pins_of{pins':List (Addr×Obj)}(I:Inv X Mv σ H s)(h:∀p∈pins',s.heap.get? p.1=some p.2/\H p.1=none/\p.1≠X.env.locals/\p.1∉X.fs/\∀v,p.2.data≠.cell v):Inv X pins' σ H s :=
 ⟨I.ok,I.os,I.bare,I.base,I.loc,I.cell,I.free,I.freeC,fun p hp=>(z7.mp hp).elim (fun z=>I.pin p (zO _ z)) (h p),I.MD,I.len⟩
theorem pU{N:List Str}(hN:N.Nodup){i j:Nat}{x:Str}(a:N[i]?=some x)(b:N[j]?=some x):i=j:=by
 obtain⟨h1,e1⟩:=zD.mp a;obtain⟨h2,e2⟩:=zD.mp b;exact(List.getElem_inj hN).mp (e1.trans e2.symm)
theorem om{M:Model}{A:Around}{E:Value->Shared->Prop}{i:Nat}{x:Str}{v:V}{u:Value}{Q:Unit->Shared->Prop}(I:Inv X Mv σ H s)(hN:X.N.Nodup)(hi:X.N[i]?=some x)(hx:Loc X.env.scope x)(r:RelV v u)
  (h:∀s',Inv X Mv (σ.set i (some v)) H s'->(∃a,Heap.SameBut a s.heap s'.heap/\(a=X.env.locals\/X.env.cells.lookup x=some a))->Q () s') (hf:X.fn x=true\/X.env.scope.names.lookup x=some .local:=by first|exact .inl rfl|exact .inr rfl|assumption):wpAny M A (storeName X.env x u) Q E s:=by
 obtain⟨m,hn,hl⟩:=id I.loc;have hcls:(X.env.scope.kind==.class||(X.env.scope.kind==.module&&X.env.locals !=X.env.globals))=false:=by rw[I.ok.kind];rfl
 have hiσ:i<σ.length:=by rw[I.len];exact(zD.mp hi).1
 have cne:=I.cne;have tracked:∀{a:Addr}{h':Heap},(∃o,s.heap.get? a=some o/\H a=none)->Heap.SameBut a s.heap h'->HOk X.prog X.w H h':=fun {a h'} ha hs b ob e=>by
  obtain⟨_,_,hfree⟩:=ha;refine(I.MD b ob e).stay (fun c w' hc q=>(hs.2 c ?_).trans q) (fun _ q=>q) fun _ _ q=>q
  rintro rfl;rcases hc with rfl|hc
  ·rw[hfree]at e;cases e
  ·rw[hfree]at hc;cases hc
 rcases hx with hk|hk
 ·refine wpAny_storeName_local hk hn (fun h' hn' hs=>?_) hcls
  obtain⟨oL,_,_,hoL,_⟩:=id hn;refine h _ ⟨I.ok,I.os,I.bare,⟨fun b o e n hb hx=>?_,fun b o e n hb hx=>?_,I.base.free,fun b o e hx=>?_,I.base.tups,I.base.frzs,I.base.tbls⟩,⟨_,hn',fun j y v' e1 e2 e3=>?_⟩,fun y c e=>?_,I.free,I.freeC,fun p hp=>?_,tracked ⟨oL,hoL,I.free⟩ hs,by simpa using I.len⟩ ⟨_,hs,.inl rfl⟩
  ·exact(hs.2 b (zX (zM (yM e) I.ok.above))).trans (I.base.keep b o e n hb hx)
  ·obtain⟨sl,e1⟩:=I.base.slot b o e n hb hx
   exact⟨sl,(hs.2 b (zX (zM (yM e) I.ok.above))).trans e1⟩
  ·obtain⟨o',e1⟩:=I.base.there b o e hx
   exact⟨o',(hs.2 b (zX (zM (yM e) I.ok.above))).trans e1⟩
  ·by_cases hj:j=i
   ·subst hj
    rw[hi]at e1;cases e1;rw[List.getElem?_set_self hiσ]at e2;cases e2;exact⟨u,r,.inl ⟨hk,by simp⟩⟩
   ·rw[List.getElem?_set_ne (Ne.symm hj)]at e2
    obtain⟨u',r',q⟩:=hl j y v' e1 e2 e3;refine⟨u',r',?_⟩;rcases q with⟨k,e⟩|⟨k,c,e,z⟩
    ·refine .inl ⟨k,?_⟩
     have:y≠x:=fun e=>hj (pU hN e1 (e▸hi))
     simp[this,e]
    ·exact .inr ⟨k,c,e,z.sameBut hs (cne y c e)⟩
  ·obtain⟨w',z⟩:=I.cell y c e
   exact⟨w',z.sameBut hs (cne y c e)⟩
  ·obtain⟨e,n,ne,nf,d⟩:=I.pin p hp
   exact⟨(hs.2 p.1 ne).trans e,n,ne,nf,d⟩
 ·have hfn:X.fn x=true:=by
   rcases hf with z|z
   ·exact z
   ·rw[z]at hk;cases hk
  obtain⟨c,hc⟩:=I.ok.has x (.inl hk);obtain⟨w',z⟩:=I.cell x c hc;refine wpAny_storeName_cell I.ok.kind hk hc z (fun h' hc' hs=>?_);obtain⟨oc,hoc,hocd⟩:=id z;refine h { s with heap:=h' } ⟨I.ok,I.os,I.bare,⟨fun b o e n hb hx=>?_,fun b o e n hb hx=>?_,I.base.free,fun b o e hx=>?_,I.base.tups,I.base.frzs,I.base.tbls⟩,⟨m,hn.sameBut hs (Ne.symm (cne x c hc)),fun j y v' e1 e2 e3=>?_⟩,fun y c' e=>?_,I.free,I.freeC,fun p hp=>?_,tracked ⟨oc,hoc,I.freeC x c hc⟩ hs,by simpa using I.len⟩ ⟨c,hs,.inr hc⟩
  ·exact(hs.2 b (zX (zM (yM e) (I.ok.cab x c hfn hc)))).trans (I.base.keep b o e n hb hx)
  ·obtain⟨sl,e1⟩:=I.base.slot b o e n hb hx
   exact⟨sl,(hs.2 b (zX (zM (yM e) (I.ok.cab x c hfn hc)))).trans e1⟩
  ·obtain⟨o',e1⟩:=I.base.there b o e hx
   exact⟨o',(hs.2 b (zX (zM (yM e) (I.ok.cab x c hfn hc)))).trans e1⟩
  ·by_cases hj:j=i
   ·subst hj
    rw[hi]at e1;cases e1;rw[List.getElem?_set_self hiσ]at e2;cases e2;exact⟨u,r,.inr ⟨.inl hk,c,hc,hc'⟩⟩
   ·rw[List.getElem?_set_ne (Ne.symm hj)]at e2
    obtain⟨u',r',q⟩:=hl j y v' e1 e2 e3;refine⟨u',r',?_⟩;rcases q with q|⟨k,c',e,z'⟩
    ·exact .inl q
    ·refine .inr ⟨k,c',e,z'.sameBut hs ?_⟩
     rintro rfl;exact hj (pU hN e1 (I.ok.inj _ _ _ e hc▸hi))
  ·by_cases hcc:c'=c
   ·subst hcc;exact⟨_,hc'⟩
   ·obtain⟨w2,z2⟩:=I.cell y c' e
    exact⟨w2,z2.sameBut hs hcc⟩
  ·obtain⟨e,n,ne,nf,d⟩:=I.pin p hp
   refine⟨(hs.2 p.1 ?_).trans e,n,ne,nf,d⟩;intro q;rw[q,hoc]at e;have q':oc=p.2:=yH e;exact d w' (by rw[<- q'];exact hocd)
theorem pF{M:Model}{A:Around}{E:Value->Shared->Prop}{i:Nat}{x:Str}{v:V}{u:Value}{Q:Unit->Shared->Prop}(I:Inv X Mv σ H s)(hN:X.N.Nodup)(hi:X.N[i]?=some x)(hx:Loc X.env.scope x)(r:RelV v u)
  (h:∀s',Inv X Mv (σ.set i (some v)) H s'->Q () s') (hf:X.fn x=true\/X.env.scope.names.lookup x=some .local:=by first|exact .inl rfl|exact .inr rfl|assumption):wpAny M A (storeName X.env x u) Q E s :=
 om I hN hi hx r (fun s' I' _=>h s' I') hf
theorem Inv.call'{s':Shared}{ch:List Addr}(I:Inv X Mv σ H s)(ho:s'.os=s.os)(u:Un (iX X.stack) ch H H' s.heap s'.heap)(MD:HOk X.prog X.w H' s'.heap)(hg:AllBare s'.gens)
  (hch:∀b∈ch,(b∈X.ex\/X.s₀.heap.objs.size<=b)/\b≠X.env.locals/\(∀x c,X.env.cells.lookup x=some c->c≠b)/\∀p∈X.pn++Mv,p.1≠b):Inv X Mv σ H' s':=by
 obtain⟨h',g',d',t',o'⟩:=s';have e:o'=s.os:=ho;subst e;exact I.call (g':=g') (t':=t') (d':=d') u MD hg hch
end
abbrev XK:=Value->Option Addr->Hp->Prop
abbrev St:=List (Option V)
abbrev VK:=V->Hp->Prop
abbrev TE:=St->Hp->VK->Prop
abbrev TT:=St->Hp->(Bool->Hp->Prop)->Prop
abbrev TA:=St->Hp->(List V->Hp->Prop)->Prop
structure iM where
 nx:St->Hp->Prop
 rt:VK
 bk:St->Hp->Prop:=fun _ _=>False
 ct:St->Hp->Prop:=fun _ _=>False
abbrev TS:=iM->St->Hp->Prop
def EP(X:Cx)(Mv:List (Addr×Obj))(σ:St)(Q:VK)(u:Value)(s':Shared):Prop:=∃v H',Inv X Mv σ H' s'/\RelV v u/\Q v H'
def TP(X:Cx)(Mv:List (Addr×Obj))(σ:St)(Q:Bool->Hp->Prop)(b:Bool)(s':Shared):Prop:=∃H',Inv X Mv σ H' s'/\Q b H'
def AP(X:Cx)(Mv:List (Addr×Obj))(σ:St)(Q:List V->Hp->Prop)(us:List Value)(s':Shared):Prop:=∃vs H',Inv X Mv σ H' s'/\Vals vs us/\Q vs H'
def SP(X:Cx)(Mv:List (Addr×Obj))(D:iM)(f:Flow)(s':Shared):Prop :=
 match f with
 |.next=>∃σ' H',Inv X Mv σ' H' s'/\D.nx σ' H'
 |.brk=>∃σ' H',Inv X Mv σ' H' s'/\D.bk σ' H'
 |.cont=>∃σ' H',Inv X Mv σ' H' s'/\D.ct σ' H'
 |.ret u=>∃v σ' H',Inv X Mv σ' H' s'/\RelV v u/\D.rt v H'
def PE(X:Cx)(e:Expr)(t:TE):Prop :=
 ∀(Mv:List (Addr×Obj))(s:Shared)(σ:St)(H:Hp)(Q:VK),Inv X Mv σ H s->t σ H Q->wpAny (model X.prog X.w) X.A (eval e X.env) (EP X Mv σ Q) X.xe s
def PT(X:Cx)(e:Expr)(t:TT):Prop :=
 ∀(Mv:List (Addr×Obj))(s:Shared)(σ:St)(H:Hp)(Q:Bool->Hp->Prop),Inv X Mv σ H s->t σ H Q->wpAny (model X.prog X.w) X.A (isTrue e X.env (eval e X.env)) (TP X Mv σ Q) X.xe s
def PW(X:Cx)(e:Expr)(t:TT):Prop :=
 ∀(whole:Sem Value)(Mv:List (Addr×Obj))(s:Shared)(σ:St)(H:Hp)(Q:Bool->Hp->Prop),Inv X Mv σ H s->t σ H Q->wpAny (model X.prog X.w) X.A (isTrue e X.env whole) (TP X Mv σ Q) X.xe s
theorem PW.pt{X:Cx}{e:Expr}{t:TT}(h:PW X e t):PT X e t:=h _
def PA(X:Cx)(es:List Expr)(t:TA):Prop :=
 ∀(pos:Pos)(Mv:List (Addr×Obj))(s:Shared)(σ:St)(H:Hp)(Q:List V->Hp->Prop),Inv X Mv σ H s->t σ H Q->wpAny (model X.prog X.w) X.A (spliced (backTo pos (starEach es X.env))) (AP X Mv σ Q) X.xe s
def PS(X:Cx)(st:Stmt)(t:TS):Prop :=
 ∀(Mv:List (Addr×Obj))(s:Shared)(σ:St)(H:Hp)(D:iM),Inv X Mv σ H s->t D σ H->wpAny (model X.prog X.w) X.A (exec st X.env) (SP X Mv D) X.xe s
def PSs(X:Cx)(st:List Stmt)(t:TS):Prop :=
 ∀(Mv:List (Addr×Obj))(s:Shared)(σ:St)(H:Hp)(D:iM),Inv X Mv σ H s->t D σ H->wpAny (model X.prog X.w) X.A (execs st X.env) (SP X Mv D) X.xe s
theorem ax{α:Type}{t:Sem α}{Q Q':α->Shared->Prop}{M:Model}{A:Around}{E:Value->Shared->Prop}{s:Shared}(h:wpAny M A t Q E s)(hQ:∀a s,Q a s->Q' a s):wpAny M A t Q' E s:=yW h hQ fun _ _ x=>x
section
variable{X:Cx}
theorem bin{a b:Expr}{ta tb:TE}(ha:PE X a ta)(hb:PE X b tb){Mv:List (Addr×Obj)}{s:Shared}{σ:St}{H:Hp}{R:V->V->Hp->Prop}(I:Inv X Mv σ H s)(h:ta σ H fun x H1=>tb σ H1 fun y H2=>R x y H2)
  {α:Type}{Q:α->Shared->Prop}{f:Value->Value->Sem α}
  (hf:∀v u s2 x y H2,Inv X Mv σ H2 s2->RelV x v->RelV y u->R x y H2->wpAny (model X.prog X.w) X.A (f v u) Q X.xe s2) :
  wpAny (model X.prog X.w) X.A (eval a X.env) (fun v s₁=>wpAny (model X.prog X.w) X.A (eval b X.env) (fun u s₂=>wpAny (model X.prog X.w) X.A (f v u) Q X.xe s₂) X.xe s₁) X.xe s:=by
 refine ax (ha Mv s σ H _ I h) fun v s1 hq0=>?_
 obtain⟨x,H1,I1,r1,q1⟩:=hq0;refine ax (hb Mv s1 σ H1 _ I1 q1) fun u s2 hq0=>?_
 obtain⟨y,H2,I2,r2,q2⟩:=hq0;exact hf v u s2 x y H2 I2 r1 r2 q2
noncomputable def Jo(i:Nat):TE:=fun σ H Q=>∃v,σ[i]?=some (some v)/\Q v H
noncomputable def tC(v:V):TE:=fun _ H Q=>Q v H
theorem Er{i:Nat}{x:Str}{pos:Pos}(hN:X.N[i]?=some x)(hv:wU X.env.scope x)(hd:(x==("__debug__":Str))=false:=by decide)(hcd:(x==("__classdict__":Str))=false:=by decide):PE X (.Name x pos) (Jo i):=by
 intro Mv s σ H Q I h;obtain⟨v,e,h⟩:=h;obtain⟨m,hn,hl⟩:=I.loc;obtain⟨u,r,l⟩:=hl i x v hN e hv;have ay:EP X Mv σ Q u s:=⟨v,H,I,r,h⟩;rcases l with⟨hk,hm⟩|⟨hk,c,hc,hcell⟩
 ·exact wpAny_Name (wpAny_loadName_local I.ok.kind hk hn hm ay) hd
 ·rcases hk with hk|hk
  ·exact wpAny_Name (wpAny_loadName_cell I.ok.kind hk hc hcell ay) hd
  ·exact wpAny_Name (wpAny_loadName_free I.ok.kind hk hc hcell ay hcd) hd
theorem Ez{i j pos}:PE X (.Constant (.int i) j pos) (tC (.int i)):=fun _ _ _ H _ I h=>wpAny_Constant_int ⟨.int i,H,I.tok _,⟨_,rfl⟩,h⟩
theorem GZ{b j pos}:PE X (.Constant (.bool b) j pos) (tC (.bl b)):=fun _ _ _ H _ I h=>Constant_bool ⟨.bl b,H,I,rfl,h⟩
theorem Ey{j pos}:PE X (.Constant .none j pos) (tC .non):=fun _ _ _ H _ I h=>Constant_none ⟨.non,H,I,rfl,h⟩
theorem Et{x j pos}:PE X (.Constant (.str x) j pos) (tC (.str x)):=fun _ _ _ H _ I h=>Calls.Constant_str ⟨.str x,H,I.tok _,⟨_,rfl⟩,h⟩
def Gl(X:Cx)(x:Str):Prop:=X.env.kindOf x=some .globalImplicit
theorem kg{E:Value->Shared->Prop}{Mv:List (Addr×Obj)}{s:Shared}{σ:St}{H:Hp}{x:Str}{u:Value}{pos:Pos}{Q:Value->Shared->Prop}(I:Inv X Mv σ H s)(hg:Gl X x)(hm:X.mg x=some u)(h:Q u s)
  (hd:(x==("__debug__":Str))=false:=by decide):wpAny (model X.prog X.w) X.A (eval (.Name x pos) X.env) Q E s :=
 Calls.Name_function_global I.ok.kind hg (Calls.loadGlobal_global (by rw[I.ok.glob];exact I.mod.glob.keeps I.bk) hm h) hd
theorem c6{E:Value->Shared->Prop}{Mv:List (Addr×Obj)}{s:Shared}{σ:St}{H:Hp}{x:Str}{u:Value}{pos:Pos}{Q:Value->Shared->Prop}(I:Inv X Mv σ H s)(hg:Gl X x)(hm:X.mg x=none)(hv:bootBuiltins x=some u)(h:Q u s)
  (hn:x≠"__name__":=by decide) (hd:(x==("__debug__":Str))=false:=by decide):wpAny (model X.prog X.w) X.A (eval (.Name x pos) X.env) Q E s:=by
 obtain⟨mb,h1,h2⟩:=I.mod.blt;exact Calls.Name_function_global I.ok.kind hg (Calls.loadGlobal_builtin (by rw[I.ok.glob];exact I.mod.glob.keeps I.bk) hm (by rw[I.ok.blt];exact h1.keeps I.bk) ((h2 x hn).trans hv) h) hd
theorem Ci{x:Str}{v:V}{u:Value}{pos:Pos}(hg:Gl X x)(hm:X.mg x=some u)(r:RelV v u)(hd:(x==("__debug__":Str))=false:=by decide):PE X (.Name x pos) (tC v) :=
 fun _ _ _ H _ I h=>kg I hg hm ⟨v,H,I,r,h⟩ hd
variable{a b:Expr}{ta tb:TE}{pos:Pos}
theorem RelV.none_iff{x:V}{v:Value}(r:RelV x v):(v==Value.none)=decide (x=.non):=by
 cases x with
 |non=>cases r;rfl
 |bl _=>cases r;rfl
 |int _=>obtain⟨t,rfl⟩:=r;rfl
 |str _=>obtain⟨t,rfl⟩:=r;rfl
 |byt _=>obtain⟨t,rfl⟩:=r;rfl
 |flt _=>obtain⟨t,rfl⟩:=r;rfl
 |ref _=>cases r;rfl
 |ty _=>cases r;rfl
variable{tA tB':TT}{rest:List Expr}
noncomputable def Jz(t u:TT):TT:=fun σ H Q=>t σ H fun c H1=>if c=true then u σ H1 Q else Q false H1
noncomputable def Ky(t u:TT):TT:=fun σ H Q=>t σ H fun c H1=>if c=true then Q true H1 else u σ H1 Q
noncomputable def Jt(t:TT):TT:=fun σ H Q=>t σ H fun c H1=>Q (!c) H1
theorem BY(ha:PT X a tA):PW X (.BoolOp .And [a] pos) tA:=by
 intro wh Mv s σ H Q I h;refine isTrue_and (ax (ha Mv s σ H Q I h) fun c s1 e=>?_);cases c with
 |true=>exact isTrue_and_nil e
 |false=>exact e
theorem Ed(ha:PT X a tA):PW X (.BoolOp .Or [a] pos) tA:=by
 intro wh Mv s σ H Q I h;refine isTrue_or (ax (ha Mv s σ H Q I h) fun c s1 e=>?_);cases c with
 |false=>exact isTrue_or_nil e
 |true=>exact e
theorem Ee(ha:PT X a tA)(hb:PW X (.BoolOp .And (b::rest) pos) tB'):PW X (.BoolOp .And (a::b::rest) pos) (Jz tA tB'):=by
 intro wh Mv s σ H Q I h;refine isTrue_and (ax (ha Mv s σ H _ I h) fun c s1 hq0=>?_);obtain⟨H1,I1,q1⟩:=hq0;cases c with
 |true=>exact hb wh Mv s1 σ H1 Q I1 q1
 |false=>exact⟨H1,I1,q1⟩
theorem GP(ha:PT X a tA)(hb:PW X (.BoolOp .Or (b::rest) pos) tB'):PW X (.BoolOp .Or (a::b::rest) pos) (Ky tA tB'):=by
 intro wh Mv s σ H Q I h;refine isTrue_or (ax (ha Mv s σ H _ I h) fun c s1 hq0=>?_);obtain⟨H1,I1,q1⟩:=hq0;cases c with
 |true=>exact⟨H1,I1,q1⟩
 |false=>exact hb wh Mv s1 σ H1 Q I1 q1
theorem Eg(ha:PT X a tA):PT X (.UnaryOp .Not a pos) (Jt tA):=by
 intro Mv s σ H Q I h;exact isTrue_not (ha Mv s σ H (fun c H1=>Q (!c) H1) I h)
noncomputable def Gs(ta tb:TE):TE:=fun σ H Q=>ta σ H fun x H1=>∃c,x=.bl c/\if c=true then tb σ H1 Q else Q (.bl false) H1
noncomputable def Js(ta tb:TE):TE:=fun σ H Q=>ta σ H fun x H1=>∃c,x=.bl c/\if c=true then Q (.bl true) H1 else tb σ H1 Q
noncomputable def Go(ta:TE):TE:=fun σ H Q=>ta σ H fun x H1=>∃c,x=.bl c/\Q (.bl (!c)) H1
theorem Eu{op}{t:TE}(h:PE X a t):PE X (.BoolOp op [a] pos) t:=fun Mv s σ H Q I hw=>BoolOp_one (h Mv s σ H Q I hw)
theorem EC(ha:PE X a ta)(hb:PE X (.BoolOp .And (b::rest) pos) tb):PE X (.BoolOp .And (a::b::rest) pos) (Gs ta tb):=by
 intro Mv s σ H Q I h;refine BoolOp_and (ax (ha Mv s σ H _ I h) fun v s1 hq0=>?_);obtain⟨x,H1,I1,r1,q1⟩:=hq0;obtain⟨c,rfl,q1⟩:=q1;cases r1;refine wpAny_truthy_bool ?_;cases c with
 |true=>exact hb Mv s1 σ H1 Q I1 q1
 |false=>exact⟨.bl false,H1,I1,rfl,q1⟩
theorem GU(ha:PE X a ta)(hb:PE X (.BoolOp .Or (b::rest) pos) tb):PE X (.BoolOp .Or (a::b::rest) pos) (Js ta tb):=by
 intro Mv s σ H Q I h;refine BoolOp_or (ax (ha Mv s σ H _ I h) fun v s1 hq0=>?_);obtain⟨x,H1,I1,r1,q1⟩:=hq0;obtain⟨c,rfl,q1⟩:=q1;cases r1;refine wpAny_truthy_bool ?_;cases c with
 |false=>exact hb Mv s1 σ H1 Q I1 q1
 |true=>exact⟨.bl true,H1,I1,rfl,q1⟩
theorem Ew(ha:PE X a ta):PE X (.UnaryOp .Not a pos) (Go ta):=by
 intro Mv s σ H Q I h;refine UnaryOp_ (ax (ha Mv s σ H _ I h) fun v s1 hq0=>?_);obtain⟨x,H1,I1,r1,q1⟩:=hq0;obtain⟨c,rfl,q1⟩:=q1;cases r1;exact not_of (wpAny_truthy_bool ⟨.bl (!c),H1,I1,rfl,q1⟩)
noncomputable def Kz(t:TT)(ta tb:TE):TE:=fun σ H Q=>t σ H fun c H1=>if c=true then ta σ H1 Q else tb σ H1 Q
theorem ye{c:Expr}(hc:PT X c tA)(ha:PE X a ta)(hb:PE X b tb):PE X (.IfExp c a b pos) (Kz tA ta tb):=by
 intro Mv s σ H Q I h;refine wpAny_IfExp (ax (hc Mv s σ H _ I h) fun d s1 hq0=>?_);obtain⟨H1,I1,q1⟩:=hq0;cases d with
 |true=>exact ha Mv s1 σ H1 Q I1 q1
 |false=>exact hb Mv s1 σ H1 Q I1 q1
end
def bw(K:Frag)(H:Hp)(a:Addr)(xs:List V):Prop :=
 Rd H a (.lst xs) \/
  ∃(o:Obj)(Mz:Array Value)(n:Nat),K.lookup a=some o/\o.cls=.type "list"/\o.dict=none/\o.data=.seq Mz n/\Mz.size<=sizeLine/\Vals xs Mz.toList
def fH(K:Frag)(H:Hp)(a:Addr)(xs:List V):Prop :=
 Rd H a (.tup xs) \/
  ∃(o:Obj)(Mz:Array Value)(n:Nat),K.lookup a=some o/\o.cls=.type "tuple"/\o.data=.seq Mz n/\Mz.size<=sizeLine/\Vals xs Mz.toList
noncomputable def J9:Value->Option V
 |.none=>some .non
 |.bool b=>some (.bl b)
 |.int i _=>some (.int i)
 |.str x _=>some (.str x)
 |.bytes b _=>some (.byt b)
 |.float b _=>some (.flt b)
 |.ref a=>some (.ref a)
 |.type n=>some (.ty n)
 |_=>none
theorem RelV.abs{x:V}{u:Value}(r:RelV x u):J9 u=some x:=by
 cases x with
 |non=>cases r;rfl
 |bl _=>cases r;rfl
 |int _=>obtain⟨t,rfl⟩:=r;rfl
 |str _=>obtain⟨t,rfl⟩:=r;rfl
 |byt _=>obtain⟨t,rfl⟩:=r;rfl
 |flt _=>obtain⟨t,rfl⟩:=r;rfl
 |ref _=>cases r;rfl
 |ty _=>cases r;rfl
theorem RelV.inj{x y:V}{u:Value}(r:RelV x u)(q:RelV y u):x=y:=yH (r.abs.symm.trans q.abs)
theorem Vals.inj{xs ys:List V}{us:List Value}(h:Vals xs us):Vals ys us->xs=ys:=by
 induction h generalizing ys with
 |nil=>intro h';cases h';rfl
 |cons r t ih =>
  intro h';cases h' with
  |cons r' t'=>rw[r.inj r',ih t']
section
variable{X:Cx}{Mv:List (Addr×Obj)}{σ:St}{H:Hp}{s:Shared}{a:Addr}{xs ys:List V}
theorem Inv.list(I:Inv X Mv σ H s)(h:bw X.K H a xs):∃Mz:List Value,Vals xs Mz/\PlainL s.heap a Mz.toArray/\xs.length<=sizeLine:=by
 rcases h with h|⟨o,Mz,n,hk,hc,hd,hs,hz,r⟩
 ·obtain⟨z,Mz,n,r,e⟩:=h.ok I.MD
  exact⟨Mz,r,⟨_,n,e,rfl,rfl,rfl⟩,z⟩
 ·refine⟨Mz.toList,r,⟨o,n,I.kIn a o hk,hc,hd,by simpa using hs⟩,?_⟩
  have e:=r.length;simp only[Array.length_toList]at e;lia
theorem Inv.tuple(I:Inv X Mv σ H s)(h:fH X.K H a xs):∃Mz:List Value,Vals xs Mz/\IsTup s.heap a Mz.toArray/\xs.length<=sizeLine:=by
 rcases h with h|⟨o,Mz,n,hk,hc,hs,hz,r⟩
 ·obtain⟨z,Mz,r,p⟩:=h.ok I.MD
  exact⟨Mz,r,p,z⟩
 ·refine⟨Mz.toList,r,⟨o,I.kIn a o hk,hc,n,by simpa using hs⟩,?_⟩
  have e:=r.length;simp only[Array.length_toList]at e;lia
theorem Inv.list_inj(I:Inv X Mv σ H s)(h:bw X.K H a xs)(h':bw X.K H a ys):xs=ys:=by
 obtain⟨Mz,r,⟨o,n,e,_,_,d⟩,_⟩:=I.list h;obtain⟨its',r',⟨o',n',e',_,_,d'⟩,_⟩:=I.list h';rw[e]at e';cases e';rw[d]at d';injection d' with d1 _;have:Mz=its':=by simpa using congrArg Array.toList d1
 subst this;exact r.inj r'
theorem Inv.tuple_inj(I:Inv X Mv σ H s)(h:fH X.K H a xs)(h':fH X.K H a ys):xs=ys:=by
 obtain⟨Mz,r,⟨o,e,_,n,d⟩,_⟩:=I.tuple h;obtain⟨its',r',⟨o',e',_,n',d'⟩,_⟩:=I.tuple h';rw[e]at e';cases e';rw[d]at d';injection d' with d1 _;have:Mz=its':=by simpa using congrArg Array.toList d1
 subst this;exact r.inj r'
end
abbrev Cx.wish(X:Cx)(E:Value->Shared->Prop):Cx:={ X with xe:=E }
abbrev Cx.nox(X:Cx):Cx:=X.wish fun _ _=>False
theorem Cx.Ok.wish{X:Cx}(ok:X.Ok)(E:Value->Shared->Prop):(X.wish E).Ok :=
 ⟨ok.mod,ok.kind,ok.glob,ok.blt,ok.above,ok.inj,ok.has,ok.cab,ok.hd,ok.frames,ok.stk,ok.exf,ok.bs,ok.bsz,ok.noex,ok.exfs,ok.funs,ok.frf⟩
theorem Cx.Ok.unwish{X:Cx}{E:Value->Shared->Prop}(ok:(X.wish E).Ok):X.Ok :=
 ⟨ok.mod,ok.kind,ok.glob,ok.blt,ok.above,ok.inj,ok.has,ok.cab,ok.hd,ok.frames,ok.stk,ok.exf,ok.bs,ok.bsz,ok.noex,ok.exfs,ok.funs,ok.frf⟩
section
variable{X:Cx}{Mv:List (Addr×Obj)}{σ:St}{H:Hp}{s:Shared}{E:Value->Shared->Prop}
theorem Inv.wish(I:Inv X Mv σ H s)(E:Value->Shared->Prop):Inv (X.wish E) Mv σ H s:=⟨I.ok.wish E,I.os,I.bare,I.base,I.loc,I.cell,I.free,I.freeC,I.pin,I.MD,I.len⟩
theorem Inv.unwish(I:Inv (X.wish E) Mv σ H s):Inv X Mv σ H s:=⟨I.ok.unwish,I.os,I.bare,I.base,I.loc,I.cell,I.free,I.freeC,I.pin,I.MD,I.len⟩
theorem SP.unwish{D:iM}{f:Flow}{s':Shared}(h:SP (X.wish E) Mv D f s'):SP X Mv D f s':=by
 cases f with
 |next=>obtain⟨σ',H',I,q⟩:=h;exact⟨σ',H',I.unwish,q⟩
 |brk=>obtain⟨σ',H',I,q⟩:=h;exact⟨σ',H',I.unwish,q⟩
 |cont=>obtain⟨σ',H',I,q⟩:=h;exact⟨σ',H',I.unwish,q⟩
 |ret u=>obtain⟨v,σ',H',I,r,q⟩:=h;exact⟨v,σ',H',I.unwish,r,q⟩
theorem PSs.nox{st:List Stmt}{t:TS}(h:PSs X.nox st t):PSs X st t:=fun Mv s σ H D I hw =>
 yW (h Mv s σ H D (I.wish _) hw) (fun _ _ q=>q.unwish) fun _ _ z=>False.elim z
end
section
variable{X:Cx}{st:Stmt}{rest:List Stmt}{t u:TS}{e:Expr}{te:TE}{pos:Pos}
noncomputable def Gp:TS:=fun D σ H=>D.nx σ H
noncomputable def Jq(t u:TS):TS:=fun D σ H=>t { D with nx:=u D } σ H
theorem B0:PSs X [] Gp:=fun _ _ σ H _ I h=>wpAny_execs_nil ⟨σ,H,I,h⟩
theorem xT(h1:PS X st t)(h2:PSs X rest u):PSs X (st::rest) (Jq t u):=by
 intro Mv s σ H D I h;refine wpAny_execs_cons (ax (h1 Mv s σ H { D with nx:=u D } I h) fun f s1 q=>?_);cases f with
 |next =>
  obtain⟨σ',H',I',q⟩:=q;exact h2 Mv s1 σ' H' D I' q
 |ret v=>exact q
 |brk=>exact q
 |cont=>exact q
theorem Inv.quiet{Mv:List (Addr×Obj)}{σ:St}{H:Hp}{s:Shared}(I:Inv X Mv σ H s):interactive X.env=false:=by simp[interactive,I.ok.kind]
noncomputable def Gq(te:TE):TS:=fun D σ H=>te σ H fun _ H1=>D.nx σ H1
theorem B4(he:PE X e te)(hs:swapsWith e none pos.line X.env=pure false:=by rfl):PS X (.Expr e pos) (Gq te):=by
 intro Mv s σ H D I h;exact wpAny_Expr_any (ax (he Mv s σ H _ I h) fun v s1 ⟨x,H1,I1,r1,q1⟩=>⟨σ,H1,I1,q1⟩) I.quiet hs
noncomputable def Jr(te:TE):TS:=fun D σ H=>te σ H D.rt
theorem Ei(he:PE X e te):PS X (.Return (some e) pos) (Jr te):=by
 intro Mv s σ H D I h;exact wpAny_Return_some (ax (he Mv s σ H _ I h) fun v s1 ⟨x,H1,I1,r1,q1⟩=>⟨x,σ,H1,I1,r1,q1⟩)
noncomputable def Jv(c:TT)(t u:TS):TS:=fun D σ H=>c σ H fun b H1=>if b=true then t D σ H1 else u D σ H1
theorem GQ{c:Expr}{a b:List Stmt}{tc:TT}(hc:PT X c tc)(ha:PSs X a t)(hb:PSs X b u):PS X (.If c a b pos) (Jv tc t u):=by
 intro Mv s σ H D I h;refine wpAny_If (ax (hc Mv s σ H _ I h) fun d s1 hq0=>?_);obtain⟨H1,I1,q1⟩:=hq0;cases d with
 |true=>exact ha Mv s1 σ H1 D I1 q1
 |false=>exact hb Mv s1 σ H1 D I1 q1
noncomputable def Dh:TS:=fun _ _ _=>False
theorem xV:PS X st Dh:=fun _ _ _ _ _ _ h=>h.elim
end
abbrev TG:=V->St->Hp->(St->Hp->Prop)->Prop
abbrev lb:=List V->St->Hp->(St->Hp->Prop)->Prop
def PG(X:Cx)(target:Expr)(t:TG):Prop :=
 ∀(Mv:List (Addr×Obj))(s:Shared)(σ:St)(H:Hp)(v:V)(u:Value)(Q:St->Hp->Prop),Inv X Mv σ H s->RelV v u->t v σ H Q ->
  wpAny (model X.prog X.w) X.A (assign target X.env u) (fun _ s'=>∃σ' H',Inv X Mv σ' H' s'/\Q σ' H') X.xe s
def oV(X:Cx)(ts:List Expr)(t:lb):Prop :=
 ∀(Mv:List (Addr×Obj))(s:Shared)(σ:St)(H:Hp)(vs:List V)(us:List Value)(Q:St->Hp->Prop),Inv X Mv σ H s->Vals vs us->t vs σ H Q ->
  wpAny (model X.prog X.w) X.A (assignInOrder ((assignEach ts X.env).map (·.2)) us) (fun _ s'=>∃σ' H',Inv X Mv σ' H' s'/\Q σ' H') X.xe s
abbrev qV:=V->V->V->Hp->(Hp->Prop)->Prop
def u0(X:Cx)(t:qV):Prop :=
 ∀(Mv:List (Addr×Obj))(s:Shared)(σ:St)(H:Hp)(o i v:V)(ov iv u:Value)(Q:Hp->Prop),Inv X Mv σ H s->RelV o ov->RelV i iv->RelV v u->t o i v H Q ->
  wpAny (model X.prog X.w) X.A (setItem ov iv u) (fun _ s'=>∃H',Inv X Mv σ H' s'/\Q H') X.xe s
abbrev A6:=V->V->Hp->VK->Prop
def A8(X:Cx)(op:Operator)(t:A6):Prop :=
 ∀(Mv:List (Addr×Obj))(s:Shared)(σ:St)(H:Hp)(x y:V)(v u:Value)(Q:VK),Inv X Mv σ H s->RelV x v->RelV y u->t x y H Q ->
  wpAny (model X.prog X.w) X.A (inplaceOp op v u) (EP X Mv σ Q) X.xe s
section
variable{X:Cx}{pos:Pos}
noncomputable def mI(i:Nat):TG:=fun v σ H Q=>Q (σ.set i (some v)) H
theorem Cf{i:Nat}{x:Str}(hN:X.N.Nodup)(hi:X.N[i]?=some x)(hx:Loc X.env.scope x)(hf:X.fn x=true\/X.env.scope.names.lookup x=some .local:=by first|exact .inl rfl|exact .inr rfl|assumption):PG X (.Name x pos) (mI i):=by
 intro Mv s σ H v u Q I r h;exact wpAny_assign_Name (pF I hN hi hx r (fun s' I'=>⟨_,H,I',h⟩) hf)
noncomputable def JZ:lb:=fun vs σ H Q=>vs=[]/\Q σ H
noncomputable def Hr(t:TG)(u:lb):lb:=fun vs σ H Q=>∃v r,vs=v::r/\t v σ H fun σ' H'=>u r σ' H' Q
theorem Cd:oV X [] JZ:=by
 intro Mv s σ H vs us Q I r h;obtain⟨e,h⟩:=h;subst e;cases r;exact assignInOrder_nil ⟨σ,H,I,h⟩
theorem xZ{e:Expr}{es:List Expr}{t:TG}{u:lb}(h1:PG X e t)(h2:oV X es u)
  (hs:(assignEach (e::es) X.env).map (·.2)=assign e X.env::(assignEach es X.env).map (·.2):=by rfl):oV X (e::es) (Hr t u):=by
 intro Mv s σ H vs us Q I r h;obtain⟨v,vr,e1,h⟩:=h;subst e1;cases r with
 |cons r rr =>
  rw[hs];refine assignInOrder_cons (ax (h1 Mv s σ H _ _ _ I r h) fun _ s1 hq0=>?_);obtain⟨σ1,H1,I1,q1⟩:=hq0;exact h2 Mv s1 σ1 H1 _ _ Q I1 rr q1
noncomputable def JX(K:Frag)(n:Nat)(t:lb):TG:=fun v σ H Q=>∃a xs,v=.ref a/\fH K H a xs/\xs.length=n/\t xs σ H Q
theorem Eo{es:List Expr}{k:Nat}{t:lb}{n:Nat}(hc:X.calm=true)(h:oV X es t)
  (hn:(assignEach es X.env).length=n:=by rfl) (hst:(assignEach es X.env).findIdx? (·.1)=none:=by rfl):PG X (.Tuple es k pos) (JX X.K n t):=by
 intro Mv s σ H v u Q I r hw;obtain⟨a,xs,e1,hq,hl,hw⟩:=hw;subst e1;cases r;obtain⟨Mz,rv,ht,hz⟩:=I.tuple hq;refine assign_Tuple_tuple (I.ok.hd hc) ht (by simp[hn,<- hl,rv.length]) hst fun h' hx=>?_
 have I1:Inv X Mv σ H { s with heap:=h' }:=I.kept (t':=s.toks) fun b o e=>hx b o (zX (yM e)) e
 exact h Mv _ σ H xs _ Q I1 (by simpa using rv) hw
noncomputable def JY(to ti:TE)(t:qV):TG:=fun v σ H Q=>to σ H fun o H1=>ti σ H1 fun i H2=>t o i v H2 fun H3=>Q σ H3
theorem Ep{o i:Expr}{to ti:TE}{t:qV}(ho:PE X o to)(hi:PE X i ti)(hs:u0 X t)
  (ha:∀v,assign (.Subscript o i pos) X.env v=(do
   let ov <- holding [v] (eval o X.env)
   let iv <- holding [v,ov] (eval i X.env)
   standAt pos
   holding [v,ov,iv] (setItem ov iv v)
   release [v,ov,iv] []):=by intro _;rfl):PG X (.Subscript o i pos) (JY to ti t):=by
 intro Mv s σ H v u Q I r h;rw[ha];refine yI (yV (ax (ho Mv s σ H _ I h) fun ov s1 hq0=>?_));obtain⟨x,H1,I1,r1,q1⟩:=hq0;refine yI (yV (ax (hi Mv s1 σ H1 _ I1 q1) fun iv s2 hq0=>?_));obtain⟨y,H2,I2,r2,q2⟩:=hq0;refine yI (wpAny_standAt (yI (yV (ax (hs Mv s2 σ H2 x y v ov iv u _ I2 r1 r2 r q2) fun _ s3 hq0=>?_))));obtain⟨H3,I3,q3⟩:=hq0;exact wpAny_release ⟨σ,H3,I3,q3⟩
noncomputable def tJ(te:TE)(g:TG):TS:=fun D σ H=>te σ H fun x H1=>g x σ H1 D.nx
theorem Ek{tg e:Expr}{te:TE}{g:TG}(he:PE X e te)(hg:PG X tg g)(hs:swapsWithSole [tg] e pos.line X.env=pure false:=by rfl)(hw:swappedStores [tg] e X.env=pure none:=by rfl)
  (h1:(assignEach [tg] X.env).map (·.2)=[assign tg X.env]:=by rfl):PS X (.Assign [tg] e pos) (tJ te g):=by
 intro Mv s σ H D I h;refine wpAny_Assign_stores (ax (he Mv s σ H _ I h) fun v s1 hq0=>?_) hs hw;obtain⟨x,H1,I1,r1,q1⟩:=hq0;rw[h1];exact ax (hg Mv s1 σ H1 x v _ I1 r1 q1) fun _ s2 q=>q
theorem Eh{i:Nat}{x:Str}{e:Expr}{te:TE}{pos':Pos}(hN:X.N.Nodup)(hi:X.N[i]?=some x)(hx:Loc X.env.scope x)(he:PE X e te)(hs:swapsWith e (some (.Name x pos')) pos.line X.env=pure false:=by rfl)(hf:X.fn x=true\/X.env.scope.names.lookup x=some .local:=by first|exact .inl rfl|exact .inr rfl|assumption) :
  PS X (.Assign [.Name x pos'] e pos) (tJ te (mI i)):=by
 intro Mv s σ H D I h;refine wpAny_Assign_Name (ax (he Mv s σ H _ I h) fun v s1 hq0=>?_) hs;obtain⟨y,H1,I1,r1,q1⟩:=hq0;exact pF I1 hN hi hx r1 (fun s2 I2=>⟨_,H1,I2,q1⟩) hf
def Gr(to ti te:TE)(tget:V->V->Hp->VK->Prop)(tip:A6)(tset:qV):TS:=fun D σ H=>to σ H fun o H1=>ti σ H1 fun i H2=>tget o i H2 fun x H3=>te σ H3 fun y H4=>tip x y H4 fun z H5=>tset o i z H5 fun H6=>D.nx σ H6
def Ac(X:Cx)(t:V->V->Hp->VK->Prop):Prop :=
 ∀(Mv:List (Addr×Obj))(s:Shared)(σ:St)(H:Hp)(o i:V)(ov iv:Value)(Q:VK),Inv X Mv σ H s->RelV o ov->RelV i iv->t o i H Q ->
  wpAny (model X.prog X.w) X.A (getItem ov iv) (EP X Mv σ Q) X.xe s
theorem B5{o i e:Expr}{to ti te:TE}{tget:V->V->Hp->VK->Prop}{tip:A6}{tset:qV}{op:Operator}{tpos:Pos}(ho:PE X o to)(hi:PE X i ti)(hg:Ac X tget)(he:PE X e te)(hp:A8 X op tip)(hs:u0 X tset)
  (ha:∀ov iv new,augStore i ov iv new=(do holding [new,ov,iv] (setItem ov iv new);release [new,ov,iv] [];pure .next):=by intros;rfl):PS X (.AugAssign (.Subscript o i tpos) op e pos) (Gr to ti te tget tip tset):=by
 intro Mv s σ H D I h;refine wpAny_AugAssign_SubscriptAny (ax (ho Mv s σ H _ I h) fun ov s1 hq0=>?_) ha;obtain⟨x1,H1,I1,r1,q1⟩:=hq0;refine ax (hi Mv s1 σ H1 _ I1 q1) fun iv s2 hq0=>?_
 obtain⟨x2,H2,I2,r2,q2⟩:=hq0;refine ax (hg Mv s2 σ H2 x1 x2 ov iv _ I2 r1 r2 q2) fun old s3 hq0=>?_
 obtain⟨x3,H3,I3,r3,q3⟩:=hq0;refine ax (he Mv s3 σ H3 _ I3 q3) fun v s4 hq0=>?_
 obtain⟨x4,H4,I4,r4,q4⟩:=hq0;refine ax (hp Mv s4 σ H4 x3 x4 old v _ I4 r3 r4 q4) fun new s5 hq0=>?_
 obtain⟨x5,H5,I5,r5,q5⟩:=hq0;exact ax (hs Mv s5 σ H5 x1 x2 x5 ov iv new _ I5 r1 r2 r5 q5) fun _ s6 ⟨H6,I6,q6⟩=>⟨σ,H6,I6,q6⟩
noncomputable def IL(f:Int->Int->Int):A6:=fun x y H Q=>∃i j,x=.int i/\y=.int j/\Q (.int (f i j)) H
theorem Fh:A8 X .Add (IL fun i j=>i+j):=by
 intro Mv s σ H x y v u Q I r1 r2 h;obtain⟨i,j,e1,e2,q⟩:=h;subst e1;subst e2;obtain⟨t,rfl⟩:=r1;obtain⟨t',rfl⟩:=r2;exact iadd_int ⟨.int _,H,I.tok _,⟨_,rfl⟩,q⟩
theorem Fg:A8 X .Sub (IL fun i j=>i-j):=by
 intro Mv s σ H x y v u Q I r1 r2 h;obtain⟨i,j,e1,e2,q⟩:=h;subst e1;subst e2;obtain⟨t,rfl⟩:=r1;obtain⟨t',rfl⟩:=r2;exact isub_int ⟨.int _,H,I.tok _,⟨_,rfl⟩,q⟩
end
section
variable{X:Cx}{pos:Pos}
def Df(c:TT)(tb:TS):TS:=fun D σ H=>∃W:Nat->St->Hp->Prop,(∃m,W m σ H)/\∀m σ H,W m σ H ->
 c σ H fun b H1=>if b=true then ∃N:St->Hp->Prop,(∀σ' H',N σ' H'->∃m',m'<m/\W m' σ' H')/\tb { D with nx:=N,ct:=N,bk:=D.nx } σ H1 else D.nx σ H1
theorem xU{c:Expr}{body:List Stmt}{tc:TT}{tb:TS}(hp:PassesOwn (model X.prog X.w) X.A X.env X.xe)(hc:PT X c tc)(hb:PSs X body tb):PS X (.While c body [] pos) (Df tc tb):=by
 intro Mv s σ H D I h;obtain⟨W,⟨m0,w0⟩,turn⟩:=h;refine wpAny_While (codeAny_whileLoop (fun n s'=>∃σ' H',Inv X Mv σ' H' s'/\W n σ' H') ?_ m0 ⟨σ,H,I,w0⟩);rintro n s1 ⟨σ1,H1,I1,w1⟩;refine wpAny_passesOwn hp (ax (hc Mv s1 σ1 H1 _ I1 (turn n σ1 H1 w1)) fun b s2 hq0=>?_);obtain⟨H2,I2,q2⟩:=hq0;cases b with
 |true =>
  obtain⟨N,hN,q2⟩:=q2;rw[yL rfl];refine wpAny_passesOwn hp (ax (hb Mv s2 σ1 H2 _ I2 q2) fun f s3 q3=>?_);cases f with
  |next =>
   obtain⟨σ3,H3,I3,n3⟩:=q3;obtain⟨m',hm,w3⟩:=hN σ3 H3 n3;exact⟨m',hm,σ3,H3,I3,w3⟩
  |cont =>
   obtain⟨σ3,H3,I3,n3⟩:=q3;obtain⟨m',hm,w3⟩:=hN σ3 H3 n3;exact⟨m',hm,σ3,H3,I3,w3⟩
  |brk=>exact q3
  |ret v=>exact q3
 |false =>
  rw[yK Bool.false_ne_true];exact wpAny_execs_nil ⟨σ1,H2,I2,q2⟩
end
structure It where
 go:Nat->Hp->Prop
 yld:Nat->Hp->V->Hp->Prop
 stop:Nat->Hp->Prop
def df(X:Cx)(Mv:List (Addr×Obj))(H:Hp)(b:Addr):Prop :=
 H b=none/\b≠X.env.locals/\b∉X.fs/\(b∈X.ex\/X.s₀.heap.objs.size<=b)/\(∀x c,X.env.cells.lookup x=some c->c≠b)/\∀p∈X.pn++Mv,p.1≠b
theorem Inv.fpOk{X:Cx}{Mv:List (Addr×Obj)}{σ:St}{H H':Hp}{s:Shared}{b:Addr}(I:Inv X Mv σ H s)(hb:s.heap.objs.size<=b)(hn:H' b=none):df X Mv H' b:=by
 refine⟨hn,Nat.ne_of_gt (zM I.lt hb),I.nofs hb,.inr (z9 I.sz hb),fun x c e z=>?_,fun p hp z=>?_⟩
 ·obtain⟨v,q⟩:=I.cell x c e
  exact absurd (zM q.lt (by rw[z];exact hb)) (xF _)
 ·exact absurd (zM (yM (I.pin p hp).1) (by rw[z];exact hb)) (xF _)
structure jv(P:Program)(w:World)(K:Frag)(tg:Expr)(J:It)(fp:List Addr)(it:Addr)(tn:Nat->Heap->Prop):Prop where
 mem:it∈fp
 obj:∀i h,tn i h->∀b∈fp,∃o,h.get? b=some o/\∀v,o.data≠.cell v
 keep:∀i h h',tn i h->(∀b∈fp,∀o,h.get? b=some o->h'.get? b=some o)->tn i h'
 item:∀(X:Cx),X.prog=P->X.w=w->X.K=K->X.calm=true->∀(i:Nat)(Mv:List (Addr×Obj))(s:Shared)(σ:St)(H:Hp)(E:Value->Shared->Prop),Inv X Mv σ H s->(∀b∈fp,df X Mv H b)->tn i s.heap->J.go i H ->
  wpAny (model P w) X.A (pyNext (.ref it)) (fun r s1=>∃u,r=some u /\
   wpAny (model P w) X.A (letOwnedTupleGo tg (.ref it) u) (fun _ s2=>∃x H',Inv X Mv σ H' s2/\RelV x u/\J.yld i H x H'/\tn (i+1) s2.heap/\∀b∈fp,H' b=none) E s1) E s
 done:∀(X:Cx),X.prog=P->X.w=w->X.K=K->X.calm=true->∀(i:Nat)(Mv:List (Addr×Obj))(s:Shared)(σ:St)(H:Hp)(E:Value->Shared->Prop),Inv X Mv σ H s->(∀b∈fp,df X Mv H b)->tn i s.heap->J.stop i H ->
  wpAny (model P w) X.A (pyNext (.ref it)) (fun r s1=>r=none/\Inv X Mv σ H s1) E s
 self:∀(A:Around)(i:Nat)(s:Shared)(Q:Value->Shared->Prop)(E:Value->Shared->Prop),tn i s.heap->Q (.ref it) s->wpAny (model P w) A (pyIter (.ref it)) Q E s
abbrev TI:=St->Hp->(It->Hp->Prop)->Prop
def F3(X:Cx)(Mv:List (Addr×Obj))(σ:St)(tg:Expr)(R:It->Hp->Prop)(itv:Value)(s2:Shared):Prop :=
 ∃(it:Addr)(fp:List Addr)(tn:Nat->Heap->Prop)(J:It)(H':Hp),itv=.ref it/\Inv X Mv σ H' s2/\jv X.prog X.w X.K tg J fp it tn/\tn 0 s2.heap/\(∀b∈fp,df X Mv H' b)/\R J H'
def PI(X:Cx)(tg iter:Expr)(wi:TI):Prop :=
 ∀(Mv:List (Addr×Obj))(s:Shared)(σ:St)(H:Hp)(R:It->Hp->Prop),Inv X Mv σ H s->wi σ H R ->
  wpAny (model X.prog X.w) X.A (eval iter X.env) (fun v s1=>wpAny (model X.prog X.w) X.A (pyIter v) (F3 X Mv σ tg R) X.xe s1) X.xe s
theorem mH{M:Model}{A:Around}{E:Value->Shared->Prop}{s:Shared}{tg:Expr}{it:Addr}{u:Value}{o:Obj}{n:String}{vs:Array Value}{Q:Unit->Shared->Prop}(ho:s.heap.get? it=some o)(hc:o.cls=.type n)(hd:o.data=.fields vs)
  (hn:["enumerate","zip","dict_itemiterator","dict_reverseitemiterator","odict_iterator","itertools.zip_longest","itertools.pairwise"].contains n=false) (hQ:Q () s):wpAny M A (letOwnedTupleGo tg (.ref it) u) Q E s:=by
 unfold letOwnedTupleGo;cases tg<;>first
  |exact yJ hQ
  | (cases u <;> first
    |exact yJ hQ
    | (refine yI (wpAny_load ho ?_)
       rw[hc,hd];show wpAny M A (if(["enumerate","zip","dict_itemiterator","dict_reverseitemiterator","odict_iterator","itertools.zip_longest","itertools.pairwise"].contains n&&vs[0]?==some (rawInt _))=true then _ else _) Q E s;rw[yK (by intro h;rw[hn,Bool.false_and]at h;cases h)];exact yJ hQ))
noncomputable def Bc(K:Frag)(a:Addr):It :=
 ⟨fun i H=>∃xs x,bw K H a xs/\xs[i]?=some x,fun i H x H'=>H'=H/\∀xs,bw K H a xs->xs[i]?=some x,fun i H=>∃xs,bw K H a xs/\xs.length<=i⟩
noncomputable def Ba(K:Frag)(a:Addr):It :=
 ⟨fun i H=>∃xs x,fH K H a xs/\xs[i]?=some x,fun i H x H'=>H'=H/\∀xs,fH K H a xs->xs[i]?=some x,fun i H=>∃xs,fH K H a xs/\xs.length<=i⟩
noncomputable def wZ(lo:Int)(n:Nat):It:=⟨fun i _=>i<n,fun i H x H'=>H'=H/\x=.int (lo+i),fun i _=>n<=i⟩
theorem vh{P:Program}{w:World}{K:Frag}{tg:Expr}(a it:Addr):jv P w K tg (Bc K a) [it] it (fun i h=>h.IsListIter it a i) where
 mem:=by simp
 obj:=fun i h st b hb=>by
  have e:b=it:=by simpa using hb
  subst e;obtain⟨o,e,c,d⟩:=st;exact⟨o,e,fun v z=>by rw[d]at z;cases z⟩
 keep:=fun i h h' st k=>st.at fun o e=>k it (by simp) o e
 item:=by
  intro X hP hw hK hc i Mv s σ H E I hf st hg;subst hP hw hK;obtain⟨xs,x,hq,hx⟩:=hg;obtain⟨Mz,rv,p,hz⟩:=I.list hq;obtain⟨u,hu,ru⟩:=rv.get hx;obtain⟨f0,f1,f2,f3,f4,f5⟩:=hf it (by simp);refine wpAny_pyNext_list_item st p.isList (x:=u) (by simpa using hu) fun h' st' sb=>?_
  have I1:Inv X Mv σ H { s with heap:=h' }:=I.turned (t':=s.toks) (fun b o hb e=>(sb.2 b hb).trans e) f0 f1 f3 f4 f5;obtain⟨o,e,c,d⟩:=id st';exact⟨u,rfl,mH (s:={ s with heap:=h' }) e c d dC ⟨x,H,I1,ru,⟨rfl,fun ys hy=>by rw[I.list_inj hy hq];exact hx⟩,st',fun b hb=>(hf b hb).1⟩⟩
 done:=by
  intro X hP hw hK hc i Mv s σ H E I hf st hg;subst hP hw hK;obtain⟨xs,hq,hx⟩:=hg;obtain⟨Mz,rv,p,hz⟩:=I.list hq;obtain⟨f0,f1,f2,f3,f4,f5⟩:=hf it (by simp);have hl:=rv.length;exact wpAny_pyNext_list_end (I.ok.hd hc) st p.isList (by simp;lia) fun h' eb=>⟨rfl,I.turned (t':=s.toks) (fun b o hb e=>eb b o hb e) f0 f1 f3 f4 f5⟩
 self:=fun _ _ _ _ _ st h=>wpAny_pyIter_listiter st h
theorem tx{P:Program}{w:World}{K:Frag}{tg:Expr}(a it:Addr):jv P w K tg (Ba K a) [it] it (fun i h=>h.IsTupleIter it a i) where
 mem:=by simp
 obj:=fun i h st b hb=>by
  have e:b=it:=by simpa using hb
  subst e;obtain⟨o,e,c,d⟩:=st;exact⟨o,e,fun v z=>by rw[d]at z;cases z⟩
 keep:=fun i h h' st k=>st.at fun o e=>k it (by simp) o e
 item:=by
  intro X hP hw hK hc i Mv s σ H E I hf st hg;subst hP hw hK;obtain ⟨xs,x,hq,hx⟩:=hg;obtain ⟨Mz,rv,p,hz⟩:=I.tuple hq;obtain ⟨u,hu,ru⟩:=rv.get hx;obtain ⟨f0,f1,f2,f3,f4,f5⟩:=hf it (by simp);refine wpAny_pyNext_tuple_item st (show s.heap.IsTuple a Mz.toArray from p) (x:=u) (by simpa using hu) fun h' st' sb=>?_
  have I1:Inv X Mv σ H { s with heap:=h' }:=I.turned (t':=s.toks) (fun b o hb e=>(sb.2 b hb).trans e) f0 f1 f3 f4 f5;obtain⟨o,e,c,d⟩:=id st';exact⟨u,rfl,mH (s:={ s with heap:=h' }) e c d dC ⟨x,H,I1,ru,⟨rfl,fun ys hy=>by rw[I.tuple_inj hy hq];exact hx⟩,st',fun b hb=>(hf b hb).1⟩⟩
 done:=by
  intro X hP hw hK hc i Mv s σ H E I hf st hg;subst hP hw hK;obtain ⟨xs,hq,hx⟩:=hg;obtain ⟨Mz,rv,p,hz⟩:=I.tuple hq;obtain ⟨f0,f1,f2,f3,f4,f5⟩:=hf it (by simp);have hl:=rv.length;exact wpAny_pyNext_tuple_end (I.ok.hd hc) st (show s.heap.IsTuple a Mz.toArray from p) (by simp;lia) fun h' eb=>⟨rfl,I.turned (t':=s.toks) (fun b o hb e=>eb b o hb e) f0 f1 f3 f4 f5⟩
 self:=fun _ _ _ _ _ st h=>wpAny_pyIter_tupleiter st h
theorem tz{P:Program}{w:World}{K:Frag}{tg:Expr}(it:Addr)(lo:Int)(n:Nat):jv P w K tg (wZ lo n) [it] it (fun i h=>IsRangeIter h it (lo+(i:Nat)*1) ((n:Int)-(i:Nat)) 1) where
 mem:=by simp
 obj:=fun i h st b hb=>by
  have e:b=it:=by simpa using hb
  subst e;exact⟨_,st,fun v z=>by
   have z':Data.fields _=Data.cell v:=z;cases z'⟩
 keep:=fun i h h' st k=>k it (by simp) _ st
 item:=by
  intro X hP hw hK hc i Mv s σ H E I hf st hg;subst hP hw hK;obtain⟨f0,f1,f2,f3,f4,f5⟩:=hf it (by simp);have W:=Walks.range (prog:=X.prog) (w:=X.w) (I.ok.hd hc) it lo 1 n;refine W.item i s _ _ hg st fun v h' tk hv st' kk=>?_
  obtain⟨t,rfl⟩:=hv;have I1:Inv X Mv σ H { s with heap:=h',toks:=tk }:=I.turned (fun b o hb e=>kk b o (by simpa using hb) e) f0 f1 f3 f4 f5;refine⟨_,rfl,mH (s:={ s with heap:=h',toks:=tk }) (n:="range_iterator") st' rfl rfl dC ⟨.int (lo+i),H,I1,⟨t,?_⟩,⟨rfl,rfl⟩,st',fun b hb=>(hf b hb).1⟩⟩;rw[Int.mul_one]
 done:=by
  intro X hP hw hK hc i Mv s σ H E I hf st hg;subst hP hw hK;obtain⟨f0,f1,f2,f3,f4,f5⟩:=hf it (by simp);exact wpAny_pyNext_range_end (I.ok.hd hc) st (by have:n<=i:=hg;lia) fun h' eb=>⟨rfl,I.turned (t':=s.toks) (fun b o hb e=>eb b o hb e) f0 f1 f3 f4 f5⟩
 self:=fun _ _ _ _ _ st h=>wpAny_pyIter_rangeiter st h
section
variable{X:Cx}{tg:Expr}
theorem pO{Mv:List (Addr×Obj)}{σ:St}{H:Hp}{s:Shared}{R:It->Hp->Prop}{E:Value->Shared->Prop}{lo hi:Int}{t u v:Tok}{tk:Nat}(I:Inv X Mv σ H s)(h1:-(2^62)<=lo)(h2:lo<2^62)(h3:-(2^62)<=hi)(h4:hi<2^62)
  (q:R (wZ lo (hi-lo).toNat) H):wpAny (model X.prog X.w) X.A (pyIter (.ref s.heap.objs.size)) (F3 X Mv σ tg R) E { s with heap:=s.heap.push { cls:=.type "range",data:=.fields #[.int lo t,.int hi u,.int 1 v] },toks:=tk }:=by
 refine wpAny_pyIter_range (IsRange.new ..) (small_one h1 h2 h3 h4) ?_;have I1:Inv X Mv σ H { s with heap:=s.heap.push { cls:=.type "range",data:=.fields #[.int lo t,.int hi u,.int 1 v] },toks:=tk }:=I.kept fun b o e=>zJ _ e
 refine⟨(s.heap.push { cls:=.type "range",data:=.fields #[.int lo t,.int hi u,.int 1 v] }).objs.size,[(s.heap.push { cls:=.type "range",data:=.fields #[.int lo t,.int hi u,.int 1 v] }).objs.size],_,_,H,rfl,
  I1.kept (t':=tk) fun b o e=>zJ _ e,tz _ lo (hi-lo).toNat,?_,fun b hb=>?_,q⟩
 ·have e1:lo+((0:Nat):Int)*1=lo:=by simp
  have e2:(((hi-lo).toNat:Nat):Int)-((0:Nat):Int)=Builtin.Range.rangeSize lo hi 1:=by rw[rangeSize_one];split<;>lia
  show IsRangeIter _ _ (lo+((0:Nat):Int)*1) ((((hi-lo).toNat:Nat):Int)-((0:Nat):Int)) 1;rw[e1,e2];exact z6 _ rfl
 ·have e:b=(s.heap.push { cls:=.type "range",data:=.fields #[.int lo t,.int hi u,.int 1 v] }).objs.size:=by simpa using hb
  subst e;exact I1.fpOk (zS _) (I1.MD.fresh (zS _))
def Hj(ta:TA):TI:=fun σ H R=>ta σ H fun vs H1=>∃j:Int,vs=[.int j]/\-(2^62)<=j/\j<2^62/\R (wZ 0 j.toNat) H1
def Hi(ta:TA):TI:=fun σ H R=>ta σ H fun vs H1=>∃i j:Int,vs=[.int i,.int j]/\(-(2^62)<=i/\i<2^62/\-(2^62)<=j/\j<2^62)/\R (wZ i (j-i).toNat) H1
theorem vP{a:Expr}{ta:TA}{p pos:Pos}(hg:Gl X "range")(hm:X.mg "range"=none)(ha:PA X [a] ta)(hs:starEach [a] X.env=[(false,eval a X.env)]:=by rfl):PI X tg (.Call (.Name "range" p) [a] [] pos) (Hj ta):=by
 intro Mv s σ H R I h;refine Call_ (c6 I hg hm boot_range (PyProof.Rows.callWith_type1 (ax (ha pos Mv s σ H _ I h) fun us s1 hq0=>?_) hs rfl));obtain⟨vs,H1,I1,r1,q1⟩:=hq0;obtain⟨j,e,q1,q2,q⟩:=q1;subst e;cases r1 with
 |cons r rr =>
  cases rr;obtain⟨t,rfl⟩:=r;exact call_range_1 (pO I1 oM oM q1 q2 (by simpa using q))
theorem vN{a b:Expr}{ta:TA}{p pos:Pos}(hg:Gl X "range")(hm:X.mg "range"=none)(ha:PA X [a,b] ta)(hs:starEach [a,b] X.env=[(false,eval a X.env),(false,eval b X.env)]:=by rfl)(hs2:starEach [b] X.env=[(false,eval b X.env)]:=by rfl) :
  PI X tg (.Call (.Name "range" p) [a,b] [] pos) (Hi ta):=by
 intro Mv s σ H R I h;refine Call_ (c6 I hg hm boot_range (PyProof.Rows.callWith_type1 (ax (ha pos Mv s σ H _ I h) fun us s1 ⟨vs,H1,I1,r1,q1⟩=>?_) (by rw[hs,hs2]) (by rw[hs2];rfl)));obtain⟨i,j,e,⟨q1,q2,q3,q4⟩,q⟩:=q1;subst e;cases r1 with
 |cons r rr =>
  cases rr with
  |cons r' rr =>
   cases rr;obtain⟨t,rfl⟩:=r;obtain⟨t',rfl⟩:=r';exact call_range_2 (pO I1 q1 q2 q3 q4 q)
def Jw(wi:TI)(g:TG)(tb:TS):TS:=fun D σ H=>wi σ H fun J H1=>∃W:Nat->Nat->St->Hp->Prop,(∃m,W 0 m σ H1)/\∀i m σ H,W i m σ H ->
 (J.stop i H/\D.nx σ H)\/(J.go i H/\∃N:St->Hp->Prop,(∀σ' H',N σ' H'->∃m',m'<m/\W (i+1) m' σ' H')/\∀x H',J.yld i H x H'->g x σ H' fun σ2 H2=>tb { D with nx:=N,ct:=N,bk:=D.nx } σ2 H2)
noncomputable def fi(fp:List Addr)(h:Heap):List (Addr×Obj):=fp.filterMap fun b=>(h.get? b).map fun o=>(b,o)
theorem cP{fp:List Addr}{h:Heap}{b:Addr}{o:Obj}(hb:b∈fp)(e:h.get? b=some o):(b,o)∈fi fp h:=List.mem_filterMap.mpr ⟨b,hb,by rw[e];rfl⟩
theorem vU{fp:List Addr}{h:Heap}{p:Addr×Obj}(hp:p∈fi fp h):p.1∈fp/\h.get? p.1=some p.2:=by
 obtain⟨b,hb,e⟩:=List.mem_filterMap.mp hp;cases q:h.get? b with
 |none=>rw[q]at e;cases e
 |some o =>
  rw[q]at e;have e':(b,o)=p:=yH e;subst e';exact⟨hb,q⟩
theorem Inv.pinned{Mv:List (Addr×Obj)}{σ:St}{H:Hp}{s:Shared}{fp:List Addr}(I:Inv X Mv σ H s)(hf:∀b∈fp,df X Mv H b)(ho:∀b∈fp,∃o,s.heap.get? b=some o/\∀v,o.data≠.cell v):Inv X (Mv++fi fp s.heap) σ H s :=
 I.pins_of fun p hp=>(z7.mp hp).elim (fun z=>I.pin p (zN _ z)) fun z=>by
  obtain⟨hb,e⟩:=vU z;obtain⟨f0,f1,f2,_⟩:=hf p.1 hb;obtain⟨o,e',d⟩:=ho p.1 hb;rw[e]at e';cases e';exact⟨e,f0,f1,f2,d⟩
theorem Inv.unpinned{Mv pl:List (Addr×Obj)}{σ:St}{H:Hp}{s:Shared}(I:Inv X (Mv++pl) σ H s):Inv X Mv σ H s:=I.pins_of fun p hp=>I.pin p (zN _ (zO _ hp))
theorem vJ{iter:Expr}{body:List Stmt}{wi:TI}{g:TG}{tb:TS}{pos:Pos}(hp:PassesOwn (model X.prog X.w) X.A X.env X.xe)(hc:X.calm=true)(hi:PI X tg iter wi)(hg:PG X tg g)(hb:PSs X body tb)
  (hs:∀x,foldedSetIterable iter X.env x=pure x:=by intro _;rfl):PS X (.For tg iter body [] pos) (Jw wi g tb):=by
 intro Mv s σ H D I h;refine wpAny_For (ax (hi Mv s σ H _ I h) fun v s1 h1=>ax h1 fun itv s2 h2=>?_) hs;obtain⟨it,fp,tn,J,H2,e,I2,T,st2,f2,W,⟨m0,w0⟩,turn⟩:=h2;subst e
 -- what stays true of the iterator's objects through the loop
 have stat:∀{H':Hp},(∀b∈fp,H' b=none)->∀b∈fp,df X Mv H' b:=fun hn b hb=>⟨hn b hb,(f2 b hb).2⟩
 refine codeAny_forLoop_any (fun n s'=>∃i σ' H',Inv X Mv σ' H' s'/\tn i s'.heap/\(∀b∈fp,H' b=none)/\W i n σ' H') ?_ m0 ⟨0,σ,H2,I2,st2,fun b hb=>(f2 b hb).1,w0⟩;rintro n s3 ⟨i,σ3,H3,I3,st3,fr3,w3⟩;rcases turn i n σ3 H3 w3 with⟨stop,qn⟩|⟨go,N,hN,step⟩
 ·refine wpAny_passesOwn hp (ax (T.done X rfl rfl rfl hc i Mv s3 σ3 H3 X.xe I3 (stat fr3) st3 stop) fun r s4 hq0=>?_)
  obtain⟨hr,I4⟩:=hq0;subst hr;exact wpAny_execs_nil ⟨σ3,H3,I4,qn⟩
 ·refine wpAny_passesOwn hp (ax (T.item X rfl rfl rfl hc i Mv s3 σ3 H3 X.xe I3 (stat fr3) st3 go) fun r s4 hq0=>?_)
  obtain⟨u,hr,h4⟩:=hq0;subst hr;refine wpAny_passesOwn hp (ax h4 fun _ s5 hq0=>?_);obtain⟨x,H5,I5,r5,y5,st5,fr5⟩:=hq0;have I5':=I5.pinned (stat fr5) (T.obj _ _ st5);refine wpAny_passesOwn hp (ax (hg _ s5 σ3 H5 x u _ I5' r5 (step x H5 y5)) fun _ s6 hq0=>?_);obtain⟨σ6,H6,I6,q6⟩:=hq0;refine wpAny_passesOwn hp (ax (hb _ s6 σ6 H6 _ I6 q6) fun f s7 q7=>?_);have again:∀{σ7:St}{H7:Hp},Inv X (Mv++fi fp s5.heap) σ7 H7 s7->N σ7 H7->∃m,m<n/\∃i σ' H',Inv X Mv σ' H' s7/\tn i s7.heap/\(∀b∈fp,H' b=none)/\W i m σ' H':=fun {σ7 H7} I7 n7=>by
   obtain⟨m',hm,w7⟩:=hN σ7 H7 n7;refine⟨m',hm,i+1,σ7,H7,I7.unpinned,T.keep _ _ _ st5 fun b hb o e=>(I7.pin (b,o) (zN _ (zN _ (cP hb e)))).1,fun b hb=>?_,w7⟩;obtain⟨o,e,d⟩:=T.obj _ _ st5 b hb;exact(I7.pin (b,o) (zN _ (zN _ (cP hb e)))).2.1
  cases f with
  |next=>obtain⟨σ7,H7,I7,n7⟩:=q7;exact again I7 n7
  |cont=>obtain⟨σ7,H7,I7,n7⟩:=q7;exact again I7 n7
  |brk=>obtain⟨σ7,H7,I7,q7⟩:=q7;exact⟨σ7,H7,I7.unpinned,q7⟩
  |ret v=>obtain⟨x7,σ7,H7,I7,r7,q7⟩:=q7;exact⟨x7,σ7,H7,I7.unpinned,r7,q7⟩
end
abbrev R2:=V->V->Hp->VK->Prop
def j3(X:Cx)(f:Value->Value->Sem Value)(r:R2):Prop :=
 ∀(Mv:List (Addr×Obj))(s:Shared)(σ:St)(H:Hp)(x y:V)(v u:Value)(Q:VK),Inv X Mv σ H s->RelV x v->RelV y u->r x y H Q ->
  wpAny (model X.prog X.w) X.A (f v u) (EP X Mv σ Q) X.xe s
def wV(X:Cx)(f:Value->Sem Value)(r:V->Hp->VK->Prop):Prop :=
 ∀(Mv:List (Addr×Obj))(s:Shared)(σ:St)(H:Hp)(x:V)(v:Value)(Q:VK),Inv X Mv σ H s->RelV x v->r x H Q ->
  wpAny (model X.prog X.w) X.A (f v) (EP X Mv σ Q) X.xe s
def cw(X:Cx)(f:Value)(r:List V->Hp->VK->Prop):Prop :=
 ∀(Mv:List (Addr×Obj))(s:Shared)(σ:St)(H:Hp)(xs:List V)(us:List Value)(Q:VK),Inv X Mv σ H s->Vals xs us->r xs H Q ->
  wpAny (model X.prog X.w) X.A (call f us) (EP X Mv σ Q) X.xe s
def Kb(X:Cx)(r:V->Hp->(Bool->Hp->Prop)->Prop):Prop :=
 ∀(Mv:List (Addr×Obj))(s:Shared)(σ:St)(H:Hp)(x:V)(v:Value)(Q:Bool->Hp->Prop),Inv X Mv σ H s->RelV x v->r x H Q ->
  wpAny (model X.prog X.w) X.A (truthy v) (TP X Mv σ Q) X.xe s
noncomputable def vq(r:R2)(ta tb:TE):TE:=fun σ H Q=>ta σ H fun x H1=>tb σ H1 fun y H2=>r x y H2 Q
def Ii(r:V->Hp->VK->Prop)(ta:TE):TE:=fun σ H Q=>ta σ H fun x H1=>r x H1 Q
def rU(g:Int->V):V->Hp->VK->Prop:=fun x H Q=>∃i,x=.int i/\Q (g i) H
section
variable{X:Cx}{a b c:Expr}{ta tb tc:TE}{pos:Pos}
theorem zx(ha:PE X a ta)(hb:PE X b tb){Mv:List (Addr×Obj)}{s:Shared}{σ:St}{H:Hp}{R:V->V->Hp->Prop}(I:Inv X Mv σ H s)
  (h:ta σ H fun x H1=>tb σ H1 fun y H2=>R x y H2) {Q:Value->Shared->Prop}{f:Value->Value->Sem Value}
  (hf:∀v u s2 x y H2,Inv X Mv σ H2 s2->RelV x v->RelV y u->R x y H2->wpAny (model X.prog X.w) X.A (f v u) Q X.xe s2) :
  wpAny (model X.prog X.w) X.A (eval a X.env) (fun v s₁=>wpAny (model X.prog X.w) X.A (eval b X.env) (fun u s₂=>wpAny (model X.prog X.w) X.A (f v u) Q X.xe s₂) X.xe s₁) X.xe s:=by
 refine ax (ha Mv s σ H _ I h) fun v s1 hq0=>?_
 obtain⟨x,H1,I1,r1,q1⟩:=hq0;refine ax (hb Mv s1 σ H1 _ I1 q1) fun u s2 hq0=>?_
 obtain⟨y,H2,I2,r2,q2⟩:=hq0;exact hf v u s2 x y H2 I2 r1 r2 q2
theorem tT{op:Operator}{r:R2}(ho:j3 X (binaryOp op) r)(ha:PE X a ta)(hb:PE X b tb):PE X (.BinOp a op b pos) (vq r ta tb):=by
 intro Mv s σ H Q I h;exact wpAny_BinOp (zx ha hb I h fun v u s2 x y H2 I2 rx ry q=>ho Mv s2 σ H2 x y v u Q I2 rx ry q)
theorem GT{op:UnaryOp}{r:V->Hp->VK->Prop}(ho:wV X (unaryOp op) r)(ha:PE X a ta):PE X (.UnaryOp op a pos) (Ii r ta):=by
 intro Mv s σ H Q I h;exact UnaryOp_ (ax (ha Mv s σ H _ I h) fun v s1 ⟨x,H1,I1,r1,q1⟩=>ho Mv s1 σ H1 x v Q I1 r1 q1)
def Kd(i j:Int):Prop:=0<=j/\j<=1000000/\i.natAbs<2^64
theorem tf(k:Nat):(0:Int)<=2^k:=by
 rw[two_pow_cast];exact Int.natCast_nonneg _
theorem Ih{f:Value->Sem Value}{g:Int->Int}
  (rule:∀(i:Int)(t:Tok)(s:Shared)(Q:Value->Shared->Prop)(E:Value->Shared->Prop),Q (.int (g i) s.toks) { s with toks:=s.toks+1 }->wpAny (model X.prog X.w) X.A (f (.int i t)) Q E s) :
  wV X f (rU fun i=>.int (g i)):=by
 intro Mv s σ H x v Q I rx h;obtain⟨i,rfl,q⟩:=h;obtain⟨t,rfl⟩:=rx;exact rule i t s _ _ ⟨.int (g i),H,I.tok _,⟨_,rfl⟩,q⟩
theorem CZ:wV X (unaryOp .USub) (rU fun i=>.int (-i)):=Ih fun _ _ _ _ _ q=>neg_int q
theorem C1:wV X (unaryOp .Invert) (rU fun i=>.int (Builtin.bitNot i)):=Ih fun _ _ _ _ _ q=>invert_int q
end
section
variable{X:Cx}{a b c:Expr}{ta tb tc:TE}{pos:Pos}
theorem Cj{op:CmpOp}{r:R2}(ho:j3 X (compareOp op) r)(ha:PE X a ta)(hb:PE X b tb)(hm:behindInMarks op b=false):PE X (.Compare a [op] [b] pos) (vq r ta tb):=by
 intro Mv s σ H Q I h;exact wpAny_Compare1 (zx ha hb I h fun v u s2 x y H2 I2 rx ry q=>ho Mv s2 σ H2 x y v u Q I2 rx ry q) hm
noncomputable def Gk(t:TE):TT:=fun σ H Q=>t σ H fun x H'=>∃k,x=.bl k/\Q k H'
theorem BZ{op:CmpOp}{r:R2}(ho:j3 X (compareOp op) r)(ha:PE X a ta)(hb:PE X b tb)(hm:behindInMarks op b=false):PT X (.Compare a [op] [b] pos) (Gk (vq r ta tb)):=by
 intro Mv s σ H Q I h;refine wpAny_isTrue_Compare1 (ax (ha Mv s σ H _ I h) fun v s1 ⟨x,H1,I1,r1,q1⟩=>ax (hb Mv s1 σ H1 _ I1 q1) fun u s2 ⟨y,H2,I2,r2,q2⟩ =>
  ax (ho Mv s2 σ H2 x y v u _ I2 r1 r2 q2) fun c s3 ⟨z,H3,I3,r3,k,e,q3⟩=>?_) hm
 subst e;cases r3;exact wpAny_truthy_bool ⟨H3,I3,q3⟩
def Aa(K:Frag)(x:V)(H:Hp)(k:Bool):Prop :=
 match x with
 |.non=>k=false
 |.bl b=>k=b
 |.int i=>k=(i !=0)
 |.str y=>y.length<=sizeLine/\k=((y.length:Int) !=0)
 |.byt y=>y.size<=sizeLine/\k=((y.size:Int) !=0)
 |.ref p=>(∃xs,bw K H p xs/\k=!xs.isEmpty)\/(∃xs,fH K H p xs/\k=!xs.isEmpty)\/∃Mx,H p=some (.dK Mx)/\k=!Mx.isEmpty
 |_=>False
theorem ut{κ:Type}{Mx:List (κ×V)}{vs:List (κ×Value)}(r:KV Mx vs):(!vs.isEmpty)=!Mx.isEmpty:=by
 cases r<;>rfl
theorem my{xs:List V}{Mz:List Value}(r:Vals xs Mz):(!Mz.toArray.isEmpty)=!xs.isEmpty:=by
 cases r<;>simp
theorem f7:(sizeLine:Nat)<2^63:=by rw[sizeLine_eq];decide
theorem C3:Kb X (fun x H Q=>∃k,Aa X.K x H k/\Q k H):=by
 intro Mv s σ H x v Q I rx h;obtain⟨k,e,q⟩:=h;have hl:=f7;have hs:sizeLine=16777216:=sizeLine_eq;cases x with
 |non =>
  cases rx;have e':k=false:=e;subst e';exact truthy_none ⟨H,I,q⟩
 |bl b =>
  cases rx;have e':k=b:=e;subst e';exact wpAny_truthy_bool ⟨H,I,q⟩
 |int i =>
  obtain⟨t,rfl⟩:=rx;have e':k=(i !=0):=e;subst e';exact PySem.P.truthy_int ⟨H,I,q⟩
 |str y =>
  obtain⟨t,rfl⟩:=rx;obtain⟨hy,e'⟩:y.length<=sizeLine/\k=((y.length:Int) !=0):=e;subst e';exact PySem.P.truthy_str oM ⟨H,I.tok _,q⟩
 |byt y =>
  obtain⟨t,rfl⟩:=rx;obtain⟨hy,e'⟩:y.size<=sizeLine/\k=((y.size:Int) !=0):=e;subst e';exact truthy_bytes oM ⟨H,I.tok _,q⟩
 |ref p =>
  cases rx;have e':(∃xs,bw X.K H p xs/\k=!xs.isEmpty)\/(∃xs,fH X.K H p xs/\k=!xs.isEmpty)\/∃Mx,H p=some (.dK Mx)/\k=!Mx.isEmpty:=e;rcases e' with⟨xs,hx,e'⟩|⟨xs,hx,e'⟩|⟨Mx,hx,e'⟩
  ·subst e'
   obtain⟨Mz,r,pl,hz⟩:=I.list hx;have hlen:=r.length;exact wpAny_truthy_list pl.isList (by simp only[zL];lia) ⟨H,I.tok _,by rw[my r];exact q⟩
  ·subst e'
   obtain⟨Mz,r,pl,hz⟩:=I.tuple hx;have hlen:=r.length;exact truthy_tuple pl (by simp only[zL];lia) ⟨H,I.tok _,by rw[my r];exact q⟩
  ·subst e'
   obtain⟨hz,hS,vs,r,m⟩:Mx.length<=sizeLine/\(p==sysModules)=false/\∃vs,KV Mx vs/\s.heap.DictOf (bJ X.prog X.w) p vs:=I.MD p _ hx;have hlen:Mx.length=vs.length:=Paired.length r;exact wpAny_truthy_dict hS m oM ⟨H,I.tok _,by rw[ut r];exact q⟩
 | _=>exact (show False from e).elim
theorem xS(ha:PE X a ta)(he:∀whole,isTrue a X.env whole=(do let v <- whole;standAt a.pos;holding [v] (truthy v))) :
  PT X a (fun σ H Q=>ta σ H fun x H'=>∃k,Aa X.K x H' k/\Q k H'):=by
 intro Mv s σ H Q I h;exact isTrue_plain (ax (ha Mv s σ H _ I h) fun v s1 ⟨x,H1,I1,r1,q1⟩=>C3 Mv s1 σ H1 x v Q I1 r1 q1) (he _)
theorem tW:j3 X (binaryOp .Add) (fun x y H Q=>∃i j,x=.str i/\y=.str j/\i.length+j.length<=sizeLine/\Q (.str (i++j)) H):=by
 intro Mv s σ H x y v u Q I rx ry h;obtain⟨i,j,rfl,rfl,hz,q⟩:=h;obtain⟨t,rfl⟩:=rx;obtain⟨t',rfl⟩:=ry;exact add_str (fun t' tk=>⟨.str (i++j),H,I.tok _,⟨_,rfl⟩,q⟩) hz
theorem dO{x:V}{us:List Value}(r:Vals [x] us):∃u,us=[u]/\RelV x u:=by
 cases r with
 |cons r1 r2=>cases r2;exact⟨_,rfl,r1⟩
theorem Af{x y:V}{us:List Value}(r:Vals [x,y] us):∃u w',us=[u,w']/\RelV x u/\RelV y w':=by
 cases r with
 |cons r1 r2 =>
  cases r2 with
  |cons r3 r4=>cases r4;exact⟨_,_,rfl,r1,r3⟩
theorem zw:cw X (.builtin "abs") (fun xs H Q=>∃i,xs=[.int i]/\Q (.int (if i<0 then -i else i)) H):=by
 intro Mv s σ H xs us Q I r h;obtain⟨i,rfl,q⟩:=h;obtain⟨u,rfl,t,rfl⟩:=dO r;exact call_abs_int fun u tk=>⟨.int (if i<0 then -i else i),H,I.tok _,⟨_,rfl⟩,q⟩
theorem wN(hc:X.calm=true):cw X (.builtin "max") (fun xs H Q=>∃i j,xs=[.int i,.int j]/\Q (.int (if j > i then j else i)) H):=by
 intro Mv s σ H xs us Q I r h;obtain⟨i,j,rfl,q⟩:=h;obtain⟨u,w',rfl,⟨t,rfl⟩,⟨t',rfl⟩⟩:=Af r;refine max_two_ints (I.ok.hd hc) fun h' tk k=>⟨_,H,I.kept k,?_,q⟩
 by_cases hj:j > i
 ·rw[yL hj,yL hj];exact⟨_,rfl⟩
 ·rw[yK hj,yK hj];exact⟨_,rfl⟩
theorem wM(hc:X.calm=true):cw X (.builtin "min") (fun xs H Q=>∃i j,xs=[.int i,.int j]/\Q (.int (if j<i then j else i)) H):=by
 intro Mv s σ H xs us Q I r h;obtain⟨i,j,rfl,q⟩:=h;obtain⟨u,w',rfl,⟨t,rfl⟩,⟨t',rfl⟩⟩:=Af r;refine min_two_ints (I.ok.hd hc) fun h' tk k=>⟨_,H,I.kept k,?_,q⟩
 by_cases hj:j<i
 ·rw[yL hj,yL hj];exact⟨_,rfl⟩
 ·rw[yK hj,yK hj];exact⟨_,rfl⟩
theorem wP:cw X (.type "int") (fun xs H Q=>(∃i,xs=[.int i]/\Q (.int i) H)\/∃k,xs=[.bl k]/\Q (.int (if k then 1 else 0)) H):=by
 intro Mv s σ H xs us Q I r h;rcases h with⟨i,rfl,q⟩|⟨k,rfl,q⟩
 ·obtain⟨u,rfl,t,rfl⟩:=dO r
  exact call_int_int ⟨.int i,H,I,⟨_,rfl⟩,q⟩
 ·obtain⟨u,rfl,r1⟩:=dO r
  cases r1;exact call_int_bool ⟨.int (if k then 1 else 0),H,I.tok _,⟨_,rfl⟩,q⟩
end
structure ObjM(h:Heap)(x dx C:Addr)(mA:Str->Option Value):Prop where
 obj:h.get? x=some (instObj C dx)
 ns:h.Ns1 dx mA
 ne:dx≠x
theorem wa{h:Heap}{dx:Addr}{mA:Str->Option Value}(n:h.Ns1 dx mA):∃od,h.get? dx=some od/\∀name,lookIn name od=some (mA name):=by
 obtain⟨o,es,ep,ho,hd,hk,_,hm⟩:=n;refine⟨o,ho,fun name=>?_⟩;have e:=hm name;unfold nsFind findBy at e;rw[<- Array.find?_toList]at e;unfold lookIn;rw[hd];dsimp only;split
 ·rename_i y q
  rw[q]at e;exact congrArg some e
 ·rename_i q
  rw[q]at e;have a:es.toList.any (·.refKey)=false:=by
   rw[List.any_eq_false];intro y hy;obtain⟨z,t,hkey⟩:=hk y (Array.mem_toList_iff.mp hy);simp[DictEntry.refKey,hkey]
  have a':¬es.toList.any (·.refKey)=true:=by rw[a];exact Bool.false_ne_true
  rw[yK a'];exact congrArg some e
theorem ObjM.look{h:Heap}{x dx C:Addr}{mA:Str->Option Value}(I:ObjM h x dx C mA):∃od,InstAt h x (instObj C dx) C (some od)/\∀name,lookIn name od=some (mA name) :=
 let⟨od,ho,hl⟩:=wa I.ns
 ⟨od,⟨I.obj,rfl,rfl,ho⟩,hl⟩
section
variable{prog:Program}{w:World}{A:Around}{E:Value->Shared->Prop}{s:Shared}{K:Frag}{x dx C f:Addr}{mA:Str->Option Value}{name:Str}{v:Value}
theorem CD{expr:Bool}{Q:Value->Shared->Prop}(X:K.In s.heap)(I:ObjM s.heap x dx C mA)(hg:plainGet K C name=true)(hh:hasDictIn K C=true)
  (ha:findIn K (.ref C) name=some none) (hv:mA name=some v) (hv':handedIn v=true) (h:Q v { s with toks:=s.toks+1 }) :
  wpAny (model prog w) A (getAttr (.ref x) name expr) Q E s:=by
 obtain⟨od,J,hl⟩:=I.look;exact get_value X J (plainGet_of hg).1 (findObj_own hh ha rfl (by rw[hl,hv])) hv' h
theorem zg{pl:Sem Bool}{Q:Value×List Value->Shared->Prop}(X:K.In s.heap)(I:ObjM s.heap x dx C mA)(hg:plainGet K C name=true)
  (hf:findIn K (.ref C) name=some (some (.ref f))) (ht:isFn K (.ref f)=true) (hv:mA name=none) (h:Q (.ref f,[.ref x]) s) :
  wpAny (model prog w) A (getMethod (.ref x) name pl) Q E s:=by
 obtain⟨od,J,hl⟩:=I.look;exact method_fn X J (plainGet_of hg).1 (plainGet_of hg).2 hf (beq_iff_eq.mp ht) (by show(lookIn name od).map (·.isSome)=some false;rw[hl,hv];rfl) h
theorem BC{ns:List Str}{Q:Unit->Shared->Prop}(X:K.In s.heap)(I:ObjM s.heap x dx C mA)
  (hs:findIn K (.ref C) "__setattr__"=some (some (.builtin "object.__setattr__"))) (hp:plainOver K C=true) (ht:takerIn K C name=some none) (hh:hasDictIn K C=true)
  (hw:PySem.Within mA ns) (hsz:ns.length<=sizeLine)
  (h:∀h',ObjM h' x dx C (fun y=>if y=name then some v else mA y)->Heap.SameBut dx s.heap h'->Q () { s with heap:=h',toks:=s.toks+2 }) :
  wpAny (model prog w) A (setAttr (.ref x) name v) Q E s:=by
 obtain⟨od,J,hl⟩:=I.look;refine set_plain X J hs (osa_open (s:={ s with toks:=s.toks+1 }) (r:=none) X J hp ht fun b=>?_);obtain⟨cd,hc,hd'⟩:=any_some hh;have hx:s.heap.get? x=some ⟨.ref C,some dx,.plain,#[]⟩:=I.obj;refine yI (yJ (yI (yI (wpAny_loadPart hx (yI (PySem.W.Looks.here (s:={ s with toks:=s.toks+1 }) (looks_clsIn X hc) ?_))))));rw[hd'];refine yJ (a:=some dx) (yI (yJ (yI ?_)));refine wpAny_nsSet1 (s:={ s with toks:=s.toks+1 }) I.ns fun h' hn2 hs2=>?_
 obtain⟨oD,esD,epD,hoD,hdD,hcD⟩:=hn2.count (PySem.Within.cons name v hw);refine yI (wpAny_lookBehind hoD (by rw[hdD];exact pastItsLine_dict (z9 hcD (by rw[xB];lia))) ?_);exact yJ (h _ ⟨(hs2.2 _ (Ne.symm I.ne)).trans I.obj,hn2,I.ne⟩ hs2)
theorem yq{R:Result->Shared->Prop}{vs:List Value}{kw:List (Str×Value)}(X:K.In s.heap)(hm:makesIn K C=true)
  (hi:findIn K (.ref C) "__init__"=some (some (.ref f))) (hf:typeIn K (.ref f)=some (.type "function"))
  (h:codeAny (model prog w) (A.under (.builtin "type.__call__" ⟨.ref C::vs,kw⟩)) (.call (.ref f) ⟨.ref (s.heap.objs.size+1)::vs,kw⟩) (InitBack (s.heap.objs.size+1) R)
   { s with heap:=(s.heap.push emptyDict).push (instObj C s.heap.objs.size) }) :
  codeAny (model prog w) A (.call (.ref C) ⟨vs,kw⟩) R s:=by
 obtain⟨hh,g,d,t,os⟩:=s;exact make_core (makes_of X hm) (looks_findIn X hi) (fun self=>bind_fn X self hf) (.inl rfl) h
end
noncomputable def dq(f:Str)(v:V):List (Str×V)->List (Str×V)
 |[]=>[(f,v)]
 |(g,x)::r=>if g=f then(g,v)::r else(g,x)::dq f v r
theorem kF(f g:Str)(v:V):∀fs:List (Str×V),(dq f v fs).lookup g=if g=f then some v else fs.lookup g
 |[]=>by
  show List.lookup g [(f,v)]=_;by_cases h:g=f
  ·have hb:(g==f)=true:=beq_iff_eq.mpr h
   simp only[List.lookup,hb,yL h]
  ·have hb:(g==f)=false:=beq_eq_false_iff_ne.mpr h
   simp only[List.lookup,hb,yK h]
 |(k,x)::r=>by
  have ih:=kF f g v r;rw[show dq f v ((k,x)::r)=(if k=f then(k,v)::r else(k,x)::dq f v r) from rfl];by_cases hk:k=f
  ·rw[yL hk]
   by_cases h:g=k
   ·have hb:(g==k)=true:=beq_iff_eq.mpr h
    simp only[List.lookup,hb,yL (h.trans hk)]
   ·have hb:(g==k)=false:=beq_eq_false_iff_ne.mpr h
    simp only[List.lookup,hb,yK (fun e:g=f=>h (e.trans hk.symm))]
  ·rw[yK hk]
   by_cases h:g=k
   ·have hb:(g==k)=true:=beq_iff_eq.mpr h
    simp only[List.lookup,hb,yK (fun e:g=f=>hk (h.symm.trans e))]
   ·have hb:(g==k)=false:=beq_eq_false_iff_ne.mpr h
    simp only[List.lookup,hb];exact ih
theorem jK(f:Str)(v:V):∀fs:List (Str×V),f∈(dq f v fs).map (·.1)/\∀g,g∈fs.map (·.1)->g∈(dq f v fs).map (·.1)
 |[]=>⟨by simp[dq],fun g h=>by simp at h⟩
 |(k,x)::r=>by
  obtain⟨i1,i2⟩:=jK f v r;rw[show dq f v ((k,x)::r)=(if k=f then(k,v)::r else(k,x)::dq f v r) from rfl];by_cases hk:k=f
  ·rw[yL hk]
   subst hk;exact⟨by simp,fun g h=>by simpa using h⟩
  ·rw[yK hk]
   refine⟨?_,fun g h=>?_⟩
   ·rw[zR]
    exact zT _ i1
   ·rw[zR]at h ⊢
    rcases zW.mp h with e|e
    ·exact zW.mpr (.inl e)
    ·exact zT _ (i2 g e)
theorem kI(f:Str)(v:V):∀fs:List (Str×V),(dq f v fs).length<=fs.length+1
 |[]=>by simp[dq]
 |(k,x)::r=>by
  have ih:=kI f v r;rw[show dq f v ((k,x)::r)=(if k=f then(k,v)::r else(k,x)::dq f v r) from rfl];by_cases hk:k=f
  ·rw[yL hk,xB,xB];lia
  ·rw[yK hk,xB,xB];lia
theorem RelO.some_of{v:V}{o:Option Value}(r:RelO (some v) o):∃u,o=some u/\RelV v u:=by
 cases o with
 | none=>exact (show False from r).elim
 |some u=>exact⟨u,rfl,r⟩
theorem RelO.none_of{o:Option Value}(r:RelO none o):o=none:=by
 cases o with
 |none=>rfl
 | some u=>exact (show False from r).elim
theorem wz{v:V}{u:Value}(r:RelV v u):handedIn u=true:=by
 cases v with
 | non=>cases (show u=Value.none from r);rfl
 | bl b=>cases (show u=Value.bool b from r);rfl
 | int i=>obtain ⟨t,e⟩:=(show ∃ t,u=Value.int i t from r);cases e;rfl
 | str x=>obtain ⟨t,e⟩:=(show ∃ t,u=Value.str x t from r);cases e;rfl
 | byt b=>obtain ⟨t,e⟩:=(show ∃ t,u=Value.bytes b t from r);cases e;rfl
 | flt b=>obtain ⟨t,e⟩:=(show ∃ t,u=Value.float b t from r);cases e;rfl
 | ref a=>cases (show u=Value.ref a from r);rfl
 | ty n=>cases (show u=Value.type n from r);rfl
section
variable{P:Program}{w:World}{H H':Hp}{h h':Heap}{a C dx:Addr}{fs fs':List (Str×V)}
theorem nU(MD:HOk P w H h)(e:H a=some (.ins C dx fs)):∃mA,ObjM h a dx C mA/\(∀f,RelO (fs.lookup f) (mA f))/\PySem.Within mA (fs.map (·.1))/\fs.length<=1000/\H dx=some (.own a):=by
 obtain ⟨d,z,ne,ob,mA,n,r,q⟩:=(show ObjOk P w H h a (.ins C dx fs) from MD a _ e);exact ⟨mA,⟨ob,n,ne⟩,r,q,z,d⟩
end
structure Cls(K:Frag)(C:Addr):Prop where
 pg:plainGet K C Str.empty=true
 hd:hasDictIn K C=true
 po:plainOver K C=true
 sa:findIn K (.ref C) "__setattr__"=some (some (.builtin "object.__setattr__"))
theorem Cls.get{K:Frag}{C:Addr}(c:Cls K C)(f:Str):plainGet K C f=true:=c.pg
def NoAttr(K:Frag)(C:Addr)(f:Str):Prop:=findIn K (.ref C) f=some none
theorem NoAttr.taker{K:Frag}{C:Addr}{f:Str}(n:NoAttr K C f):takerIn K C f=some none:=by
 unfold takerIn;rw[show findIn K (.ref C) f=some none from n];rfl
structure jw(K:Frag)(C:Addr)(m:Str)(f:Addr):Prop where
 at_:findIn K (.ref C) m=some (some (.ref f))
 fn:isFn K (.ref f)=true
 kp:keepIn K (.ref f)=true
section
variable{X:Cx}{Mv:List (Addr×Obj)}{σ:St}{H:Hp}{s:Shared}{a C dx:Addr}{fs:List (Str×V)}{f:Str}{v:V}{A:Around}{E:Value->Shared->Prop}
theorem uy{b:Bool}{Q:Value->Shared->Prop}(I:Inv X Mv σ H s)(e:H a=some (.ins C dx fs))(c:Cls X.K C)(n:NoAttr X.K C f)(l:fs.lookup f=some v)
  (h:∀u s',Inv X Mv σ H s'->RelV v u->Q u s'):wpAny (model X.prog X.w) A (getAttr (.ref a) f b) Q E s:=by
 obtain⟨mA,O,r,_,_,_⟩:=nU I.MD e;obtain⟨u,hu,ru⟩:=RelO.some_of (v:=v) (o:=mA f) (by rw[<- l];exact r f);exact CD I.kIn O (c.get f) c.hd n hu (wz ru) (h u _ (I.tok _) ru)
theorem jn{m:Str}{g:Addr}{pl:Sem Bool}{Q:Value×List Value->Shared->Prop}(I:Inv X Mv σ H s)(e:H a=some (.ins C dx fs))(c:Cls X.K C)(k:jw X.K C m g)(l:fs.lookup m=none)
  (h:Q (.ref g,[.ref a]) s):wpAny (model X.prog X.w) A (getMethod (.ref a) m pl) Q E s:=by
 obtain⟨mA,O,r,_,_,_⟩:=nU I.MD e;have hn:mA m=none:=RelO.none_of (by rw[<- l];exact r m);exact zg I.kIn O (c.get m) k.at_ k.fn hn h
theorem tL{y:V}{u:Value}{Q:Unit->Shared->Prop}(I:Inv X Mv σ H s)(e:H a=some (.ins C dx fs))(c:Cls X.K C)(n:NoAttr X.K C f)(hl:fs.length<1000)(ry:RelV y u)
  (h:∀s',Inv X Mv σ (ae H a (.ins C dx (dq f y fs))) s'->Q () s'):wpAny (model X.prog X.w) A (setAttr (.ref a) f u) Q E s:=by
 obtain⟨mA,O,r,wi,_,ho⟩:=nU I.MD e;have hz:(fs.map (·.1)).length<=sizeLine:=by rw[zK,sizeLine_eq];lia
 refine BC I.kIn O c.sa c.po n.taker c.hd wi hz fun h' O' sb=>h _ ?_
 have hd:∃o,h'.get? dx=some o:=let⟨o,_,_,e',_⟩:=O'.ns;⟨o,e'⟩;refine I.write (x:=a) (e:=dx) (by rw[e];exact True.intro) (.inr ho) (fun b q hb z=>(sb.2 b hb).trans z) hd ?_;refine⟨by rw[ad O.ne];exact ho,?_,O.ne,O'.obj,_,O'.ns,fun g=>?_,fun g hg=>?_⟩
 ·have:=kI f y fs;lia
 ·show RelO ((dq f y fs).lookup g) (if g=f then some u else mA g)
  rw[kF];by_cases q:g=f
  ·rw[yL q,yL q];exact ry
  ·rw[yK q,yK q];exact r g
 ·by_cases q:g=f
  ·rw[q];exact(jK f y fs).1
  ·refine(jK f y fs).2 g (wi g fun z=>hg ?_)
   show(if g=f then some u else mA g)=none;rw[yK q];exact z
theorem Inv.made(I:Inv X Mv σ H s):Inv X Mv σ (ae (ae H s.heap.objs.size (.own (s.heap.objs.size+1))) (s.heap.objs.size+1) (.ins C s.heap.objs.size []))
  { s with heap:=(s.heap.push emptyDict).push (instObj C s.heap.objs.size) }:=by
 have e1:(s.heap.push emptyDict).get? s.heap.objs.size=some emptyDict:=z6 s.heap rfl;have e2:((s.heap.push emptyDict).push (instObj C s.heap.objs.size)).get? (s.heap.objs.size+1)=some (instObj C s.heap.objs.size):=by
  have:=z6 (s.heap.push emptyDict) (o:=instObj C s.heap.objs.size) rfl
  rwa [Heap.size_push]at this
 have e3:(s.heap.push emptyDict).Ns s.heap.objs.size (fun _=>none):=⟨emptyDict,#[],_,e1,rfl,(fun e he=>absurd he (by simp)),fun _=>rfl⟩;have I1:=I.laid (a:=s.heap.objs.size) (o:=.own (s.heap.objs.size+1)) (h':=s.heap.push emptyDict) (t':=s.toks) (fun b u q=>zJ _ q) (zS _) ⟨_,e1⟩;refine I1.laid (a:=s.heap.objs.size+1) (o:=.ins C s.heap.objs.size []) (t':=s.toks) (fun b u q=>zJ _ q) (Nat.le_of_eq (Heap.size_push _ _)) ?_;have ne:s.heap.objs.size≠s.heap.objs.size+1:=zX (Nat.lt_succ_self _);refine⟨by rw[ad ne,aq],Nat.zero_le _,ne,e2,fun _=>none,(Heap.Ns1.of_empty e3).at fun o q=>zJ _ q,fun _=>True.intro,fun y hy=>absurd rfl hy⟩
theorem CO{prog:Program}{w:World}{env:Env}{e:Expr}{f:Str}{pos:Pos}{s:Shared}{Q:Value->Shared->Prop}(hb:attributeBase e f env (eval e env)=eval e env)
  (h:wpAny (model prog w) A (eval e env) (fun o s₁=>wpAny (model prog w) A (getAttr o f true) Q E s₁) E s):wpAny (model prog w) A (eval (.Attribute e f pos) env) Q E s :=
 Attribute_any_ h (by rw[arm_eval_Attribute,hb])
end
def Jx(K:Frag)(ta:TE)(f:Str):TE:=fun σ H Q=>ta σ H fun x H1=>∃a C dx fs v,x=.ref a/\H1 a=some (.ins C dx fs)/\Cls K C/\NoAttr K C f/\fs.lookup f=some v/\Q v H1
def JC(K:Frag)(ta tv:TE)(f:Str):TS:=fun D σ H=>tv σ H fun y H1=>ta σ H1 fun x H2=>∃a C dx fs,x=.ref a/\H2 a=some (.ins C dx fs)/\Cls K C/\NoAttr K C f/\fs.length<1000 /\
 D.nx σ (ae H2 a (.ins C dx (dq f y fs)))
section
variable{X:Cx}{o e value:Expr}{f:Str}{pos pos' tpos:Pos}{ta tv:TE}
theorem EA(he:PE X e ta)(hb:attributeBase e f X.env (eval e X.env)=eval e X.env):PE X (.Attribute e f pos) (Jx X.K ta f):=by
 intro Mv s σ H Q I h;refine CO hb (ax (he Mv s σ H _ I h) fun u s1 hq0=>?_);obtain⟨x,H1,I1,rx,a,C,dx,fs,v,ex,ea,c,n,l,q⟩:=hq0;subst ex;obtain rfl:u=Value.ref a:=rx;exact uy I1 ea c n l fun u' s2 I2 ru=>⟨v,H1,I2,ru,q⟩
theorem Ej(ha:PE X o ta)(hv:PE X value tv)(hs:swapsWith value (some (.Attribute o f pos')) pos.line X.env=pure false):PS X (.Assign [.Attribute o f pos'] value pos) (JC X.K ta tv f):=by
 intro Mv s σ H D I h;refine plainObj_wpAny_Assign_Attribute (ax (hv Mv s σ H _ I h) fun u s1 ⟨y,H1,I1,ry,q⟩=>ax (ha Mv s1 σ H1 _ I1 q) fun ov s2 hq0=>?_) hs;obtain⟨x,H2,I2,rx,a,C,dx,fs,ex,ea,c,n,l,q2⟩:=hq0;subst ex;obtain rfl:ov=Value.ref a:=rx;exact tL I2 ea c n l ry fun s3 I3=>⟨σ,_,I3,q2⟩
theorem F9{pl:Sem Bool}{m:Str}{apos:Pos}{args:List Expr}{Mv:List (Addr×Obj)}{s:Shared}{σ:St}{H:Hp}{Q:Value->Shared->Prop}{te:TE}(he:PE X e te)(I:Inv X Mv σ H s)
  (h:te σ H fun x H1=>∃a C dx fs g,x=.ref a/\H1 a=some (.ins C dx fs)/\Cls X.K C/\jw X.K C m g/\fs.lookup m=none /\
   ∀s1,Inv X Mv σ H1 s1->wpAny (model X.prog X.w) X.A (callWith pos (.ref g) [.ref a] (backTo pos (starEach args X.env)) (backToKw pos (keywordEach [] X.env))) Q X.xe s1)
  (ht:eval (.Call (.Attribute e m apos) args [] pos) X.env=(do
   let ov <- eval e X.env
   standAt apos.atName
   let(f,first) <- holding [ov] (getMethod ov m pl)
   callWith pos f first (backTo pos (starEach args X.env)) (backToKw pos (keywordEach [] X.env)))) :
  wpAny (model X.prog X.w) X.A (eval (.Call (.Attribute e m apos) args [] pos) X.env) Q X.xe s:=by
 refine methodCall_KW (pl:=pl) (ax (he Mv s σ H _ I h) fun u s1 hq0=>?_) ht;obtain⟨x,H1,I1,rx,a,C,dx,fs,g,ex,ea,c,k,l,q⟩:=hq0;subst ex;obtain rfl:u=Value.ref a:=rx;exact jn I1 ea c k l (q s1 I1)
end
structure Room(k:Nat)(A:Around):Prop where
 hd:A.handled=none
 dp:A.depth+3*k+5<recursionLimit
 un:A.units+16*k+200<cLine
 gd:A.guards=some []
theorem Room.mono{j k:Nat}{A:Around}(r:Room k A)(h:j<=k):Room j A:=⟨r.hd,by have:=r.dp;lia,by have:=r.un;lia,r.gd⟩
theorem Room.deeper{k:Nat}{A:Around}(r:Room (k+1) A)(env:Env):Room k (A.deeper env) :=
 ⟨r.hd,by have:=r.dp;show A.depth+1+3*k+5<_;lia,by have:=r.un;show A.units+3+16*k+200<_;lia,r.gd⟩
theorem Room.in1{k:Nat}{A:Around}(r:Room (k+1) A):Room k A.in1 :=
 ⟨r.hd,by have:=r.dp;show A.depth+3*k+5<_;lia,by have:=r.un;show A.units+1+16*k+200<_;lia,r.gd⟩
theorem uh{A:Around}{C:Addr}{us:List Value}{kw:List (Str×Value)}:(A.under (.builtin "type.__call__" ⟨.ref C::us,kw⟩)).depth=A.depth+1:=by
 first|rfl|simp[Around.under,Code.weight,Code.isCreation,Code.isGuard,Code.isCaller,Code.frames,Code.isFrame,guardIds]
theorem ug{A:Around}{C:Addr}{us:List Value}{kw:List (Str×Value)}:(A.under (.builtin "type.__call__" ⟨.ref C::us,kw⟩)).units=A.units+1:=by
 first|rfl|simp[Around.under,Code.cUnits,Code.frames,Code.isFrame]
theorem rh{A:Around}{C:Addr}{us:List Value}{kw:List (Str×Value)}:(A.under (.builtin "type.__call__" ⟨.ref C::us,kw⟩)).guards=A.guards:=by
 first|rfl|simp[Around.under,Code.guards,Code.isGuard,guardIds,pushGuards]
theorem Room.make{k:Nat}{A:Around}(r:Room (k+1) A)(C:Addr)(us:List Value)(kw:List (Str×Value)):Room k (A.under (.builtin "type.__call__" ⟨.ref C::us,kw⟩)) :=
 ⟨r.hd,by have:=r.dp;rw[uh];lia,by have:=r.un;rw[ug];lia,by rw[rh];exact r.gd⟩
theorem Room.depth{k:Nat}{A:Around}(r:Room k A):A.depth<recursionLimit:=by have:=r.dp;lia
theorem Room.units{k:Nat}{A:Around}(r:Room k A):A.units+64<cLine:=by have:=r.un;lia
noncomputable def tG:TA:=fun _ H Q=>Q [] H
noncomputable def Ao(ta:TE)(tr:TA):TA:=fun σ H Q=>ta σ H fun x H1=>tr σ H1 fun xs H2=>Q (x::xs) H2
section
variable{X:Cx}{e:Expr}{es:List Expr}{te:TE}{t:TA}{pos:Pos}
theorem vS:PA X [] tG:=fun _ _ _ _ H Q I h=>Calls.spliced_nil ⟨[],H,I,.nil,h⟩
theorem rY(ha:PE X e te)(hr:PA X es t)(hs:starEach (e::es) X.env=(false,eval e X.env)::starEach es X.env:=by rfl):PA X (e::es) (Ao te t):=by
 intro pos Mv s σ H Q I h;rw[hs];show wpAny _ _ (spliced ((false,eval e X.env)::backTo pos (starEach es X.env))) _ _ s;refine Calls.spliced_cons (ax (ha Mv s σ H _ I h) fun u s1 hq0=>?_);obtain⟨x,H1,I1,r1,q1⟩:=hq0;exact ax (hr pos Mv s1 σ H1 _ I1 q1) fun us s2 ⟨xs,H2,I2,r2,q2⟩=>⟨x::xs,H2,I2,.cons r1 r2,q2⟩
def Jp(t:TA):TE:=fun σ H Q=>t σ H fun xs H1=>xs.length<=sizeLine/\∀p,H1 p=none->Q (.ref p) (ae H1 p (.tup xs))
def Ju(t:TA):TE:=fun σ H Q=>t σ H fun xs H1=>xs.length<=sizeLine/\∀p,H1 p=none->Q (.ref p) (ae H1 p (.lst xs))
theorem Es{x1}(h:PA X es t):PE X (.Tuple es x1 pos) (Jp t):=by
 intro Mv s σ H Q I hq;refine wpAny_Tuple_spliced (ax (h pos Mv s σ H _ I hq) fun us s1 ⟨xs,H1,I1,r,z,q⟩=>⟨by rw[<- r.length];exact z,?_⟩);have hf:H1 s1.heap.objs.size=none:=I1.MD.fresh (zS _);refine⟨.ref s1.heap.objs.size,ae H1 s1.heap.objs.size (.tup xs),I1.laid (t':=s1.toks) (fun b u e=>zJ _ e) (zS _) ?_,rfl,q _ hf⟩;exact⟨z,us,r,⟨_,z6 _ rfl,rfl,_,rfl⟩⟩
theorem vQ(h:PA X es t):PE X (.List es pos) (Ju t):=by
 intro Mv s σ H Q I hq;refine wpAny_List_spliced (ax (h pos Mv s σ H _ I hq) fun us s1 ⟨xs,H1,I1,r,z,q⟩=>⟨by rw[<- r.length];exact z,?_⟩);have hf:H1 s1.heap.objs.size=none:=I1.MD.fresh (zS _);refine⟨.ref s1.heap.objs.size,ae H1 s1.heap.objs.size (.lst xs),I1.laid (t':=s1.toks) (fun b u e=>zJ _ e) (zS _) ?_,rfl,q _ hf⟩;exact⟨z,us,0,r,z6 _ rfl⟩
end
abbrev Sp:=List V->Hp->VK->XK->Prop
abbrev j5:=List Env->Hp->Shared->XK->Value->Shared->Prop
structure Env0(P:Program)(w:World)(K:Frag)(mg:Str->Option Value)(base:Heap)(A:Around)(outer:List Env)(s:Shared)(H:Hp):Prop where
 frames:A.frames=some outer
 mod:Mod K mg base
 bs:∀b o,base.get? b=some o->s.heap.get? b=some o/\H b=none
 bsz:base.objs.size<=s.heap.objs.size
 funs:s.heap.FunFrames base outer
 frf:∀b∈iX outer,H b=none
 MD:HOk P w H s.heap
 bare:AllBare s.gens
def CE(outer:List Env)(P:Program)(w:World)(H:Hp)(s:Shared)(Q:VK)(u:Value)(s':Shared):Prop :=
 ∃v H',s'.os=s.os/\AllBare s'.gens/\Un (iX outer) [] H H' s.heap s'.heap/\HOk P w H' s'.heap/\RelV v u/\Q v H'
def CR(CX:j5)(outer:List Env)(P:Program)(w:World)(H:Hp)(s:Shared)(Q:VK)(E:XK)(r:Result)(s':Shared):Prop :=
 match r with
 |.ok (.ret u)=>CE outer P w H s Q u s'
 |.ok _=>False
 |.error e=>CX outer H s E e s'
structure FnOk(P:Program)(w:World)(K:Frag)(mg:Str->Option Value)(base:Heap)(CX:j5)(k:Nat)(f:Addr)(fd:FuncData)(ps:List Str)(sp:Sp):Prop where
 len:∀vs H Q E,sp vs H Q E->vs.length=ps.length
 run:∀(A:Around)(outer:List Env)(s:Shared)(H:Hp)(args:Args)(us:List Value)(vs:List V)(Q:VK)(E:XK),Room k A->Env0 P w K mg base A outer s H->BindsTo s fd args (ps.zip us)->Vals vs us->sp vs H Q E ->
  codeAny (model P w) A (.call (.ref f) args) (CR CX outer P w H s Q E) s
theorem FnOk.mono{P:Program}{w:World}{K:Frag}{mg:Str->Option Value}{base:Heap}{CX:j5}{j k:Nat}{f:Addr}{fd:FuncData}{ps:List Str}{sp:Sp}(F:FnOk P w K mg base CX j f fd ps sp)(h:j<=k) :
  FnOk P w K mg base CX k f fd ps sp:=⟨F.len,fun A outer s H args us vs Q E hr=>F.run A outer s H args us vs Q E (hr.mono h)⟩
theorem FnOk.imp{P:Program}{w:World}{K:Frag}{mg:Str->Option Value}{base:Heap}{CX:j5}{k:Nat}{f:Addr}{fd:FuncData}{ps:List Str}{sp sp':Sp}(F:FnOk P w K mg base CX k f fd ps sp)
  (h:∀vs H Q E,sp' vs H Q E->sp vs H Q E):FnOk P w K mg base CX k f fd ps sp' :=
 ⟨fun vs H Q E q=>F.len vs H Q E (h _ _ _ _ q),fun A outer s H args us vs Q E hr he hb hv hs=>F.run A outer s H args us vs Q E hr he hb hv (h _ _ _ _ hs)⟩
theorem Env0.make{P:Program}{w:World}{K:Frag}{mg:Str->Option Value}{base:Heap}{A:Around}{outer:List Env}{s:Shared}{H:Hp}(e:Env0 P w K mg base A outer s H)(C:Addr)(us:List Value)(kw:List (Str×Value)) :
  Env0 P w K mg base (A.under (.builtin "type.__call__" ⟨.ref C::us,kw⟩)) outer s H:=⟨by first|exact e.frames|(simpa [Around.under,Code.envs,Code.isFrame,pushEnvs] using e.frames),e.mod,e.bs,e.bsz,e.funs,e.frf,e.MD,e.bare⟩
section
variable{X:Cx}{Mv:List (Addr×Obj)}{σ:St}{H:Hp}{s s':Shared}
theorem Inv.env0(I:Inv X Mv σ H s):Env0 X.prog X.w X.K X.mg X.base X.A X.stack s H :=
 ⟨I.ok.frames,I.ok.mod,I.bs,z9 I.ok.bsz I.sz,I.stack,I.stkFree,I.MD,I.bare⟩
theorem Inv.after{Q:VK}{u:Value}(I:Inv X Mv σ H s)(h:CE X.stack X.prog X.w H s Q u s'):EP X Mv σ Q u s':=by
 obtain⟨v,H',os,bare,un,MD,r,q⟩:=h;obtain⟨hh,g,d,t,os'⟩:=s';obtain rfl:os'=s.os:=os;exact⟨v,H',I.call (h':=hh) (g':=g) (d':=d) (t':=t) (ch:=[]) un MD bare (fun b z=>absurd z (by simp)),r,q⟩
end
noncomputable def tI(sp:Sp)(dvs:List V)(E:XK)(t:TA):TE:=fun σ H Q=>t σ H fun vs H1=>sp (vs++dvs) H1 Q E
def tH(C:Addr)(m:Str)(sp:Sp)(dvs:List V)(E:XK)(ta:TE)(t:TA):TE:=fun σ H Q=>ta σ H fun x H1=>∃a dx fs,x=.ref a/\H1 a=some (.ins C dx fs)/\fs.lookup m=none /\
 t σ H1 fun vs H2=>sp (x::(vs++dvs)) H2 Q E
def An(C:Addr)(sp:Sp)(dvs:List V)(E:XK)(t:TA):TE:=fun σ H Q=>t σ H fun vs H1=>∀x dx,H1 x=none->H1 dx=none->dx≠x ->
 sp (.ref x::(vs++dvs)) (ae (ae H1 dx (.own x)) x (.ins C dx [])) (fun v H2=>v=.non/\Q (.ref x) H2) E
def Binds(K:Frag)(fd:FuncData)(ps:List Str)(ds:List Value):Prop :=
 ∀(s:Shared)(us:List Value),K.In s.heap->(us++ds).length=ps.length->BindsTo s fd ⟨us,[]⟩ (ps.zip (us++ds))
theorem Binds.all{K:Frag}{fd:FuncData}{ps:List Str}(h:∀us:List Value,us.length=ps.length->bindArgs fd ⟨us,[]⟩=pure (ps.zip us)):Binds K fd ps []:=fun s us _ hl=>by
 rw[List.append_nil]at hl ⊢;exact .of_eq (h us hl)
def gj(CX:j5)(X:Cx)(E:XK):Prop:=∀(Mv:List (Addr×Obj))(σ:St)(H:Hp)(s:Shared)(e:Value)(s':Shared),Inv X Mv σ H s->CX X.stack H s E e s'->X.xe e s'
section
variable{X:Cx}{CX:j5}{k:Nat}{f C:Addr}{fd:FuncData}{ps:List Str}{sp:Sp}{dvs:List V}{ds:List Value}{E:XK}{x m:Str}{p pos apos:Pos}{e o:Expr}{es:List Expr}{ta:TE}{t:TA}
theorem l8{Mv:List (Addr×Obj)}{σ:St}{H:Hp}{s:Shared}{Q:VK}{us:List Value}{vs:List V}(F:FnOk X.prog X.w X.K X.mg X.base CX k f fd ps sp)(hr:Room k X.A)(hb:Binds X.K fd ps ds)(hd:Vals dvs ds)(hx:gj CX X E)
  (I:Inv X Mv σ H s) (r:Vals vs us) (h:sp (vs++dvs) H Q E):wpAny (model X.prog X.w) X.A (call (.ref f) us) (EP X Mv σ Q) X.xe s:=by
 have r2:Vals (vs++dvs) (us++ds):=r.append hd;have hl:(us++ds).length=ps.length:=by rw[<- r2.length];exact F.len _ _ _ _ h
 refine wpAny_call (codeAny_mono (F.run X.A X.stack s H ⟨us,[]⟩ (us++ds) (vs++dvs) Q E hr I.env0 (hb s us I.kIn hl) r2 h) fun r s' hq=>?_);cases r with
 |error e=>exact hx Mv σ H s e s' I hq
 |ok fl =>
  cases fl with
  |ret u=>exact I.after hq
  |next=>exact False.elim hq
  |brk=>exact False.elim hq
  |cont=>exact False.elim hq
theorem Ck(F:FnOk X.prog X.w X.K X.mg X.base CX k f fd ps sp)(hr:Room k X.A)(hg:Gl X x)(hm:X.mg x=some (.ref f))(hk:keepIn X.K (.ref f)=true)(hb:Binds X.K fd ps ds)(hd:Vals dvs ds)(hx:gj CX X E)
  (ha:PA X (e::es) t) (hdb:(x==("__debug__":Str))=false:=by decide) (he:starEach (e::es) X.env=(false,eval e X.env)::starEach es X.env:=by rfl) (hpl:(backTo pos (starEach es X.env)).any (·.1)=false:=by rfl) :
  PE X (.Call (.Name x p) (e::es) [] pos) (tI sp dvs E t):=by
 intro Mv s σ H Q I h;refine wpAny_Call_Name_kw (kg I hg hm ?_ hdb);refine callWith_K (h₀:=X.base) I.ok.mod.kin hk (ax (ha pos Mv s σ H _ I h) fun us s1 ⟨vs,H1,I1,r,q⟩=>⟨I1.kIn,?_⟩) he hpl;exact l8 F hr hb hd hx I1 r q
theorem yh(F:FnOk X.prog X.w X.K X.mg X.base CX k f fd ps sp)(hr:Room k X.A)(hg:Gl X x)(hm:X.mg x=some (.ref f))(hk:keepIn X.K (.ref f)=true)(hb:Binds X.K fd ps ds)(hd:Vals dvs ds)(hx:gj CX X E)
  (hdb:(x==("__debug__":Str))=false:=by decide):PE X (.Call (.Name x p) [] [] pos) (tI sp dvs E tG):=by
 intro Mv s σ H Q I h;refine wpAny_Call_Name_kw (kg I hg hm ?_ hdb);exact PySem.W.callWith_K0 I.kIn hk (l8 (us:=[]) F hr hb hd hx I .nil h)
theorem Cg{pl:Sem Bool}(he:PE X o ta)(c:Cls X.K C)(hm:jw X.K C m f)(F:FnOk X.prog X.w X.K X.mg X.base CX k f fd ps sp)(hr:Room k X.A)(hb:Binds X.K fd ps ds)(hd:Vals dvs ds)(hx:gj CX X E)(ha:PA X (e::es) t)
  (hst:starEach (e::es) X.env=(false,eval e X.env)::starEach es X.env:=by rfl) (hpl:(backTo pos (starEach es X.env)).any (·.1)=false:=by rfl)
  (ht:eval (.Call (.Attribute o m apos) (e::es) [] pos) X.env=(do
   let ov <- eval o X.env
   standAt apos.atName
   let(f,first) <- holding [ov] (getMethod ov m pl)
   callWith pos f first (backTo pos (starEach (e::es) X.env)) (backToKw pos (keywordEach [] X.env))):=by rfl) :
  PE X (.Call (.Attribute o m apos) (e::es) [] pos) (tH C m sp dvs E ta t):=by
 intro Mv s σ H Q I h;refine methodCall_KW (pl:=pl) (ax (he Mv s σ H _ I h) fun u s1 hq0=>?_) ht;obtain⟨x,H1,I1,rx,a,dx,fs,ex,ea,l,q⟩:=hq0;subst ex;obtain rfl:u=Value.ref a:=rx;refine jn I1 ea c hm l ?_;refine callWith_K (first:=[.ref a]) (h₀:=X.base) I.ok.mod.kin hm.kp (ax (ha pos Mv s1 σ H1 _ I1 q) fun us s2 ⟨vs,H2,I2,r,q2⟩=>⟨I2.kIn,?_⟩) hst hpl;exact l8 (us:=.ref a::us) (vs:=.ref a::vs) F hr hb hd hx I2 (.cons rfl r) q2
theorem yc{pl:Sem Bool}(he:PE X o ta)(c:Cls X.K C)(hm:jw X.K C m f)(F:FnOk X.prog X.w X.K X.mg X.base CX k f fd ps sp)(hr:Room k X.A)(hb:Binds X.K fd ps ds)(hd:Vals dvs ds)(hx:gj CX X E)
  (ht:eval (.Call (.Attribute o m apos) [] [] pos) X.env=(do
   let ov <- eval o X.env
   standAt apos.atName
   let(f,first) <- holding [ov] (getMethod ov m pl)
   callWith pos f first (backTo pos (starEach [] X.env)) (backToKw pos (keywordEach [] X.env))):=by rfl) :
  PE X (.Call (.Attribute o m apos) [] [] pos) (tH C m sp dvs E ta tG):=by
 intro Mv s σ H Q I h;refine methodCall_KW (pl:=pl) (ax (he Mv s σ H _ I h) fun u s1 hq0=>?_) ht;obtain⟨x,H1,I1,rx,a,dx,fs,ex,ea,l,q⟩:=hq0;subst ex;obtain rfl:u=Value.ref a:=rx;refine jn I1 ea c hm l ?_;exact PySem.W.callWith_K0 (first:=[.ref a]) I1.kIn hm.kp (l8 (us:=[.ref a]) (vs:=[.ref a]) F hr hb hd hx I1 (.cons rfl .nil) q)
structure Mk(K:Frag)(C f:Addr):Prop where
 makes:makesIn K C=true
 init:findIn K (.ref C) "__init__"=some (some (.ref f))
 fn:isFn K (.ref f)=true
 kp:keepIn K (.ref C)=true
theorem xJ{Mv:List (Addr×Obj)}{σ:St}{H:Hp}{s:Shared}{Q:VK}{us:List Value}{vs:List V}(M:Mk X.K C f)(F:FnOk X.prog X.w X.K X.mg X.base CX k f fd ps sp)(hr:Room (k+1) X.A)(hb:Binds X.K fd ps ds)(hd:Vals dvs ds)
  (hx:gj CX X E) (I:Inv X Mv σ H s) (r:Vals vs us)
  (h:∀x dx,H x=none->H dx=none->dx≠x->sp (.ref x::(vs++dvs)) (ae (ae H dx (.own x)) x (.ins C dx [])) (fun v H2=>v=.non/\Q (.ref x) H2) E) :
  wpAny (model X.prog X.w) X.A (call (.ref C) us) (EP X Mv σ Q) X.xe s:=by
 have hq:=h (s.heap.objs.size+1) s.heap.objs.size (I.MD.fresh (Nat.le_succ _)) (I.MD.fresh (zS _)) (zX (Nat.lt_succ_self _));have I2:=Inv.made (C:=C) I;have r2:Vals (V.ref (s.heap.objs.size+1)::(vs++dvs)) (Value.ref (s.heap.objs.size+1)::(us++ds)):=.cons rfl (r.append hd);have hl:(Value.ref (s.heap.objs.size+1)::us++ds).length=ps.length:=by
  have e:=r2.length;rw[F.len _ _ _ _ hq]at e;exact e.symm
 refine wpAny_call (yq (f:=f) I.kIn M.makes M.init (beq_iff_eq.mp M.fn) (codeAny_mono (F.run _ X.stack _ _ ⟨Value.ref (s.heap.objs.size+1)::us,[]⟩ (Value.ref (s.heap.objs.size+1)::(us++ds)) _ _ E (hr.make C us [])
  (I2.env0.make C us []) (hb _ (Value.ref (s.heap.objs.size+1)::us) I2.kIn hl) r2 hq) fun r s' hq'=>?_))
 cases r with
 |error e=>exact hx Mv σ _ _ e s' I2 hq'
 |ok fl =>
  cases fl with
  |ret u =>
   obtain⟨v,H',I3,rv,ev,q3⟩:=I2.after hq';subst ev;exact⟨rv,⟨V.ref (s.heap.objs.size+1),H',I3,rfl,q3⟩⟩
  |next=>exact False.elim hq'
  |brk=>exact False.elim hq'
  |cont=>exact False.elim hq'
theorem Ch(M:Mk X.K C f)(F:FnOk X.prog X.w X.K X.mg X.base CX k f fd ps sp)(hr:Room (k+1) X.A)(hg:Gl X x)(hm:X.mg x=some (.ref C))(hb:Binds X.K fd ps ds)(hd:Vals dvs ds)(hx:gj CX X E)
  (ha:PA X (e::es) t) (hdb:(x==("__debug__":Str))=false:=by decide) (he:starEach (e::es) X.env=(false,eval e X.env)::starEach es X.env:=by rfl) (hpl:(backTo pos (starEach es X.env)).any (·.1)=false:=by rfl) :
  PE X (.Call (.Name x p) (e::es) [] pos) (An C sp dvs E t):=by
 intro Mv s σ H Q I h;refine wpAny_Call_Name_kw (kg I hg hm ?_ hdb);refine callWith_K (h₀:=X.base) I.ok.mod.kin M.kp (ax (ha pos Mv s σ H _ I h) fun us s1 ⟨vs,H1,I1,r,q⟩=>⟨I1.kIn,?_⟩) he hpl;exact xJ M F hr hb hd hx I1 r q
end
structure kC(N P:List Str)(sc:Scope):Prop where
 kind:sc.kind=.function
 co:sc.isCoroutine=false
 gen:sc.isGenerator=false
 nd:N.Nodup
 pre:N.take P.length=P
 par:∀x∈P,sc.names.lookup x=some .local\/sc.names.lookup x=some .cell
 nofree:∀y∈sc.names,y.2≠.free
theorem oP{kindOf:Str->Option NameKind}{x:Str}:∀{binds:List (Str×Value)}{m:Str->Option Value},(∀v,(x,v)∉binds)->bindL kindOf binds m x=m x
 |[],_,_=>rfl
 |(n,v)::r,m,h=>by
  unfold bindL;rw[oP fun w hw=>h w (zT _ hw)];split
  ·have:x≠n:=by rintro rfl;exact h v yB
   simp[this]
  ·rfl
theorem oR{kindOf:Str->Option NameKind}{x:Str}:∀{binds:List (Str×Value)}{m:Str->Option Value},(∀v,(x,v)∉binds)->bindC kindOf binds m x=m x
 |[],_,_=>rfl
 |(n,v)::r,m,h=>by
  unfold bindC;rw[oR fun w hw=>h w (zT _ hw)];split
  ·rfl
  ·have:x≠n:=by rintro rfl;exact h v yB
   simp[this]
theorem oQ{kindOf:Str->Option NameKind}{x:Str}{v:Value}:∀{P:List Str}{vs:List Value}{i:Nat}{m:Str->Option Value},P.Nodup->P[i]?=some x->vs[i]?=some v->kindOf x=some .local ->
  bindL kindOf (P.zip vs) m x=some v
 |[],_,_,_,_,h,_,_=>by simp at h
 |_::_,[],_,_,_,_,h,_=>by simp at h
 |p::P,w::vs,0,m,nd,h1,h2,hk=>by
  simp at h1 h2;subst h1;subst h2;show bindL kindOf ((p,w)::P.zip vs) m p=_;unfold bindL;rw[oP fun v hv=>(List.nodup_cons.mp nd).1 (List.of_mem_zip hv).1,yL hk];simp
 |p::P,w::vs,i+1,m,nd,h1,h2,hk=>by
  show bindL kindOf ((p,w)::P.zip vs) m x=_;unfold bindL;exact oQ (i:=i) (List.nodup_cons.mp nd).2 (by simpa using h1) (by simpa using h2) hk
theorem oS{kindOf:Str->Option NameKind}{x:Str}{v:Value}:∀{P:List Str}{vs:List Value}{i:Nat}{m:Str->Option Value},P.Nodup->P[i]?=some x->vs[i]?=some v->kindOf x≠some .local ->
  bindC kindOf (P.zip vs) m x=some v
 |[],_,_,_,_,h,_,_=>by simp at h
 |_::_,[],_,_,_,_,h,_=>by simp at h
 |p::P,w::vs,0,m,nd,h1,h2,hk=>by
  simp at h1 h2;subst h1;subst h2;show bindC kindOf ((p,w)::P.zip vs) m p=_;unfold bindC;rw[oR fun v hv=>(List.nodup_cons.mp nd).1 (List.of_mem_zip hv).1,yK hk];simp
 |p::P,w::vs,i+1,m,nd,h1,h2,hk=>by
  show bindC kindOf ((p,w)::P.zip vs) m x=_;unfold bindC;exact oS (i:=i) (List.nodup_cons.mp nd).2 (by simpa using h1) (by simpa using h2) hk
def start(N:List Str)(vs:List V):St:=vs.map some++List.replicate (N.length-vs.length) none
def nZ(CX:j5)(P:Program)(w:World)(K:Frag)(mg:Str->Option Value)(base:Heap)(N:List Str)(qual:Str)(scope:Scope)(f:Addr)(cd:Value)(A:Around)(outer:List Env)(s:Shared)(H:Hp)(E:XK):Cx where
 prog:=P
 w:=w
 K:=K
 mg:=mg
 base:=base
 A:=A.deeper (envOfC qual scope s.heap.objs.size f cd)
 N:=N
 s₀:=s
 H₀:=H
 env:=envOfC qual scope s.heap.objs.size f cd
 outer:=outer
 stack:=envOfC qual scope s.heap.objs.size f cd::outer
 ex:=[]
 calm:=true
 fn:=fun _=>true
 pn:=[]
 xe:=fun e s'=>wpAny (model P w) (A.deeper (envOfC qual scope s.heap.objs.size f cd)) (leaving (envOfC qual scope s.heap.objs.size f cd) e) (fun _ s''=>CX outer H s E e s'') (fun e' s''=>CX outer H s E e' s'') s'
theorem qL{sc:Scope}{n:Nat}{x:Str}(h:sc.names.lookup x=some .cell):∃c,(cellsFrom n sc.names []).lookup x=some c:=by
 have q:=cellsFrom_some sc.names n [] (.inl h);exact Option.isSome_iff_exists.mp q
theorem wu{CX:j5}{P:Program}{w:World}{K:Frag}{mg:Str->Option Value}{base:Heap}{N ps:List Str}{qual:Str}{scope:Scope}{f:Addr}{cd:Value}{A:Around}{outer:List Env}{s s1:Shared}{H:Hp}{E:XK}{us:List Value}{vs:List V}
  (S:kC N ps scope) (hd:A.handled=none) (e0:Env0 P w K mg base A outer s H) (hl:vs.length=ps.length) (r:Vals vs us)
  (x:InCallC s s.heap.objs.size (bindL (envOfC qual scope s.heap.objs.size f cd).kindOf (ps.zip us) fun _=>none) (cellsFrom (s.heap.objs.size+1) scope.names []) (bindC (envOfC qual scope s.heap.objs.size f cd).kindOf (ps.zip us) fun _=>none) s1) :
  Inv (nZ CX P w K mg base N qual scope f cd A outer s H E) [] (start N vs) H s1:=by
 have hpl:ps.length<=N.length:=by have:=congrArg List.length S.pre;rw[List.length_take]at this;lia
 obtain ⟨h1,tk,rfl,hk⟩:=x.done;have noA:∀ b:Addr,b ∉ (nZ CX P w K mg base N qual scope f cd A outer s H E).ex:=fun b z=>absurd (show b ∈ ([]:List Addr) from z) (by simp)
 refine⟨⟨e0.mod,S.kind,rfl,rfl,zS _,fun y z c h1 h2=>?_,fun y hy=>?_,fun y c _ h=>?_,fun _=>hd,Around.frames_deeper e0.frames,.inr ⟨rfl,rfl⟩,fun b z=>absurd z (noA b),e0.bs,e0.bsz,fun b _ _=>noA b,fun b z=>absurd z (noA b),e0.funs,e0.frf⟩,
  rfl,e0.bare,Un.kept hk,⟨_,x.toInCall.ns,fun i y v h1 h2 h3=>?_⟩,fun y c h=>⟨_,x.cell y c h⟩,e0.MD.fresh (zS _),fun y c h=>?_,fun p hp=>absurd (show p∈([]:List (Addr×Obj)) from hp) (by simp),e0.MD.kept hk,?_⟩
 ·exact name_of_addr x.apart (PySem.mem_of_lookup h1) (PySem.mem_of_lookup h2)
 ·have hy:scope.names.lookup y=some .cell\/scope.names.lookup y=some .free:=hy
  rcases hy with hy|hy
  ·exact qL hy
  ·exact absurd rfl (S.nofree _ (PySem.mem_of_lookup hy))
 ·exact xD (x.above y c (PySem.mem_of_lookup h))
 ·have hi:i<vs.length:=by
   unfold start at h2;by_cases hi:i<vs.length
   ·exact hi
   ·rw[yA (by simpa using hi)]at h2
    rw[List.getElem?_replicate]at h2;split at h2<;>cases h2
  have ha:vs[i]?=some v:=by
   unfold start at h2;rw[zQ (by simpa using hi),zU]at h2;cases e:vs[i]? with
   |none=>rw[e]at h2;cases h2
   |some a=>rw[e]at h2;cases h2;rfl
  obtain⟨u,hu,rv⟩:=r.get ha;have hp:ps[i]?=some y:=by
   rw[<- S.pre,List.getElem?_take_of_lt oM];exact h1
  have ndP:ps.Nodup:=by rw[<- S.pre];exact S.nd.sublist (List.take_sublist _ _)
  refine⟨u,rv,?_⟩;rcases S.par y (zZ hp) with k|k
  ·exact .inl ⟨k,oQ ndP hp hu k⟩
  ·obtain⟨c,e⟩:=qL (n:=s.heap.objs.size+1) k
   refine .inr ⟨.inl k,c,e,?_⟩;have q:=x.cell y c e;rw[oS ndP hp hu (by show scope.names.lookup y≠_;rw[k];decide)]at q;exact q
 ·exact e0.MD.fresh (xD (x.above y c (PySem.mem_of_lookup h)))
 ·unfold start
  show _=N.length;rw[zY,zK,List.length_replicate];lia
theorem Ht{CX:j5}{P:Program}{w:World}{K:Frag}{mg:Str->Option Value}{base:Heap}{k:Nat}{f:Addr}{name qual:Str}{params:Arguments}{body:List Stmt}{scope:Scope}{dV kV doc pm cdv ct oc:Value}{an od:Option Addr}
  {osl:Array (Option Value)}{N ps:List Str}{sp:Sp} (lk:K.lookup f=some ⟨oc,od,.func (fnOf name qual params body scope dV kV doc pm an cdv ct),osl⟩) (hcd:codeIn K cdv qual=true) (S:kC N ps scope)
  (len:∀vs H Q E,sp vs H Q E->vs.length=ps.length)
  (hbody:∀(A:Around)(outer:List Env)(s:Shared)(H:Hp)(vs:List V)(Q:VK)(E:XK),Room k (A.deeper (envOfC qual scope s.heap.objs.size f cdv))->sp vs H Q E ->
   ∃t,PSs (nZ CX P w K mg base N qual scope f cdv A outer s H E) body t/\t { nx:=fun _ H'=>Q .non H',rt:=Q } (start N vs) H) :
  FnOk P w K mg base CX (k+1) f (fnOf name qual params body scope dV kV doc pm an cdv ct) ps sp:=by
 refine⟨len,fun A outer s H args us vs Q E hr e0 hb r hsp=>?_⟩;have hl:=len _ _ _ _ hsp;have KX:K.In s.heap:=e0.mod.kin.keeps fun b o e=>(e0.bs b o e).1
 have lim:s.heap.NoLimit:=e0.mod.nolimit.keeps fun b o e=>(e0.bs b o e).1
 have hkind:∀y∈ps.zip us,scope.names.lookup y.1=some .local\/(scope.names.lookup y.1=some .cell/\((cellsFrom (s.heap.objs.size+1) scope.names []).lookup y.1).isSome=true):=fun hq0 hy=>by
  obtain⟨n,v⟩:=hq0;rcases S.par n (List.of_mem_zip hy).1 with q|q
  ·exact .inl q
  ·exact .inr ⟨q,cellsFrom_some _ _ _ (.inl q)⟩
 refine codeAny_call_function hr.depth (KX _ _ lk) rfl S.co S.gen rfl (codeRec_of KX hcd) (hb _ _ _ _ ?_);refine wpAny_newFunctionEnv_cells S.kind hkind fun env he s1 x=>?_
 subst he;refine⟨lim.keeps x.toInCall.keep,codeAny_func ?_⟩;obtain⟨t,ht,hq⟩:=hbody A outer s H vs Q E (hr.deeper _) hsp;have I:Inv (nZ CX P w K mg base N qual scope f cdv A outer s H E) [] (start N vs) H s1:=wu S hr.hd e0 hl r x;refine yW (ht [] s1 (start N vs) H _ I hq) (fun fl s' hs=>?_) fun e s' hs=>hs
 have ay:∀{σ':St}{H':Hp}{v:V}{u:Value},Inv (nZ CX P w K mg base N qual scope f cdv A outer s H E) [] σ' H' s'->RelV v u->Q v H'->CE outer P w H s Q u s' :=
  fun {σ' H' v u} J rv q=>⟨v,H',J.os,J.bare,J.base,J.MD,rv,q⟩
 cases fl with
 |ret u =>
  obtain⟨v,σ',H',J,rv,q⟩:=hs;exact ay J rv q
 |next =>
  obtain⟨σ',H',J,q⟩:=hs;exact ay (v:=V.non) (u:=Value.none) J rfl q
 |brk =>
  obtain⟨_,_,_,q⟩:=hs;exact False.elim q
 |cont =>
  obtain⟨_,_,_,q⟩:=hs;exact False.elim q
section
variable{X:Cx}{x:Str}{p pos:Pos}{e:Expr}{es:List Expr}{t:TA}{id T:String}{r:List V->Hp->VK->Prop}
def Dk(r:List V->Hp->VK->Prop)(t:TA):TE:=fun σ H Q=>t σ H fun vs H1=>r vs H1 Q
theorem yg(hc:cw X (.builtin id) r)(hg:Gl X x)(hm:X.mg x=none)(hv:bootBuiltins x=some (.builtin id))(ha:PA X (e::es) t)(hn:x≠"__name__":=by decide)(hdb:(x==("__debug__":Str))=false:=by decide)
  (he:starEach (e::es) X.env=(false,eval e X.env)::starEach es X.env:=by rfl) (hpl:(backTo pos (starEach es X.env)).any (·.1)=false:=by rfl):PE X (.Call (.Name x p) (e::es) [] pos) (Dk r t):=by
 intro Mv s σ H Q I h;refine wpAny_Call_Name_kw (c6 I hg hm hv ?_ hn hdb);exact PyProof.Rows.callWith_builtin1 (ax (ha pos Mv s σ H _ I h) fun us s1 ⟨vs,H1,I1,r1,q1⟩=>hc Mv s1 σ H1 vs us Q I1 r1 q1) he hpl
theorem ou(hc:cw X (.type T) r)(hg:Gl X x)(hm:X.mg x=none)(hv:bootBuiltins x=some (.type T))(ha:PA X (e::es) t)(hn:x≠"__name__":=by decide)(hdb:(x==("__debug__":Str))=false:=by decide)
  (he:starEach (e::es) X.env=(false,eval e X.env)::starEach es X.env:=by rfl) (hpl:(backTo pos (starEach es X.env)).any (·.1)=false:=by rfl):PE X (.Call (.Name x p) (e::es) [] pos) (Dk r t):=by
 intro Mv s σ H Q I h;refine wpAny_Call_Name_kw (c6 I hg hm hv ?_ hn hdb);exact PyProof.Rows.callWith_type1 (ax (ha pos Mv s σ H _ I h) fun us s1 ⟨vs,H1,I1,r1,q1⟩=>hc Mv s1 σ H1 vs us Q I1 r1 q1) he hpl
end
end L2
namespace HT
open PySem PyProof.Rows
section
variable{prog:Program}{w:World}{A:Around}{E:Value->Shared->Prop}{s:Shared}
noncomputable def MG(n d:Nat):Option Int->Nat
 |none=>d
 |some v=>if v<0 then(v+(n:Int)).toNat else min v.toNat n
theorem sIx_none(n d:Nat):MG n d none=d:=rfl
theorem sIx_nat(n d k:Nat):MG n d (some (k:Int))=min k n:=by
 show(if(k:Int)<0 then((k:Int)+(n:Int)).toNat else min (k:Int).toNat n)=min k n;rw[yK oM,Int.toNat_natCast]
theorem Du(n d:Nat)(hd:d<=n)(o:Option Int):MG n d o<=n:=by
 cases o with
 |none=>exact hd
 |some v =>
  show(if v<0 then(v+(n:Int)).toNat else min v.toNat n)<=n;by_cases hv:v<0
  ·rw[yL hv];lia
  ·rw[yK hv];exact Nat.min_le_right _ _
theorem sP(v:Int)(n d:Nat):(if v<0 then max (v+(n:Int)) 0 else min v (n:Int))=((MG n d (some v):Nat):Int):=by
 show(if v<0 then max (v+(n:Int)) 0 else min v (n:Int))=(((if v<0 then(v+(n:Int)).toNat else min v.toNat n):Nat):Int);by_cases hv:v<0
 ·simp only[yL hv];lia
 ·simp only[yK hv];lia
theorem uV(lo hi:Option Int)(n:Nat):Builtin.Slice.sliceAdjust lo hi 1 (n:Int)=(((MG n 0 lo:Nat):Int),((MG n n hi:Nat):Int)):=by
 have h1:¬((1:Int)<0):=by lia
 unfold Builtin.Slice.sliceAdjust;simp only[h1,if_false];refine Prod.ext ?_ ?_
 ·cases lo with
  |none=>rfl
  |some v=>exact sP v n 0
 ·cases hi with
  |none=>rfl
  |some v=>exact sP v n n
theorem tS(i j:Nat):Builtin.Slice.slicePlaces (i:Int) (j:Int) 1=j-i:=by
 unfold Builtin.Slice.slicePlaces;have h1:(1:Int) > 0:=by lia
 simp only[h1,if_true,Int.ediv_one];split<;>lia
theorem lY{v:Value}{o:Option Int}{Q:Option Int->Shared->Prop}(p:IsPart v o)(h:Q o s):wpAny (model prog w) A (Builtin.Slice.slicePartIndex v) Q E s:=by
 cases p with
 |none=>exact slicePart_none h
 |int i t=>exact slicePart_int h
theorem ly{sl:Addr}{vl vu:Value}{lo hi:Option Int}{n:Nat}{Q:Int×Int×Nat->Shared->Prop}(hs:s.heap.IsSliceOf sl vl vu .none)(pl:IsPart vl lo)(pu:IsPart vu hi)
  (h:Q (((MG n 0 lo:Nat):Int),1,MG n n hi-MG n 0 lo) s):wpAny (model prog w) A (Builtin.Slice.sliceApplied (.ref sl) (pure (n:Int))) Q E s:=by
 obtain⟨os,hos,hcs,hds⟩:=id hs;unfold Builtin.Slice.sliceApplied Builtin.Slice.sliceFields;refine yI (yI (wpAny_field hos hds (x:=vl) rfl (yI (wpAny_field hos hds (x:=vu) rfl (yI (wpAny_field hos hds (x:=.none) rfl (yJ ?_)))))));refine yI (slicePart_none ?_);show wpAny _ _ (if((1:Int)==0)=true then _ else _) _ _ s;rw[yK dC];refine yI (lY pl (yI (lY pu (yI (yJ ?_)))));show wpAny _ _ (match Builtin.Slice.sliceAdjust lo hi 1 (n:Int) with|(lo,hi)=>pure (lo,(1:Int),Builtin.Slice.slicePlaces lo hi 1)) _ _ s;rw[uV lo hi n];show wpAny _ _ (pure (((MG n 0 lo:Nat):Int),(1:Int),Builtin.Slice.slicePlaces ((MG n 0 lo:Nat):Int) ((MG n n hi:Nat):Int) 1)) _ _ s;rw[tS];exact yJ h
theorem xX(xs:Array Value)(i k:Nat):((List.range k).filterMap fun(m:Nat)=>xs[((i:Int)+(m:Int)*1).toNat]?).toArray=((xs.toList.drop i).take k).toArray:=by
 have e:(fun(m:Nat)=>xs[((i:Int)+(m:Int)*1).toNat]?)=fun m=>xs[i+m]?:=by
  funext m;have:((i:Int)+(m:Int)*1).toNat=i+m:=by lia
  rw[this]
 rw[e]
 have:=pick_run xs i k
 rw[List.filterMap_map]at this;have e2:((fun x=>xs[x]?) ∘ fun x=>i+x)=fun m=>xs[i+m]?:=rfl
 rw[e2]at this;rw[this]
theorem getItem_tuple_cut{t sl:Addr}{items:Array Value}{vl vu:Value}{lo hi:Option Int}{Q:Value->Shared->Prop}(ht:IsTup s.heap t items)(hs:s.heap.IsSliceOf sl vl vu .none)(pl:IsPart vl lo)(pu:IsPart vu hi)
  (hw:¬(MG items.size 0 lo=0/\MG items.size items.size hi=items.size))
  (h:Q (.ref s.heap.objs.size) { s with heap:=s.heap.push { cls:=.type "tuple",data:=.seq ((items.toList.drop (MG items.size 0 lo)).take (MG items.size items.size hi-MG items.size 0 lo)).toArray } })
  (hsz:items.size<=sizeLine):wpAny (model prog w) A (getItem (.ref t) (.ref sl)) Q E s:=by
 have htake:sizeOk (.seq ((items.toList.drop (MG items.size 0 lo)).take (MG items.size items.size hi-MG items.size 0 lo)).toArray):=by
  show((items.toList.drop (MG items.size 0 lo)).take (MG items.size items.size hi-MG items.size 0 lo)).toArray.size<=sizeLine;rw[zL,List.length_take,List.length_drop,Array.length_toList];lia
 have hj:MG items.size items.size hi<=items.size:=Du _ _ (zS _) hi;obtain⟨os,hos,hcs,hds⟩:=id hs;have hTs:s.TypeIs (.ref sl) "slice":=⟨os,hos,hcs⟩;unfold getItem
 try with_reducible refine yV ?_
 first|refine yI (yJ ?_)|skip
 refine yI (wpAny_sequenceKey ht.typeIs dC ?_);refine yI (wpAny_callSpecial?_slot (name:=Str.ofString "__getitem__") ht.typeIs PyProof.Rows.slot_tuple_getitem
  (wpAny_call_entry PyProof.Rows.slot_tuple_getitem ht.typeIs entry_tuple_getitem ?_ (args_tuple_getitem _ _)))
 show wpAny _ _ (Builtin.Tuple.tupleItemsOf (.ref t)>>=_) _ _ s;refine yI (tupleItemsOf_ ht ?_);refine yI (wpAny_typeOf hTs ?_);rw[yL dC];refine yI (ly hs pl pu ?_);have hno:¬((((MG items.size 0 lo:Nat):Int)==0&&(1:Int)==1&&(MG items.size items.size hi-MG items.size 0 lo)==items.size)=true):=by
  intro q;rw[zE,zE]at q;have q1:((MG items.size 0 lo:Nat):Int)=0:=yN q.1.1;have q2:MG items.size items.size hi-MG items.size 0 lo=items.size:=yN q.2;exact hw ⟨by lia,by lia⟩
 show wpAny _ _ (if(((MG items.size 0 lo:Nat):Int)==0&&(1:Int)==1&&(MG items.size items.size hi-MG items.size 0 lo)==items.size)=true then _ else _) _ _ s;rw[yK hno,xX]
 first
  |exact yI (m:=Builtin.Tuple.tupleExact _) (wpAny_newObj_type (yJ ⟨_,rfl,yJ h⟩) htake)
  |exact yI (m:=Builtin.Tuple.tupleExact _) (wpAny_newObj_type (yI (yJ (yJ ⟨_,rfl,yJ h⟩))) htake)
  |exact yI (yI (m:=Builtin.Tuple.tupleExact _) (wpAny_newObj_type (yJ (yJ ⟨_,rfl,yJ h⟩)) htake))
  |exact yI (yI (m:=Builtin.Tuple.tupleExact _) (wpAny_newObj_type (yJ ⟨_,rfl,yJ h⟩) htake))
end
end HT
namespace L2
open PySem PySem.Spec PyProof.Rows
abbrev TO:=St->Hp->(Option Int->Hp->Prop)->Prop
def PO(X:Cx)(e:Option Expr)(t:TO):Prop :=
 ∀(Mv:List (Addr×Obj))(s:Shared)(σ:St)(H:Hp)(Q:Option Int->Hp->Prop),Inv X Mv σ H s->t σ H Q ->
  wpAny (model X.prog X.w) X.A (evalPart e X.env) (fun u s'=>∃o H',Inv X Mv σ H' s'/\IsPart u o/\Q o H') X.xe s
noncomputable def Bw:TO:=fun _ H Q=>Q none H
noncomputable def Gn(t:TE):TO:=fun σ H Q=>t σ H fun x H1=>∃i,x=.int i/\Q (some i) H1
theorem jm{ns:List Int}:∀{us:List Value},Vals (ns.map V.int) us->IntsAre us ns:=by
 induction ns with
 |nil=>intro us r;rw[List.map_nil]at r;cases r;exact .nil
 |cons n ns ih =>
  intro us r;rw[zR]at r;cases r with
  |cons r1 r2 =>
   obtain⟨t,e⟩:=r1;subst e;exact .cons n t (ih r2)
section
variable{X:Cx}{e:Expr}{te:TE}{lo hi:Option Expr}{tl th:TO}{pos p2:Pos}
theorem B7:PO X none Bw:=by
 intro Mv s σ H Q I h;rw[evalPart_none];exact yJ ⟨none,H,I,.none,h⟩
theorem B6(h:PE X e te):PO X (some e) (Gn te):=by
 intro Mv s σ H Q I hw;rw[evalPart_some];refine ax (h Mv s σ H _ I hw) fun u s1 hq0=>?_
 obtain⟨x,H1,I1,r1,q1⟩:=hq0;obtain⟨i,rfl,q⟩:=q1;obtain⟨t,rfl⟩:=r1;exact⟨some i,H1,I1,.int i t,q⟩
def MH(X:Cx)(r:V->Option Int->Option Int->Hp->VK->Prop):Prop :=
 ∀(Mv:List (Addr×Obj))(s:Shared)(σ:St)(H:Hp)(x:V)(v vl vu:Value)(lo hi:Option Int)(sl:Addr)(Q:VK),Inv X Mv σ H s->RelV x v->s.heap.IsSliceOf sl vl vu .none->IsPart vl lo->IsPart vu hi->r x lo hi H Q ->
  ∃T id,typeLookup (.type T) "__getitem__"=pure (some (.builtin id))/\s.TypeIs v T/\wpAny (model X.prog X.w) X.A (getItem v (.ref sl)) (EP X Mv σ Q) X.xe s
def Ik(r:V->Option Int->Option Int->Hp->VK->Prop)(te:TE)(tl th:TO):TE:=fun σ H Q=>te σ H fun x H1=>tl σ H1 fun l H2=>th σ H2 fun u H3=>r x l u H3 Q
theorem pT{r:V->Option Int->Option Int->Hp->VK->Prop}(hr:MH X r)(he:PE X e te)(hl:PO X lo tl)(hu:PO X hi th):PE X (.Subscript e (.Slice lo hi none p2) pos) (Ik r te tl th):=by
 intro Mv s σ H Q I h;refine Subscript_ (ax (he Mv s σ H _ I h) fun v s1 hq0=>?_);obtain⟨x,H1,I1,r1,q1⟩:=hq0;refine wpAny_Slice (ax (hl Mv s1 σ H1 _ I1 q1) fun vl s2 ⟨l,H2,I2,pl,q2⟩=>ax (hu Mv s2 σ H2 _ I2 q2) fun vu s3 hq0=>?_);obtain⟨u,H3,I3,pu,q3⟩:=hq0;rw[evalPart_none];refine yJ ?_;have I4:Inv X Mv σ H3 { s3 with heap:=s3.heap.push { cls:=.type "slice",data:=.fields #[vl,vu,.none] } }:=I3.kept (t':=s3.toks) fun b ob q=>zJ _ q
 obtain⟨T,id,hT,ht,hg⟩:=hr Mv { s3 with heap:=s3.heap.push { cls:=.type "slice",data:=.fields #[vl,vu,.none] } } σ H3 x v vl vu l u s3.heap.objs.size Q I4 r1 (Heap.IsSliceOf.new ..) pl pu q3;show wpAny (model X.prog X.w) X.A (subscriptTail e (.Slice lo hi none p2) v (.ref s3.heap.objs.size)) (EP X Mv σ Q) X.xe { s3 with heap:=s3.heap.push { cls:=.type "slice",data:=.fields #[vl,vu,.none] } };exact tail_any (ops:=[.ref s3.heap.objs.size,v]) ht hT hg (by with_unfolding_all rfl)
def jp(xs:List V)(lo hi:Option Int):List V:=(xs.drop (HT.MG xs.length 0 lo)).take (HT.MG xs.length xs.length hi-HT.MG xs.length 0 lo)
theorem kY(xs:List V)(lo hi:Option Int):(jp xs lo hi).length<=xs.length:=by
 unfold jp;rw[List.length_take,List.length_drop];lia
def JE(K:Frag):V->Option Int->Option Int->Hp->VK->Prop:=fun x lo hi H Q=>∃a xs,x=.ref a/\fH K H a xs /\
 ¬(HT.MG xs.length 0 lo=0/\HT.MG xs.length xs.length hi=xs.length)/\∀p,H p=none->Q (.ref p) (ae H p (.tup (jp xs lo hi)))
theorem Do:MH X (JE X.K):=by
 intro Mv s σ H x v vl vu lo hi sl Q I rx hs pl pu h;obtain⟨a,xs,rfl,hx,hw,q⟩:=h;cases rx;obtain⟨Mz,r,ht,hz⟩:=I.tuple hx;have hlen:Mz.toArray.size=xs.length:=by rw[zL];exact r.length.symm
 refine⟨"tuple",_,PyProof.Rows.slot_tuple_getitem.lookup,ht.typeIs,?_⟩;refine HT.getItem_tuple_cut ht hs pl pu (by rw[hlen];exact hw) ?_ (by rw[hlen];exact hz);rw[hlen];refine⟨.ref s.heap.objs.size,_,I.laid (t':=s.toks) (o:=.tup (jp xs lo hi)) (fun b ob q=>zJ _ q) (zS _) ?_,rfl,q _ (I.MD.fresh (zS _))⟩;exact⟨z9 (kY xs lo hi) hz,_,(r.drop (HT.MG xs.length 0 lo)).take (HT.MG xs.length xs.length hi-HT.MG xs.length 0 lo),IsTup.new _ _⟩
end
noncomputable def kJ(n:Nat)(i:Int):Option Nat:=if 0<=i then(if i<n then some i.toNat else none) else if -(n:Int)<=i then some (i+n).toNat else none
def fC{α:Type}(xs:List α)(i:Int):Option α:=(kJ xs.length i).bind fun j=>xs[j]?
theorem sn{n:Nat}{i:Int}{j:Nat}(h:kJ n i=some j):seqIndex? i n=some j/\j<n/\-(n:Int)<=i/\i<n:=by
 unfold kJ at h;by_cases h0:0<=i
 ·rw[yL h0]at h
  by_cases h1:i<n
  ·rw[yL h1]at h
   have e:i.toNat=j:=yH h;exact⟨by rw[seqIndex_of h0 h1,e],by lia,by lia,h1⟩
  ·rw[yK h1]at h;cases h
 ·rw[yK h0]at h
  by_cases h1:-(n:Int)<=i
  ·rw[yL h1]at h
   have e:(i+n).toNat=j:=yH h;exact⟨by rw[seqIndex_neg oM h1,e],by lia,h1,by lia⟩
  ·rw[yK h1]at h;cases h
theorem kz{α:Type}{xs:List α}{i:Int}{v:α}(h:fC xs i=some v):∃j,seqIndex? i xs.length=some j/\xs[j]?=some v/\j<xs.length/\-(xs.length:Int)<=i/\i<xs.length:=by
 unfold fC at h;cases e:kJ xs.length i with
 |none=>rw[e]at h;cases h
 |some j =>
  rw[e]at h;obtain⟨h1,h2,h3,h4⟩:=sn e;exact⟨j,h1,h,h2,h3,h4⟩
def oh(b:Expr):Prop:=∀o i,subscripted b false o i=operate [o,i] (getItem o i)
def IxR(X:Cx)(r:R2):Prop :=
 ∀(value slice:Expr)(Mv:List (Addr×Obj))(s:Shared)(σ:St)(H:Hp)(x y:V)(v u:Value)(Q:VK),Inv X Mv σ H s->RelV x v->RelV y u->r x y H Q ->
  subscripted slice false v u=operate [v,u] (getItem v u)->wpAny (model X.prog X.w) X.A (subscriptTail value slice v u) (EP X Mv σ Q) X.xe s
def lj(X:Cx)(id:String)(r:V->List V->Hp->VK->Prop):Prop :=
 ∀(Mv:List (Addr×Obj))(s:Shared)(σ:St)(H:Hp)(x:V)(xs:List V)(v:Value)(us:List Value)(Q:VK),Inv X Mv σ H s->RelV x v->Vals xs us->r x xs H Q ->
  wpAny (model X.prog X.w) X.A (call (.builtin id) (v::us)) (EP X Mv σ Q) X.xe s
section
variable{X:Cx}{a b:Expr}{ta tb:TE}{pos:Pos}
theorem IxR.or{r r':R2}(h:IxR X r)(h':IxR X r'):IxR X (fun x y H Q=>r x y H Q\/r' x y H Q):=by
 intro value slice Mv s σ H x y v u Q I rx ry q hs;rcases q with q|q
 ·exact h value slice Mv s σ H x y v u Q I rx ry q hs
 ·exact h' value slice Mv s σ H x y v u Q I rx ry q hs
theorem GW{r:R2}(hr:IxR X r)(ha:PE X a ta)(hb:PE X b tb)(hs:oh b):PE X (.Subscript a b pos) (vq r ta tb):=by
 intro Mv s σ H Q I h;exact Subscript_ (zx ha hb I h fun v u s2 x y H2 I2 rx ry q=>hr a b Mv s2 σ H2 x y v u Q I2 rx ry q (hs _ _))
def Dz(K:Frag):R2:=fun x y H Q=>∃p xs i v,x=.ref p/\y=.int i/\bw K H p xs/\fC xs i=some v/\Q v H
def Dx(K:Frag):R2:=fun x y H Q=>∃p xs i v,x=.ref p/\y=.int i/\fH K H p xs/\fC xs i=some v/\Q v H
def Dy:R2:=fun x y H Q=>∃z i c,x=.str z/\y=.int i/\z.length<=sizeLine/\fC z.cps.toList i=some c/\Q (.str ⟨#[c]⟩) H
theorem ix_list:IxR X (Dz X.K):=by
 intro value slice Mv s σ H x y v u Q I rx ry h hs;obtain⟨p,xs,i,z,rfl,rfl,hq,he,q⟩:=h;cases rx;obtain⟨t,rfl⟩:=ry;obtain⟨Mz,r,pl,hz⟩:=I.list hq;obtain⟨j,h1,h2,h3,h4,h5⟩:=kz he;obtain⟨w,ew,rw'⟩:=r.get h2;have hl:=r.length;have hn:=f7;have ay:EP X Mv σ Q w s:=⟨z,H,I,rw',q⟩;by_cases h0:0<=i
 ·have hj:i.toNat=j:=by
   rw[seqIndex_of h0 h5]at h1;exact yH h1
  exact item_listR pl.isList h0 oM (by rw[hj];simpa using ew) ay hs
 ·have hj:(i+(Mz.toArray.size:Int)).toNat=j:=by
   rw[seqIndex_neg oM h4]at h1;rw[zL,<- hl];exact yH h1
  exact subscriptTail_builtinR (x:=w) pl.isList.typeIs slot_list_getitem.lookup
   (wpAny_getItem_list_neg (Q:=fun r s'=>r=w/\EP X Mv σ Q r s') pl.isList oM (by rw[zL]<;>lia) oM (by rw[hj];simpa using ew) ⟨rfl,ay⟩) hs
theorem ix_tup:IxR X (Dx X.K):=by
 intro value slice Mv s σ H x y v u Q I rx ry h hs;obtain⟨p,xs,i,z,rfl,rfl,hq,he,q⟩:=h;cases rx;obtain⟨t,rfl⟩:=ry;obtain⟨Mz,r,pl,hz⟩:=I.tuple hq;obtain⟨j,h1,h2,h3,h4,h5⟩:=kz he;obtain⟨w,ew,rw'⟩:=r.get h2;have hl:=r.length;have hn:=f7;have ay:EP X Mv σ Q w s:=⟨z,H,I,rw',q⟩;exact subscriptTail_builtinR (x:=w) pl.typeIs slot_tuple_getitem.lookup
  (getItem_tuple (j:=j) (Q:=fun r s'=>r=w/\EP X Mv σ Q r s') pl oM oM (by rw[zL,<- hl];exact h1) (by simpa using ew) ⟨rfl,ay⟩) hs
theorem Fd:IxR X Dy:=by
 intro value slice Mv s σ H x y v u Q I rx ry h hs;obtain⟨z,i,c,rfl,rfl,hz,he,q⟩:=h;obtain⟨t,rfl⟩:=rx;obtain⟨t',rfl⟩:=ry;obtain⟨j,h1,h2,h3,h4,h5⟩:=kz he;have hl:z.cps.toList.length=z.length:=by simp[Str.length]
 rw[hl]at h1 h4 h5;have hn:=f7;exact tail_any (typeIs_str s z t) slot_str_getitem.lookup (getItem_str (c:=c) (by
  have e1:decide (i < -(2^63:Int))=false:=yD oM;have e2:decide (i ≥ 2^63)=false:=yD oM;rw[e1,e2,Bool.or_false]) (by rw[h1];simpa using h2) ⟨.str ⟨#[c]⟩,H,I.tok _,⟨_,rfl⟩,q⟩) hs
def KC(K:Frag):R2:=fun x y H Q=>Dz K x y H Q\/Dx K x y H Q\/Dy x y H Q
theorem qj:IxR X (KC X.K):=ix_list.or (ix_tup.or Fd)
theorem uf(Mz:List Value)(n j:Nat)(u:Value):Obj.mapSeq (·.setIfInBounds j u) { cls:=.type "list",data:=.seq Mz.toArray n }={ cls:=.type "list",data:=.seq (Mz.set j u).toArray n }:=by
 simp[Obj.mapSeq]
theorem Inv.lst{Mv:List (Addr×Obj)}{σ:St}{H:Hp}{s:Shared}{p:Addr}{xs:List V}(I:Inv X Mv σ H s)(h:H p=some (.lst xs)) :
  ∃(Mz:List Value)(n:Nat),Vals xs Mz/\s.heap.get? p=some { cls:=.type "list",data:=.seq Mz.toArray n }/\xs.length<=sizeLine:=by
 obtain⟨z,Mz,n,r,e⟩:=I.MD p _ h;exact⟨Mz,n,r,e,z⟩
theorem Inv.lstUpd{Mv:List (Addr×Obj)}{σ:St}{H:Hp}{s:Shared}{p:Addr}{xs ys:List V}{Mz its':List Value}{n n':Nat}{f:Obj->Obj}(I:Inv X Mv σ H s)(h:H p=some (.lst xs))
  (ho:s.heap.get? p=some { cls:=.type "list",data:=.seq Mz.toArray n }) (hf:f { cls:=.type "list",data:=.seq Mz.toArray n }={ cls:=.type "list",data:=.seq its'.toArray n' }) (r:Vals ys its') (hz:ys.length<=sizeLine) (t:Nat) :
  Inv X Mv σ (ae H p (.lst ys)) { s with heap:=s.heap.update p f,toks:=t }:=by
 have e:(s.heap.update p f).get? p=some { cls:=.type "list",data:=.seq its'.toArray n' }:=by
  rw[Heap.get?_update_self f ho (by rw[hf]<;>rfl),hf]
 refine I.write (x:=p) (e:=p) (by rw[h];trivial) (.inl rfl) (fun b u hb q=>(Heap.get?_update_other _ _ (Ne.symm hb)).trans q) ⟨_,e⟩ ?_;exact⟨hz,its',n',r,e⟩
def Gy:V->V->V->Hp->(Hp->Prop)->Prop:=fun o i v H Q=>∃p xs k j,o=.ref p/\i=.int k/\H p=some (.lst xs)/\kJ xs.length k=some j/\Q (ae H p (.lst (xs.set j v)))
theorem xG:u0 X Gy:=by
 intro Mv s σ H o i v ov iv u Q I ro ri rv h;obtain⟨p,xs,k,j,rfl,rfl,hp,hj,q⟩:=h;cases ro;obtain⟨t,rfl⟩:=ri;obtain⟨Mz,n,r,ho,hz⟩:=I.lst hp;obtain⟨h1,h2,h3,h4⟩:=sn hj;have hl:=r.length;have hn:=f7;have I':Inv X Mv σ (ae H p (.lst (xs.set j v))) { s with heap:=s.heap.update p (Obj.mapSeq (·.setIfInBounds j u)) } :=
  I.lstUpd hp ho (uf Mz n j u) (r.set rv j) (by rw[List.length_set];exact hz) s.toks
 by_cases h0:0<=k
 ·have hk:k.toNat=j:=by
   rw[seqIndex_of h0 h4]at h1;exact yH h1
  exact ki_setAt ho h0 oM (by rw[zL,<- hl];exact h4) (by rw[hk];exact⟨_,I',q⟩)
 ·have hk:(k+(Mz.toArray.size:Int)).toNat=j:=by
   rw[seqIndex_neg oM h3]at h1;rw[zL,<- hl];exact yH h1
  exact ki_setBack ho oM (by rw[zL,<- hl];exact h3) oM (by rw[hk];exact⟨_,I',q⟩)
theorem pG(lo hi:Option Int)(n:Nat):(sliceBounds lo hi none n).1=((HT.MG n 0 lo:Nat):Int)/\(sliceBounds lo hi none n).2.1=((HT.MG n n hi:Nat):Int)/\(sliceBounds lo hi none n).2.2=1:=by
 refine⟨?_,?_,rfl⟩
 ·cases lo with
  |none=>simp[sliceBounds,HT.MG]
  |some i =>
   simp only[sliceBounds,HT.MG,Option.getD_none,show(1:Int) > 0 by decide,if_true];by_cases h:i<0
   ·simp only[h,if_true]<;>lia
   ·simp only[h,if_false]<;>lia
 ·cases hi with
  |none=>simp[sliceBounds,HT.MG]
  |some i =>
   simp only[sliceBounds,HT.MG,Option.getD_none,show(1:Int) > 0 by decide,if_true];by_cases h:i<0
   ·simp only[h,if_true]<;>lia
   ·simp only[h,if_false]<;>lia
theorem oW(Mz:List Value)(lo hi:Option Int):slicePick Mz.toArray lo hi none=((Mz.drop (HT.MG Mz.length 0 lo)).take (HT.MG Mz.length Mz.length hi-HT.MG Mz.length 0 lo)).toArray:=by
 obtain⟨h1,h2,h3⟩:=pG lo hi Mz.toArray.size;unfold slicePick;rw[h1,h2,h3];simp only[sliceRange_one,pick_run,zL]<;>rfl
def JF(K:Frag):V->Option Int->Option Int->Hp->VK->Prop:=fun x lo hi H Q=>∃a xs,x=.ref a/\bw K H a xs/\∀p,H p=none->Q (.ref p) (ae H p (.lst (jp xs lo hi)))
theorem Bz:MH X (JF X.K):=by
 intro Mv s σ H x v vl vu lo hi sl Q I rx hs pl pu h;obtain⟨a,xs,rfl,hx,q⟩:=h;cases rx;obtain⟨Mz,r,ht,hz⟩:=I.list hx;have hlen:=r.length;refine⟨"list",_,slot_list_getitem.lookup,ht.isList.typeIs,?_⟩;refine wpAny_getItem_list_slice ht.isList hs pl pu .none (by simp) ?_ (by rw[zL]<;>lia);rw[oW,<- hlen];refine⟨.ref s.heap.objs.size,_,I.laid (t':=s.toks) (o:=.lst (jp xs lo hi)) (fun b ob q=>zJ _ q) (zS _) ?_,rfl,q _ (I.MD.fresh (zS _))⟩;exact⟨z9 (kY xs lo hi) hz,_,0,(r.drop (HT.MG xs.length 0 lo)).take (HT.MG xs.length xs.length hi-HT.MG xs.length 0 lo),z6 _ rfl⟩
theorem jX:cw X (.builtin "len") (fun xs H Q=>∃p ys,xs=[.ref p]/\(bw X.K H p ys\/fH X.K H p ys)/\Q (.int ys.length) H):=by
 intro Mv s σ H xs us Q I r h;obtain⟨p,ys,rfl,hq,q⟩:=h;obtain⟨u,rfl,rx⟩:=dO r;cases rx;have hn:=f7;rcases hq with hq|hq
 ·obtain⟨Mz,r',pl,hz⟩:=I.list hq
  have hlen:=r'.length;exact Calls.call_len_list pl.isList (by simp only[zL]<;>lia) ⟨.int ys.length,H,I.tok _,⟨s.toks+1,by rw[zL,hlen]⟩,q⟩
 ·obtain⟨Mz,r',pl,hz⟩:=I.tuple hq
  have hlen:=r'.length;exact len_tuple pl (by simp only[zL]<;>lia) ⟨.int ys.length,H,I.tok _,⟨s.toks+1,by rw[zL,hlen]⟩,q⟩
theorem qN:cw X (.builtin "len") (fun xs H Q=>∃z,xs=[.str z]/\z.length<=sizeLine/\Q (.int z.length) H):=by
 intro Mv s σ H xs us Q I r h;obtain⟨z,rfl,hz,q⟩:=h;obtain⟨u,rfl,t,rfl⟩:=dO r;have hn:=f7;exact len_str oM ⟨.int z.length,H,I.tok _,⟨_,rfl⟩,q⟩
theorem qM:cw X (.type "list") (fun xs H Q=>∃p ys,xs=[.ref p]/\(bw X.K H p ys\/fH X.K H p ys)/\∀l,H l=none->Q (.ref l) (ae H l (.lst ys))):=by
 intro Mv s σ H xs us Q I r h;obtain⟨p,ys,rfl,hq,q⟩:=h;obtain⟨u,rfl,rx⟩:=dO r;cases rx;have ay:∀(Mz:List Value),Vals ys Mz->ys.length<=sizeLine->∀(h':Heap)(c':Nat),(∀b o',s.heap.get? b=some o'->h'.get? b=some o') ->
   h'.get? s.heap.objs.size=some { cls:=.type "list",dict:=none,data:=.seq Mz.toArray c',slots:=#[] }->EP X Mv σ Q (.ref s.heap.objs.size) { s with heap:=h' }:=fun Mz r' hz h' c' kp e =>
  ⟨.ref s.heap.objs.size,_,I.laid (t':=s.toks) kp (zS _) (show ObjOk X.prog X.w _ h' _ (.lst ys) from ⟨hz,Mz,c',r',e⟩),rfl,q _ (I.MD.fresh (zS _))⟩
 rcases hq with hq|hq
 ·obtain⟨Mz,r',pl,hz⟩:=I.list hq
  have hlen:=r'.length;obtain⟨o,ho,hc,n,hd⟩:=pl.isList;exact call_list_seq p (.inl rfl) ho hc hd (fun h' c' kp e=>ay Mz r' hz h' c' kp e) (by simp only[zL]<;>lia)
 ·obtain⟨Mz,r',pl,hz⟩:=I.tuple hq
  have hlen:=r'.length;obtain⟨o,ho,hc,n,hd⟩:=pl;exact call_list_seq p (.inr rfl) ho hc hd (fun h' c' kp e=>ay Mz r' hz h' c' kp e) (by simp only[zL]<;>lia)
def vf(K:Frag)(T:String)(x:V)(H:Hp):Prop:=match x with
 |.str _=>T="str"
 |.int _=>T="int"
 |.ref p=>(T="list"/\∃xs,bw K H p xs)\/(T="tuple"/\∃o,K.lookup p=some o/\o.cls=.type "tuple"/\o.dict=none) \/
   (T="dict"/\((∃Mx,H p=some (.dK Mx))\/∃Mx,H p=some (.dT Mx)))\/(T="set"/\∃S n,H p=some (.set S n))
 |_=>False
theorem ve{Mv:List (Addr×Obj)}{σ:St}{H:Hp}{s:Shared}{T:String}{x:V}{v:Value}(I:Inv X Mv σ H s)(r:RelV x v)(ty:vf X.K T x H) :
  s.TypeIs v T/\∀a,v=.ref a->∃ob,s.heap.get? a=some ob/\ob.dict=none:=by
 cases x with
 |str z =>
  obtain ⟨t,rfl⟩:=r;cases (show T="str" from ty);exact ⟨typeIs_str s z t,fun _ e=>nomatch e⟩
 |int i =>
  obtain ⟨t,rfl⟩:=r;cases (show T="int" from ty);exact ⟨typeIs_int s i t,fun _ e=>nomatch e⟩
 |ref p =>
  cases r;rcases ty with⟨rfl,xs,hq⟩|⟨rfl,o,hk,hc,hd⟩|⟨rfl,hk⟩|⟨rfl,S,n,hk⟩
  ·obtain⟨Mz,_,pl,_⟩:=I.list hq
   refine⟨pl.isList.typeIs,fun a e=>?_⟩;cases e;obtain⟨o,n,e,c,hd,_⟩:=pl;exact⟨o,e,hd⟩
  ·refine⟨⟨o,I.kIn p o hk,hc⟩,fun a e=>?_⟩
   cases e;exact⟨o,I.kIn _ o hk,hd⟩
  ·have z:∃o,s.heap.get? p=some o/\o.ExactDict:=by
    rcases hk with⟨Mx,hk⟩|⟨Mx,hk⟩
    ·obtain⟨_,_,_,_,o,_,_,e,ex,_⟩:=I.MD p _ hk
     exact⟨o,e,ex⟩
    ·obtain⟨_,_,_,_,o,_,_,e,ex,_⟩:=I.MD p _ hk
     exact⟨o,e,ex⟩
   obtain⟨o,e,ex⟩:=z;refine⟨⟨o,e,ex.1⟩,fun a e2=>?_⟩;cases e2;exact⟨o,e,ex.2.1⟩
  ·obtain⟨o,_,_,_,e,ex,_⟩:=I.MD p _ hk
   refine⟨⟨o,e,ex.1⟩,fun a e2=>?_⟩;cases e2;exact⟨o,e,ex.2.1⟩
 |_=>exact False.elim ty
def Jy(K:Frag)(T:String)(r:V->List V->Hp->VK->Prop)(to:TE):TE:=fun σ H Q=>to σ H fun x H1=>vf K T x H1/\r x [] H1 Q
def Im(K:Frag)(T:String)(r:V->List V->Hp->VK->Prop)(to:TE)(t:TA):TE:=fun σ H Q=>to σ H fun x H1=>vf K T x H1/\t σ H1 fun xs H2=>r x xs H2 Q
variable{o e:Expr}{es:List Expr}{to:TE}{t:TA}{name:Str}{apos cpos:Pos}{T id:String}{r:V->List V->Hp->VK->Prop}
theorem EB(pa:PlainAttrs T)(slot:Slot T name id)(hty:typeOf (.builtin id)=pure (.type "method_descriptor"))(hm:lj X id r)(ho:PE X o to)
  (hbase:attributeBase o name X.env (eval o X.env)=eval o X.env:=by rfl) (hline:(apos.endLine==cpos.line)=true:=by rfl):PE X (.Call (.Attribute o name apos) [] [] cpos) (Jy X.K T r to):=by
 intro Mv s σ H Q I h;refine wpAny_Call_method0_late hbase hline (ax (ho Mv s σ H _ I h) fun v s1 hq0=>?_);obtain⟨x,H1,I1,r1,ty,q1⟩:=hq0;obtain⟨h1,h2⟩:=ve I1 r1 ty;exact⟨T,id,pa,slot,hty,h1,h2,Calls.callWith_builtin rfl (PySem.evalArgs_none (hm Mv s1 σ H1 x [] v [] Q I1 r1 .nil q1))⟩
theorem GY(pa:PlainAttrs T)(slot:Slot T name id)(hty:typeOf (.builtin id)=pure (.type "method_descriptor"))(hm:lj X id r)(ho:PE X o to)(ha:PA X (e::es) t)
  (hbase:attributeBase o name X.env (eval o X.env)=eval o X.env:=by rfl)
  (hfew:((backTo cpos (starEach (e::es) X.env)).all (fun x=>!x.1)&&(backToKw cpos (keywordEach [] X.env)).all (fun x=>x.1.isSome)
   && decide ((e::es).length+([]:List Keyword).length+(if([]:List Keyword).isEmpty then 0 else 1)<30))=true:=by rfl)
  (hline:(apos.endLine==cpos.line)=true:=by rfl) (hs:starEach (e::es) X.env=(false,eval e X.env)::starEach es X.env:=by rfl) (hplain:(backTo cpos (starEach es X.env)).any (·.1)=false:=by rfl) :
  PE X (.Call (.Attribute o name apos) (e::es) [] cpos) (Im X.K T r to t):=by
 intro Mv s σ H Q I h;refine wpAny_Call_method_late hbase hfew hline rfl (ax (ho Mv s σ H _ I h) fun v s1 hq0=>?_);obtain⟨x,H1,I1,r1,ty,q1⟩:=hq0;obtain⟨h1,h2⟩:=ve I1 r1 ty;refine⟨T,id,pa,slot,hty,h1,h2,?_⟩;have hA:=ha cpos Mv s1 σ H1 _ I1 q1;rw[hs]at hA ⊢;refine Calls.callWith_builtin (by show(false||(backTo cpos (starEach es X.env)).any (·.1))=false;rw[hplain]<;>rfl) (Calls.evalArgs_plain ?_);exact ax hA fun us s2 ⟨vs,H2,I2,r2,q2⟩=>hm Mv s2 σ H2 x vs v us Q I2 r1 r2 q2
end
def F6(X:Cx)(id:String)(r:V->List V->Hp->VK->Prop):Prop :=
 ∀(Mv:List (Addr×Obj))(s:Shared)(σ:St)(H:Hp)(x:V)(xs:List V)(v:Value)(us:List Value)(Q:VK),Inv X Mv σ H s->RelV x v->Vals xs us->r x xs H Q ->
  wpAny (model X.prog X.w) X.A (call (.builtin id) (v::us)) (EP X Mv σ Q) X.xe s
theorem Vals.one{x:V}{us:List Value}(h:Vals [x] us):∃u,us=[u]/\RelV x u:=by
 cases h with
 |cons r h=>cases h;exact⟨_,rfl,r⟩
theorem Vals.zero:∀{us:List Value},Vals [] us->us=[]
 |_,.nil=>rfl
theorem Vals.dropLast{xs:List V}{us:List Value}(h:Vals xs us):Vals xs.dropLast us.dropLast:=by
 induction h with
 |nil=>exact .nil
 |cons r t ih =>
  cases t with
  |nil=>exact .nil
  |cons q t'=>exact .cons r ih
theorem Vals.rep{xs:List V}{us:List Value}(h:Vals xs us):∀k:Nat,Vals (List.replicate k xs).flatten (List.replicate k us).flatten
 |0=>.nil
 |k+1=>by
  rw[List.replicate_succ,List.replicate_succ,List.flatten_cons,List.flatten_cons];exact Vals.append h (Vals.rep h k)
theorem uA{α:Type}(l:List α):l.eraseIdx (l.length-1)=l.dropLast:=by
 induction l with
 |nil=>rfl
 |cons a r ih =>
  cases r with
  |nil=>rfl
  |cons b r =>
   have e:(a::b::r).length-1=((b::r).length-1)+1:=by
    have h1:(a::b::r).length=r.length+2:=rfl;have h2:(b::r).length=r.length+1:=rfl;lia
   rw[e,List.eraseIdx_cons_succ,ih]
   all_goals rfl
theorem oE(Mz:List Value):∀(k:Nat)(acc:List Value),
  List.foldl (fun x1 x2=>x1++x2) acc.toArray (List.replicate k Mz.toArray)=(acc++(List.replicate k Mz).flatten).toArray
 |0,acc=>by simp
 |k+1,acc=>by
  have e:acc.toArray++Mz.toArray=(acc++Mz).toArray:=by simp
  have e2:(acc++Mz)++(List.replicate k Mz).flatten=acc++(List.replicate (k+1) Mz).flatten:=by
   rw[List.replicate_succ,List.flatten_cons,yQ]
  rw[<- e2,<- oE Mz k (acc++Mz),<- e,List.replicate_succ,List.foldl_cons]
section
variable{X:Cx}{Mv:List (Addr×Obj)}{σ:St}{H:Hp}{s:Shared}{l b:Addr}{xs ys zs:List V}
theorem Inv.lset{Mz its':List Value}{n:Nat}{f:Array Value->Array Value}{t':Nat}(I:Inv X Mv σ H s)(hH:H l=some (.lst xs))
  (e:s.heap.get? l=some { cls:=.type "list",data:=.seq Mz.toArray n }) (hf:f Mz.toArray=its'.toArray) (hv:Vals ys its') (hz:ys.length<=sizeLine) :
  Inv X Mv σ (ae H l (.lst ys)) { s with heap:=s.heap.update l (Obj.mapSeq f),toks:=t' }:=by
 have q:=PySem.IsL.update e f;rw[hf]at q;refine I.write (x:=l) (e:=l) (by rw[hH];exact trivial) (.inl rfl) (fun b' u hb hu=>(Heap.get?_update_other s.heap (Obj.mapSeq f) (Ne.symm hb)).trans hu) ⟨_,q⟩ ?_;exact⟨hz,its',_,hv,q⟩
theorem Inv.lnew{Mz:List Value}{t':Nat}(I:Inv X Mv σ H s)(hv:Vals ys Mz)(hz:ys.length<=sizeLine) :
  Inv X Mv σ (ae H s.heap.objs.size (.lst ys)) { s with heap:=s.heap.push { cls:=.type "list",data:=.seq Mz.toArray },toks:=t' } :=
 I.laid (fun _ _ q=>zJ _ q) (zS _) ⟨hz,Mz,0,hv,z6 _ rfl⟩
theorem Inv.fresh(I:Inv X Mv σ H s):H s.heap.objs.size=none:=I.MD.fresh (zS _)
theorem Inv.lstM(I:Inv X Mv σ H s)(hH:H l=some (.lst xs)):xs.length<=sizeLine/\∃(Mz:List Value)(n:Nat),Vals xs Mz/\xs.length=Mz.length/\s.heap.get? l=some { cls:=.type "list",data:=.seq Mz.toArray n }:=by
 obtain⟨z,Mz,n,r,e⟩:=I.MD l _ hH;exact⟨z,Mz,n,r,r.length,e⟩
theorem notLongL{n:Nat}(h:n<=sizeLine):Builtin.List.listTooLong n=false:=by
 unfold Builtin.List.listTooLong;exact yD oM
end
section
variable{X:Cx}
def BG:V->List V->Hp->VK->Prop:=fun x vs H Q=>∃l xs y,x=.ref l/\vs=[y]/\H l=some (.lst xs)/\xs.length<sizeLine/\Q .non (ae H l (.lst (xs++[y])))
theorem oz:F6 X "list.append" BG:=by
 intro Mv s σ H x vs v us Q I rx rv h;obtain⟨l,xs,y,rfl,rfl,hH,hz,q⟩:=h;cases rx;obtain⟨u,rfl,ru⟩:=rv.one;obtain⟨z,Mz,n,r,hl,e⟩:=I.lstM hH;refine call_meets F.slot_list_append ⟨_,e,rfl⟩ F.entry_list_append (F.args_list_append_2 _ _) (PySem.list_append l Mz.toArray n u (by rw[zL];lia)) ⟨e,?_⟩;refine⟨.non,_,I.lset (its':=Mz++[u]) hH e (by simp) (r.append (.cons ru .nil)) ?_,rfl,q⟩;rw[zY,List.length_singleton];lia
def JH:V->List V->Hp->VK->Prop:=fun x vs H Q=>∃l xs y,x=.ref l/\vs=[]/\H l=some (.lst xs)/\xs[xs.length-1]?=some y/\Q y (ae H l (.lst xs.dropLast))
theorem ES:F6 X "list.pop" JH:=by
 intro Mv s σ H x vs v us Q I rx rv h;obtain⟨l,xs,y,rfl,rfl,hH,hy,q⟩:=h;cases rx;have hus:=rv.zero;subst hus;obtain⟨z,Mz,n,r,hl,e⟩:=I.lstM hH;obtain⟨u,hu,ru⟩:=r.get hy;have hy':Mz.toArray[Mz.toArray.size-1]?=some u:=by
  show Mz.toArray[Mz.length-1]?=some u;rw[<- Array.getElem?_toList,<- hl];exact hu
 refine call_meets F.slot_list_pop ⟨_,e,rfl⟩ F.entry_list_pop (F.args_list_pop_1 _) (MeetsSeq.list_pop_last l Mz.toArray n u hy' (by rw[zL];lia)) ⟨e,?_⟩;refine⟨y,_,I.lset (its':=Mz.dropLast) hH e ?_ r.dropLast ?_,ru,q⟩
 ·show Mz.toArray.eraseIdxIfInBounds (Mz.toArray.size-1)=Mz.dropLast.toArray
  rw[zL,List.eraseIdxIfInBounds_toArray,uA]
 ·rw[List.length_dropLast]
  lia
def JG:R2:=fun x y H Q=>∃l k xs,x=.ref l/\y=.int k/\H l=some (.lst xs)/\-(2^63)<=k/\k<2^63/\xs.length*k.toNat<=sizeLine /\
 ∀p,H p=none->Q (.ref p) (ae H p (.lst (List.replicate k.toNat xs).flatten))
theorem Cw{α:Type}(xs:List α)(k:Nat):(List.replicate k xs).flatten.length=k*xs.length:=by
 induction k with
 |zero=>simp
 |succ k ih=>rw[List.replicate_succ,List.flatten_cons,zY,ih,Nat.succ_mul,Nat.add_comm]
theorem EG:j3 X (binaryOp .Mult) JG:=by
 intro Mv s σ H x y v u Q I rx ry h;obtain⟨l,k,xs,rfl,rfl,hH,h1,h2,hz,q⟩:=h;cases rx;obtain⟨t,rfl⟩:=ry;obtain⟨z,Mz,n,r,hl,e⟩:=I.lstM hH;have hlen:Mz.toArray.size*k.toNat<=sizeLine:=by rw[zL,<- hl];exact hz
 have hcap:¬Mz.toArray.size*k.toNat > (2^63-1)/8:=by
  have:(sizeLine:Nat)<=(2^63-1)/8:=by decide
  lia
 have hfit:¬(!Builtin.List.listFitsIndex k)=true:=by
  rw[fitsIndex_both h1 h2];exact Bool.false_ne_true
 have hlong:¬Builtin.List.listTooLong (Mz.toArray.size*k.toNat)=true:=by
  rw[notLongL hlen];exact Bool.false_ne_true
 have hnew:List.foldl (fun x1 x2=>x1++x2) #[] (List.replicate (if Mz.toArray.isEmpty=true then 0 else k.toNat) Mz.toArray)=(List.replicate k.toNat Mz).flatten.toArray:=by
  have f0:∀m:Nat,List.foldl (fun x1 x2=>x1++x2) #[] (List.replicate m Mz.toArray)=(List.replicate m Mz).flatten.toArray:=fun m=>by
   have:=oE Mz m []
   rw[List.nil_append]at this;exact this
  rw[f0];cases Mz with
  |nil=>simp
  |cons a r'=>rw[yK (by simp)]
 refine wpAny_binaryOp_repeat_ref (T:="list") (U:="int") dC ⟨_,e,rfl⟩ (fun s'=>typeIs_int s' k t) noFill_list_mul F.fills_int_mul F.slot_int_rmul repeat_list F.slot_int_index.lookup
  (call_meets F.slot_int_rmul (typeIs_int s k t) F.entry_int_rmul (F.args_int_rmul_2 _ _) (int___rmul___int_list k t l Mz.toArray n)
   ⟨e,rfl,⟨_,e,rfl⟩,call_meets F.slot_list_mul ⟨_,e,rfl⟩ F.entry_list_mul (F.args_list_mul_2 _ _) (AutoListH.list___mul___list_int_3 l Mz.toArray n k t hfit hcap hlong) ⟨e,?_⟩⟩)
 rw[hnew];exact⟨.ref _,_,I.lnew (t':=s.toks) (r.rep k.toNat) (by rw[Cw,Nat.mul_comm];exact hz),rfl,q _ I.fresh⟩
end
end L2
namespace Att
open PySem PySem.W PySem.Calls PyProof.Rows
theorem mz{P:Params}{h:Heap}:∀(ns:List Int)(vs:List Value),WellAll P h vs (ns.map WData.int)->IntsAre vs ns:=by
 intro ns
 induction ns with
 |nil =>
  intro vs w;rw[List.map_nil]at w;cases w;exact .nil
 |cons n ns ih =>
  intro vs w;rw[zR]at w;cases w with
  |cons a b =>
   cases a;exact .cons _ _ (ih _ b)
theorem vz{l:OpenLaw}{n:Nat}(hn:l.most=some n){P:Params}{h:Heap}{args:List WData}{vals:List Value}
  (hpre:l.row.toRowW.claim.pre args=true) (hwl:WellAll P h vals args) :
  ∃a vs ns,vals=[Value.ref a]/\args=[WData.list (ns.map WData.int)]/\h.get? a=some { cls:=.type "list",data:=.seq vs.toArray }/\IntsAre vs ns/\ns.length<=n:=by
 have hsh:WShape.hasAll [] args [.list .int]=true:=(pre_splitW hpre).1;have hc:l.pre.holds [] { args:=args }=true:=(pre_splitW hpre).2;obtain⟨d,r,rfl,h1,h2⟩:=hasAllW_cons hsh;obtain rfl:=hasAllW_nil h2;obtain⟨xs,rfl,h3⟩:=hasW_list h1;obtain⟨ns,rfl⟩:=items_int h3;have hlen:ns.length<=n:=by
  unfold OpenLaw.pre at hc;have h4:(WTm.not (.lt (.lit (.int (n:Int))) (.len (.arg 0)))).holds [] { args:=[.list (ns.map .int)] }=true:=by
   have h4:=(holds_andW hc).1;rw[hn]at h4;exact h4
  have h5:=condW_of h4 (w_not (w_lt w_lit (w_len_list (w_arg rfl))));rw[zK]at h5;refine Nat.le_of_not_lt fun q=>?_
  have q':(n:Int)<((ns.length:Nat):Int):=by lia
  first
   | (rw [yZ q'] at h5;exact absurd h5 dC)
   | (simp at h5;lia)
 cases hwl with
 |cons w1 w2 =>
  cases w2;cases w1 with
  |list ho hall=>exact⟨_,_,ns,rfl,rfl,ho,mz ns _ hall,hlen⟩
theorem vK(l:OpenLaw)(args:List WData):l.row.toRowW.claim.post args (.bool true) args=true :=
 postW_of (r:=l.row.toRowW) (X:=(true==true))
  (show WShape.has [] (.bool true) .bool=true by first | rfl | decide | simp [WShape.has,WShape.arms,WShape.armsAll])
  (show (WTm.eq .res (.lit (.bool true))).value [] { args:=args,res:=some (.bool true),after:=args }=some (.bool (true == true)) from w_eq_bool (w_res rfl) w_lit) rfl
theorem attach_call{l:OpenLaw}{n:Nat}{q:Program}{bD:List Str}{XP:(Str->Option Value)->Heap->Prop}{YP:World->Heap->Prop}{d:DefRec}
  (hn:l.most=some n) (hdf:d.params.defaults=[])
  (call:∀(w:World)(s₀ s₁:Shared)(mg mb:Str->Option Value)(fa:Addr)(o:Obj)(pm cd doc:Value)(a:Addr)(vs:List Value)(ns:List Int),
   Ground q bD [] XP w s₀ mg mb s₁.heap->YP w s₁.heap ->
   s₁.heap.get? fa=some o->o.data=.func (docDef d.name d.params d.body d.scope pm cd doc)->s₁.heap.CodeRec cd d.name->mg d.name=some (.ref fa) ->
   s₁.heap.get? a=some { cls:=.type "list",data:=.seq vs.toArray }->IntsAre vs ns->ns.length<=n->s₁.gens=#[] ->
   codeAny (model l.prog w) callerA (.call (.ref fa) ⟨[.ref a],[]⟩) (fun r s'=>r=.ok (.ret (.bool true))/\OldK s₁.heap s'.heap/\s'.os=s₁.os/\AllBare s'.gens) s₁) :
  WalkO q bD XP YP l.row.toRowW d [] (fun f vs=>PySem.call f vs):=by
 intro w s₀ s₁ mg mb G Y fa o pm cd doc dV kV ho hd hcd hD hmg hg args vals as hpre hlay hrd hwl hlo;obtain rfl:dV=.none:=Dflts.none hD hdf;obtain rfl:kV=.none:=Dflts.noKw hD;obtain⟨a,vs,ns,rfl,rfl,hobj,hints,hlen⟩:=vz hn hpre hwl;refine enter_call (codeAny_mono (call w s₀ s₁ mg mb fa o pm cd doc a vs ns G Y ho (fd_plain hd) hcd hmg hobj hints hlen hg) fun r s' hq=>?_);obtain⟨rfl,h2,h3,h4⟩:=hq;exact⟨.inl ⟨.bool true,.bool true,[],rfl,fun _=>rfl,.bool true,vK l _,fun _=>⟨List.Pairwise.nil,fun _ hm=>(nomatch hm)⟩⟩,h2,h3,h4⟩
end Att
namespace L2
open PySem PySem.Spec PyProof.Rows
theorem u9:∀{vs:List Value}{ns:List Int},IntsAre vs ns->Vals (ns.map V.int) vs:=by
 intro vs ns h
 induction h with
 |nil=>exact .nil
 |cons n t h ih=>exact .cons ⟨t,rfl⟩ ih
noncomputable def c8(s:Stmt):Arguments:=match s with
 |.FunctionDef _ a _ _ _ _ _ _ _ _=>a
 |_=>{ posonlyargs:=[],args:=[],vararg:=none,kwonlyargs:=[],kw_defaults:=[],kwarg:=none,defaults:=[] }
noncomputable def c7(s:Stmt):List Stmt:=match s with
 |.FunctionDef _ _ b _ _ _ _ _ _ _=>b
 |_=>[]
noncomputable def cj(s:Stmt):Scope:=match s with
 |.FunctionDef _ _ _ _ _ _ sc _ _ _=>sc
 |_=>{ kind:=.function,names:=[],isGenerator:=false,isCoroutine:=false }
abbrev dY:j5:=fun _ _ _ _ _ _=>False
abbrev E0:XK:=fun _ _ _=>False
theorem mh{X:Cx}:gj dY X E0:=fun _ _ _ _ _ _ _ h=>h.elim
structure Fun(K:Frag)(x qual:Str)(st:Stmt)(f:Addr)(fd:FuncData):Prop where
 ex:∃(oc:Value)(od:Option Addr)(kV doc pm:Value)(an:Option Addr)(cdv ct:Value)(osl:Array (Option Value)),
  fd=fnOf x qual (c8 st) (c7 st) (cj st) .none kV doc pm an cdv ct/\K.lookup f=some ⟨oc,od,.func fd,osl⟩/\codeIn K cdv qual=true
 kp:keepIn K (.ref f)=true
section
variable{P:Program}{w:World}{K:Frag}{mg:Str->Option Value}{base:Heap}
theorem Fun.binds{x qual:Str}{st:Stmt}{f:Addr}{fd:FuncData}{ps:List Str}(F:Fun K x qual st f fd)
  (h:∀(kV doc pm:Value)(an:Option Addr)(cdv ct:Value)(us:List Value),us.length=ps.length->bindArgs (fnOf x qual (c8 st) (c7 st) (cj st) .none kV doc pm an cdv ct) ⟨us,[]⟩=pure (ps.zip us)):Binds K fd ps []:=by
 obtain⟨oc,od,kV,doc,pm,an,cdv,ct,osl,rfl,lk,hcd⟩:=F.ex;exact .all (h kV doc pm an cdv ct)
theorem mM{x qual:Str}{st:Stmt}{f:Addr}{oc:Value}{od an:Option Addr}{osl:Array (Option Value)}{kV doc pm cdv ct:Value}(l:K.lookup f=some ⟨oc,od,.func (fnOf x qual (c8 st) (c7 st) (cj st) .none kV doc pm an cdv ct),osl⟩)
  (c:codeIn K cdv qual=true) (k:keepIn K (.ref f)=true):Fun K x qual st f (fnOf x qual (c8 st) (c7 st) (cj st) .none kV doc pm an cdv ct):=⟨⟨oc,od,kV,doc,pm,an,cdv,ct,osl,rfl,l,c⟩,k⟩
end
theorem oo{n:Nat}(h:n<=1000):n<sizeLine:=yP h dC
end L2
set_option maxHeartbeats 4000000
namespace DD
open PySem PySem.Spec PyProof.Rows L2
abbrev St:=L2.St
section
variable{X:Cx}{e:Expr}{es:List Expr}{st:Stmt}{sts:List Stmt}
theorem PE_imp{t t':TE}(h:PE X e t)(i:∀σ H Q,t' σ H Q->t σ H Q):PE X e t':=fun Mv s σ H Q I h'=>h Mv s σ H Q I (i σ H Q h')
theorem PT_imp{t t':TT}(h:PT X e t)(i:∀σ H Q,t' σ H Q->t σ H Q):PT X e t':=fun Mv s σ H Q I h'=>h Mv s σ H Q I (i σ H Q h')
theorem PW_imp{t t':TT}(h:PW X e t)(i:∀σ H Q,t' σ H Q->t σ H Q):PW X e t':=fun wh Mv s σ H Q I h'=>h wh Mv s σ H Q I (i σ H Q h')
theorem PA_imp{t t':TA}(h:PA X es t)(i:∀σ H Q,t' σ H Q->t σ H Q):PA X es t':=fun p Mv s σ H Q I h'=>h p Mv s σ H Q I (i σ H Q h')
theorem PS_imp{t t':TS}(h:PS X st t)(i:∀D σ H,t' D σ H->t D σ H):PS X st t':=fun Mv s σ H D I h'=>h Mv s σ H D I (i D σ H h')
theorem PSs_imp{t t':TS}(h:PSs X sts t)(i:∀D σ H,t' D σ H->t D σ H):PSs X sts t':=fun Mv s σ H D I h'=>h Mv s σ H D I (i D σ H h')
theorem OpR_imp{f:Value->Value->Sem Value}{r r':R2}(h:j3 X f r)(i:∀x y H Q,r' x y H Q->r x y H Q):j3 X f r':=fun Mv s σ H x y v u Q I a b h'=>h Mv s σ H x y v u Q I a b (i x y H Q h')
end
theorem PG_imp{X:Cx}{tg:Expr}{t t':TG}(h:PG X tg t)(i:∀v σ H Q,t' v σ H Q->t v σ H Q):PG X tg t':=fun Mv s σ H v u Q I rv h'=>h Mv s σ H v u Q I rv (i v σ H Q h')
end DD
namespace L2
open PySem PySem.Spec PyProof.Rows
theorem mU:∀(names:List (Str×NameKind))(n:Nat)(acc:List (Str×Addr)),∃own,cellsFrom n names acc=own++acc/\(∀p∈own,n<=p.2/\(p.1,NameKind.cell)∈names) /\
  (∀x,(x,NameKind.cell)∈names->∃c,(x,c)∈own)/\own.Pairwise fun x y=>x.2≠y.2
 |[],n,acc=>⟨[],rfl,(fun _ h=>by cases h),(fun _ h=>by cases h),List.Pairwise.nil⟩
 |(name,kind)::r,n,acc=>by
  unfold cellsFrom;by_cases hk:kind=.cell
  ·subst hk
   obtain⟨own,e,h1,h2,h3⟩:=mU r (n+1) ((name,n)::acc);refine⟨own++[(name,n)],?_,?_,?_,?_⟩
   ·rw[yL dC,e,yQ];rfl
   ·intro p hp
    rcases z7.mp hp with hp|hp
    ·exact⟨Nat.le_of_succ_le (h1 p hp).1,zT _ (h1 p hp).2⟩
    ·rw[zP.mp hp];exact⟨zS _,yB⟩
   ·intro x hx
    rcases zW.mp hx with hx|hx
    ·cases hx;exact⟨n,zN _ yB⟩
    ·obtain⟨c,hc⟩:=h2 x hx;exact⟨c,zO _ hc⟩
   ·refine List.pairwise_append.mpr ⟨h3,List.pairwise_singleton _ _,fun a ha b hb e=>?_⟩
    rw[zP.mp hb]at e;have h5:=(h1 a ha).1;rw[show a.2=n from e]at h5;exact absurd h5 (Nat.not_succ_le_self n)
  ·obtain⟨own,e,h1,h2,h3⟩:=mU r n acc
   have hk':(kind==NameKind.cell)=false:=by cases kind<;>first|rfl|exact absurd rfl hk
   refine⟨own,by rw[hk'];exact e,fun p hp=>⟨(h1 p hp).1,zT _ (h1 p hp).2⟩,fun x hx=>?_,h3⟩;rcases zW.mp hx with hx|hx
   ·cases hx;exact absurd rfl hk
   ·exact h2 x hx
theorem jq{scope:Scope}{env:Env}(h:∀x,(x,NameKind.free)∈scope.names->∃c,env.cells.lookup x=some c) :
  ∃cl,closureFor scope env=pure cl/\(∀p∈cl,env.cells.lookup p.1=some p.2)/\∀x,(x,NameKind.free)∈scope.names->∃c,(x,c)∈cl:=by
 have all:∀(names:List (Str×NameKind))(acc:List (Str×Addr)),(∀x,(x,NameKind.free)∈names->∃c,env.cells.lookup x=some c)->(∀p∈acc,env.cells.lookup p.1=some p.2) ->
   ∃cl,(forIn (m:=Sem) names acc fun(p:Str×NameKind)(cs:List (Str×Addr))=>if(p.2==NameKind.free)=true then do let __do_lift <- cellOf env p.1;pure (ForInStep.yield ((p.1,__do_lift)::cs)) else pure (ForInStep.yield cs))=pure cl /\
    (∀p∈cl,env.cells.lookup p.1=some p.2)/\(∀p∈acc,p∈cl)/\∀x,(x,NameKind.free)∈names->∃c,(x,c)∈cl:=by
  intro names
  induction names with
  |nil=>intro acc _ ha;exact⟨acc,by rw[List.forIn_nil],ha,fun _ h=>h,(fun _ h=>by cases h)⟩
  |cons p r ih =>
   obtain⟨name,kind⟩:=p;intro acc hn ha;by_cases hk:kind=.free
   ·subst hk
    obtain⟨c,hc⟩:=hn name yB;obtain⟨cl,e,h1,h2,h3⟩:=ih ((name,c)::acc) (fun x hx=>hn x (zT _ hx)) (fun p hp=>by
     rcases zW.mp hp with rfl|hp
     ·exact hc
     ·exact ha p hp)
    refine⟨cl,?_,h1,fun p hp=>h2 p (zT _ hp),fun x hx=>?_⟩
    ·rw[List.forIn_cons]
     have ec:cellOf env name=pure c:=by unfold cellOf;rw[hc]
     simp only[ec];exact e
    ·rcases zW.mp hx with hx|hx
     ·cases hx;exact⟨c,h2 _ yB⟩
     ·exact h3 x hx
   ·obtain⟨cl,e,h1,h2,h3⟩:=ih acc (fun x hx=>hn x (zT _ hx)) ha
    have hk':(kind==NameKind.free)=false:=by cases kind<;>first|rfl|exact absurd rfl hk
    refine⟨cl,?_,h1,h2,fun x hx=>?_⟩
    ·rw[List.forIn_cons];simp only[hk',yE,if_false];exact e
    ·rcases zW.mp hx with hx|hx
     ·cases hx;exact absurd rfl hk
     ·exact h3 x hx
 obtain⟨cl,e,h1,_,h3⟩:=all scope.names [] h (fun _ h=>by cases h);refine⟨cl,?_,h1,h3⟩;simp only[closureFor];rw[e];rfl
theorem yk{M:Model}{A:Around}{E:Value->Shared->Prop}{s:Shared}{scope:Scope}{env:Env}{cl:List (Str×Addr)}{Q:Env->Shared->Prop}
  (hQ:Q (newEnv scope s.heap.objs.size env.globals (cellsFrom (s.heap.objs.size+1) scope.names cl) env.qual none .none (some env) builtinsNs) { s with heap:=pushCells (s.heap.push { cls:=.type "dict",data:=.dict #[] }) scope.names }) :
  wpAny M A (newFunctionEnv scope env.globals cl [] env.qual none .none (some env)) Q E s:=by
 simp only[newFunctionEnv,Option.isSome_some,if_true];refine yI (wpAny_alloc ?_);refine yI (wpAny_layCells _ (fun name kind cells=>by cases hkc:kind==NameKind.cell<;>simp[hkc]) _ _ _ _ ?_);rw[show({ s with heap:=s.heap.push { cls:=.type "dict",data:=.dict #[] } }:Shared).heap.objs.size=s.heap.objs.size+1 from Heap.size_push ..];refine yI ?_;rw[List.forIn_nil];exact yJ (yJ hQ)
def bV(X:Cx)(N':List Str)(scope:Scope)(cl:List (Str×Addr))(s:Shared)(H:Hp)(fp:List Addr)(Mv:List (Addr×Obj)):Cx :=
 { X with N:=N',s₀:=s,H₀:=H,env:=compEnvC scope (cellsFrom (s.heap.objs.size+1) scope.names cl) s.heap.objs.size X.env,outer:=X.stack,stack:=X.stack,ex:=fp,
          fn:=fun x=>scope.names.lookup x==some .cell,pn:=X.pn++Mv,xe:=fun _ _=>False }
structure iN(X:Cx)(N':List Str)(scope:Scope):Prop where
 kind:scope.kind=.function
 nd:(scope.names.map (·.1)).Nodup
 len:X.N.length<=N'.length
 free:∀x,(x,NameKind.free)∈scope.names->X.env.kindOf x=some .cell\/X.env.kindOf x=some .free
 same:∀i x,i<X.N.length->N'[i]?=some x->(x,NameKind.free)∈scope.names->X.N[i]?=some x
 hid:∀i x,i<X.N.length->N'[i]?=some x->(∃k,(x,k)∈scope.names)->(x,NameKind.free)∈scope.names
theorem cH{α:Type}:∀{l:List (Str×α)}{x:Str}{k:α},(l.map (·.1)).Nodup->(x,k)∈l->l.lookup x=some k
 |(y,j)::r,x,k,nd,h=>by
  rw[zR,List.nodup_cons]at nd;rcases zW.mp h with h|h
  ·cases h;rw[yR];simp
  ·have ne:x≠y:=fun e=>nd.1 (e▸List.mem_map_of_mem (f:=(·.1)) h)
   rw[yR];have:(x==y)=false:=by simpa using ne
   rw[this];exact cH nd.2 h
theorem eV{α:Type}:∀{l:List (Str×α)}{x:Str}{k:α},(x,k)∈l->∃k',l.lookup x=some k'
 |(y,j)::r,x,k,h=>by
  rw[yR];cases hb:x==y with
  |true=>exact⟨j,rfl⟩
  |false =>
   rcases zW.mp h with h|h
   ·cases h;simp at hb
   ·exact eV h
theorem fU{scope:Scope}{env:Env}{x:Str}{k:NameKind}(h:(relabel scope env).names.lookup x=some k):(x,k)∈scope.names\/((x,NameKind.free)∈scope.names/\k=.cell):=by
 have h1:=mem_of_lookup h;unfold relabel at h1;obtain⟨⟨n,j⟩,hm,e⟩:=yG.mp h1;dsimp only at e;split at e
 ·rename_i hc
  cases e;refine .inr ⟨?_,rfl⟩;have:j=.free:=by
   cases j<;>simp at hc<;>rfl
  subst this;exact hm
 ·cases e;exact .inl hm
theorem oY{α:Type}{a b:List (Str×α)}{x:Str}(h:∀p∈a,p.1≠x):(a++b).lookup x=b.lookup x:=by
 induction a with
 |nil=>rfl
 |cons p r ih =>
  obtain⟨y,j⟩:=p;rw[List.cons_append,yR];have:(x==y)=false:=by
   have:=h (y,j) yB
   simpa using fun e:x=y=>this e.symm
  rw[this];exact ih fun p hp=>h p (zT _ hp)
section
variable{X:Cx}{N':List Str}{scope:Scope}{cl:List (Str×Addr)}{s:Shared}{H:Hp}{fp:List Addr}{Mv:List (Addr×Obj)}{σ:St}
theorem zu(T:iN X N' scope)(I:Inv X Mv σ H s)(hcl:∀p∈cl,X.env.cells.lookup p.1=some p.2)(hfr:∀x,(x,NameKind.free)∈scope.names->∃c,(x,c)∈cl)
  (hf:∀b∈fp,df X Mv H b) (ho:∀b∈fp,∃o,s.heap.get? b=some o) :
  Inv (bV X N' scope cl s H fp Mv) [] (σ++List.replicate (N'.length-X.N.length) none) H { s with heap:=pushCells (s.heap.push { cls:=.type "dict",data:=.dict #[] }) scope.names }:=by
 obtain⟨own,eo,o1,o2,o3⟩:=mU scope.names (s.heap.objs.size+1) cl;have keep:∀b o,s.heap.get? b=some o->(pushCells (s.heap.push { cls:=.type "dict",data:=.dict #[] }) scope.names).get? b=some o:=fun b o e=>pushCells_keeps _ _ b o (zJ _ e)
 have clt:∀x c,(x,c)∈cl->c<s.heap.objs.size:=fun x c h=>by
  obtain⟨v,z⟩:=I.cell x c (hcl _ h);exact z.lt
 -- what a cell of the block is
 have cases_:∀x c,(own++cl).lookup x=some c->(s.heap.objs.size+1<=c/\(x,c)∈own)\/X.env.cells.lookup x=some c:=fun x c h=>by
  rcases z7.mp (mem_of_lookup h) with h|h
  ·exact .inl ⟨(o1 _ h).1,h⟩
  ·exact .inr (hcl _ h)
 have hst:∀b∈fp,b∉iX X.stack:=fun b hb z=>by
  rcases zW.mp (I.stkSub b z) with e|e
  ·exact(hf b hb).2.1 e
  ·exact(hf b hb).2.2.1 e
 have okc:CellsOk (pushCells (s.heap.push { cls:=.type "dict",data:=.dict #[] }) scope.names) (s.heap.objs.size+1) (cellsFrom (s.heap.objs.size+1) scope.names []):=by
  have q:=cellsFrom_ok scope.names (s.heap.push { cls:=.type "dict",data:=.dict #[] }) (s.heap.objs.size+1) [] ⟨(fun _ _ hm=>by cases hm),List.Pairwise.nil⟩ (by rw[Heap.size_push];exact zS _);rw[Heap.size_push]at q;exact q
 have eown:cellsFrom (s.heap.objs.size+1) scope.names []=own:=by
  obtain⟨own',e',_⟩:=mU scope.names (s.heap.objs.size+1) [];have gen:∀(names:List (Str×NameKind))(n:Nat)(acc:List (Str×Addr)),cellsFrom n names acc=cellsFrom n names []++acc:=by
   intro names
   induction names with
   |nil=>intro n acc;rfl
   |cons p r ih =>
    obtain⟨name,kind⟩:=p;intro n acc;unfold cellsFrom;split
    ·rw[ih (n+1) ((name,n)::acc),ih (n+1) [(name,n)],yQ];rfl
    ·exact ih n acc
  have:=gen scope.names (s.heap.objs.size+1) cl
  rw[eo]at this;exact(List.append_cancel_right this).symm
 have ok:(bV X N' scope cl s H fp Mv).Ok:=by
  refine⟨I.ok.mod,T.kind,I.ok.glob,I.ok.blt,zS _,fun x y c h1 h2=>?_,fun x h=>?_,fun x c h1 h2=>?_,I.ok.hd,I.ok.frames,.inl rfl,fun b hb=>⟨?_,fun x c h=>?_⟩,I.bs,z9 I.ok.bsz I.sz,fun b o e hb=>?_,hst,I.stack,I.stkFree⟩
  ·have h1:(own++cl).lookup x=some c:=eo▸h1
   have h2:(own++cl).lookup y=some c:=eo▸h2;rcases cases_ x c h1 with⟨l1,m1⟩|e1
   ·rcases cases_ y c h2 with⟨l2,m2⟩|e2
    ·exact name_of_addr o3 m1 m2
    ·obtain⟨v,z⟩:=I.cell y c e2
     exact absurd (zM z.lt (Nat.le_of_succ_le (by first|exact l2|exact l1))) (xF _)
   ·rcases cases_ y c h2 with⟨l2,m2⟩|e2
    ·obtain⟨v,z⟩:=I.cell x c e1
     exact absurd (zM z.lt (Nat.le_of_succ_le (by first|exact l2|exact l1))) (xF _)
    ·exact I.ok.inj x y c e1 e2
  ·show ∃c,(cellsFrom (s.heap.objs.size+1) scope.names cl).lookup x=some c
   rw[eo];have fromFree:(x,NameKind.free)∈scope.names->∃c,(own++cl).lookup x=some c:=fun hm=>by
    obtain⟨c,hc⟩:=hfr x hm;exact eV (zN own hc)
   have fromCell:(x,NameKind.cell)∈scope.names->∃c,(own++cl).lookup x=some c:=fun hm=>by
    obtain⟨c,hc⟩:=o2 x hm;exact eV (zO cl hc)
   rcases h with h|h
   ·rcases fU h with h|⟨h,_⟩
    ·exact fromCell h
    ·exact fromFree h
   ·rcases fU h with h|⟨h,e⟩
    ·exact fromFree h
    ·cases e
  ·have h2:(own++cl).lookup x=some c:=eo▸h2
   have hc:scope.names.lookup x=some .cell:=by
    have:(scope.names.lookup x==some NameKind.cell)=true:=h1;simpa using this
   rcases cases_ x c h2 with⟨l1,m1⟩|e1
   ·exact Nat.le_of_succ_le l1
   ·-- x is one of the block's own: Mz cell stands ahead
    obtain⟨c',hc'⟩:=o2 x (mem_of_lookup hc);obtain⟨c2,hc2⟩:=eV hc';have:(own++cl).lookup x=some c2:=by
     have gen:∀l:List (Str×Addr),l.lookup x=some c2->(l++cl).lookup x=some c2:=by
      intro l
      induction l with
      |nil=>intro h;cases h
      |cons p r ih =>
       obtain⟨y,j⟩:=p;intro h;rw[List.cons_append,yR];rw[yR]at h;cases hb:x==y with
       |true=>rw[hb]at h;exact h
       |false=>rw[hb]at h;exact ih h
     exact gen own hc2
    rw[this]at h2;cases h2;exact Nat.le_of_succ_le (o1 _ (mem_of_lookup hc2)).1
  ·obtain⟨o,e⟩:=ho b hb
   exact zX (yM e)
  ·have h:(own++cl).lookup x=some c:=eo▸h
   obtain⟨o,e⟩:=ho b hb;have hlt:=yM e;rcases cases_ x c h with⟨l1,m1⟩|e1
   ·intro z
    rw[z]at l1;exact absurd (zM hlt (Nat.le_of_succ_le l1)) (xF _)
   ·exact(hf b hb).2.2.2.2.1 x c e1
  ·rcases(hf b hb).2.2.2.1 with z|z
   ·exact I.ok.noex b o e z
   ·exact absurd (zM (yM e) (z9 I.ok.bsz z)) (xF _)
 refine⟨ok,rfl,I.bare,Un.kept keep,⟨fun _=>none,(Heap.Ns.new s.heap (.type "dict")).keeps (pushCells_keeps _ _),fun i x v e1 e2 e3=>?_⟩,fun x c h=>?_,I.MD.fresh (zS _),fun x c h=>?_,fun p hp=>?_,I.MD.kept keep,?_⟩
 ·-- a name of the code around
  have hlen:=I.len;have hi:i<σ.length:=by
   rcases yX i σ.length with h|h
   ·exact h
   ·rw[yA h]at e2
    rw[List.getElem?_replicate]at e2;split at e2<;>cases e2
  rw[zQ hi]at e2;have hmem:∃k,(x,k)∈scope.names:=by
   have:∃k,(relabel scope X.env).names.lookup x=some k:=by
    rcases e3 with h|h|h<;>exact⟨_,h⟩
   obtain⟨k,h⟩:=this;rcases fU h with h|⟨h,_⟩<;>exact⟨_,h⟩
  have hfree:=T.hid i x oM e1 hmem;have eX:=T.same i x oM e1 hfree;have kX:=T.free x hfree;obtain⟨m,hn,hl⟩:=I.loc;obtain⟨u,ru,lk⟩:=hl i x v eX e2 (by rcases kX with h|h;exact .inr (.inl h);exact .inr (.inr h));refine⟨u,ru,.inr ⟨?_,?_⟩⟩
  ·-- Mz kind in the block
   have:∃k,(relabel scope X.env).names.lookup x=some k:=by
    rcases e3 with h|h|h<;>exact⟨_,h⟩
   obtain⟨k,h⟩:=this;rcases fU h with h'|⟨h',e⟩
   ·have e5:=cH T.nd h'
    have e6:=cH T.nd hfree;rw[e5]at e6;cases e6;exact .inr h
   ·subst e;exact .inl h
  ·rcases lk with⟨k1,_⟩|⟨_,c,hc,z⟩
   ·rcases kX with h|h<;>rw[h]at k1<;>cases k1
   ·refine⟨c,?_,z.keeps keep⟩
    show(cellsFrom (s.heap.objs.size+1) scope.names cl).lookup x=some c;rw[eo,oY fun p hp e=>?_]
    ·obtain⟨c',hc'⟩:=hfr x hfree
     obtain⟨c2,hc2⟩:=eV hc'
     have:=hcl _ (mem_of_lookup hc2)
     rw[hc]at this;cases this;exact hc2
    ·have e5:=cH T.nd (o1 p hp).2
     rw[e]at e5;have e6:=cH T.nd hfree;rw[e5]at e6;cases e6
 ·have h:(own++cl).lookup x=some c:=eo▸h
  rcases cases_ x c h with⟨l1,m1⟩|e1
  ·exact⟨none,(okc.empty x c (eown▸m1)).1⟩
  ·obtain⟨v,z⟩:=I.cell x c e1
   exact⟨v,z.keeps keep⟩
 ·have h:(own++cl).lookup x=some c:=eo▸h
  rcases cases_ x c h with⟨l1,m1⟩|e1
  ·exact I.MD.fresh (Nat.le_of_succ_le l1)
  ·exact I.freeC x c e1
 ·rw[List.append_nil]at hp
  obtain⟨e,n,ne,nf,d⟩:=I.pin p hp;refine⟨keep _ _ e,n,zX (yM e),fun z=>?_,d⟩;rcases zW.mp (I.stkSub p.1 z) with z|z
  ·exact ne z
  ·exact nf z
 ·show(σ++List.replicate (N'.length-X.N.length) none).length=N'.length
  rw[zY,List.length_replicate,I.len]
  have:=T.len
  lia
theorem FQ{σ1:St}{H1:Hp}{s1:Shared}{h':Heap}{pins1:List (Addr×Obj)}(I:Inv X Mv σ H s)(hf:∀b∈fp,df X Mv H b)(I1:Inv (bV X N' scope cl s H fp Mv) pins1 σ1 H1 s1)(hs:Heap.SameBut s.heap.objs.size s1.heap h') :
  Inv X Mv σ H1 { s1 with heap:=h' }:=by
 have hC:∀b o,s.heap.get? b=some o->b≠s.heap.objs.size:=fun b o e=>zX (yM e)
 have u:=I1.base;have u2:Un (iX X.stack) fp H H1 s.heap h':=by
  refine⟨fun b o e n hb hx=>?_,fun b o e n hb hx=>?_,u.free,fun b o e hx=>?_,u.tups,u.frzs,u.tbls⟩
  ·rw[hs.2 b (hC b o e)];exact u.keep b o e n hb hx
  ·obtain⟨sl,q⟩:=u.slot b o e n hb hx
   exact⟨sl,by rw[hs.2 b (hC b o e)];exact q⟩
  ·obtain⟨o',q⟩:=u.there b o e hx
   exact⟨o',by rw[hs.2 b (hC b o e)];exact q⟩
 have hCf:H1 s.heap.objs.size=none:=I1.free;refine I.call' (s':={ s1 with heap:=h' }) I1.os u2 (fun b o e=>?_) I1.bare fun b hb=>⟨(hf b hb).2.2.2.1,(hf b hb).2.1,(hf b hb).2.2.2.2.1,(hf b hb).2.2.2.2.2⟩
 refine(I1.MD b o e).stay (fun c v hc q=>(hs.2 c ?_).trans q) (fun _ q=>q) fun _ _ q=>q
 rintro rfl;rcases hc with z|z
 ·rw[<- z,hCf]at e;cases e
 ·rw[hCf]at z;cases z
def sX(X:Cx)(ifs:List Expr)(t:TT):Prop :=
 ∀(Mv:List (Addr×Obj))(s:Shared)(σ:St)(H:Hp)(Q:Bool->Hp->Prop),Inv X Mv σ H s->t σ H Q ->
  wpAny (model X.prog X.w) X.A (forIn ifs true fun c r=>if r=true then do let ok <- isTrue c X.env (eval c X.env);pure (ForInStep.yield ok) else pure (ForInStep.yield r)) (TP X Mv σ Q) X.xe s
theorem B9:sX X [] (fun _ H Q=>Q true H):=fun Mv s σ H Q I h=>wpAny_tests_nil ⟨H,I,h⟩
theorem B8{c:Expr}{t:TT}(h:PT X c t):sX X [c] t:=fun Mv s σ H Q I h'=>wpAny_tests_one (h Mv s σ H Q I h')
def Dj(k:Nat)(wi:TI)(g:TG)(tt:TT)(te:TE):TE:=fun σ H Q=>wi σ H fun J H1=>∀p,H1 p=none ->
 ∃W:Nat->Nat->St->Hp->Prop,(∃m,W 0 m (σ++List.replicate k none) (ae H1 p (.lst [])))/\∀i m σ' H',W i m σ' H' ->
  (J.stop i H'/\Q (.ref p) H')\/(J.go i H'/\∀x H2,J.yld i H' x H2->g x σ' H2 fun σ2 H3=>tt σ2 H3 fun ok H4=>if ok=true then
   te σ2 H4 fun y H5=>∃ys,H5 p=some (.lst ys)/\ys.length<sizeLine/\∃m',m'<m/\W (i+1) m' σ2 (ae H5 p (.lst (ys++[y])))
   else ∃m',m'<m/\W (i+1) m' σ2 H4)
theorem qJ{prog:Program}{w:World}{A:Around}{R:Result->Shared->Prop}{s:Shared}{elt target iter:Expr}{ifs:List Expr}{scope:Scope}{pos:Pos}{it acc:Value}{env:Env}(I:Nat->Shared->Prop)
  (turn:∀n s,I n s->wpAny (model prog w) A (pyNext it) (fun r s₁=>match r with
   |none=>R (.ok .next) s₁
   |some v=>wpAny (model prog w) A (letOwnedTupleGo target it v) (fun _ s₁'=>wpAny (model prog w) A (assign target env v) (fun _ s₂ =>
     wpAny (model prog w) A (forIn ifs true fun c r=>if r=true then do let ok <- isTrue c env (eval c env);pure (ForInStep.yield ok) else pure (ForInStep.yield r)) (fun ok s₃ =>
      if ok=true then wpAny (model prog w) A (eval elt env) (fun x s₄ =>
       wpAny (model prog w) A (call (.builtin "list.append") [acc,x]) (fun _ s₅=>∃m,m<n/\I m s₅) (fun _ _=>False) s₄) (fun _ _=>False) s₃
      else ∃m,m<n/\I m s₃) (fun _ _=>False) s₂) (fun _ _=>False) s₁') (fun _ _=>False) s₁) (fun _ _=>False) s)
  (n:Nat) (h:I n s):codeAny (model prog w) A (.compLoop (.ListComp elt [⟨target,iter,ifs,0⟩] scope pos) 0 it acc env) R s:=by
 refine codeAny_loop rfl I (fun n s hI=>?_) n h;show wpAny _ A ((compTurn (.ListComp elt [⟨target,iter,ifs,0⟩] scope pos) 0 it acc env).onRaise (fun x=>do noteFrame x env;theTreesLotGoes x)) _ _ s;refine wpAny_noted ?_;rw[compTurn_list];refine yI (wpAny_standAt (yI (yW (turn n s hI) (fun r s₁ h₁=>?_) fun _ _ h'=>h'.elim)));cases r with
 |none=>exact yJ h₁
 |some v =>
  refine yI (yW h₁ (fun _ s₁' h₁'=>?_) fun _ _ h'=>h'.elim);refine yI (yW h₁' (fun _ s₂ h₂=>yI (yW h₂ (fun ok s₃ h₃=>?_) fun _ _ h'=>h'.elim)) fun _ _ h'=>h'.elim);cases ok with
  |false=>exact yJ ⟨rfl,h₃⟩
  |true =>
   exact yI (yI (yW h₃ (fun x s₄ h₄=>yI (yW h₄ (fun _ s₅ h₅=>yJ (yJ ⟨rfl,h₅⟩)) fun _ _ h'=>h'.elim)) fun _ _ h'=>h'.elim))
theorem qd{elt iter tg:Expr}{ifs:List Expr}{pos:Pos}{g:TG}{tt:TT}{te:TE}{J:It}{it:Addr}{tn:Nat->Heap->Prop}{Q:VK}{E:Value->Shared->Prop}{RR:Value->Addr->Result->Shared->Prop}
  (hc:X.calm=true) (T:iN X N' scope) (hcl:∀p∈cl,X.env.cells.lookup p.1=some p.2) (hfr:∀x,(x,NameKind.free)∈scope.names->∃c,(x,c)∈cl)
  (hg:∀cl s H fp Mv,PG (bV X N' scope cl s H fp Mv) tg g) (ht:∀cl s H fp Mv,sX (bV X N' scope cl s H fp Mv) ifs tt) (he:∀cl s H fp Mv,PE (bV X N' scope cl s H fp Mv) elt te)
  (I:Inv X Mv σ H s) (Tn:jv X.prog X.w X.K tg J fp it tn) (st0:tn 0 s.heap) (hf:∀b∈fp,df X Mv H b)
  (h:∀p,H p=none->∃W:Nat->Nat->St->Hp->Prop,(∃m,W 0 m (σ++List.replicate (N'.length-X.N.length) none) (ae H p (.lst [])))/\∀i m σ' H',W i m σ' H' ->
   (J.stop i H'/\Q (.ref p) H')\/(J.go i H'/\∀x H2,J.yld i H' x H2->g x σ' H2 fun σ2 H3=>tt σ2 H3 fun ok H4=>if ok=true then
    te σ2 H4 fun y H5=>∃ys,H5 p=some (.lst ys)/\ys.length<sizeLine/\∃m',m'<m/\W (i+1) m' σ2 (ae H5 p (.lst (ys++[y])))
    else ∃m',m'<m/\W (i+1) m' σ2 H4))
  (hRR:∀p C s1 H1,Inv X Mv σ H1 s1->Q (.ref p) H1->(∃m,s1.heap.Ns C m)->H1 C=none->s.heap.objs.size<=C->RR (.ref p) C (.ok .next) s1) :
  wpAny (model X.prog X.w) X.A (newList []) (fun acc s₃=>wpAny (model X.prog X.w) X.A (newFunctionEnv scope X.env.globals cl [] X.env.qual none .none (some X.env)) (fun cenv s₄ =>
   codeAny (model X.prog X.w) X.A (.compStart (.ListComp elt [⟨tg,iter,ifs,0⟩] scope pos) 0 (.ref it) acc { cenv with scope:=relabel scope X.env }) (RR acc cenv.locals) s₄) E s₃) E s:=by
 refine wpAny_newObj_type (yk ?_);have hp:H s.heap.objs.size=none:=I.fresh;obtain⟨W,⟨m0,w0⟩,turn⟩:=h _ hp;have I2:Inv X Mv σ (ae H s.heap.objs.size (.lst [])) { s with heap:=s.heap.push { cls:=.type "list",data:=.seq ([]:List Value).toArray } }:=Inv.lnew (t':=s.toks) (Mz:=[]) (ys:=[]) I .nil (Nat.zero_le _);have hf2:∀b∈fp,df X Mv (ae H s.heap.objs.size (.lst [])) b:=fun b hb=>by
  obtain⟨o,e,_⟩:=Tn.obj _ _ st0 b hb;exact⟨by rw[ad (zX (yM e))];exact(hf b hb).1,(hf b hb).2⟩
 have ho2:∀b∈fp,∃o,(s.heap.push { cls:=.type "list",data:=.seq ([]:List Value).toArray }:Heap).get? b=some o:=fun b hb=>by
  obtain⟨o,e,_⟩:=Tn.obj _ _ st0 b hb;exact⟨o,zJ _ e⟩
 have I3:=zu T I2 hcl hfr hf2 ho2;have st3:tn 0 (pushCells ((s.heap.push { cls:=.type "list",data:=.seq ([]:List Value).toArray }).push { cls:=.type "dict",data:=.dict #[] }) scope.names) :=
  Tn.keep _ _ _ st0 fun b hb o e=>pushCells_keeps _ _ b o (zJ _ (zJ _ e))
 generalize hs2:({ s with heap:=s.heap.push { cls:=.type "list",data:=.seq ([]:List Value).toArray } }:Shared)=s2 at I2 I3;have hC:s.heap.objs.size<=s2.heap.objs.size:=by rw[<- hs2];exact xD (by show _<(s.heap.push _).objs.size;rw[Heap.size_push];exact Nat.lt_succ_self _)
 have stat:∀{H':Hp},(∀b∈fp,H' b=none)->∀b∈fp,df (bV X N' scope cl s2 (ae H s.heap.objs.size (.lst [])) fp Mv) [] H' b:=fun {H'} hn b hb=>by
  refine⟨hn b hb,(I3.ok.exf b hb).1,I3.ok.exfs b hb,.inl hb,(I3.ok.exf b hb).2,fun p hp=>?_⟩;rw[List.append_nil]at hp;exact(hf b hb).2.2.2.2.2 p hp
 have loop:∀s4,s4=({ s2 with heap:=pushCells (s2.heap.push { cls:=.type "dict",data:=.dict #[] }) scope.names }:Shared) ->
   codeAny (model X.prog X.w) X.A (.compLoop (.ListComp elt [⟨tg,iter,ifs,0⟩] scope pos) 0 (.ref it) (.ref s.heap.objs.size) (bV X N' scope cl s2 (ae H s.heap.objs.size (.lst [])) fp Mv).env) (RR (.ref s.heap.objs.size) s2.heap.objs.size) s4:=by
  rintro s4 rfl;refine qJ (fun n s'=>∃i σ' H',Inv (bV X N' scope cl s2 (ae H s.heap.objs.size (.lst [])) fp Mv) [] σ' H' s'/\tn i s'.heap/\(∀b∈fp,H' b=none)/\W i n σ' H') ?_ m0
   ⟨0,_,_,I3,by subst hs2;exact st3,fun b hb=>(hf2 b hb).1,w0⟩
  rintro n s3 ⟨i,σ3,H3,I4,st4,fr4,w4⟩;rcases turn i n σ3 H3 w4 with⟨stop,qn⟩|⟨go,step⟩
  ·refine ax (Tn.done (bV X N' scope cl s2 (ae H s.heap.objs.size (.lst [])) fp Mv) rfl rfl rfl hc i [] s3 σ3 H3 (fun _ _=>False) I4 (stat fr4) st4 stop) fun r s5 hq0=>?_
   obtain⟨hr,I5⟩:=hq0;subst hr;obtain⟨m,hn,_⟩:=I5.loc;exact hRR _ _ s5 H3 (FQ I2 hf2 I5 (Heap.SameBut.refl _ _)) qn ⟨m,hn⟩ I5.free hC
  ·refine ax (Tn.item (bV X N' scope cl s2 (ae H s.heap.objs.size (.lst [])) fp Mv) rfl rfl rfl hc i [] s3 σ3 H3 (fun _ _=>False) I4 (stat fr4) st4 go) fun r s5 hq0=>?_
   obtain⟨u,hr,h5⟩:=hq0;subst hr;refine ax h5 fun _ s6 hq0=>?_
   obtain⟨x,H6,I6,r6,y6,st6,fr6⟩:=hq0;have I6':=I6.pinned (stat fr6) (Tn.obj _ _ st6);have again:∀{σ7:St}{H7:Hp}{s7:Shared}{m':Nat},Inv (bV X N' scope cl s2 (ae H s.heap.objs.size (.lst [])) fp Mv) ([]++fi fp s6.heap) σ7 H7 s7->m'<n->W (i+1) m' σ7 H7 ->
     ∃m,m<n/\∃i σ' H',Inv (bV X N' scope cl s2 (ae H s.heap.objs.size (.lst [])) fp Mv) [] σ' H' s7/\tn i s7.heap/\(∀b∈fp,H' b=none)/\W i m σ' H':=fun {σ7 H7 s7 m'} I7 hm w7=>by
    refine⟨m',hm,i+1,σ7,H7,I7.unpinned,Tn.keep _ _ _ st6 fun b hb o e=>(I7.pin (b,o) (zN _ (zN _ (cP hb e)))).1,fun b hb=>?_,w7⟩;obtain⟨o,e,d⟩:=Tn.obj _ _ st6 b hb;exact(I7.pin (b,o) (zN _ (zN _ (cP hb e)))).2.1
   refine ax (hg _ _ _ _ _ _ s6 σ3 H6 x u _ I6' r6 (step x H6 y6)) fun _ s7 hq0=>?_
   obtain⟨σ7,H7,I7,q7⟩:=hq0;refine ax (ht _ _ _ _ _ _ s7 σ7 H7 _ I7 q7) fun ok s8 hq0=>?_
   obtain⟨H8,I8,q8⟩:=hq0;cases ok with
   |false =>
    simp only[yE,if_false]at q8 ⊢;obtain⟨m',hm,w8⟩:=q8;exact again I8 hm w8
   |true =>
    simp only[if_true]at q8 ⊢;refine ax (he _ _ _ _ _ _ s8 σ7 H8 _ I8 q8) fun y s9 hq0=>?_
    obtain⟨yv,H9,I9,r9,ys,e9,l9,m',hm,w9⟩:=hq0;refine ax (oz _ s9 σ7 H9 (.ref s.heap.objs.size) [yv] (.ref s.heap.objs.size) [y] (fun _ H'=>H'=ae H9 s.heap.objs.size (.lst (ys++[yv]))) I9 rfl (.cons r9 .nil) ⟨_,ys,yv,rfl,rfl,e9,l9,rfl⟩) fun _ s10 hq0=>?_
    obtain⟨_,H10,I10,_,e10⟩:=hq0;subst e10;exact again I10 hm w9
 have st5:tn 0 (pushCells (s2.heap.push { cls:=.type "dict",data:=.dict #[] }) scope.names):=by subst hs2;exact st3
 have ay:=codeAny_compStart_list (loop _ rfl) (Tn.self X.A 0 _ _ (notedBy (model X.prog X.w) X.A (bV X N' scope cl s2 (ae H s.heap.objs.size (.lst [])) fp Mv).env fun x s'=>RR (.ref s.heap.objs.size) s2.heap.objs.size (.error x) s') st5 (loop _ rfl));subst hs2;exact ay
end
section
variable{X:Cx}{N':List Str}{scope:Scope}{Mv:List (Addr×Obj)}{σ:St}{elt iter tg:Expr}{ifs:List Expr}{pos:Pos}{wi:TI}{g:TG}{tt:TT}{te:TE}
theorem qc(T:iN X N' scope):∀x∈scope.names,x.2=.local->scope.names.lookup x.1=some .local:=fun x hx e=>by
 obtain⟨n,k⟩:=x;cases e;exact cH T.nd hx
theorem GV(hc:X.calm=true)(T:iN X N' scope)(hi:PI X tg iter wi)(hg:∀cl s H fp Mv,PG (bV X N' scope cl s H fp Mv) tg g)(ht:∀cl s H fp Mv,sX (bV X N' scope cl s H fp Mv) ifs tt)
  (he:∀cl s H fp Mv,PE (bV X N' scope cl s H fp Mv) elt te) (hs:∀x,foldedSetIterable iter X.env x=pure x:=by intro _;rfl) :
  PE X (.ListComp elt [⟨tg,iter,ifs,0⟩] scope pos) (Dj (N'.length-X.N.length) wi g tt te):=by
 intro Mv s σ H Q I h;obtain⟨cl,hclos,hcl,hfr⟩:=jq (scope:=scope) (env:=X.env) fun x hx=>I.ok.has x (T.free x hx)
 rw[eval_ListComp];refine wpAny_comprehension_free (use:=none) rfl hs hclos T.kind (qc T) (yW (hi Mv s σ H _ I h) (fun xv s1 h1=>yW h1 (fun itv s2 h2=>?_) fun _ _ e=>e) fun _ _ e=>e);obtain⟨it,fp,tn,J,H2,rfl,I2,Tn,st2,f2,R⟩:=h2;refine qd (Q:=Q) (RR:=fun acc C=>compPost (model X.prog X.w) X.A X.xe none (EP X Mv σ Q) acc C) hc T hcl hfr hg ht he I2 Tn st2 f2 R ?_;rintro p C s3 H3 I3 q ⟨m,hn⟩ hC hle;refine⟨m,hn,fun h' hs'=>⟨.ref p,H3,?_,rfl,q⟩⟩;refine I3.turned (t':=s3.toks) (it:=C) (fun b o hb e=>(hs'.2 b hb).trans e) hC ?_ (.inr (z9 I2.sz hle)) (fun x c e=>?_) fun p hp=>?_
 ·exact Ne.symm (zX (zM I2.lt hle))
 ·obtain⟨v,z⟩:=I2.cell x c e
  exact zX (zM z.lt hle)
 ·exact zX (zM (yM (I2.pin p hp).1) hle)
theorem vI{i:Nat}{y:Str}{py spos:Pos}(hN:X.N.Nodup)(hiN:X.N[i]?=some y)(hx:Loc X.env.scope y)(hsw:swapsWith (.ListComp elt [⟨tg,iter,ifs,0⟩] scope pos) (some (.Name y py)) spos.line X.env=pure true)
  (hc:X.calm=true) (T:iN X N' scope) (hi:PI X tg iter wi) (hg:∀cl s H fp Mv,PG (bV X N' scope cl s H fp Mv) tg g) (ht:∀cl s H fp Mv,sX (bV X N' scope cl s H fp Mv) ifs tt)
  (he:∀cl s H fp Mv,PE (bV X N' scope cl s H fp Mv) elt te) (hs:∀x,foldedSetIterable iter X.env x=pure x:=by intro _;rfl) (hf:X.fn y=true\/X.env.scope.names.lookup y=some .local:=by first|exact .inl rfl|exact .inr rfl|assumption) :
  PS X (.Assign [.Name y py] (.ListComp elt [⟨tg,iter,ifs,0⟩] scope pos) spos) (tJ (Dj (N'.length-X.N.length) wi g tt te) (mI i)):=by
 intro Mv s σ H D I h;obtain⟨cl,hclos,hcl,hfr⟩:=jq (scope:=scope) (env:=X.env) fun x hx=>I.ok.has x (T.free x hx)
 rw[exec_Assign_Name_used _ _ _ _ hsw];refine yI (wpAny_standAt (yI ?_));show wpAny _ X.A (do let _ <- comprehension (.ListComp elt [⟨tg,iter,ifs,0⟩] scope pos) scope X.env _ (newList []) false (eval iter X.env) (some (assign (.Name y py) X.env))) _ _ s;refine yI (yW (wpAny_comprehension_free (use:=some (assign (.Name y py) X.env)) (Q:=fun _ s'=>SP X Mv D .next s') rfl hs hclos T.kind (qc T)
  (yW (hi Mv s σ H _ I h) (fun xv s1 h1=>yW h1 (fun itv s2 h2=>?_) fun _ _ e=>e) fun _ _ e=>e)) (fun _ s' hq=>yJ (yJ hq)) fun _ _ e=>e)
 obtain⟨it,fp,tn,J,H2,rfl,I2,Tn,st2,f2,R⟩:=h2;refine qd (Q:=fun x H1=>mI i x σ H1 D.nx) (RR:=fun acc C=>compPost (model X.prog X.w) X.A X.xe (some (assign (.Name y py) X.env)) (fun _ s'=>SP X Mv D .next s') acc C) hc T hcl hfr hg ht he I2 Tn st2 f2 R ?_;rintro p C s3 H3 I3 q ⟨m,hn⟩ hC hle;have hCL:C≠X.env.locals:=Ne.symm (zX (zM I2.lt hle));have hCc:∀x c,X.env.cells.lookup x=some c->c≠C:=fun x c e=>by
  obtain⟨v,z⟩:=I2.cell x c e;exact zX (zM z.lt hle)
 show wpAny _ X.A (assign (.Name y py) X.env (.ref p)) _ _ _;refine wpAny_assign_Name (om (v:=.ref p) I3 hN hiN hx rfl (fun s4 I4 hq0=>?_) hf);obtain⟨a,sb,ha⟩:=hq0;have hne:C≠a:=by
  rcases ha with e|e
  ·rw[e];exact hCL
  ·exact(hCc _ _ e).symm
 refine⟨m,hn.sameBut sb hne,fun h' hs'=>⟨_,H3,?_,q⟩⟩;refine I4.turned (t':=s4.toks) (it:=C) (fun b o hb e=>(hs'.2 b hb).trans e) hC hCL (.inr (z9 I2.sz hle)) hCc fun p hp=>?_
 exact zX (zM (yM (I2.pin p hp).1) hle)
end
end L2
namespace DD
open PySem PySem.Spec PyProof.Rows L2
section
variable{X:Cx}{Mv:List (Addr×Obj)}{σ:St}{H:Hp}{s:Shared}{F:Addr->Prop}
theorem obj_list(I:L2.Inv X Mv σ H s){a:Addr}{vs:List V}(h:bw X.K H a vs):∃Mz o n,Vals vs Mz/\s.heap.get? a=some o/\o.cls=.type "list"/\o.data=.seq Mz.toArray n:=by
 obtain⟨Mz,r,⟨o,n,e,c,_,d⟩,_⟩:=I.list h;exact⟨Mz,o,n,r,e,c,d⟩
theorem obj_tup(I:L2.Inv X Mv σ H s){a:Addr}{vs:List V}(h:fH X.K H a vs):∃Mz o n,Vals vs Mz/\s.heap.get? a=some o/\o.cls=.type "tuple"/\o.data=.seq Mz.toArray n:=by
 obtain⟨Mz,r,⟨o,e,c,n,d⟩,_⟩:=I.tuple h;exact⟨Mz,o,n,r,e,c,d⟩
end
noncomputable def pyOk(p q:PyData):Bool:=p.canLay0&&q.canLay0&&decide (min p.depth q.depth<=50)
end DD
namespace L2
open PySem PySem.Spec PyProof.Rows
def Jb(K:Frag)(a b:Addr):It :=
 ⟨fun i H=>∃xs ys x y,bw K H a xs/\bw K H b ys/\xs[i]?=some x/\ys[i]?=some y,
  fun i H x H'=>∃p u w,(∀xs,bw K H a xs->xs[i]?=some u)/\(∀ys,bw K H b ys->ys[i]?=some w)/\H p=none/\H'=ae H p (.tup [u,w])/\x=.ref p,
  fun i H=>∃xs ys,bw K H a xs/\bw K H b ys/\(xs.length<=i\/ys.length<=i)⟩
theorem Inv.turnT{X:Cx}{Mv:List (Addr×Obj)}{σ:St}{H:Hp}{s:Shared}{h':Heap}{ch:List Addr}{u w:V}{x y:Value}(I:Inv X Mv σ H s)(hf:∀b∈ch,df X Mv H b)(ru:RelV u x)(rw':RelV w y)
  (hk:∀c o,c∉ch->s.heap.get? c=some o->h'.get? c=some o) (hT:IsPair h' s.heap.objs.size x y) (hth:∀b∈ch,∃o,h'.get? b=some o):Inv X Mv σ (ae H s.heap.objs.size (.tup [u,w])) { s with heap:=h' }:=by
 have hfr:H s.heap.objs.size=none:=I.fresh;have nch:∀b o,H b=some o->b∉ch:=fun b o e hb=>by rw[(hf b hb).1]at e;cases e
 have ne:∀b o,s.heap.get? b=some o->b≠s.heap.objs.size:=fun b o e=>zX (yM e)
 refine I.step (g':=s.gens) (d':=s.drawn) (t':=s.toks) (ch:=ch) (fun b hb=>⟨(hf b hb).2.2.2.1,(hf b hb).2.1,(hf b hb).2.2.2.2.1,(hf b hb).2.2.2.2.2⟩) (fun b o _ _ hc e _=>hk b o hc e)
  (fun b o _ _ hc e _=>⟨o.slots,hk b o hc e⟩) (fun b o _ e n=>by rw[ad (ne b o e)];exact n) (fun b o hc e=>⟨o,hk b o hc e⟩) (fun b xs e=>by rw[ad (aT e hfr)];exact e)
  (fun b o v e=>by rw[ad (aT e hfr)];exact e) (fun b ps e=>⟨#[],by rw[ad (aT e hfr),e];simp⟩) (fun m hm=>?_) (fun b o e=>?_) I.bare
 ·obtain⟨o,es,ep,ho,r⟩:=hm
  exact⟨o,es,ep,hk _ o (fun z=>(hf _ z).2.1 rfl) ho,r⟩
 ·by_cases hb:b=s.heap.objs.size
  ·subst hb
   rw[aq]at e;cases e;refine⟨by show 2<=sizeLine;decide,[x,y],.cons ru (.cons rw' .nil),⟨_,hT,rfl,_,rfl⟩⟩
  ·rw[ad hb]at e
   refine(I.MD b o e).stay (fun c v hc q=>hk c v ?_ q) (fun c q=>by rw[ad (aT q hfr)];exact q) fun c xs q=>by rw[ad (aT q hfr)];exact q
   rcases hc with rfl|hc
   ·exact nch _ _ e
   ·exact nch _ _ hc
theorem Inv.turnN{X:Cx}{Mv:List (Addr×Obj)}{σ:St}{H:Hp}{s:Shared}{h':Heap}{ch:List Addr}(I:Inv X Mv σ H s)(hf:∀b∈ch,df X Mv H b)
  (hk:∀c o,c∉ch->s.heap.get? c=some o->h'.get? c=some o):Inv X Mv σ H { s with heap:=h' }:=by
 have nch:∀b o,H b=some o->b∉ch:=fun b o e hb=>by rw[(hf b hb).1]at e;cases e
 refine I.step (g':=s.gens) (d':=s.drawn) (t':=s.toks) (ch:=ch) (fun b hb=>⟨(hf b hb).2.2.2.1,(hf b hb).2.1,(hf b hb).2.2.2.2.1,(hf b hb).2.2.2.2.2⟩) (fun b o _ _ hc e _=>hk b o hc e)
  (fun b o _ _ hc e _=>⟨o.slots,hk b o hc e⟩) (fun b o _ e n=>n) (fun b o hc e=>⟨o,hk b o hc e⟩) (fun b xs e=>e)
  (fun b o v e=>e) (fun b ps e=>⟨#[],by rw[e];simp⟩) (fun m hm=>?_) (fun b o e=>?_) I.bare
 ·obtain⟨o,es,ep,ho,r⟩:=hm
  exact⟨o,es,ep,hk _ o (fun z=>(hf _ z).2.1 rfl) ho,r⟩
 ·refine(I.MD b o e).stay (fun c v hc q=>hk c v ?_ q) (fun c q=>q) fun c xs q=>q
  rcases hc with rfl|hc
  ·exact nch _ _ e
  ·exact nch _ _ hc
theorem cM{X:Cx}{Mv:List (Addr×Obj)}{σ:St}{H:Hp}{s:Shared}{a b:Addr}{xs:List V}(I:Inv X Mv σ H s)(h:bw X.K H a xs)(hb:df X Mv H b)(hob:∃o,s.heap.get? b=some o/\o.cls≠.type "list"):a≠b:=by
 rintro rfl;obtain⟨Mz,r,⟨o,n,e,c,_⟩,_⟩:=I.list h;obtain⟨o',e',c'⟩:=hob;rw[e]at e';cases e';exact c' c
theorem xj{P:Program}{w:World}{K:Frag}{elts:List Expr}{x1:Nat}{tpos:Pos}(a b z TI TO i1 i2:Addr)(D1:TI≠z)(D2:TO≠z)(D3:i1≠z)(D4:i2≠z)(D5:TI≠TO)(D6:TI≠i1)(D7:TI≠i2)(D8:TO≠i1)(D9:TO≠i2)(D10:i1≠i2) :
  jv P w K (.Tuple elts x1 tpos) (Jb K a b) [z,TI,TO,i1,i2] z (fun i h=>IsZip h z TI TO .none/\IsPair h TI (.ref i1) (.ref i2)/\(∃u v,IsPair h TO u v)/\h.IsListIter i1 a i/\h.IsListIter i2 b i) where
 mem:=by simp
 obj:=fun i h hq0 c hc=>by
  obtain⟨hz,hTI,⟨u,v,hTO⟩,⟨o1,e1,c1,d1⟩,⟨o2,e2,c2,d2⟩⟩:=hq0;simp only[zW,z5,or_false]at hc;rcases hc with rfl|rfl|rfl|rfl|rfl
  ·exact⟨_,hz,fun v z=>nomatch z⟩
  ·exact⟨_,hTI,fun v z=>nomatch z⟩
  ·exact⟨_,hTO,fun v z=>nomatch z⟩
  ·exact⟨_,e1,fun v z=>by rw[d1]at z;cases z⟩
  ·exact⟨_,e2,fun v z=>by rw[d2]at z;cases z⟩
 keep:=fun i h h' ⟨hz,hTI,⟨u,v,hTO⟩,h1,h2⟩ k=>⟨k z (by simp) _ hz,k TI (by simp) _ hTI,⟨u,v,k TO (by simp) _ hTO⟩,h1.at fun o e=>k i1 (by simp) o e,h2.at fun o e=>k i2 (by simp) o e⟩
 item:=by
  rintro X hP hw hK hc i Mv s σ H E I hf ⟨hz,hTI,⟨ua,ub,hTO⟩,h1,h2⟩ ⟨xs,ys,x,y,hq1,hq2,hx,hy⟩;subst hP hw hK;obtain⟨its1,rv1,p1,_⟩:=I.list hq1;obtain⟨its2,rv2,p2,_⟩:=I.list hq2;obtain⟨u1,hu1,ru1⟩:=rv1.get hx;obtain⟨u2,hu2,ru2⟩:=rv2.get hy;have ob:∀c∈[z,TO,i1,i2],∃o,s.heap.get? c=some o/\o.cls≠.type "list":=fun c hc=>by
   obtain⟨o1,e1,c1,d1⟩:=id h1;obtain⟨o2,e2,c2,d2⟩:=id h2;simp only[zW,z5,or_false]at hc;rcases hc with rfl|rfl|rfl|rfl
   ·exact⟨_,hz,by simp⟩
   ·exact⟨_,hTO,by simp⟩
   ·exact⟨_,e1,by rw[c1];simp⟩
   ·exact⟨_,e2,by rw[c2];simp⟩
  have na:∀c∈[z,TO,i1,i2],a≠c:=fun c hc=>cM I hq1 (hf c (by simp at hc ⊢;rcases hc with h|h|h|h<;>simp[h])) (ob c hc)
  have nb:∀c∈[z,TO,i1,i2],b≠c:=fun c hc=>cM I hq2 (hf c (by simp at hc ⊢;rcases hc with h|h|h|h<;>simp[h])) (ob c hc)
  have D:ZipApart z TI TO i1 i2 a b:=⟨D1,D2,D3,D4,D5,D6,D7,D8,D9,D10,na z (by simp),na TO (by simp),na i1 (by simp),na i2 (by simp),nb z (by simp),nb TO (by simp),nb i1 (by simp),nb i2 (by simp)⟩;refine wpAny_pyNext_zip_item D hz hTI hTO h1 h2 p1.isList p2.isList (x:=u1) (y:=u2) (by simpa using hu1) (by simpa using hu2) fun h' a1 a2 a3 a4 a5 a6 hk=>?_
  have hf4:∀c∈[z,TO,i1,i2],df X Mv H c:=fun c hc=>hf c (by simp at hc ⊢;rcases hc with h|h|h|h<;>simp[h])
  have hk':∀c o,c∉[z,TO,i1,i2]->s.heap.get? c=some o->h'.get? c=some o:=fun c o hc e=>hk c o (fun q=>hc (by simp[q])) (fun q=>hc (by simp[q])) (fun q=>hc (by simp[q])) (fun q=>hc (by simp[q])) e
  have I1:Inv X Mv σ (ae H s.heap.objs.size (.tup [x,y])) { s with heap:=h' }:=I.turnT hf4 ru1 ru2 hk' a5 (fun c hc=>by
   obtain⟨o1,e1,_⟩:=id a3;obtain⟨o2,e2,_⟩:=id a4;simp only[zW,z5,or_false]at hc;rcases hc with rfl|rfl|rfl|rfl
   ·exact⟨_,a1⟩
   ·exact⟨_,a2⟩
   ·exact⟨_,e1⟩
   ·exact⟨_,e2⟩)
  have hfr:H s.heap.objs.size=none:=I.fresh;refine⟨_,rfl,wpAny_letOwnedTupleGo_zip (s:={ s with heap:=h' }) a1 fun h'' z1 sb=>?_⟩;have hf5:∀c∈[z,TI,TO,i1,i2],(ae H s.heap.objs.size (.tup [x,y])) c=none:=fun c hc=>by
   have lt:c<s.heap.objs.size:=by
    obtain⟨o1,e1,_⟩:=id h1;obtain⟨o2,e2,_⟩:=id h2;simp only[zW,z5,or_false]at hc;rcases hc with rfl|rfl|rfl|rfl|rfl
    ·exact yM hz
    ·exact yM hTI
    ·exact yM hTO
    ·exact yM e1
    ·exact yM e2
   rw[ad (zX lt)];exact(hf c hc).1
  have I2:Inv X Mv σ (ae H s.heap.objs.size (.tup [x,y])) { s with heap:=h'' }:=Inv.turnN (s:={ s with heap:=h' }) (ch:=[z]) I1 (fun c hc=>by
   have:c=z:=by simpa using hc
   subst this;exact⟨hf5 c (by simp),(hf c (by simp)).2⟩) (fun c o hc e=>(sb.2 c (fun q=>hc (by simp[q]))).trans e)
  refine⟨.ref s.heap.objs.size,_,I2,rfl,⟨_,x,y,fun zs hzs=>by rw[I.list_inj hzs hq1];exact hx,fun zs hzs=>by rw[I.list_inj hzs hq2];exact hy,hfr,rfl,rfl⟩,⟨z1,?_,⟨u1,u2,?_⟩,?_,?_⟩,hf5⟩
  ·exact(sb.2 TI D1).trans (hk' TI _ (by simp[D1,D5,D6,D7]) hTI)
  ·exact(sb.2 TO D2).trans a2
  ·exact a3.at fun o e=>(sb.2 i1 D3).trans e
  ·exact a4.at fun o e=>(sb.2 i2 D4).trans e
 done:=by
  rintro X hP hw hK hc i Mv s σ H E I hf ⟨hz,hTI,⟨ua,ub,hTO⟩,h1,h2⟩ ⟨xs,ys,hq1,hq2,hend⟩;subst hP hw hK;obtain⟨its1,rv1,p1,_⟩:=I.list hq1;obtain⟨its2,rv2,p2,_⟩:=I.list hq2;have ob:∀c∈[z,TO,i1,i2],∃o,s.heap.get? c=some o/\o.cls≠.type "list":=fun c hc=>by
   obtain⟨o1,e1,c1,d1⟩:=id h1;obtain⟨o2,e2,c2,d2⟩:=id h2;simp only[zW,z5,or_false]at hc;rcases hc with rfl|rfl|rfl|rfl
   ·exact⟨_,hz,by simp⟩
   ·exact⟨_,hTO,by simp⟩
   ·exact⟨_,e1,by rw[c1];simp⟩
   ·exact⟨_,e2,by rw[c2];simp⟩
  have hf4:∀c∈[z,TO,i1,i2],df X Mv H c:=fun c hc=>hf c (by simp at hc ⊢;rcases hc with h|h|h|h<;>simp[h])
  have na:∀c∈[z,TO,i1,i2],a≠c:=fun c hc=>cM I hq1 (hf4 c hc) (ob c hc)
  have nb:∀c∈[z,TO,i1,i2],b≠c:=fun c hc=>cM I hq2 (hf4 c hc) (ob c hc)
  have D:ZipApart z TI TO i1 i2 a b:=⟨D1,D2,D3,D4,D5,D6,D7,D8,D9,D10,na z (by simp),na TO (by simp),na i1 (by simp),na i2 (by simp),nb z (by simp),nb TO (by simp),nb i1 (by simp),nb i2 (by simp)⟩;have hl1:=rv1.length;have hl2:=rv2.length;refine wpAny_pyNext_zip_end (I.ok.hd hc) D hz hTI hTO h1 h2 p1.isList p2.isList (by rcases hend with h|h;(left;simp;lia);(right;simp;lia)) fun h' hk=>⟨rfl,?_⟩
  exact I.turnN hf4 fun c o hc e=>hk c o (fun q=>hc (by simp[q])) (fun q=>hc (by simp[q])) (fun q=>hc (by simp[q])) (fun q=>hc (by simp[q])) e
 self:=fun _ _ _ _ _ ⟨hz,_⟩ h=>wpAny_pyIter_zip hz h
def JW(K:Frag)(ta:TA):TI:=fun σ H R=>ta σ H fun vs H1=>∃a b,vs=[.ref a,.ref b]/\(∃xs,bw K H1 a xs)/\(∃ys,bw K H1 b ys)/\R (Jb K a b) H1
theorem Em{X:Cx}{elts:List Expr}{x1:Nat}{tpos:Pos}{a b:Expr}{ta:TA}{p pos:Pos}(hg:Gl X "zip")(hm:X.mg "zip"=none)(ha:PA X [a,b] ta)(hs:starEach [a,b] X.env=[(false,eval a X.env),(false,eval b X.env)]:=by rfl)(hs2:starEach [b] X.env=[(false,eval b X.env)]:=by rfl) :
  PI X (.Tuple elts x1 tpos) (.Call (.Name "zip" p) [a,b] [] pos) (JW X.K ta):=by
 intro Mv s σ H R I h;refine Call_ (c6 I hg hm boot_zip (PyProof.Rows.callWith_type1 (ax (ha pos Mv s σ H _ I h) fun us s1 ⟨vs,H1,I1,r1,q1⟩=>?_) (by rw[hs,hs2]) (by rw[hs2];rfl)));obtain⟨l1,l2,e,⟨xs,hq1⟩,⟨ys,hq2⟩,q⟩:=q1;subst e;cases r1 with
 |cons r rr =>
  cases rr with
  |cons r' rr =>
   cases rr;cases r;cases r';obtain⟨its1,rv1,p1,_⟩:=I1.list hq1;obtain⟨its2,rv2,p2,_⟩:=I1.list hq2;refine call_zip_2 p1.isList p2.isList fun h' hz hTI hTO h1 h2 hsz hk=>?_
   have I2:Inv X Mv σ H1 { s1 with heap:=h' }:=I1.kept (t':=s1.toks) hk;refine wpAny_pyIter_zip (s:={ s1 with heap:=h' }) hz ?_;have lt:∀k:Nat,s1.heap.objs.size<=s1.heap.objs.size+k:=fun k=>Nat.le_add_right _ _
   refine⟨_,[s1.heap.objs.size+4,s1.heap.objs.size+2,s1.heap.objs.size+3,s1.heap.objs.size,s1.heap.objs.size+1],_,_,H1,rfl,I2,
    xj l1 l2 (s1.heap.objs.size+4) (s1.heap.objs.size+2) (s1.heap.objs.size+3) s1.heap.objs.size (s1.heap.objs.size+1) ?_ ?_ ?_ ?_ ?_ ?_ ?_ ?_ ?_ ?_,⟨hz,hTI,⟨_,_,hTO⟩,h1,h2⟩,fun c hc=>?_,q⟩
   all_goals first
    | (show _ + _ ≠ _ + _;intro z;exact absurd (Nat.add_left_cancel z) dC)
    | (show _ ≠ _ + _;intro z;exact absurd z (by have:=Nat.lt_add_of_pos_right (n:=s1.heap.objs.size) (k:=4) dC;have:=Nat.lt_add_of_pos_right (n:=s1.heap.objs.size) (k:=1) dC;exact zX (by assumption)))
    | (show _ + _ ≠ _;exact Nat.ne_of_gt (Nat.lt_add_of_pos_right dC))
    |skip
   have hle:s1.heap.objs.size<=c:=by
    simp only[zW,z5,or_false]at hc;rcases hc with rfl|rfl|rfl|rfl|rfl
    ·exact lt 4
    ·exact lt 2
    ·exact lt 3
    ·exact zS _
    ·exact lt 1
   obtain⟨f0,f1,f2,f3,f4,f5⟩:=I1.fpOk hle (I1.MD.fresh hle);exact⟨f0,f1,f2,f3,f4,f5⟩
theorem zh{X:Cx}:Ac X (fun o i H Q=>∃p xs k v,o=.ref p/\i=.int k/\bw X.K H p xs/\fC xs k=some v/\Q v H):=by
 rintro Mv s σ H o i ov iv Q I ro ri ⟨p,xs,k,v,e1,e2,hq,he,q⟩;subst e1 e2;cases ro;obtain⟨t,rfl⟩:=ri;obtain⟨Mz,r,pl,hz⟩:=I.list hq;obtain⟨j,h1,h2,h3,h4,h5⟩:=kz he;obtain⟨w,ew,rw'⟩:=r.get h2;have hl:=r.length;have hn:=f7;have ay:EP X Mv σ Q w s:=⟨v,H,I,rw',q⟩;by_cases h0:0<=k
 ·have hj:k.toNat=j:=by
   rw[seqIndex_of h0 h5]at h1;exact yH h1
  exact wpAny_getItem_list pl.isList h0 oM (by rw[hj];simpa using ew) ay
 ·have hj:(k+(Mz.toArray.size:Int)).toNat=j:=by
   rw[seqIndex_neg oM h4]at h1;rw[zL,<- hl];exact yH h1
  exact wpAny_getItem_list_neg pl.isList oM (by rw[zL]<;>lia) oM (by rw[hj];simpa using ew) ay
end L2
namespace DD
open PySem PySem.Spec PyProof.Rows L2
section
variable{X:Cx}{e o a b:Expr}{es:List Expr}{p q:DP}{c c':DE}{pos apos cpos:Pos}{i:Nat}{js:List DP}
theorem cnt_vals{h:Heap}{q:PyData}{e:Value->Bool}(he:∀v p as,Reads h v p as->e v=PyData.eqv p q):∀{vs:List Value}{ps:List PyData}{as:List Addr},ReadsAll h vs ps as->vs.countP e=ps.countP fun r=>PyData.eqv r q:=by
 intro vs
 induction vs with
 |nil=>intro ps as h;cases h;rfl
 |cons v vs ih =>
  intro ps as h;cases h with
  |cons r rs=>rw[List.countP_cons,List.countP_cons,ih rs,he _ _ _ r]
theorem reads_each{h:Heap}:∀{vs:List Value}{ps:List PyData}{as:List Addr},ReadsAll h vs ps as->∀v∈vs,∃p as',p∈ps/\Reads h v p as':=by
 intro vs
 induction vs with
 |nil=>intro ps as h v hv;cases hv
 |cons v vs ih =>
  intro ps as h v hv;cases h with
  |cons r rs =>
   rcases zW.mp hv with rfl|hv
   ·exact⟨_,_,yB,r⟩
   ·obtain⟨p,as',hp,h⟩:=ih rs v hv
    exact⟨p,as',zT _ hp,h⟩
noncomputable def minL:List Int->Option Int
 |[]=>none
 |x::xs=>some (xs.foldl (fun a b=>if b<a then b else a) x)
theorem minF:∀(xs:List Int)(x:Int),(xs.foldl (fun a b=>if b<a then b else a) x∈x::xs)/\∀a∈x::xs,xs.foldl (fun a b=>if b<a then b else a) x<=a
 |[],x=>⟨by simp,by simp⟩
 |y::xs,x=>by
  obtain⟨h1,h2⟩:=minF xs (if y<x then y else x);rw[List.foldl_cons];constructor
  ·rcases zW.mp h1 with h|h
   ·rw[h];split<;>simp
   ·simp[h]
  ·intro a ha
   have hm:=h2 (if y<x then y else x) (by simp);have hx:(if y<x then y else x)<=x:=by split<;>lia
   have hy:(if y<x then y else x)<=y:=by split<;>lia
   rcases zW.mp ha with rfl|ha
   ·exact Int.le_trans hm hx
   ·rcases zW.mp ha with rfl|ha
    ·exact Int.le_trans hm hy
    ·exact h2 a (by simp[ha])
theorem minL_eq{ns:List Int}{m M:Int}(h:minL ns=some m)(h1:M∈ns)(h2:∀a∈ns,M<=a):M=m:=by
 cases ns with
 |nil=>cases h1
 |cons x xs =>
  cases h;obtain⟨g1,g2⟩:=minF xs x;have a1:=g2 M h1;have a2:=h2 _ g1;lia
end
section
variable{X:Cx}{e o a b:Expr}{es:List Expr}{p q:DP}{c c':DE}{pos apos cpos:Pos}{i:Nat}{js:List DP}
theorem any_vals{h:Heap}{q:PyData}{e:Value->Bool}(he:∀v p as,Reads h v p as->e v=PyData.eqv p q):∀{vs:List Value}{ps:List PyData}{as:List Addr},ReadsAll h vs ps as->vs.any e=ps.any fun r=>PyData.eqv r q
 |_,_,_,.nil=>rfl
 |_,_,_,.cons r rs=>by rw[List.any_cons,List.any_cons,any_vals he rs,he _ _ _ r]
end
end DD
namespace L2
open PySem PySem.Spec PyProof.Rows
def w6(K:Frag)(a:Addr)(n0:Nat):It :=
 ⟨fun i H=>∃xs x,bw K H a xs/\xs[i]?=some x,
  fun i H x H'=>∃p u,(∀xs,bw K H a xs->xs[i]?=some u)/\H p=none/\H'=ae H p (.tup [.int ((n0+i:Nat):Int),u])/\x=.ref p,
  fun i H=>∃xs,bw K H a xs/\xs.length=i⟩
theorem oJ{prog:Program}{w:World}{A:Around}(hh:A.handled=none)(it l:Addr)(hne:l≠it)(items:Array Value)(n0:Nat) :
  Draws prog w A it [it,l] (n0+items.size) (fun i v=>n0<=i/\items[i-n0]?=some v) (fun i h=>n0<=i/\h.IsListIter it l (i-n0)/\h.IsList l items) where
 live:=fun _ _ q=>by obtain⟨o,ho,_⟩:=q.2.1;exact⟨o,ho⟩
 frame:=fun _ _ _ q hk=>⟨q.1,q.2.1.at fun o e=>hk it (by simp) o e,q.2.2.at fun o e=>hk l (by simp) o e⟩
 item:=fun i s Q E hi q hQ=>by
  have hl:i-n0<items.size:=by have:=q.1;lia
  refine wpAny_nextOf_list_item q.2.1 q.2.2 (x:=items[i-n0]) (by simp[hl]) fun h' hit' hs'=>?_
  refine hQ _ h' s.toks ⟨q.1,by simp[hl]⟩ ⟨Nat.le_succ_of_le q.1,?_,q.2.2.extBut hs'.extBut hne⟩ hs';rw[show i+1-n0=i-n0+1 by have:=q.1;lia];exact hit'
 done:=fun s Q E q hE=>wpAny_nextOf_list_end hh q.2.1 q.2.2 (by simp) hE
theorem vi{P:Program}{w:World}{K:Frag}{elts:List Expr}{x1:Nat}{tpos:Pos}(a z it:Addr)(n0:Nat)(D:z≠it) :
  jv P w K (.Tuple elts x1 tpos) (w6 K a n0) [z,it] z (fun i h=>(∃old,IsEnum h z it ((n0+i:Nat):Int) old)/\h.IsListIter it a i) where
 mem:=by simp
 obj:=fun i h hq0 c hc=>by
  obtain⟨⟨old,hz⟩,⟨o1,e1,c1,d1⟩⟩:=hq0;simp only[zW,z5,or_false]at hc;rcases hc with rfl|rfl
  ·exact⟨_,hz,fun v z=>nomatch z⟩
  ·exact⟨_,e1,fun v z=>by rw[d1]at z;cases z⟩
 keep:=fun i h h' ⟨⟨old,hz⟩,h1⟩ k=>⟨⟨old,k z (by simp) _ hz⟩,h1.at fun o e=>k it (by simp) o e⟩
 item:=by
  rintro X hP hw hK hc i Mv s σ H E I hf ⟨⟨old,hz⟩,h1⟩ ⟨xs,x,hq,hx⟩;subst hP hw hK;obtain⟨Mz,rv,p1,_⟩:=I.list hq;obtain⟨u,hu,ru⟩:=rv.get hx;have na:a≠z:=cM I hq (hf z (by simp)) ⟨_,hz,by simp⟩;have nb:a≠it:=cM I hq (hf it (by simp)) (by obtain⟨o1,e1,c1,d1⟩:=id h1;exact⟨_,e1,by rw[c1];simp⟩);have hil:i<Mz.length:=(zD.mp hu).1;refine wpAny_pyNext_enum_itemD (oJ (A:=X.A.in1) (I.ok.hd hc) it a nb Mz.toArray n0) hz ⟨Nat.le_add_right _ _,by rw[Nat.add_sub_cancel_left];exact h1,p1.isList⟩ (by simp[hil]) D (by simp[D,na.symm]) fun v h' tk hv ho hst hT hsz hk=>?_
  have ev:v=u:=by
   have h2:=hv.2;rw[Nat.add_sub_cancel_left]at h2;simp only[List.getElem?_toArray]at h2;rw[hu]at h2;exact(yH h2).symm
  subst ev;have hf2:∀c∈[z,it],df X Mv H c:=fun c hc=>hf c hc
  have hk':∀c o,c∉[z,it]->s.heap.get? c=some o->h'.get? c=some o:=fun c o hc e=>hk c o (fun q=>hc (by simp[q])) (fun q=>hc (by simp[q])) e
  have I0:Inv X Mv σ (ae H s.heap.objs.size (.tup [.int ((n0+i:Nat):Int),x])) { s with heap:=h' }:=I.turnT hf2 (u:=.int ((n0+i:Nat):Int)) ⟨tk,rfl⟩ ru hk' hT (fun c hc=>by
   obtain⟨o1,e1,_⟩:=id hst.2.1;simp only[zW,z5,or_false]at hc;rcases hc with rfl|rfl
   ·exact⟨_,ho⟩
   ·exact⟨_,e1⟩)
  have I1:Inv X Mv σ (ae H s.heap.objs.size (.tup [.int ((n0+i:Nat):Int),x])) { s with heap:=h',toks:=tk+1 }:=I0.kept (t':=tk+1) (fun _ _ e=>e);have hfr:H s.heap.objs.size=none:=I.fresh;refine⟨_,rfl,wpAny_letOwnedTupleGo_enum (s:={ s with heap:=h',toks:=tk+1 }) ho fun h'' z1 sb=>?_⟩;have hf5:∀c∈[z,it],(ae H s.heap.objs.size (.tup [.int ((n0+i:Nat):Int),x])) c=none:=fun c hc=>by
   have lt:c<s.heap.objs.size:=by
    obtain⟨o1,e1,_⟩:=id h1;simp only[zW,z5,or_false]at hc;rcases hc with rfl|rfl
    ·exact yM hz
    ·exact yM e1
   rw[ad (zX lt)];exact(hf c hc).1
  have I2:Inv X Mv σ (ae H s.heap.objs.size (.tup [.int ((n0+i:Nat):Int),x])) { s with heap:=h'',toks:=tk+1 }:=Inv.turnN (s:={ s with heap:=h',toks:=tk+1 }) (ch:=[z]) I1 (fun c hc=>by
   have:c=z:=by simpa using hc
   subst this;exact⟨hf5 c (by simp),(hf c (by simp)).2⟩) (fun c o hc e=>(sb.2 c (fun q=>hc (by simp[q]))).trans e)
  refine⟨.ref s.heap.objs.size,_,I2,rfl,⟨_,x,fun zs hzs=>by rw[I.list_inj hzs hq];exact hx,hfr,rfl,rfl⟩,⟨⟨_,by rw[show((n0+(i+1):Nat):Int)=((n0+i:Nat):Int)+1 by lia];exact z1⟩,?_⟩,hf5⟩;have h3:=hst.2.1;rw[show n0+i+1-n0=i+1 by lia]at h3;exact h3.at fun o e=>(sb.2 it D.symm).trans e
 done:=by
  rintro X hP hw hK hc i Mv s σ H E I hf ⟨⟨old,hz⟩,h1⟩ ⟨xs,hq,hend⟩;subst hP hw hK;obtain⟨Mz,rv,p1,_⟩:=I.list hq;have nb:a≠it:=cM I hq (hf it (by simp)) (by obtain⟨o1,e1,c1,d1⟩:=id h1;exact⟨_,e1,by rw[c1];simp⟩);have hl:=rv.length;refine wpAny_pyNext_enum_endD (oJ (A:=X.A.in1) (I.ok.hd hc) it a nb Mz.toArray n0) hz ⟨Nat.le_add_right _ _,?_,p1.isList⟩ fun h' hk=>⟨rfl,?_⟩
  ·rw[Nat.add_sub_cancel_left,zL,<- hl,hend];exact h1
  ·exact I.turnN (ch:=[z,it]) (fun c hc=>hf c hc) fun c o hc e=>hk c o (fun q=>hc (by simp[q])) e
 self:=fun _ _ _ _ _ ⟨⟨_,hz⟩,_⟩ h=>wpAny_pyIter_enum hz h
theorem oO:bootBuiltins "enumerate"=some (.type "enumerate"):=by decide +kernel
def Hk(K:Frag)(n0:Nat)(ta:TA):TI:=fun σ H R=>ta σ H fun vs H1=>∃a,vs=[.ref a]/\(∃xs,bw K H1 a xs)/\R (w6 K a n0) H1
theorem qE{X:Cx}{Mv:List (Addr×Obj)}{σ:St}{H1:Hp}{s1:Shared}{h':Heap}{t':Nat}{l:Addr}{n0:Nat}{elts:List Expr}{x1:Nat}{tpos:Pos}{R:It->Hp->Prop}(I1:Inv X Mv σ H1 s1)(he:IsEnum h' (s1.heap.objs.size+1) s1.heap.objs.size (n0:Int) .none)(hi:h'.IsListIter s1.heap.objs.size l 0)
  (hk:∀b o,s1.heap.get? b=some o->h'.get? b=some o) (q:R (w6 X.K l n0) H1):F3 X Mv σ (.Tuple elts x1 tpos) R (.ref (s1.heap.objs.size+1)) { s1 with heap:=h',toks:=t' }:=by
 have I2:Inv X Mv σ H1 { s1 with heap:=h',toks:=t' }:=I1.kept (t':=t') hk;refine⟨_,[s1.heap.objs.size+1,s1.heap.objs.size],_,_,H1,rfl,I2,vi l (s1.heap.objs.size+1) s1.heap.objs.size n0 (Nat.ne_of_gt (Nat.lt_succ_self _)),⟨⟨_,by simpa using he⟩,hi⟩,fun c hc=>?_,q⟩;have hle:s1.heap.objs.size<=c:=by
  simp only[zW,z5,or_false]at hc;rcases hc with rfl|rfl
  ·exact Nat.le_succ _
  ·exact zS _
 obtain⟨f0,f1,f2,f3,f4,f5⟩:=I1.fpOk hle (I1.MD.fresh hle);exact⟨f0,f1,f2,f3,f4,f5⟩
theorem Cb{X:Cx}{elts:List Expr}{x1:Nat}{tpos:Pos}{a:Expr}{ta:TA}{p pos:Pos}(hg:Gl X "enumerate")(hm:X.mg "enumerate"=none)(ha:PA X [a] ta)(hs:starEach [a] X.env=[(false,eval a X.env)]:=by rfl) :
  PI X (.Tuple elts x1 tpos) (.Call (.Name "enumerate" p) [a] [] pos) (Hk X.K 0 ta):=by
 intro Mv s σ H R I h;refine Call_ (c6 I hg hm oO (PyProof.Rows.callWith_type1 (ax (ha pos Mv s σ H _ I h) fun us s1 ⟨vs,H1,I1,r1,q1⟩=>?_) (by rw[hs];rfl) (by rfl)));obtain⟨l,e,⟨xs,hq⟩,q⟩:=q1;subst e;cases r1 with
 |cons r rr =>
  cases rr;cases r;obtain⟨Mz,rv,p1,_⟩:=I1.list hq;refine call_enumerate_list p1.isList fun h' he hi hsz hk=>?_
  refine wpAny_pyIter_enum (s:={ s1 with heap:=h' }) he ?_;exact qE (t':=s1.toks) (n0:=0) I1 he hi hk q
section
variable{prog:Program}{w:World}{A:Around}{E:Value->Shared->Prop}{s:Shared}
theorem xp{α:Type}{x:Sem α}{Q Q1:α->Shared->Prop}{M:Model}(h:wpAny M A x Q E s)(hQ:∀a s,Q a s->Q1 a s):wpAny M A x Q1 E s:=yW h hQ fun _ _ x=>x
theorem pC(a v:Value):checkTypeCall "enumerate" ⟨[a],[("start",v)]⟩=pure ():=by kernel_rfl
theorem oX(a v:Value):checkBuiltinCall "enumerate.__new__" ⟨[.type "enumerate",a],[("start",v)]⟩=pure ():=by kernel_rfl
theorem nV(o a v:Value):argsOk "object.__init__" ⟨[o,a],[("start",v)]⟩:=by
 unfold argsOk;rw[signature?_of (id:="object.__init__") (n:=['_','_','t','i','n','i','_','_']) (o:=['t','c','e','j','b','o']) (by kernel_rfl) F.owner_object]
 kernel_rfl
theorem uv{T newId:String}{self a v:Value}(hl:typeLookup (.type T) "__init__"=pure (some (.builtin "object.__init__")))(hm:Bind.madeBy (.type T)=pure (some newId))(hne:(some newId !=some "object.__new__")=true) :
  Meets (Builtin.«object.__init__» ⟨[self,a],[("start",v)]⟩) (fun _ R s=>s.TypeIs self T/\R (.ok (.ret .none)) s):=Meets.of_wp fun prog w A R s hs=>by
 obtain⟨hT,hq⟩:=hs
 repeat (any_goals (first | assumption | wp_step))
 exact⟨_,rfl,hq⟩
theorem qO{M:Model}{pos:Pos}{T:String}{args:List (Bool×Sem Value)}{kws:List (Option Str×Sem Value)}{Q:Value->Shared->Prop}(hp:args.any (·.1)=false)(hk:kws.any (·.1.isNone)=false)
  (h:wpAny M A (evalArgs (.type T) true args kws) (fun a s₁=>wpAny M A (call (.type T) a.pos a.kw) Q E s₁) E s):wpAny M A (callWith pos (.type T) [] args kws) Q E s:=by
 unfold callWith;refine yI (yV (xp h fun a s₁ h₁=>yI (wpAny_standAt ?_)));simp only[hp,hk,Bool.or_false];refine yI (yJ (yI (xp h₁ fun r s₂ hr=>yI (yV (wpAny_point (yJ hr))))))
end
section
variable{prog:Program}{w:World}{A:Around}{E:Value->Shared->Prop}{s:Shared}
theorem AJ{it t:Addr}{items:Array Value}(hne:t≠it):∀(n i:Nat)(s:Shared)(Q:List Value->Shared->Prop),s.heap.IsListIter it t i->s.heap.IsList t items->i+n<=items.size ->
  (∀h',h'.IsListIter it t (i+n)->Heap.SameBut it s.heap h'->Q ((items.toList.drop i).take n) { s with heap:=h' })->wpAny (model prog w) A (draw (.ref it) n) Q E s
 |0,i,s,Q,hit,_,_,hQ=>yJ (by simpa using hQ s.heap hit (Heap.SameBut.refl ..))
 |n+1,i,s,Q,hit,ht,hle,hQ=>by
  have hlt:i<items.size:=by lia
  refine yI (m:=pyNext (.ref it)) (wpAny_pyNext_list_item hit ht (x:=items[i]) (by simp[hlt]) fun h₁ hit₁ hs₁=>?_);refine yI (yV (AJ hne n (i+1) _ _ hit₁ (ht.extBut hs₁.extBut hne) oM fun h₂ hit₂ hs₂=>yJ ?_));have q:=hQ h₂ (by rw[show i+(n+1)=i+1+n by lia];exact hit₂) (hs₁.trans hs₂);rw[show items.toList.drop i=items[i]::items.toList.drop (i+1) by simp[List.drop_eq_getElem_cons,hlt],List.take_succ_cons]at q;exact q
theorem Bn{t:Addr}{items:Array Value}{targets:List (Bool×(Value->Sem Unit))}{Q:Unit->Shared->Prop}(hh:A.handled=none)(ht:s.heap.IsList t items)(hn:targets.length=items.size)(hstar:targets.findIdx? (·.1)=none)
  (h:∀h',Heap.ExtBut s.heap.objs.size s.heap h'->wpAny (model prog w) A (assignInOrder (targets.map (·.2)) items.toList) Q E { s with heap:=h' }):wpAny (model prog w) A (unpack (.ref t) targets) Q E s:=by
 have hlt:t≠s.heap.objs.size:=by obtain⟨o,ho,_⟩:=ht;exact zX (yM ho)
 unfold unpack;rw[hn,hstar];refine yI (yV ?_);unfold unpackItems;refine yI ?_;unfold notIterableAtAll;refine yI (wpAny_specialOf ht.typeIs slot_list_iter.lookup (yJ ?_));simp only[yE,if_false];refine yI (yV (wpAny_pyIter_list ht (yI (yV (AJ hlt items.size 0 _ _ ⟨_,z6 _ rfl,rfl,rfl⟩ (ht.push _) oM fun h₁ hit₁ hs₁=>?_)))));rw[show List.take items.size (List.drop 0 items.toList)=items.toList by rw[List.drop_zero];exact List.take_of_length_le (by simp),yK (by simp)];refine yI (yV (wpAny_pyNext_list_end hh hit₁ ((ht.push _).extBut hs₁.extBut hlt) (by simp) fun h₂ he₂=>?_));simp only[Option.isSome_none,yE,if_false];exact yJ (h h₂ fun b o hb e=>he₂ b o hb (hs₁.extBut b o hb (zJ _ e)))
end
section
variable{X:Cx}{pos:Pos}
noncomputable def Ho(K:Frag)(n:Nat)(t:lb):TG:=fun v σ H Q=>∃a xs,v=.ref a/\bw K H a xs/\xs.length=n/\t xs σ H Q
theorem Ce{es:List Expr}{k:Nat}{t:lb}{n:Nat}(hc:X.calm=true)(h:oV X es t)(hn:(assignEach es X.env).length=n:=by rfl)(hst:(assignEach es X.env).findIdx? (·.1)=none:=by rfl):PG X (.Tuple es k pos) (Ho X.K n t):=by
 intro Mv s σ H v u Q I r hw;obtain⟨a,xs,e1,hq,hl,hw⟩:=hw;subst e1;cases r;obtain⟨Mz,rv,pl,hz⟩:=I.list hq;rw[arm_assign_Tuple];refine yI (wpAny_standAt (Bn (I.ok.hd hc) pl.isList (by simp[hn,<- hl,rv.length]) hst fun h' hx=>?_));have I1:Inv X Mv σ H { s with heap:=h' }:=I.kept (t':=s.toks) fun b o e=>hx b o (zX (yM e)) e
 exact h Mv _ σ H xs _ Q I1 (by simpa using rv) hw
theorem ja:∀(l:List Value)(k:Nat),(∀(j:Nat)(v:Value),l[j]?=some v->∃t,v=.int ((k+j:Nat):Int) t)->Vals ((List.range' k l.length).map fun(q:Nat)=>V.int (q:Int)) l
 |[],_,_=>.nil
 |u::l,k,h=>by
  rw[xB,List.range'_succ,zR];refine .cons ?_ (ja l (k+1) fun j v e=>?_)
  ·obtain⟨t,e⟩:=h 0 u rfl
   exact⟨t,e⟩
  ·obtain⟨t,e2⟩:=h (j+1) v (by simpa using e)
   exact⟨t,by rw[e2,show k+(j+1)=k+1+j by lia]⟩
theorem jr:bootBuiltins "list"=some (.type "list"):=by decide +kernel
def Di(ta:TE):TE:=fun σ H Q=>Ao ta tG σ H fun vs H1=>∃j:Nat,vs=[.int (j:Int)]/\j<=1000/\∀p,H1 p=none->Q (.ref p) (ae H1 p (.lst ((List.range' 0 j).map fun(q:Nat)=>V.int (q:Int))))
theorem yd{a:Expr}{ta:TE}{p1 p2 pos2:Pos}(hc:X.calm=true)(hgl:Gl X "list")(hml:X.mg "list"=none)(hgr:Gl X "range")(hmr:X.mg "range"=none)(ha:PE X a ta)
  (hs:starEach [a] X.env=[(false,eval a X.env)]:=by rfl) (hs1:starEach [.Call (.Name "range" p2) [a] [] pos2] X.env=[(false,eval (.Call (.Name "range" p2) [a] [] pos2) X.env)]:=by rfl) :
  PE X (.Call (.Name "list" p1) [.Call (.Name "range" p2) [a] [] pos2] [] pos) (Di ta):=by
 intro Mv s σ H Q I h;refine Call_ (c6 I hgl hml jr (PyProof.Rows.callWith_type1 ?_ (by rw[hs1];rfl) (by rfl)));rw[hs1];refine Calls.spliced_cons (Call_ (c6 I hgr hmr boot_range (PyProof.Rows.callWith_type1 (ax ((rY ha vS hs) pos2 Mv s σ H _ I h) fun us s1 ⟨vs,H1,I1,r1,q1⟩=>?_) (by rw[hs];rfl) (by rfl))));cases r1 with
 |nil=>obtain⟨j,e,_⟩:=q1;cases e
 |cons r rr =>
  obtain⟨j,e,hj,q⟩:=q1;cases e;cases rr;obtain⟨t,rfl⟩:=r;refine call_range_1 (Calls.spliced_nil ?_);have I2:Inv X Mv σ H1 { s1 with heap:=s1.heap.push { cls:=.type "range",data:=.fields #[.int 0 s1.toks,.int (j:Int) t,.int 1 (s1.toks+1)] },toks:=s1.toks+1+1 }:=I1.kept fun b o e=>zJ _ e
  refine call_list_range (n:=j) (I.ok.hd hc) (IsRange.new ..) (small_one oM oM oM oM) (by rw[rangeSize_one];split<;>lia) oM fun h' tk acc' c' hk hS hacc=>?_
  have hv:=ja acc'.toList 0 (fun i v e=>by
   obtain⟨t,e2⟩:=hacc.2 i v (by simpa using e);exact⟨t,by rw[e2];congr 1;lia⟩)
  rw[show acc'.toList.length=j by simpa using hacc.1]at hv;exact⟨.ref _,_,I2.laid (o:=.lst ((List.range' 0 j).map fun(q:Nat)=>V.int (q:Int))) hk (zS _) ⟨xD (oo (by simp;lia)),acc'.toList,c',hv,hS⟩,rfl,q _ I2.fresh⟩
end
end L2
namespace PySem.AutoSeq1
theorem uz(l:Addr)(items:Array Value)(n:Nat)(b:Addr)(items2:Array Value)(n2:Nat)(sl:Array (Option Value))(hc0:¬(!items.isEmpty&&Builtin.List.listTooLong (items.size+items2.size))=true)(hc1:items.size<=sizeLine)(hs2:items.size+items2.size<=sizeLine+1) :
  Meets (Builtin.«list.extend» ⟨[.ref l,.ref b],[]⟩) (fun _ R s=>s.heap.get? l=some { cls:=.type "list",dict:=none,data:=.seq items n,slots:=#[] }/\s.heap.get? b=some { cls:=.type "list",dict:=none,data:=.seq items2 n2,slots:=sl }/\R (.ok (.ret Value.none)) { s with heap:=s.heap.update l (Obj.mapSeq fun x=>x++items2),toks:=s.toks }) :=
 .of_wp fun prog w A R s h=>by
  obtain⟨hp,g,d,tk,os⟩:=s;obtain⟨hl,hb,h⟩:=h;have f1:=idx_int;have f2:=sub_tuple_tuple;have f3:=sub_list_list;have f4:=sub_tuple_list;have f5:=sub_list_tuple;have hz':(items++items2).size<=sizeLine+1:=by rw[Array.size_append];exact hs2
  wp_walk using (wpAny_updateSeq hl rfl (hz:=hc1) (_hz':=hz')),wpAny_loadPart' hl,wpAny_loadPart' hb;exact⟨_,rfl,h⟩
end PySem.AutoSeq1
namespace L2
open PySem PySem.Spec PyProof.Rows
section
variable{X:Cx}
def Gz(K:Frag):V->List V->Hp->VK->Prop:=fun x vs H Q=>∃l b xs zs,x=.ref l/\vs=[.ref b]/\H l=some (.lst xs)/\bw K H b zs/\xs.length+zs.length<=sizeLine/\Q .non (ae H l (.lst (xs++zs)))
theorem Cs:F6 X "list.extend" (Gz X.K):=by
 intro Mv s σ H x vs v us Q I rx rv h;obtain⟨l,b,xs,zs,rfl,rfl,hH,hB,hz,q⟩:=h;cases rx;obtain⟨u,rfl,ru⟩:=rv.one;cases ru;obtain⟨z,Mz,n,r,hl,e⟩:=I.lstM hH;obtain⟨its2,r2,pl,hz2⟩:=I.list hB;obtain⟨o,n2,e2,c2,d2,s2⟩:=pl;obtain⟨oc,od,odt,osl⟩:=o;dsimp only at c2 d2 s2;subst c2;subst d2;subst s2;have hl2:=r2.length;have hsz:Mz.toArray.size+its2.toArray.size<=sizeLine:=by rw[zL,zL];lia
 have hlong:¬(!Mz.toArray.isEmpty&&Builtin.List.listTooLong (Mz.toArray.size+its2.toArray.size))=true:=by
  rw[notLongL hsz,Bool.and_false];exact Bool.false_ne_true
 refine call_meets F.slot_list_extend ⟨_,e,rfl⟩ F.entry_list_extend (F.args_list_extend_2 _ _)
  (PySem.AutoSeq1.uz l Mz.toArray n b its2.toArray n2 osl hlong (by rw[zL];lia) oM) ⟨e,e2,?_⟩
 refine⟨.non,_,I.lset (its':=Mz++its2) hH e (by simp) (r.append r2) ?_,rfl,q⟩;rw[zY];lia
end
end L2
namespace PySem.AutoSeq1
theorem CQ(l:Addr)(items:Array Value)(n:Nat)(sl1:Array (Option Value))(b:Addr)(items2:Array Value)(n2:Nat)(sl:Array (Option Value))(hs2:items.size+items2.size<=sizeLine) :
  Meets (Builtin.«list.__add__» ⟨[.ref l,.ref b],[]⟩) (fun _ R s=>s.heap.get? l=some { cls:=.type "list",dict:=none,data:=.seq items n,slots:=sl1 }/\s.heap.get? b=some { cls:=.type "list",dict:=none,data:=.seq items2 n2,slots:=sl }/\R (.ok (.ret (Value.ref s.heap.objs.size))) { s with heap:=s.heap.push { cls:=.type "list",data:=.seq (items++items2) },toks:=s.toks }) :=
 .of_wp fun prog w A R s h=>by
  obtain⟨hp,g,d,tk,os⟩:=s;obtain⟨hl,hb,h⟩:=h;have f1:=idx_int;have f2:=sub_tuple_tuple;have f3:=sub_list_list;have f4:=sub_tuple_list;have f5:=sub_list_tuple;have hz':(items++items2).size<=sizeLine+1:=by rw[Array.size_append];lia
  have hlong:Builtin.List.listTooLong (items.size+items2.size)=false:=L2.notLongL hs2
  wp_walk using wpAny_loadPart' hl,wpAny_loadPart' hb
  all_goals first|exact⟨_,rfl,h⟩|skip
end PySem.AutoSeq1
namespace L2
open PySem PySem.Spec PyProof.Rows
section
variable{X:Cx}
def GB(K:Frag):R2:=fun x y H Q=>∃l b xs zs,x=.ref l/\y=.ref b/\bw K H l xs/\bw K H b zs/\xs.length+zs.length<=sizeLine/\∀p,H p=none->Q (.ref p) (ae H p (.lst (xs++zs)))
theorem Cl:j3 X (binaryOp .Add) (GB X.K):=by
 intro Mv s σ H x y v u Q I rx ry h;obtain⟨l,b,xs,zs,rfl,rfl,hH,hB,hz,q⟩:=h;cases rx;cases ry;obtain⟨Mz,r,⟨o1,n1,e1,c1,d1,s1⟩,_⟩:=I.list hH;obtain⟨its2,r2,⟨o2,n2,e2,c2,d2,s2⟩,_⟩:=I.list hB;obtain⟨oc,od,odt,osl⟩:=o1;obtain⟨pc,pd,pdt,psl⟩:=o2;dsimp only at c1 d1 s1 c2 d2 s2;subst c1;subst d1;subst s1;subst c2;subst d2;subst s2;have hl1:=r.length;have hl2:=r2.length;have hsz:Mz.toArray.size+its2.toArray.size<=sizeLine:=by rw[zL,zL];lia
 refine wpAny_binaryOp_concat (T:="list") (id:="list.__add__") ⟨_,e1,rfl⟩ ⟨_,e2,rfl⟩ noFill_list_add (by rfl) ?_;refine call_meets F.slot_list_add ⟨_,e1,rfl⟩ F.entry_list_add (F.args_list_add_2 _ _) (PySem.AutoSeq1.CQ l Mz.toArray n1 osl b its2.toArray n2 psl hsz) ⟨e1,e2,?_⟩;have ea:Mz.toArray++its2.toArray=(Mz++its2).toArray:=by simp
 rw[ea];exact⟨.ref _,_,I.lnew (t':=s.toks) (r.append r2) (by rw[zY];lia),rfl,q _ I.fresh⟩
end
section
variable{κ:Type}[DecidableEq κ]
noncomputable def dZ(Mx:List (κ×V))(k:κ):Option V:=(Mx.find? fun kv=>decide (kv.1=k)).map (·.2)
noncomputable def d3(Mx:List (κ×V))(k:κ)(v:V):List (κ×V) :=
 if(Mx.any fun kv=>decide (kv.1=k))=true then Mx.map (fun kv=>if kv.1=k then(kv.1,v) else kv) else Mx++[(k,v)]
theorem lq{p:κ×V}{r:List (κ×V)}{k:κ}(e:p.1=k):dZ (p::r) k=some p.2:=by simp[dZ,List.find?_cons,e]
theorem lu{p:κ×V}{r:List (κ×V)}{k:κ}(e:¬p.1=k):dZ (p::r) k=dZ r k:=by simp[dZ,List.find?_cons,e]
theorem pA(k:κ):∀Mx:List (κ×V),(Mx.any fun kv=>decide (kv.1=k))=(dZ Mx k).isSome
 |[]=>rfl
 |p::r=>by
  rw[List.any_cons];by_cases e:p.1=k
  ·simp only[lq e,yZ e,Bool.true_or,Option.isSome_some]
  ·rw[lu e,yD e,Bool.false_or];exact pA k r
theorem kG(Mx:List (κ×V))(k:κ)(v:V):(d3 Mx k v).length<=Mx.length+1:=by
 unfold d3;split
 ·rw[zK];lia
 ·rw[zY,xB,List.length_nil];lia
theorem RelO.isSome_eq{o:Option V}{u:Option Value}(r:RelO o u):o.isSome=u.isSome:=by
 cases o with
 |none=>cases u with
  |none=>rfl
  | some _=>exact (show False from r).elim
 |some _=>cases u with
  | none=>exact (show False from r).elim
  |some _=>rfl
theorem KV.val{Mx:List (κ×V)}{vs:List (κ×Value)}(r:KV Mx vs)(k:κ):RelO (dZ Mx k) (valueAt vs k):=by
 unfold KV at r
 induction r with
 |nil=>exact True.intro
 |@cons p q ps qs h t ih =>
  obtain⟨h1,h2⟩:=h;by_cases e:p.1=k
  ·have e':q.1=k:=h1.symm.trans e
   have b:valueAt (q::qs) k=some q.2:=by simp[valueAt,List.find?_cons,e']
   rw[lq e,b];exact h2
  ·have e':¬q.1=k:=fun z=>e (h1.trans z)
   have b:valueAt (q::qs) k=valueAt qs k:=by simp[valueAt,List.find?_cons,e']
   rw[lu e,b];exact ih
theorem KV.any{Mx:List (κ×V)}{vs:List (κ×Value)}(r:KV Mx vs)(k:κ):(Mx.any fun kv=>decide (kv.1=k))=vs.any fun kv=>decide (kv.1=k):=by
 unfold KV at r
 induction r with
 |nil=>rfl
 |cons h t ih=>rw[List.any_cons,List.any_cons,ih,h.1]
theorem KV.repl{Mx:List (κ×V)}{vs:List (κ×Value)}(r:KV Mx vs)(k:κ){y:V}{u:Value}(ry:RelV y u) :
  KV (Mx.map fun kv=>if kv.1=k then(kv.1,y) else kv) (vs.map fun kv=>if kv.1=k then(kv.1,u) else kv):=by
 unfold KV at r ⊢
 induction r with
 |nil=>exact .nil
 |@cons p q ps qs h t ih =>
  rw[zR,zR];refine .cons ?_ ih;obtain⟨h1,h2⟩:=h;by_cases e:p.1=k
  ·rw[yL e,yL (h1.symm.trans e)];exact⟨h1,ry⟩
  ·rw[yK e,yK (fun z=>e (h1.trans z))];exact⟨h1,h2⟩
theorem KV.put{Mx:List (κ×V)}{vs:List (κ×Value)}(r:KV Mx vs)(k:κ){y:V}{u:Value}(ry:RelV y u):KV (d3 Mx k y) (stored vs k u):=by
 unfold d3 stored;rw[r.any k];by_cases e:(vs.any fun kv=>decide (kv.1=k))=true
 ·rw[yL e,yL e];exact r.repl k ry
 ·rw[yK e,yK e];exact Paired.snoc r ⟨rfl,ry⟩
theorem KV.length{Mx:List (κ×V)}{vs:List (κ×Value)}(r:KV Mx vs):Mx.length=vs.length:=Paired.length r
end
theorem mv{P:Program}{w:World}{k:aR}{u:Value}(r:RelV (kV k) u):(bJ P w).is k u=true:=by
 cases k with
 | inl i=>obtain ⟨t,e⟩:=(show ∃ t,u=Value.int i t from r);subst e;exact rg P w i t
 | inr x=>obtain ⟨t,e⟩:=(show ∃ t,u=Value.str x t from r);subst e;exact re P w x t
theorem oC{P:Program}{w:World}:∀{ks:List aR}{us:List Value},Vals (ks.map kV) us->ItemsAre (bJ P w) ks us
 |[],_,r=>by rw[List.map_nil]at r;cases r;exact .nil
 |k::ks,_,r=>by
  rw[zR]at r;cases r with
  |cons h t=>exact .cons (mv h) (oC t)
abbrev KT(H:Hp):List (List aR×V)->List (List aR×Addr×Value)->Prop:=Paired fun p q=>p.1=q.1/\H q.2.1=some (.tup (p.1.map kV))/\RelV p.2 q.2.2
theorem KT.val{H:Hp}{Mx:List (List aR×V)}{xs:List (List aR×Addr×Value)}(r:KT H Mx xs)(k:List aR):RelO (dZ Mx k) ((atKey xs k).map (·.2)):=by
 induction r with
 |nil=>exact True.intro
 |@cons p q ps qs h t ih =>
  obtain⟨h1,_,h2⟩:=h;by_cases e:p.1=k
  ·have e':q.1=k:=h1.symm.trans e
   have b:atKey (q::qs) k=some q.2:=by simp[atKey,List.find?_cons,e']
   rw[lq e,b];exact h2
  ·have e':¬q.1=k:=fun z=>e (h1.trans z)
   have b:atKey (q::qs) k=atKey qs k:=by simp[atKey,List.find?_cons,e']
   rw[lu e,b];exact ih
theorem KT.repl{H:Hp}{Mx:List (List aR×V)}{xs:List (List aR×Addr×Value)}(r:KT H Mx xs)(k:List aR){y:V}{u:Value}(ry:RelV y u) :
  KT H (Mx.map fun kv=>if kv.1=k then(kv.1,y) else kv) (xs.map (putAt k u)):=by
 induction r with
 |nil=>exact .nil
 |@cons p q ps qs h t ih =>
  rw[zR,zR];refine .cons ?_ ih;obtain⟨h1,h2,h3⟩:=h;unfold putAt;by_cases e:p.1=k
  ·rw[yL e,yL (h1.symm.trans e)];exact⟨h1,h2,ry⟩
  ·rw[yK e,yK (fun z=>e (h1.trans z))];exact⟨h1,h2,h3⟩
theorem KT.put{H:Hp}{Mx:List (List aR×V)}{xs:List (List aR×Addr×Value)}(r:KT H Mx xs)(k:List aR){b:Addr}{y:V}{u:Value}(hb:H b=some (.tup (k.map kV)))(ry:RelV y u) :
  KT H (d3 Mx k y) (storedH xs k b u):=by
 have e:(Mx.any fun kv=>decide (kv.1=k))=(atKey xs k).isSome:=by
  rw[pA,(r.val k).isSome_eq,Option.isSome_map]
 unfold d3 storedH;rw[e];by_cases q:(atKey xs k).isSome=true
 ·rw[yL q,yL q];exact r.repl k ry
 ·rw[yK q,yK q];exact Paired.snoc r ⟨rfl,hb,ry⟩
theorem KT.keeps{H H':Hp}{Mx:List (List aR×V)}{xs:List (List aR×Addr×Value)}(r:KT H Mx xs)(ht:∀b ys,H b=some (.tup ys)->H' b=some (.tup ys)):KT H' Mx xs :=
 Paired.mapP r fun _ _ z=>⟨z.1,ht _ _ z.2.1,z.2.2⟩
section
variable{P:Program}{w:World}{H:Hp}{h:Heap}{a:Addr}
theorem As{u:HO}(ok:HOk P w H h)(e:Rd H a u):ObjOk P w H h a u:=e.ok ok
theorem mS{Mx:List (aR×V)}(ok:HOk P w H h)(e:Rd H a (.dK Mx)):Mx.length<=sizeLine/\(a==sysModules)=false/\∃vs,KV Mx vs/\h.DictOf (bJ P w) a vs :=
 show ObjOk P w H h a (.dK Mx) from As ok e
theorem AK{Mx:List (aR×V)}(ok:HOk P w H h)(e:H a=some (.dK Mx)):Mx.length<=sizeLine/\(a==sysModules)=false/\∃vs,KV Mx vs/\h.DictOf (bJ P w) a vs:=mS ok (.inl e)
theorem jL{ks:List aR}(ok:HOk P w H h)(e:H a=some (.tup (ks.map kV))):(tupleKind (bJ P w)).is h ks a:=by
 obtain ⟨_,Mz,r,o,h1,h2,n,h3⟩:=(show ObjOk P w H h a (.tup (ks.map kV)) from ok a _ e);exact ⟨o,Mz.toArray,n,h1,h2,h3,by simpa using oC r⟩
theorem mR{Mx:List (List aR×V)}(ok:HOk P w H h)(e:Rd H a (.dT Mx)):Mx.length<=sizeLine/\(a==sysModules)=false /\
  ∃xs,KT H Mx xs/\h.DictOfH (tupleKind (bJ P w)) a xs:=by
 obtain ⟨z,y,xs,r,o,es,ep,h1,h2,h3,h4,h5⟩:=(show ObjOk P w H h a (.dT Mx) from As ok e);refine ⟨z,y,xs,r,o,es,ep,h1,h2,h3,h4,fun x hx=>?_,h5⟩;have all:∀ {l:List (List aR × V)}{m:List (List aR × Addr × Value)},KT H l m->∀ x ∈ m,(tupleKind (bJ P w)).is h x.1 x.2.1:=by
  intro l m q
  induction q with
  |nil=>intro x hx;exact nomatch hx
  |@cons p q ps qs hq t ih =>
   intro x hx;rcases zW.mp hx with e|hx
   ·subst e
    exact jL ok (by rw[<- hq.1];exact hq.2.1)
   ·exact ih x hx
 exact all r x hx
theorem AH{Mx:List (List aR×V)}(ok:HOk P w H h)(e:H a=some (.dT Mx)):Mx.length<=sizeLine/\(a==sysModules)=false /\
  ∃xs,KT H Mx xs/\h.DictOfH (tupleKind (bJ P w)) a xs:=mR ok (.inl e)
end
def DGet(H:Hp)(a:Addr)(y:V)(r:Option V):Prop :=
 (∃Mx k,Rd H a (.dK Mx)/\y=kV k/\r=dZ Mx k)\/∃Mx k b,Rd H a (.dT Mx)/\y=.ref b/\H b=some (.tup (k.map kV))/\r=dZ Mx k
def DPut(H:Hp)(a:Addr)(y v:V)(H':Hp):Prop :=
 (∃Mx k,H a=some (.dK Mx)/\y=kV k/\Mx.length<sizeLine/\H'=ae H a (.dK (d3 Mx k v))) \/
 ∃Mx k b,H a=some (.dT Mx)/\y=.ref b/\H b=some (.tup (k.map kV))/\Mx.length<sizeLine/\H'=ae H a (.dT (d3 Mx k v))
theorem DGet.k{H:Hp}{a:Addr}{Mx:List (aR×V)}{k:aR}(e:H a=some (.dK Mx)):DGet H a (kV k) (dZ Mx k):=.inl ⟨Mx,k,.inl e,rfl,rfl⟩
theorem DGet.t{H:Hp}{a b:Addr}{Mx:List (List aR×V)}{k:List aR}(e:H a=some (.dT Mx))(eb:H b=some (.tup (k.map kV))):DGet H a (.ref b) (dZ Mx k):=.inr ⟨Mx,k,b,.inl e,rfl,eb,rfl⟩
theorem DPut.k{H:Hp}{a:Addr}{Mx:List (aR×V)}{k:aR}{v:V}(e:H a=some (.dK Mx))(hl:Mx.length<sizeLine):DPut H a (kV k) v (ae H a (.dK (d3 Mx k v))):=.inl ⟨Mx,k,e,rfl,hl,rfl⟩
theorem DPut.t{H:Hp}{a b:Addr}{Mx:List (List aR×V)}{k:List aR}{v:V}(e:H a=some (.dT Mx))(eb:H b=some (.tup (k.map kV)))(hl:Mx.length<sizeLine) :
  DPut H a (.ref b) v (ae H a (.dT (d3 Mx k v))):=.inr ⟨Mx,k,b,e,rfl,eb,hl,rfl⟩
section
variable{X:Cx}{Mv:List (Addr×Obj)}{σ:St}{H:Hp}{s:Shared}{a:Addr}{y v:V}{u r:Value}{o:Option V}{A:Around}{E:Value->Shared->Prop}
theorem Inv.big(I:Inv X Mv σ H s):sysModules<s.heap.objs.size:=by
 have h:mainGlobals<s.heap.objs.size:=(I.mod.glob.keeps I.bk).lt;exact Nat.lt_trans dC h
theorem wJ{Q:Value->Shared->Prop}(hu:A.units+1<cLine)(I:Inv X Mv σ H s)(g:DGet H a y (some v))(ry:RelV y u)(h:∀w' s',Inv X Mv σ H s'->RelV v w'->Q w' s') :
  wpAny (model X.prog X.w) A (getItem (.ref a) u) Q E s:=by
 rcases g with⟨Mx,k,e,ey,l⟩|⟨Mx,k,b,e,ey,eb,l⟩
 ·subst ey
  obtain⟨z,hd,vs,rel,dd⟩:=mS I.MD e;obtain⟨w',hw,rw'⟩:=RelO.some_of (v:=v) (o:=valueAt vs k) (by rw[l];exact rel.val k);exact wpAny_getItem_of (mv ry) dd.mapOf hw (h w' _ (I.tok _) rw')
 ·subst ey
  cases (show u=Value.ref b from ry);obtain ⟨z,hd,xs,rel,dd⟩:=mR I.MD e;obtain ⟨w',hw,rw'⟩:=RelO.some_of (v:=v) (o:=(atKey xs k).map (·.2)) (by rw [l];exact rel.val k);obtain ⟨p,hp,hp2⟩:=zH.mp hw;refine wpAny_getItem_heap (tupleKind_room_in1 hu) (jL I.MD eb) dd hp ?_;rw [hp2];exact h w' _ (I.tok _) rw'
theorem J1{Q:Value->Shared->Prop}(hu:A.units+1<cLine)(I:Inv X Mv σ H s)(g:DGet H a y o)(ry:RelV y u)(h:∀s',Inv X Mv σ H s'->Q (.bool o.isSome) s') :
  wpAny (model X.prog X.w) A (compareOp .In u (.ref a)) Q E s:=by
 rcases g with⟨Mx,k,e,ey,l⟩|⟨Mx,k,b,e,ey,eb,l⟩
 ·subst ey
  obtain⟨z,hd,vs,rel,dd⟩:=mS I.MD e;refine wpAny_in_of (mv ry) hd dd.mapOf ?_;rw[<- (rel.val k).isSome_eq,<- l];exact h _ (I.tok _)
 ·subst ey
  cases (show u=Value.ref b from ry);obtain ⟨z,hd,xs,rel,dd⟩:=mR I.MD e;refine wpAny_in_heap (tupleKind_room_in1 hu) (jL I.MD eb) hd dd ?_;have q:=(rel.val k).isSome_eq;rw [Option.isSome_map] at q;rw [<- q,<- l];exact h _ (I.tok _)
theorem CK{Q:Value->Shared->Prop}(hu:A.units+1<cLine)(I:Inv X Mv σ H s)(g:DGet H a y o)(ry:RelV y u)(h:∀s',Inv X Mv σ H s'->Q (.bool (!o.isSome)) s') :
  wpAny (model X.prog X.w) A (compareOp .NotIn u (.ref a)) Q E s:=by
 rcases g with⟨Mx,k,e,ey,l⟩|⟨Mx,k,b,e,ey,eb,l⟩
 ·subst ey
  obtain⟨z,hd,vs,rel,dd⟩:=mS I.MD e;refine wpAny_notIn_of (mv ry) hd dd.mapOf ?_;rw[<- (rel.val k).isSome_eq,<- l];exact h _ (I.tok _)
 ·subst ey
  cases (show u=Value.ref b from ry);obtain ⟨z,hd,xs,rel,dd⟩:=mR I.MD e;refine wpAny_notIn_heap (tupleKind_room_in1 hu) (jL I.MD eb) hd dd ?_;have q:=(rel.val k).isSome_eq;rw [Option.isSome_map] at q;rw [<- q,<- l];exact h _ (I.tok _)
theorem sO{h':Heap}{t':Nat}{ob:HO}(I:Inv X Mv σ H s)(mu:wX (H a))(hs:Heap.SameBut a s.heap h')(he:∃q,h'.get? a=some q)(new:ObjOk X.prog X.w (ae H a ob) h' a ob) :
  Inv X Mv σ (ae H a ob) { s with heap:=h',toks:=t' } :=
 I.write (x:=a) (e:=a) mu (.inl rfl) (fun b q hb z=>(hs.2 b hb).trans z) he new
theorem FP{P:Program}{w:World}{H':Hp}{h':Heap}{Mx:List (aR×V)}{vs:List (aR×Value)}(z:Mx.length<=sizeLine)(hd:(a==sysModules)=false)(rel:KV Mx vs)(dd:h'.DictOf (bJ P w) a vs) :
  ObjOk P w H' h' a (.dK Mx):=⟨z,hd,vs,rel,dd⟩
theorem oK{H':Hp}{Q:Unit->Shared->Prop}(hu:A.units+1<cLine)(I:Inv X Mv σ H s)(g:DPut H a y v H')(ry:RelV y u)(rv:RelV v r)(h:∀s',Inv X Mv σ H' s'->Q () s') :
  wpAny (model X.prog X.w) A (setItem (.ref a) u r) Q E s:=by
 rcases g with⟨Mx,k,e,ey,l,eH⟩|⟨Mx,k,b,e,ey,eb,l,eH⟩
 ·subst ey eH
  obtain⟨z,hd,vs,rel,dd⟩:=AK I.MD e;have hz:vs.length<=sizeLine:=by rw[<- rel.length];exact z
  have hl:(d3 Mx k v).length<=sizeLine:=by have:=kG Mx k v;lia
  refine wpAny_setItem_pairs (hsz:=hz) (mv ry) dd fun h' dd' hs=>h _ ?_
  have he:∃q,h'.get? a=some q:=let⟨q,_,_,hq,_⟩:=dd';⟨q,hq⟩;exact sO I (by rw[e];exact True.intro) hs he (FP hl hd (rel.put k rv) dd')
 ·subst ey eH
  cases (show u=Value.ref b from ry);obtain ⟨z,hd,xs,rel,dd⟩:=AH I.MD e;have hz:xs.length <= sizeLine:=by rw [<- Paired.length rel];exact z
  have hl:(d3 Mx k v).length<=sizeLine:=by have:=kG Mx k v;lia
  refine wpAny_setItem_heap (hsz:=hz) (tupleKind_room_in1 hu) (jL I.MD eb) dd fun h' dd' hs=>h _ ?_
  obtain⟨q,es,ep,hq,h2,h3,h4,_,h5⟩:=dd';refine sO I (by rw[e];exact True.intro) hs ⟨q,hq⟩ ⟨hl,hd,_,(rel.put k eb rv).keeps fun c ys ec=>?_,q,es,ep,hq,h2,h3,h4,h5⟩;rw[ad (tZ ec e (fun z=>nomatch z))];exact ec
end
theorem rk{X:Cx}{Mv:List (Addr×Obj)}{σ:St}{H:Hp}{s:Shared}{a:Addr}{y:V}{o:Option V}(I:Inv X Mv σ H s)(g:DGet H a y o):s.TypeIs (.ref a) "dict":=by
 rcases g with⟨Mx,k,e,_,_⟩|⟨Mx,k,b,e,_,_,_⟩
 ·obtain⟨_,_,vs,_,dd⟩:=mS I.MD e
  exact dd.typeIs
 ·obtain⟨_,_,xs,_,dd⟩:=mR I.MD e
  exact dd.typeIs
theorem zq{P:Program}{w:World}{H:Hp}(h:Heap)(hb:sysModules<h.objs.size):ObjOk P w H (h.push { cls:=.type "dict",data:=.dict #[] }) h.objs.size (.dK []) :=
 ⟨Nat.zero_le _,beq_eq_false_iff_ne.mpr (Ne.symm (zX hb)),[],.nil,Heap.DictOf.new h⟩
def vw:TE:=fun _ H Q=>∀p,H p=none->Q (.ref p) (ae H p (.dK []))
section
variable{X:Cx}{pos:Pos}
theorem yf:PE X (.Dict [] [] pos) vw:=fun Mv s σ H Q I h =>
 wpAny_Dict_empty ⟨.ref s.heap.objs.size,_,I.laid (a:=s.heap.objs.size) (o:=.dK []) (t':=s.toks) (fun _ _ q=>zJ _ q) (zS _) (zq s.heap I.big),rfl,h _ (I.MD.fresh (zS _))⟩
end
open PySem.Calls
section
variable{prog:Program}{w:World}{A:Around}{E:Value->Shared->Prop}{s:Shared}
theorem ud(d:Addr)(hd:(d==sysModules)=false) :
  MeetsIn prog w (Builtin.«dict.__len__» ⟨[.ref d],[]⟩) (fun _ R s=>∃xs:List (List aR×Addr×Value),s.heap.DictOfH (tupleKind (bJ prog w)) d xs/\R (.ok (.ret (.int xs.length s.toks))) { s with toks:=s.toks+1 }) :=
 .of_wp fun A R s hq0=>by
  obtain⟨Mx,hm,h⟩:=hq0;obtain⟨o,es,ep,ho,hc,hdat,hk,hp,hn⟩:=hm;show wpAny _ _ (dictSize d>>=_) _ _ s;unfold dictSize;refine yI (yI (wpAny_dictEntries ho hdat (yJ ?_)));show wpAny _ _ (Builtin.Dict.pendingCount d>>=_) _ _ s;refine yI (wpAny_pendingCount_other hd ?_);refine wpAny_ret_mkInt ?_;have:es.size=Mx.length:=size_of_entries hk;simpa [this] using h
theorem uD{d:Addr}{xs:List (List aR×Addr×Value)}{Q:Value->Shared->Prop}(hd:(d==sysModules)=false)(hm:s.heap.DictOfH (tupleKind (bJ prog w)) d xs)(hfit:(xs.length:Int)<2^63)
  (h:Q (.int xs.length (s.toks+1)) { s with toks:=s.toks+1+1 }):wpAny (model prog w) A (call (.builtin "len") [.ref d]) Q E s:=by
 refine Calls.call_function_entry kind_len plain_len entry_len (args_len1 _) ?_;unfold Builtin.«len»;refine yI (m:=oneArg "len" _) (yJ ?_);refine yI (m:=callSpecial? (.ref d) (Str.ofString "__len__")) (wpAny_callSpecial?_slot (name:=Str.ofString "__len__") hm.typeIs PySem.F.slot_dict_len
  (call_meetsIn PySem.F.slot_dict_len hm.typeIs PySem.F.entry_dict_len (PySem.F.args_dict_len_1 _) (ud d hd) ⟨xs,hm,?_⟩))
 show wpAny _ _ _ _ _ { s with toks:=s.toks+1 };refine yI (yV (yJ ?_));refine yI (wpAny_letGo ?_);show wpAny _ _ (if((xs.length:Nat):Int)<0 then _ else _) _ _ _;rw[yK oM];show wpAny _ _ (if((xs.length:Nat):Int) ≥ 2^63 then _ else _) _ _ _;rw[yK oM];exact yI (wpAny_mkInt (yJ ⟨_,rfl,h⟩))
end
section
variable{X:Cx}
theorem wO:cw X (.builtin "len") (fun xs H Q=>∃a Mx,xs=[V.ref a]/\H a=some (.dT Mx)/\Q (.int Mx.length) H):=by
 intro Mv s σ H xs us Q I r h;obtain⟨a,Mx,rfl,ha,q⟩:=h;obtain⟨u,rfl,ru⟩:=dO r;cases ru;obtain⟨z,hd,xs,rel,dd⟩:=AH I.MD ha;have hl:=Paired.length rel;refine uD hd dd (by rw[<- hl];rw[sizeLine_eq]at z;lia) ?_;rw[<- hl];exact⟨.int Mx.length,H,I.tok _,⟨_,rfl⟩,q⟩
end
end L2
namespace DD
open PySem PySem.Spec PyProof.Rows L2
section
variable{K:Frag}{F F':Addr->Prop}{H H':Hp}{A:List Addr}
open Classical in
variable{σD:DSt}{σ:L2.St}{R:Ro}{d:D}{v:V}
end
end DD
namespace L2
open PySem PySem.Spec PyProof.Rows
noncomputable def Bb(x:Str):It:=⟨fun i _=>∃c,x.cps[i]?=some c,fun i H v H'=>H'=H/\∃c,x.cps[i]?=some c/\v=.str ⟨#[c]⟩,fun i _=>x.cps[i]?=none⟩
theorem xk{P:Program}{w:World}{K:Frag}{tg:Expr}(x:Str)(t:Tok)(it:Addr):jv P w K tg (Bb x) [it] it (fun i h=>h.IsStrIter it "str_ascii_iterator" x t i) where
 mem:=by simp
 obj:=fun i h st b hb=>by
  have e:b=it:=by simpa using hb
  subst e;obtain⟨o,e,c,d⟩:=st;exact⟨o,e,fun v z=>by rw[d]at z;cases z⟩
 keep:=fun i h h' st k=>by
  obtain⟨o,e,r⟩:=st;exact⟨o,k it (by simp) o e,r⟩
 item:=by
  intro X hP hw hK hc i Mv s σ H E I hf st hg;subst hP hw hK;obtain⟨c,hx⟩:=hg;obtain⟨f0,f1,f2,f3,f4,f5⟩:=hf it (by simp);refine wpAny_pyNext_ascii_item st hx fun h' st' sb=>?_
  have I1:Inv X Mv σ H { s with heap:=h',toks:=s.toks+1 }:=I.turned (fun b o hb e=>(sb.2 b hb).trans e) f0 f1 f3 f4 f5;obtain⟨o,e,cl,d⟩:=id st';exact⟨_,rfl,mH (s:={ s with heap:=h',toks:=s.toks+1 }) e cl d dC ⟨.str ⟨#[c]⟩,H,I1,⟨_,rfl⟩,⟨rfl,c,hx,rfl⟩,st',fun b hb=>(hf b hb).1⟩⟩
 done:=by
  intro X hP hw hK hc i Mv s σ H E I hf st hg;subst hP hw hK;obtain⟨f0,f1,f2,f3,f4,f5⟩:=hf it (by simp);exact wpAny_pyNext_ascii_end (I.ok.hd hc) st hg fun h' eb=>⟨rfl,I.turned (t':=s.toks) (fun b o hb e=>eb b o hb e) f0 f1 f3 f4 f5⟩
 self:=fun _ _ _ _ _ st h=>wpAny_pyIter_striter_ascii st h
section
variable{X:Cx}{pos:Pos}
def Bx(ta:TA):TE:=fun σ H Q=>ta σ H fun vs H1=>∃i j:Nat,vs=[.int (i:Int),.int (j:Int)]/\i<=j/\j<=1000/\∀p,H1 p=none->Q (.ref p) (ae H1 p (.lst ((List.range' i (j-i)).map fun(q:Nat)=>V.int (q:Int))))
theorem vR{a b:Expr}{ta:TA}{p1 p2 pos2:Pos}(hc:X.calm=true)(hgl:Gl X "list")(hml:X.mg "list"=none)(hgr:Gl X "range")(hmr:X.mg "range"=none)(ha:PA X [a,b] ta)
  (hs:starEach [a,b] X.env=[(false,eval a X.env),(false,eval b X.env)]:=by rfl) (hs2:starEach [b] X.env=[(false,eval b X.env)]:=by rfl) (hs1:starEach [.Call (.Name "range" p2) [a,b] [] pos2] X.env=[(false,eval (.Call (.Name "range" p2) [a,b] [] pos2) X.env)]:=by rfl) :
  PE X (.Call (.Name "list" p1) [.Call (.Name "range" p2) [a,b] [] pos2] [] pos) (Bx ta):=by
 intro Mv s σ H Q I h;refine Call_ (c6 I hgl hml jr (PyProof.Rows.callWith_type1 ?_ (by rw[hs1];rfl) (by rfl)));rw[hs1];refine Calls.spliced_cons (Call_ (c6 I hgr hmr boot_range (PyProof.Rows.callWith_type1 (ax (ha pos2 Mv s σ H _ I h) fun us s1 hq0=>?_) (by rw[hs,hs2]) (by rw[hs2];rfl))));obtain⟨vs,H1,I1,r1,i,j,e,hij,hj,q⟩:=hq0;subst e;obtain⟨u1,us1,rfl,ru1,r2⟩:∃u us',us=u::us'/\RelV (.int (i:Int)) u/\Vals [.int (j:Int)] us':=by cases r1 with|cons r rr=>exact⟨_,_,rfl,r,rr⟩
 obtain⟨u2,us2,rfl,ru2,r3⟩:∃u us',us1=u::us'/\RelV (.int (j:Int)) u/\Vals [] us':=by cases r2 with|cons r rr=>exact⟨_,_,rfl,r,rr⟩
 cases r3;obtain⟨t1,rfl⟩:=ru1;obtain⟨t2,rfl⟩:=ru2;refine call_range_2 (Calls.spliced_nil ?_);have I2:Inv X Mv σ H1 { s1 with heap:=s1.heap.push { cls:=.type "range",data:=.fields #[.int (i:Int) t1,.int (j:Int) t2,.int 1 s1.toks] },toks:=s1.toks+1 }:=I1.kept fun b o e=>zJ _ e
 refine call_list_range (n:=j-i) (I.ok.hd hc) (IsRange.new ..) (small_one oM oM oM oM) (by rw[rangeSize_one];split<;>lia) oM fun h' tk acc' c' hk hS hacc=>?_
 have hv:=ja acc'.toList i (fun k v e=>by
  obtain⟨t,e2⟩:=hacc.2 k v (by simpa using e);exact⟨t,by rw[e2];congr 1;lia⟩)
 rw[show acc'.toList.length=j-i by simpa using hacc.1]at hv;exact⟨.ref _,_,I2.laid (o:=.lst ((List.range' i (j-i)).map fun(q:Nat)=>V.int (q:Int))) hk (zS _) ⟨xD (oo (by simp;lia)),acc'.toList,c',hv,hS⟩,rfl,q _ I2.fresh⟩
end
def Bf(X:Cx)(Mv:List (Addr×Obj))(b:Addr):Prop:=b≠X.env.locals/\b∉X.fs/\(b∈X.ex\/X.s₀.heap.objs.size<=b)/\(∀x c,X.env.cells.lookup x=some c->c≠b)/\∀p∈X.pn++Mv,p.1≠b
section
variable{X:Cx}{Mv:List (Addr×Obj)}{σ:St}{key:Value}{kw:List (Str×Value)}{l I S:Addr}{ns:List Int}{R:Result->Shared->Prop}
theorem yn(hh:X.A.handled=none)(kf:Nat->Int)(J:Nat->Hp->Prop)(hl:∀i H,J i H->bw X.K H l (ns.map V.int))
  (turn:∀(i:Nat)(n:Int)(u:Value)(pl:List (Addr×Obj))(s:Shared)(H:Hp),ns[i]?=some n->RelV (V.int n) u->J i H->Inv X (Mv++pl) σ H s->(key=.none/\kf i=n/\J (i+1) H) \/
   ∃q,key=.ref q/\wpAny (model X.prog X.w) X.A.in1 (call (.ref q) [u]) (EP X (Mv++pl) σ (fun y H'=>y=.int (kf i)/\J (i+1) H')) (fun _ _=>False) s)
  (hR:∀(i:Nat)(n:Int)(u:Value)(H:Hp)(s:Shared),ns[i]?=some n->(∀j,j<ns.length->kf i<=kf j/\(j<i->kf i<kf j))->J ns.length H->Inv X Mv σ H s->RelV (V.int n) u->R (.ok (.ret u)) s)
  (fI:Bf X Mv I) (fS:Bf X Mv S) (hIS:I≠S) :
  ∀(r j i:Nat)(H:Hp)(s:Shared)(vb:Value)(tb:Tok)(c:Nat),ns.length-(j+1)=r->j+1<=ns.length->Inv X Mv σ H s->H I=none->H S=none ->
   s.heap.get? S=some (seqObj "list" #[vb,.int (kf i) tb] c)->s.heap.IsListIter I l (j+1)->(∃n,ns[i]?=some n/\RelV (V.int n) vb)->i<=j->J (j+1) H->(∀j',j'<=j->kf i<=kf j'/\(j'<i->kf i<kf j')) ->
   codeAny (model X.prog X.w) X.A (.builtin "min.loop" ⟨[.ref I,key,.ref S],kw⟩) R s:=by
 have hname:(toString "min"++toString ".loop":String)="min.loop":=by decide
 intro r
 induction r with
 |zero =>
  intro j i H s vb tb c hr hj Iv nI nS gS it hvb hij hJ hb;have hin:j+1=ns.length:=by lia
  obtain⟨Mz,rv,pl,_⟩:=Iv.list (hl _ _ hJ);have hlen:Mz.length=ns.length:=by rw[<- rv.length,zK]
  have hL:s.heap.IsList l Mz.toArray:=pl.isList;have hlI:l≠I:=fun e=>by
   obtain⟨o,e1,e2,_⟩:=hL;obtain⟨o',e3,e4,_⟩:=it;rw[e,e3]at e1;cases e1;rw[e4]at e2;simp at e2
  have W:=Walks.list (prog:=X.prog) (w:=X.w) (A:=X.A.in1) hh I l hlI Mz.toArray;have hsz:Mz.toArray.size=Mz.length:=zL ..;refine codeAny_builtin PySem.F.entry_min_loop ?_;rw[Around.under_plainId PySem.F.plain_min_loop _];show wpAny _ X.A.in1 (seqItems? (.ref S)>>=_) _ _ _;refine yI (wpAny_seqItems gS rfl ?_);show wpAny _ X.A.in1 (tryCatch (pyNext (.ref I)) _>>=_) _ _ _;refine yI (wpAny_tryCatch (W.done _ _ _ ⟨by rw[hsz,hlen,<- hin];exact it,hL⟩ fun h' tk' hk'=>?_));have V1:Inv X Mv σ H { s with heap:=h',toks:=tk' }:=Iv.turned (fun b o hb' e=>hk' b o (by simpa using hb') e) nI fI.1 fI.2.2.1 fI.2.2.2.1 fI.2.2.2.2;have gS':=hk' S _ (by simpa using hIS.symm) gS;show wpAny _ X.A.in1 (updateSeq S (fun _=>#[])>>=_) _ _ _;refine yI ?_;refine wpAny_updateSeq gS' rfl (yI (wpAny_letGo (yJ ?_)));obtain⟨n,e1,e2⟩:=hvb;have s1:=Heap.SameBut.update h' S (Obj.mapSeq fun _=>(#[]:Array Value));exact hR i n vb H _ e1 (fun j' hj'=>hb j' oM) (hin▸hJ) (V1.turned (t':=tk') (fun b o hb' e=>(s1.2 b hb').trans e) nS fS.1 fS.2.2.1 fS.2.2.2.1 fS.2.2.2.2) e2
 |succ r ih =>
  intro j i H s vb tb c hr hj Iv nI nS gS it hvb hij hJ hb;have hlt:j+1<ns.length:=by lia
  obtain⟨Mz,rv,pl,_⟩:=Iv.list (hl _ _ hJ);have hlen:Mz.length=ns.length:=by rw[<- rv.length,zK]
  have hL:s.heap.IsList l Mz.toArray:=pl.isList;have hlI:l≠I:=fun e=>by
   obtain⟨o,e1,e2,_⟩:=hL;obtain⟨o',e3,e4,_⟩:=it;rw[e,e3]at e1;cases e1;rw[e4]at e2;simp at e2
  have W:=Walks.list (prog:=X.prog) (w:=X.w) (A:=X.A.in1) hh I l hlI Mz.toArray;have hsz:Mz.toArray.size=Mz.length:=zL ..;refine codeAny_builtin PySem.F.entry_min_loop ?_;rw[Around.under_plainId PySem.F.plain_min_loop _];show wpAny _ X.A.in1 (seqItems? (.ref S)>>=_) _ _ _;refine yI (wpAny_seqItems gS rfl ?_);show wpAny _ X.A.in1 (tryCatch (pyNext (.ref I)) _>>=_) _ _ _;refine yI (wpAny_tryCatch (W.item (j+1) _ _ _ (by rw[hsz];lia) ⟨it,hL⟩ fun u h' tk' hP hst' hk'=>?_));have hu:Mz[j+1]?=some u:=by simpa using hP
  obtain⟨n,hn⟩:∃n,ns[j+1]?=some n:=⟨_,zI hlt⟩;have ru:RelV (V.int n) u:=by
   obtain⟨u',e1,e2⟩:=rv.get (i:=j+1) (x:=V.int n) (by rw[zU,hn];rfl);rw[hu]at e1;cases e1;exact e2
  have V1:Inv X Mv σ H { s with heap:=h',toks:=tk' }:=Iv.turned (fun b o hb' e=>hk' b o (by simpa using hb') e) nI fI.1 fI.2.2.1 fI.2.2.2.1 fI.2.2.2.2;have gS':=hk' S _ (by simpa using hIS.symm) gS;have hf:∀b∈[I,S],df X Mv H b:=fun b hb'=>by
   rcases zW.mp hb' with rfl|hb'
   ·exact⟨nI,fI⟩
   ·rw[zP.mp hb'];exact⟨nS,fS⟩
  obtain⟨oI,goI,coI,doI⟩:=hst'.1;have ho:∀b∈[I,S],∃o,h'.get? b=some o/\∀v:Option Value,o.data≠.cell v:=fun b hb'=>by
   rcases zW.mp hb' with rfl|hb'
   ·exact⟨_,goI,fun v z=>by rw[doI]at z;cases z⟩
   ·rw[zP.mp hb'];exact⟨_,gS',fun v z=>nomatch z⟩
  have V2:Inv X (Mv++fi [I,S] h') σ H { s with heap:=h',toks:=tk' }:=V1.pinned hf ho
  -- what follows the key's value
  have rest:∀(t2:Tok)(H2:Hp)(s2:Shared),Inv X (Mv++fi [I,S] h') σ H2 s2->J (j+1+1) H2->∀(Rf:PySem.Fin->Shared->Prop)(Ef:Value->Shared->Prop),
    (∀s3 H3 vb3 i3 t3 c3,Inv X Mv σ H3 s3->H3 I=none->H3 S=none->s3.heap.get? S=some (seqObj "list" #[vb3,.int (kf i3) t3] c3)->s3.heap.IsListIter I l (j+1+1)->(∃n,ns[i3]?=some n/\RelV (V.int n) vb3)->i3<=j+1->J (j+1+1) H3->(∀j',j'<=j+1->kf i3<=kf j'/\(j'<i3->kf i3<kf j')) ->
     Rf (.again (.builtin "min.loop" ⟨[.ref I,key,.ref S],kw⟩)) s3) ->
    wpAny (model X.prog X.w) X.A.in1 ((do
     let better <- tryCatch (holding [u,.int (kf (j+1)) t2] do
      let answer <- richCompare .Lt (.int (kf (j+1)) t2) (.int (kf i) tb)
      let yes <- holding [answer] (truthy answer)
      letGo [answer]
      pure yes) fun e=>do
       updateSeq S fun _=>#[]
       letGo ([.int (kf (j+1)) t2,u]++[vb,.int (kf i) tb].reverse) [e]
       throw e
     if better=true then do
      updateSeq S fun _=>#[u,.int (kf (j+1)) t2]
      letGo [.int (kf i) tb,vb]
      again (.builtin "min.loop" ⟨[.ref I,key,.ref S],kw⟩)
     else do
      letGo [u,.int (kf (j+1)) t2]
      again (.builtin "min.loop" ⟨[.ref I,key,.ref S],kw⟩)):Sem PySem.Fin) Rf Ef s2:=by
   intro t2 H2 s2 V3 J3 Rf Ef ay;have pI:=V3.pin (I,oI) (zN _ (zN _ (cP (by simp) goI)));have pS:=V3.pin (S,seqObj "list" #[vb,.int (kf i) tb] c) (zN _ (zN _ (cP (by simp) gS')));have V4:Inv X Mv σ H2 s2:=V3.unpinned;refine yI (wpAny_tryCatch (yV (yI (CmpOf.ints_lt (prog:=X.prog) (w:=X.w) (A:=X.A.in1) (P:=fun i v=>∃t,v=.int (kf i) t) kf (fun i v h=>h) (j+1) i _ _ _ _ _ ⟨t2,rfl⟩ ⟨tb,rfl⟩ ?_))));refine yI (yV (wpAny_truthy_bool ?_));refine yI (wpAny_letGo (yJ ?_));have it2:s2.heap.IsListIter I l (j+1+1):=⟨oI,pI.1,coI,doI⟩;by_cases hb':kf (j+1)<kf i
   ·simp only[hb',decide_true,if_true]
    have s1:=Heap.SameBut.update s2.heap S (Obj.mapSeq fun _=>#[u,.int (kf (j+1)) t2]);obtain⟨c2,hc2⟩:∃c2,(s2.heap.update S (Obj.mapSeq fun _=>#[u,.int (kf (j+1)) t2])).get? S=some (seqObj "list" #[u,.int (kf (j+1)) t2] c2):=⟨_,get?_update_seq pS.1 fun _=>#[u,.int (kf (j+1)) t2]⟩;refine yI ?_;refine wpAny_updateSeq pS.1 rfl (yI (wpAny_letGo (yJ ?_)));obtain⟨sh,sg,sd,stk,sos⟩:=s2;refine ay _ H2 u (j+1) t2 c2 (V4.turned (t':=stk) (fun b o hb'' e=>(s1.2 b hb'').trans e) pS.2.1 fS.1 fS.2.2.1 fS.2.2.2.1 fS.2.2.2.2) pI.2.1 pS.2.1 hc2 ⟨oI,(s1.2 I hIS).trans pI.1,coI,doI⟩ ⟨n,hn,ru⟩ (zS _) J3 fun j' hj'=>?_
    by_cases e:j'=j+1
    ·subst e
     exact⟨by lia,fun _=>by lia⟩
    ·have hb1:=hb j' oM
     have hb2:=hb1.1;exact⟨by lia,fun _=>by lia⟩
   ·simp only[hb',decide_false,yE,if_false]
    refine yI (wpAny_letGo (yJ ?_));refine ay _ H2 vb i tb c V4 pI.2.1 pS.2.1 pS.1 it2 hvb oM J3 fun j' hj'=>?_
    by_cases e:j'=j+1
    ·subst e
     exact⟨by lia,fun _=>by lia⟩
    ·exact hb j' oM
  have ay:∀s3 H3 vb3 i3 t3 c3,Inv X Mv σ H3 s3->H3 I=none->H3 S=none->s3.heap.get? S=some (seqObj "list" #[vb3,.int (kf i3) t3] c3)->s3.heap.IsListIter I l (j+1+1)->(∃n,ns[i3]?=some n/\RelV (V.int n) vb3)->i3<=j+1->J (j+1+1) H3->(∀j',j'<=j+1->kf i3<=kf j'/\(j'<i3->kf i3<kf j')) ->
    ((Code.builtin "min.loop" ⟨[.ref I,key,.ref S],kw⟩).quiet=true/\codeAny (model X.prog X.w) X.A (.builtin "min.loop" ⟨[.ref I,key,.ref S],kw⟩) R s3):=fun s3 H3 vb3 i3 t3 c3 a1 a2 a3 a4 a5 a6 a7 a8 a9 =>
   ⟨plainId_quiet PySem.F.plain_min_loop _,ih (j+1) i3 H3 s3 vb3 t3 c3 oM hlt a1 a2 a3 a4 a5 a6 a7 a8 a9⟩
  rcases turn (j+1) n u _ _ H hn ru hJ V2 with⟨hk0,hkf,J2⟩|⟨q,hkq,call0⟩
  ·subst hk0
   obtain⟨t2,rfl⟩:=ru;refine yI (yJ ?_)
   have:=rest t2 H _ V2 J2
   rw[hkf]at this;exact this _ _ ay
  ·subst hkq
   refine yI (wpAny_tryCatch (yV (yW call0 (fun x s'' he=>?_) fun _ _ hF=>hF.elim)));obtain⟨y,H3,V3,ry,rfl,J3⟩:=he;obtain⟨t2,rfl⟩:=ry;exact rest t2 H3 s'' V3 J3 _ _ ay
end
section
variable{X:Cx}{Mv:List (Addr×Obj)}{σ:St}{ko:Option Value}{kws:List (Str×Value)}{l:Addr}{ns:List Int}{H:Hp}{s:Shared}{Q:VK}{E:Value->Shared->Prop}
theorem p0(hh:X.A.handled=none)(kf:Nat->Int)(J:Nat->Hp->Prop)(hl:∀i H,J i H->bw X.K H l (ns.map V.int))
  (hb:Builtin.Builtins.bindParams "min" ["key","default"] 0 ⟨[],kws⟩=pure [ko,some .none]) (ha:argsOk "min" ⟨[.ref l],kws⟩)
  (turn:∀(i:Nat)(n:Int)(u:Value)(pl:List (Addr×Obj))(s:Shared)(H:Hp),ns[i]?=some n->RelV (V.int n) u->J i H->Inv X (Mv++pl) σ H s->(ko.getD .none=.none/\kf i=n/\J (i+1) H) \/
   ∃q,ko.getD .none=.ref q/\wpAny (model X.prog X.w) X.A.in1 (call (.ref q) [u]) (EP X (Mv++pl) σ (fun y H'=>y=.int (kf i)/\J (i+1) H')) (fun _ _=>False) s)
  (hQ:∀(i:Nat)(n:Int)(H:Hp),ns[i]?=some n->(∀j,j<ns.length->kf i<=kf j/\(j<i->kf i<kf j))->J ns.length H->Q (.int n) H) (hE:ns=[]->Q .non H)
  (Iv:Inv X Mv σ H s) (J0:J 0 H):wpAny (model X.prog X.w) X.A (call (.builtin "min") [.ref l] kws) (EP X Mv σ Q) E s:=by
 have hname:(toString "min"++toString ".loop":String)="min.loop":=by decide
 obtain⟨Mz,rv,pl,_⟩:=Iv.list (hl _ _ J0);have hlen:Mz.length=ns.length:=by rw[<- rv.length,zK]
 have hL:s.heap.IsList l Mz.toArray:=pl.isList;obtain⟨ol,hol,_⟩:=id hL;have hll:l<s.heap.objs.size:=yM hol;refine kmk_tree PySem.F.kind_min PySem.F.plain_min PySem.F.entry_min ha ?_;show wpAny _ X.A.in1 (Builtin.Builtins.bindParams "min" ["key","default"] 0 ⟨[],kws⟩>>=_) _ _ s;refine yI (wpAny_of_eq hb ?_);refine yI (yJ ?_);refine yI (wpAny_pyIter_list hL ?_);refine yI (wpAny_newList ?_ (Nat.zero_le _));rw[hname];have hS:(s.heap.push { cls:=.type "list_iterator",data:=.fields #[.ref l,.int 0 0] }).objs.size=s.heap.objs.size+1:=size_push' ..;have hlI:l≠s.heap.objs.size:=zX hll;refine yJ ⟨plainId_quiet PySem.F.plain_min_loop _,?_⟩;generalize hI:s.heap.objs.size=I at *;generalize hSS:(s.heap.push { cls:=.type "list_iterator",data:=.fields #[.ref l,.int 0 0] }).objs.size=S at *;have nI:H I=none:=by rw[<- hI];exact Iv.fresh
 have nS:H S=none:=Iv.MD.fresh (by rw[hS,hI];lia);have hIS:I≠S:=by rw[hS];lia
 have gI:((s.heap.push { cls:=.type "list_iterator",data:=.fields #[.ref l,.int 0 0] }).push (seqObj "list" #[] 0)).get? I=some { cls:=.type "list_iterator",data:=.fields #[.ref l,.int 0 0] }:=by
  rw[<- hI];exact zJ _ (z6 _ rfl)
 have gS:((s.heap.push { cls:=.type "list_iterator",data:=.fields #[.ref l,.int 0 0] }).push (seqObj "list" #[] 0)).get? S=some (seqObj "list" #[] 0):=by
  rw[<- hSS];exact z6 _ rfl
 have kp:∀b o,s.heap.get? b=some o->((s.heap.push { cls:=.type "list_iterator",data:=.fields #[.ref l,.int 0 0] }).push (seqObj "list" #[] 0)).get? b=some o:=fun b o e=>zJ _ (zJ _ e)
 have fI:Bf X Mv I:=(Iv.fpOk (b:=I) (Nat.le_of_eq hI) nI).2;have fS:Bf X Mv S:=(Iv.fpOk (b:=S) (by rw[hS,hI];lia) nS).2;generalize hH1:((s.heap.push { cls:=.type "list_iterator",data:=.fields #[.ref l,.int 0 0] }).push (seqObj "list" #[] 0))=h1 at gI gS kp;have V1:Inv X Mv σ H { s with heap:=h1,toks:=s.toks }:=Iv.kept kp;have hL1:h1.IsList l Mz.toArray:=⟨ol,kp _ _ hol,by obtain⟨o2,e2,r2⟩:=hL;rw[hol]at e2;cases e2;exact r2⟩;have it0:h1.IsListIter I l 0:=⟨_,gI,rfl,rfl⟩;have W:=Walks.list (prog:=X.prog) (w:=X.w) (A:=X.A.in1) hh I l hlI Mz.toArray;have hsz:Mz.toArray.size=Mz.length:=zL ..;have ay:∀(i:Nat)(n:Int)(u:Value)(H:Hp)(s:Shared),ns[i]?=some n->(∀j,j<ns.length->kf i<=kf j/\(j<i->kf i<kf j))->J ns.length H->Inv X Mv σ H s->RelV (V.int n) u->EP X Mv σ Q u s :=
  fun i n u H s e1 e2 e3 e4 e5=>⟨_,H,e4,e5,hQ i n H e1 e2 e3⟩
 show codeAny _ X.A (.builtin "min.loop" ⟨[.ref I,ko.getD .none,.ref S],[("default",.none)]⟩) _ { s with heap:=h1,toks:=s.toks };refine codeAny_builtin PySem.F.entry_min_loop ?_;rw[Around.under_plainId PySem.F.plain_min_loop _];show wpAny _ X.A.in1 (seqItems? (.ref S)>>=_) _ _ _;refine yI (wpAny_seqItems gS rfl ?_);show wpAny _ X.A.in1 (tryCatch (pyNext (.ref I)) _>>=_) _ _ _;by_cases hn:ns=[]
 ·subst hn
  refine yI (wpAny_tryCatch (W.done _ _ _ ⟨by rw[hsz,hlen];exact it0,hL1⟩ fun h' tk' hk'=>?_));refine yI (wpAny_rule (yJ ?_));exact⟨.non,H,V1.turned (fun b o hb' e=>hk' b o (by simpa using hb') e) nI fI.1 fI.2.2.1 fI.2.2.2.1 fI.2.2.2.2,rfl,hE rfl⟩
 ·have hlt:0<ns.length:=List.length_pos_iff.mpr hn
  refine yI (wpAny_tryCatch (W.item 0 _ _ _ (by rw[hsz];lia) ⟨it0,hL1⟩ fun u h' tk' hP hst' hk'=>?_));have hu:Mz[0]?=some u:=by simpa using hP
  obtain⟨n,hn⟩:∃n,ns[0]?=some n:=⟨_,zI hlt⟩;have ru:RelV (V.int n) u:=by
   obtain⟨u',e1,e2⟩:=rv.get (i:=0) (x:=V.int n) (by rw[zU,hn];rfl);rw[hu]at e1;cases e1;exact e2
  have V2:Inv X Mv σ H { s with heap:=h',toks:=tk' }:=V1.turned (fun b o hb' e=>hk' b o (by simpa using hb') e) nI fI.1 fI.2.2.1 fI.2.2.2.1 fI.2.2.2.2;have gS':=hk' S _ (by simpa using hIS.symm) gS;have hf:∀b∈[I,S],df X Mv H b:=fun b hb'=>by
   rcases zW.mp hb' with rfl|hb'
   ·exact⟨nI,fI⟩
   ·rw[zP.mp hb'];exact⟨nS,fS⟩
  obtain⟨oI,goI,coI,doI⟩:=hst'.1;have ho:∀b∈[I,S],∃o,h'.get? b=some o/\∀v:Option Value,o.data≠.cell v:=fun b hb'=>by
   rcases zW.mp hb' with rfl|hb'
   ·exact⟨_,goI,fun v z=>by rw[doI]at z;cases z⟩
   ·rw[zP.mp hb'];exact⟨_,gS',fun v z=>nomatch z⟩
  have V3:Inv X (Mv++fi [I,S] h') σ H { s with heap:=h',toks:=tk' }:=V2.pinned hf ho;have rest:∀(t2:Tok)(H2:Hp)(s2:Shared),Inv X (Mv++fi [I,S] h') σ H2 s2->J 1 H2 ->
    wpAny (model X.prog X.w) X.A.in1 ((do
     updateSeq S fun _=>#[u,.int (kf 0) t2]
     again (.builtin "min.loop" ⟨[.ref I,ko.getD .none,.ref S],[("default",.none)]⟩)):Sem PySem.Fin) (fun ay s'=>match ay with
      |.done f=>(match (Except.ok f:Result) with|.ok (.ret v)=>EP X Mv σ Q v s'|.ok _=>False|.error e=>E e s')
      |.again c'=>c'.quiet=true/\codeAny (model X.prog X.w) X.A c' (fun r s'=>match r with|.ok (.ret v)=>EP X Mv σ Q v s'|.ok _=>False|.error e=>E e s') s') (fun e s'=>E e s') s2:=by
   intro t2 H2 s2 V4 J2;have pI:=V4.pin (I,oI) (zN _ (zN _ (cP (by simp) goI)));have pS:=V4.pin (S,seqObj "list" #[] 0) (zN _ (zN _ (cP (by simp) gS')));have V5:Inv X Mv σ H2 s2:=V4.unpinned;have s1:=Heap.SameBut.update s2.heap S (Obj.mapSeq fun _=>#[u,.int (kf 0) t2]);obtain⟨c2,hc2⟩:∃c2,(s2.heap.update S (Obj.mapSeq fun _=>#[u,.int (kf 0) t2])).get? S=some (seqObj "list" #[u,.int (kf 0) t2] c2):=⟨_,get?_update_seq pS.1 fun _=>#[u,.int (kf 0) t2]⟩;refine yI ?_;refine wpAny_updateSeq pS.1 rfl (yJ ⟨plainId_quiet PySem.F.plain_min_loop _,?_⟩);obtain⟨sh,sg,sd,stk,sos⟩:=s2;refine yn hh kf J hl turn ay fI fS hIS _ 0 0 H2 _ u t2 c2 rfl hlt (V5.turned (t':=stk) (fun b o hb'' e=>(s1.2 b hb'').trans e) pS.2.1 fS.1 fS.2.2.1 fS.2.2.2.1 fS.2.2.2.2) pI.2.1 pS.2.1 hc2 ⟨oI,(s1.2 I hIS).trans pI.1,coI,doI⟩ ⟨n,hn,ru⟩ (zS _) J2 fun j' hj'=>?_
   have e:j'=0:=by lia
   subst e;exact⟨by lia,fun h=>absurd h (xF _)⟩
  rcases turn 0 n u _ _ H hn ru J0 V3 with⟨hk0,hkf,J2⟩|⟨q,hkq,call0⟩
  ·rw[hk0]at rest ⊢
   obtain⟨t2,rfl⟩:=ru;refine yI (yJ ?_)
   have:=rest t2 H _ V3 J2
   rw[hkf]at this;exact this
  ·rw[hkq]at rest ⊢
   refine yI (wpAny_tryCatch (yV (yW call0 (fun x s'' he=>?_) fun _ _ hF=>hF.elim)));obtain⟨y,H3,V4,ry,rfl,J3⟩:=he;obtain⟨t2,rfl⟩:=ry;exact rest t2 H3 s'' V4 J3
end
end L2
namespace R
open PySem PySem.Spec PyProof.Rows L2
theorem xc:∀{ps:List Str}{us:List Value},ps.Nodup->us.length=ps.length->ps.filterMap (fun n=>((ps.zip us).lookup n).map fun v=>(n,v))=ps.zip us/\ps.filter (fun n=>((ps.zip us).lookup n).isNone)=[]:=by
 have key:∀{ps:List Str}{us:List Value},us.length=ps.length->∀n∈ps,((ps.zip us).lookup n).isSome=true:=by
  intro ps
  induction ps with
  |nil=>intro us _ n hn;cases hn
  |cons p ps ih =>
   intro us hl n hn;cases us with
   |nil=>cases hl
   |cons u us =>
    rw[List.zip_cons_cons,yR];cases hb:n==p with
    |true=>rfl
    |false =>
     rcases zW.mp hn with rfl|hn
     ·simp at hb
     ·exact ih (by simpa using hl) n hn
 intro ps us nd hl;refine⟨?_,List.filter_eq_nil_iff.mpr fun n hn=>by
  have:=key hl n hn
  cases h:(ps.zip us).lookup n with
  |none=>rw[h]at this;cases this
  |some v=>simp⟩
 -- the names ahead don't matter
 have gen:∀(qs:List Str)(vs:List Value),qs.Nodup->vs.length=qs.length->∀l:List (Str×Value),(∀q∈qs,l.lookup q=(qs.zip vs).lookup q)->qs.filterMap (fun n=>(l.lookup n).map fun v=>(n,v))=qs.zip vs:=by
  intro qs
  induction qs with
  |nil=>intro vs _ _ l _;rfl
  |cons q qs ih =>
   intro vs nd hl l h;cases vs with
   |nil=>cases hl
   |cons v vs =>
    have h0:=h q yB;rw[List.zip_cons_cons,yR]at h0;simp only[beq_self_eq_true]at h0;rw[List.filterMap_cons,h0];rw[List.nodup_cons]at nd
    have:=ih vs nd.2 (by simpa using hl) l fun p hp=>by
     have:=h p (zT _ hp)
     rw[List.zip_cons_cons,yR]at this;have ne:(p==q)=false:=by
      have:p≠q:=fun e=>nd.1 (e▸hp)
      simpa using this
     rw[ne]at this;exact this
    simp only[map_some];rw[this];rfl
 exact gen ps us nd hl _ fun _ _=>rfl
noncomputable def plainA(a:Arguments):Bool:=a.posonlyargs.isEmpty&&a.vararg.isNone&&a.kwonlyargs.isEmpty&&a.kwarg.isNone
theorem bind_plain(hp:plainA fd.params=true)(hd:fd.defaults=.none)(nd:(fd.params.args.map (·.arg)).Nodup)(hl:us.length=(fd.params.args.map (·.arg)).length):bindArgs fd ⟨us,[]⟩=pure ((fd.params.args.map (·.arg)).zip us):=by
 unfold plainA at hp;simp only[zE,List.isEmpty_iff,Option.isNone_iff_eq_none]at hp;obtain⟨⟨⟨h1,h2⟩,h3⟩,h4⟩:=hp;obtain⟨z1,z2⟩:=xc nd hl;have hs:seqItems? fd.defaults=(do notAStandIn Value.none;pure none):=by rw[hd];rfl
 have hn:notAStandIn Value.none=pure ():=rfl;unfold bindArgs;simp only[h1,h2,h3,h4,hs,hn];simp only[List.map_nil,List.nil_append,List.forIn_nil,pure_bind,List.append_nil];rw[yK (by simp[hl])];simp only[Option.getD_none,List.length_nil,Nat.sub_zero,List.drop_nil,List.take_length,z2,List.isEmpty_nil,Bool.not_true,yE,if_false,List.drop_length,List.zip_nil_left,List.forIn_nil,pure_bind,z1]
end R
namespace L2
open PySem PySem.Spec PyProof.Rows
def iG(mg:Str->Option Value)(base:Heap):Prop:=∃bm o,mg "__builtins__"=some (.ref bm)/\bm≠builtinsNs/\bm≠mainGlobals/\base.get? bm=some o/\o.cls=.type "module"/\o.dict=some builtinsNs/\o.data=.plain
noncomputable def fv(c:Addr)(q:Str):HO:=.ext fun h=>h.CodeRec (.ref c) q
section
variable{X:Cx}{Mv:List (Addr×Obj)}{σ:St}{H:Hp}{s:Shared}
theorem Inv.grown{t':Nat}(I:Inv X Mv σ H s)(hP:H P=some (.tbl ps))(hx:Heap.ExtBut P s.heap h')(hc:s.heap.objs.size<=c')(hr:h'.CodeRec (.ref c') q)
  (gP:h'.get? P=some (tabObj (ps++more))):Inv X Mv σ (ae (ae H P (.tbl (ps++more))) c' (fv c' q)) { s with heap:=h',toks:=t' }:=by
 have gP0:s.heap.get? P=some (tabObj ps):=I.MD P _ hP;have hcn:H c'=none:=I.MD.fresh hc;have hPc:P≠c':=zX (zM (yM gP0) hc);have nb:∀b u,H b=some u->b≠c':=fun b u e z=>by rw[z,hcn]at e;cases e
 have hH:∀b,b≠P->b≠c'->ae (ae H P (.tbl (ps++more))) c' (fv c' q) b=H b:=fun b h1 h2=>by rw[ad h2,ad h1]
 refine I.un ⟨fun b o e n _ _=>hx b o (fun z=>by rw[z,hP]at n;cases n) e,fun b o e n _ _=>⟨o.slots,hx b o (fun z=>by rw[z,hP]at n;cases n) e⟩,fun b o e n _=>?_,fun b o e _=>?_,fun b xs e=>?_,fun b o u e=>?_,fun b qs e=>?_⟩ fun b u e=>?_
 ·rw[hH b (fun z=>by rw[z,hP]at n;cases n) (zX (zM (yM e) hc))];exact n
 ·by_cases hb:b=P
  ·exact⟨_,hb▸gP⟩
  ·exact⟨o,hx b o hb e⟩
 ·rw[hH b (fun z=>by rw[z,hP]at e;cases e) (nb _ _ e)];exact e
 ·rw[hH b (fun z=>by rw[z,hP]at e;cases e) (nb _ _ e)];exact e
 ·by_cases hb:b=P
  ·subst hb
   rw[hP]at e;cases e;exact⟨more,by rw[ad hPc,aq]⟩
  ·exact⟨#[],by rw[hH b hb (nb _ _ e),e];simp⟩
 ·by_cases h1:b=c'
  ·subst h1
   rw[aq]at e;cases e;obtain⟨c,oc,vs,t,e1,e2,e3⟩:=id hr;cases e1;refine⟨hr,⟨oc,e2⟩,fun h1 h2 hq0 k=>?_⟩;obtain⟨c,oc,vs,t,e1,e2,e3⟩:=hq0;cases e1;exact⟨_,oc,vs,t,rfl,k _ e2,e3⟩
  ·rw[ad h1]at e
   by_cases h2:b=P
   ·subst h2
    rw[aq]at e;cases e;exact gP
   ·rw[ad h2]at e
    refine(I.MD b u e).stay (fun d v hd q=>hx d v (fun z=>?_) q) (fun d q=>?_) fun d xs q=>?_
    ·rcases hd with z2|z2
     ·exact h2 (z2.symm.trans z)
     ·rw[z,hP]at z2;cases z2
    ·rw[hH d (fun z=>by rw[z,hP]at q;cases q) (nb _ _ q)];exact q
    ·rw[hH d (fun z=>by rw[z,hP]at q;cases q) (nb _ _ q)];exact q
abbrev uo(mg:Str->Option Value)(qual:Str)(params:Arguments)(body:Expr)(scope:Scope)(cl:List (Str×Addr))(cv ctv:Value):Obj :=
 { cls:=.type "function",data:=.func (kla_fn "<lambda>" qual params body scope cl ((mg "__name__").getD .none) cv ctv) }
def fe(H:Hp)(P:Addr)(pos:Pos)(q:Str):Prop:=∃ps,H P=some (.tbl ps)/\TriplesOk ps.toList/\(codeAmong pos ps.toList=none\/∃c,codeAmong pos ps.toList=some (.ref c)/\H c=some (fv c q))
theorem yz(I:Inv X Mv σ H s)(hdef:defaultsOf params X.env=([],[]))(hcode:X.env.code=.ref c)
  (C:CodeHd X.base c P) (B:iG X.mg X.base) (hcl:closureFor scope X.env=pure cl) (T:fe H P pos (X.env.qual++"<lambda>"))
  (h:∀f c' ctv H' s',(H'=H\/∃ps more,H P=some (.tbl ps)/\H c'=none/\P≠c'/\H'=ae (ae H P (.tbl (ps++more))) c' (fv c' (X.env.qual++"<lambda>")))->fe H' P pos (X.env.qual++"<lambda>")->H' c'=some (fv c' (X.env.qual++"<lambda>")) ->
   Inv X (Mv++[(f,uo X.mg (X.env.qual++"<lambda>") params body scope cl (.ref c') ctv)]) σ H' s'->Q (.ref f) s') :
  wpAny (model X.prog X.w) X.A (eval (.Lambda params body scope pos) X.env) Q E s:=by
 refine kla_eval hdef ?_;obtain⟨ps,hP,ht,hc⟩:=T;have gP:s.heap.get? P=some (tabObj ps):=I.MD P _ hP;have hg:s.heap.Ns mainGlobals X.mg:=I.mod.glob.keeps I.bk;have hgP:mainGlobals≠P:=fun q=>by
  obtain⟨o,es,ep,e,hd,_⟩:=hg;rw[q,gP]at e;cases e;cases hd
 obtain⟨bm,ob,b1,b2,b3,b4,b5,b6,b7⟩:=B;have hbP:bm≠P:=fun q=>by
  have:=(I.bs bm ob b4).2
  rw[q,hP]at this;cases this
 have hb:s.heap.BuiltinsAt X.mg P:=⟨bm,ob,b1,b2,b3,hbP,I.bk _ _ b4,b5,b6,b7⟩;have C':CodeHd s.heap c P:=C.keeps I.bk
 -- the function's object,laid over h1
 have last:∀(H1:Hp)(h1:Heap)(tk1:Nat)(o:Obj),Inv X Mv σ H1 { s with heap:=h1,toks:=tk1 }->(∀v,o.data≠.cell v)->o.isFreed=false->Inv X (Mv++[(h1.objs.size,o)]) σ H1 { s with heap:=h1.push o,toks:=tk1 }:=by
  intro H1 h1 tk1 o J hd hfr;have J2:Inv X Mv σ H1 { s with heap:=h1.push o,toks:=tk1 }:=J.kept fun b u e=>zJ _ e
  have fp:=J.fpOk (b:=h1.objs.size) (zS _) J.fresh;refine J2.pins_of fun p hp=>?_
  rcases z7.mp hp with hp|hp
  ·exact J2.pin p (zN _ hp)
  ·rw[zP.mp hp]
   exact⟨z6 _ hfr,fp.1,fp.2.1,fp.2.2.1,hd⟩
 rcases hc with hn|⟨c',hc,hx⟩
 ·refine kla_makeFunction (mg:=X.mg) hcl I.ok.glob hg hcode C' gP ht hn hgP hb fun c' ctv h' tk hx hge hlt hrec htb=>?_
  have hPc:P≠c':=zX (zM (yM gP) hge);have J:=I.grown (t':=tk) hP hx hge hrec htb;have e1:ae (ae H P (.tbl (ps++#[rawInt pos.line,rawInt pos.col,.ref c']))) c' (fv c' (X.env.qual++"<lambda>")) P=some (.tbl (ps++#[rawInt pos.line,rawInt pos.col,.ref c'])):=by rw[ad hPc,aq]
  refine h _ c' ctv _ _ (.inr ⟨ps,_,hP,I.MD.fresh hge,hPc,rfl⟩) ⟨_,e1,?_,.inr ⟨c',?_,aq⟩⟩ aq (last _ h' tk _ J (fun v z=>nomatch z) rfl)
  ·rw[Array.toList_append];exact TriplesOk_snoc _ _ _ _ ht
  ·rw[Array.toList_append];exact codeAmong_snoc _ ht hn
 ·refine kla_makeFunctionHit (mg:=X.mg) hcl I.ok.glob hg hcode C' gP ht hc hb fun ctv h' tk hk hge=>?_
  exact h _ c' ctv H _ (.inl rfl) ⟨ps,hP,ht,.inr ⟨c',hc,hx⟩⟩ hx (last H h' tk _ (I.kept hk) (fun v z=>nomatch z) rfl)
def qH(X:Cx)(N':List Str)(scope:Scope)(cl:List (Str×Addr))(f:Addr)(qual:Str)(cd:Value)(A:Around)(s:Shared)(H:Hp):Cx :=
 { X with N:=N',s₀:=s,H₀:=H,env:=newEnv scope s.heap.objs.size mainGlobals cl (qual++".<locals>.") (some f) cd none builtinsNs,outer:=X.stack,stack:=newEnv scope s.heap.objs.size mainGlobals cl (qual++".<locals>.") (some f) cd none builtinsNs::X.stack,
          A:=A.deeper (newEnv scope s.heap.objs.size mainGlobals cl (qual++".<locals>.") (some f) cd none builtinsNs),ex:=[],fn:=fun _=>false,calm:=true,pn:=[],xe:=fun _ _=>False }
structure u7(X:Cx)(N':List Str)(scope:Scope)(x:Str):Prop where
 cy:iN X N' scope
 co:scope.isCoroutine=false
 gen:scope.isGenerator=false
 len:N'.length=X.N.length+1
 own:N'[X.N.length]?=some x
 loc:scope.names.lookup x=some .local
 nc:∀y∈scope.names,y.2≠.cell
theorem zt{t':Nat}(T:u7 X N' scope x)(I:Inv X Mv σ H s)(hfm:A.frames=some X.stack)(hh:A.handled=none)
  (hcl:∀p∈cl,X.env.cells.lookup p.1=some p.2) (hfr:∀x,(x,NameKind.free)∈scope.names->∃c,(x,c)∈cl) (r:RelV v u)
  (hn:h'.Ns s.heap.objs.size (fun y=>[(x,u)].reverse.lookup y)) (hs:Heap.SameBut s.heap.objs.size (s.heap.push { cls:=.type "frame",data:=.dict #[] }) h') :
  Inv (qH X N' scope cl f qual cd A s H) [] (σ++[some v]) H { s with heap:=h',toks:=t' }:=by
 have keep:∀b o,s.heap.get? b=some o->h'.get? b=some o:=fun b o e=>(hs.2 b (zX (yM e))).trans (zJ _ e)
 have look:∀x,(x,NameKind.free)∈scope.names->∃c,cl.lookup x=some c/\X.env.cells.lookup x=some c:=fun x hx=>by
  obtain⟨c,hc⟩:=hfr x hx;obtain⟨c2,hc2⟩:=eV hc;exact⟨c2,hc2,hcl _ (mem_of_lookup hc2)⟩
 have noA:∀ b:Addr,b ∉ (qH X N' scope cl f qual cd A s H).ex:=fun b z=>absurd (show b ∈ ([]:List Addr) from z) (by simp)
 refine⟨⟨I.ok.mod,T.cy.kind,rfl,rfl,zS _,fun y z c h1 h2=>?_,fun y hy=>?_,fun y c h=>(by cases h),fun _=>hh,Around.frames_deeper hfm,.inr ⟨rfl,rfl⟩,fun b z=>absurd z (noA b),I.bs,z9 I.ok.bsz I.sz,fun b _ _=>noA b,fun b z=>absurd z (noA b),I.stack,I.stkFree⟩,
  rfl,I.bare,Un.kept keep,⟨_,hn,fun i y w e1 e2 e3=>?_⟩,fun y c h=>?_,I.MD.fresh (zS _),fun y c h=>?_,fun p hp=>absurd (show p∈([]:List (Addr×Obj)) from hp) (by simp),I.MD.kept keep,?_⟩
 ·exact I.ok.inj y z c (hcl _ (mem_of_lookup h1)) (hcl _ (mem_of_lookup h2))
 ·have hy:scope.names.lookup y=some .cell\/scope.names.lookup y=some .free:=hy
  rcases hy with hy|hy
  ·exact absurd rfl (T.nc _ (mem_of_lookup hy))
  ·obtain⟨c,hc,_⟩:=look y (mem_of_lookup hy)
   exact⟨c,hc⟩
 ·have hlen:=I.len
  rcases yX i σ.length with hi|hi
  ·rw[zQ hi]at e2
   have hmem:∃k,(y,k)∈scope.names:=by
    rcases e3 with h|h|h<;>exact⟨_,mem_of_lookup h⟩
   have hfree:=T.cy.hid i y oM e1 hmem;have eX:=T.cy.same i y oM e1 hfree;have kX:=T.cy.free y hfree;obtain⟨m,hn2,hl⟩:=I.loc;obtain⟨u2,ru,lk⟩:=hl i y w eX e2 (by rcases kX with h|h;exact .inr (.inl h);exact .inr (.inr h));refine⟨u2,ru,.inr ⟨.inr (cH T.cy.nd hfree),?_⟩⟩;rcases lk with⟨k1,_⟩|⟨_,c,hc,z⟩
   ·rcases kX with h|h<;>rw[h]at k1<;>cases k1
   ·obtain⟨c2,q1,q2⟩:=look y hfree
    rw[hc]at q2;cases q2;exact⟨c,q1,z.keeps keep⟩
  ·rw[yA hi]at e2
   have hi0:i-σ.length=0:=by
    rcases Nat.eq_zero_or_pos (i-σ.length) with z|z
    ·exact z
    ·rw [List.getElem?_eq_none (show [some v].length <= _ from z)] at e2;cases e2
   rw[hi0]at e2;cases e2;have hi1:i=X.N.length:=by lia
   subst hi1;have e1:N'[X.N.length]?=some y:=e1;rw[T.own]at e1;cases e1;exact⟨u,r,.inl ⟨T.loc,by simp⟩⟩
 ·obtain⟨w,z⟩:=I.cell y c (hcl _ (mem_of_lookup h))
  exact⟨w,z.keeps keep⟩
 ·exact I.freeC y c (hcl _ (mem_of_lookup h))
 ·show(σ++[some v]).length=N'.length
  rw[zY,I.len,T.len];rfl
theorem za(T:u7 X N' scope x)(I:Inv X Mv σ H s)(hfm:A.frames=some X.stack)(hh:A.handled=none)
  (hd:A.depth<recursionLimit) (hcl:∀p∈cl,X.env.cells.lookup p.1=some p.2) (hfr:∀x,(x,NameKind.free)∈scope.names->∃c,(x,c)∈cl) (hp:R.plainA params=true) (hps:params.args.map (·.arg)=[x])
  (hf:s.heap.get? f=some (uo X.mg qual params body scope cl (.ref c') ctv)) (hr:s.heap.CodeRec (.ref c') qual)
  (he:∀s H,PE (qH X N' scope cl f qual (.ref c') A s H) body te) (r:RelV v u) (h:te (σ++[some v]) H Q) :
  wpAny (model X.prog X.w) A (call (.ref f) [u]) (EP X Mv σ Q) E s:=by
 refine wpAny_call (kla_callFunE hd hf rfl T.co T.gen rfl hr ?_);have hb:bindArgs (kla_fn "<lambda>" qual params body scope cl ((X.mg "__name__").getD .none) (.ref c') ctv) ⟨[u],[]⟩=pure [(x,u)]:=by
  have:=R.bind_plain (fd:=kla_fn "<lambda>" qual params body scope cl ((X.mg "__name__").getD .none) (.ref c') ctv) (us:=[u]) hp rfl (by show(params.args.map (·.arg)).Nodup;rw[hps];simp) (by show _=(params.args.map (·.arg)).length;rw[hps];rfl)
  rw[this];show pure ((params.args.map (·.arg)).zip [u])=_;rw[hps];rfl
 rw[hb];refine yJ ?_;refine wpAny_newFunctionEnv (around:=none) (fun y hy=>T.nc y hy) (fun y hy=>by rw[zP.mp hy];exact T.loc) (fun h' hn hs=>?_) T.cy.kind;have hs:Heap.SameBut s.heap.objs.size (s.heap.push { cls:=.type "frame",data:=.dict #[] }) h':=hs;have keep:∀b o,s.heap.get? b=some o->h'.get? b=some o:=fun b o e=>(hs.2 b (zX (yM e))).trans (zJ _ e)
 refine⟨I.nolimit.keeps keep,kla_codeExpr ?_⟩;have J:=zt (cd:=.ref c') (f:=f) (qual:=qual) (t':=s.toks+[(x,u)].length) T I hfm hh hcl hfr r hn hs;refine yW (he s H [] _ (σ++[some v]) H Q J h) (fun w s' hq0=>?_) fun e s' z=>z.elim
 obtain⟨y,H',J',ry,q⟩:=hq0;exact I.after ⟨y,H',J'.os,J'.bare,J'.base,J'.MD,ry,q⟩
end
theorem wp(h:gE k v=true):RelV (kV k) v:=by
 cases k with
 |inl i =>
  cases v <;> first | (cases h;done) | skip
  rename_i j t;have e:j=i:=by simpa [gE,Value.isInt] using h
  subst e;exact⟨t,rfl⟩
 |inr x =>
  cases v <;> first | (cases h;done) | skip
  rename_i y t;have e:y=x:=by simpa [gE,Value.isStrOf] using h
  subst e;exact⟨t,rfl⟩
theorem Cy{κ:Type}{Mx:List (κ×V)}{vs:List (κ×Value)}(r:KV Mx vs):Mx.map (·.1)=vs.map (·.1):=by
 induction r with
 |nil=>rfl
 |cons h t ih=>simp only[zR];rw[h.1,ih]
def Jc(d:Addr)(o:Obj)(Mx:List (aR×V)):It :=
 ⟨fun i H=>H d=some (.frz o (.dK Mx))/\i<Mx.length,fun i H x H'=>H'=H/\(Mx.map fun p=>kV p.1)[i]?=some x,fun i H=>H d=some (.frz o (.dK Mx))/\Mx.length<=i⟩
theorem qz{ep:Nat}(I:Inv X Mv σ H s)(h:H d=some (.frz o (.dK Mx)))(ho:o.data=.dict es ep) :
  ∃vs,KV Mx vs/\s.heap.DictAt (bJ X.prog X.w) d vs ep:=by
 obtain⟨e1,_,_,vs,r,ob,es',ep',e2,c1,c2,c3⟩:=I.MD d _ h;rw[e1]at e2;cases e2;rw[ho]at c2;cases c2;exact⟨vs,r,o,es,e1,c1,ho,c3⟩
theorem vj{P:Program}{w:World}{K:Frag}{tg:Expr}{d:Addr}{o:Obj}{Mx:List (aR×V)}{es:Array DictEntry}{ep:Nat}(it:Addr)(hd:o.data=.dict es ep):jv P w K tg (Jc d o Mx) [it] it (fun i h=>h.IsKeyIter it d i Mx.length ep) where
 mem:=by simp
 obj:=fun i h st b hb=>by
  obtain rfl:b=it:=by simpa using hb
  obtain⟨o,e,c,d⟩:=st;exact⟨o,e,fun v z=>by rw[d]at z;cases z⟩
 keep:=fun i h h' st k=>let⟨o,e,r⟩:=st;⟨o,k it (by simp) _ e,r⟩
 item:=by
  intro X hP hw hK hc i Mv s σ H E I hf st hg;subst hP hw hK;obtain⟨hg,hi⟩:=hg;obtain⟨vs,r,da⟩:=qz I hg hd;have hl:Mx.length=vs.length:=Paired.length r;obtain⟨f0,f1,f2,f3,f4,f5⟩:=hf it (by simp);obtain⟨q,hq⟩:∃q,vs[i]?=some q:=⟨_,zI oM⟩;have hk:Mx[i]?.map (·.1)=vs[i]?.map (·.1):=by
   rw[<- zU,<- zU,Cy r]
  rw[hl]at st;refine wpAny_pyNext_dict_item st da (k:=q.1) (v:=q.2) hq fun key h' hkey st' sb=>?_
  have I1:Inv X Mv σ H { s with heap:=h' }:=I.turned (t':=s.toks) (fun b o hb e=>(sb.2 b hb).trans e) f0 f1 f3 f4 f5;obtain⟨o',e,c,dd⟩:=id st';refine⟨key,rfl,mH (s:={ s with heap:=h' }) e c dd dC ⟨kV q.1,H,I1,wp hkey,⟨rfl,?_⟩,by rw[hl];exact st',fun b hb=>(hf b hb).1⟩⟩;rw[zU];rw[hq]at hk;cases hkv:Mx[i]? with
  |none=>rw[hkv]at hk;cases hk
  |some p=>rw[hkv]at hk;simp at hk;simp[hk]
 done:=by
  intro X hP hw hK hc i Mv s σ H E I hf st hg;subst hP hw hK;obtain⟨hg,hi⟩:=hg;obtain⟨vs,r,da⟩:=qz I hg hd;have hl:Mx.length=vs.length:=Paired.length r;obtain⟨f0,f1,f2,f3,f4,f5⟩:=hf it (by simp);rw[hl]at st;exact wpAny_pyNext_dict_end (I.ok.hd hc) st da (List.getElem?_eq_none oM) fun h' eb=>⟨rfl,I.turned (t':=s.toks) (fun b o hb e=>eb b o hb e) f0 f1 f3 f4 f5⟩
 self:=fun A i s Q E st h=>wpAny_pyIter_keyiter st h
section
variable{X:Cx}{Mv:List (Addr×Obj)}{σ:St}{H:Hp}{s:Shared}{d:Addr}{Mx:List (aR×V)}{o:Obj}
theorem Inv.frzD(I:Inv X Mv σ H s)(h:H d=some (.dK Mx))(e:s.heap.get? d=some o):Inv X Mv σ (ae H d (.frz o (.dK Mx))) { s with toks:=s.toks }:=by
 have ne:∀b u,H b=some u->(∀Mx,u≠.dK Mx)->b≠d:=fun b u q n z=>by rw[z,h]at q;cases q;exact n _ rfl
 refine I.un (h':=s.heap) ⟨fun b o e _ _ _=>e,fun b o e _ _ _=>⟨o.slots,e⟩,fun b o e n _=>by rw[ad (fun z=>by rw[z,h]at n;cases n)];exact n,fun b o e _=>⟨o,e⟩,fun b xs q=>by rw[ad (ne b _ q fun _ z=>nomatch z)];exact q,fun b o u q=>by rw[ad (ne b _ q fun _ z=>nomatch z)];exact q,
  fun b ps q=>⟨#[],by rw[ad (ne b _ q fun _ z=>nomatch z),q];simp⟩⟩ fun b u q=>?_
 have st:∀b u,H b=some u->ObjOk X.prog X.w (ae H d (.frz o (.dK Mx))) s.heap b u:=fun b u q=>(I.MD b u q).stay (fun _ _ _ z=>z) (fun c z=>by rw[ad (ne c _ z fun _ y=>nomatch y)];exact z) fun c xs z=>by rw[ad (ne c _ z fun _ y=>nomatch y)];exact z
 by_cases hb:b=d
 ·subst hb;rw[aq]at q;cases q;exact⟨e,st _ _ h⟩
 ·rw[ad hb]at q;exact st b u q
theorem Inv.thawD(I:Inv X Mv σ H s)(h:H d=some (.frz o (.dK Mx)))(hn:∀o u,X.H₀ d≠some (.frz o u)):Inv X Mv σ (ae H d (.dK Mx)) s:=by
 have ne:∀b u,H b=some u->(∀o u',u≠.frz o u')->b≠d:=fun b u q n z=>by rw[z,h]at q;cases q;exact n _ _ rfl
 have nn:∀b,H b=none->b≠d:=fun b q z=>by rw[z,h]at q;cases q
 have MD:HOk X.prog X.w (ae H d (.dK Mx)) s.heap:=fun b u q=>by
  have st:∀b u,H b=some u->ObjOk X.prog X.w (ae H d (.dK Mx)) s.heap b u:=fun b u q=>(I.MD b u q).stay (fun _ _ _ z=>z) (fun c z=>by rw[ad (ne c _ z fun _ _ y=>nomatch y)];exact z) fun c xs z=>by rw[ad (ne c _ z fun _ _ y=>nomatch y)];exact z
  by_cases hb:b=d
  ·subst hb;rw[aq]at q;cases q;exact(st _ _ h).2
  ·rw[ad hb]at q;exact st b u q
 refine⟨I.ok,I.os,I.bare,⟨I.base.keep,I.base.slot,fun b o e n hx=>by rw[ad (nn b (I.base.free b o e n hx))];exact I.base.free b o e n hx,I.base.there,fun b xs e=>by rw[ad (ne b _ (I.base.tups b xs e) fun _ _ y=>nomatch y)];exact I.base.tups b xs e,
  fun b o u e=>by rw[ad (fun z=>hn o u (by rw[<- z];exact e))];exact I.base.frzs b o u e,fun b ps e=>?_⟩,I.loc,I.cell,by rw[ad (nn _ I.free)];exact I.free,fun x c e=>by rw[ad (nn _ (I.freeC x c e))];exact I.freeC x c e,
  fun p hp=>by obtain⟨a1,a2,a3⟩:=I.pin p hp;exact⟨a1,by rw[ad (nn _ a2)];exact a2,a3⟩,MD,I.len⟩
 obtain⟨more,q⟩:=I.base.tbls b ps e;exact⟨more,by rw[ad (ne b _ q fun _ _ y=>nomatch y)];exact q⟩
end
section
variable{X:Cx}{tg iter:Expr}{te:TE}
def Hl(n0:Hp)(te:TE):TI:=fun σ H R=>te σ H fun x H1=>∃d Mx,x=.ref d/\H1 d=some (.dK Mx)/\∀o,(∀o u,n0 d≠some (.frz o u))->R (Jc d o Mx) (ae H1 d (.frz o (.dK Mx)))
theorem Cc(hl:PE X iter te):PI X tg iter (Hl X.H₀ te):=by
 intro Mv s σ H R I h;refine ax (hl Mv s σ H _ I h) fun v s1 hq0=>?_
 obtain⟨x,H1,I1,r1,d,Mx,e,hd,q⟩:=hq0;subst e;cases r1;obtain⟨hz,hsys,vs,rv,ob,es,ep,e1,c1,c2,c3⟩:=I1.MD d _ hd;have hl:Mx.length=vs.length:=Paired.length rv;have hn:∀o u,X.H₀ d≠some (.frz o u):=fun o u z=>by
  have:=I1.base.frzs d o u z
  rw[hd]at this;cases this
 have I2:=I1.frzD hd e1;refine wpAny_pyIter_dict hsys (knd:=bJ X.prog X.w) ⟨ob,es,e1,c1,c2,c3⟩ ?_;have I3:Inv X Mv σ (ae H1 d (.frz ob (.dK Mx))) { s1 with heap:=s1.heap.push { cls:=.type "dict_keyiterator",data:=.fields #[.ref d,.int 0 0,.int vs.length 0,.int ep 0] },toks:=s1.toks }:=I2.kept fun b o e=>zJ _ e
 refine⟨s1.heap.objs.size,[s1.heap.objs.size],_,_,_,rfl,I3,vj (Mx:=Mx) _ c2,⟨_,z6 _ rfl,rfl,by rw[hl];rfl⟩,fun b hb=>?_,q ob hn⟩;obtain rfl:b=s1.heap.objs.size:=by simpa using hb
 exact I2.fpOk (zS _) I2.fresh
def oZ(n0:Hp)(D:iM):iM:={ nx:=fun σ H=>∃d o Mx,H d=some (.frz o (.dK Mx))/\(∀o u,n0 d≠some (.frz o u))/\D.nx σ (ae H d (.dK Mx)),rt:=fun v H=>∃d o Mx,H d=some (.frz o (.dK Mx))/\(∀o u,n0 d≠some (.frz o u))/\D.rt v (ae H d (.dK Mx)) }
theorem B3{st:Stmt}{t:TS}(h:PS X st t):PS X st (fun D σ H=>t (oZ X.H₀ D) σ H):=by
 intro Mv s σ H D I q;refine ax (h Mv s σ H (oZ X.H₀ D) I q) fun f s' hs=>?_
 cases f with
 |next=>obtain⟨σ',H',J,d,o,Mx,e,n,q⟩:=hs;exact⟨σ',_,J.thawD e n,q⟩
 |ret u=>obtain⟨v,σ',H',J,r,d,o,Mx,e,n,q⟩:=hs;exact⟨v,σ',_,J.thawD e n,r,q⟩
 |brk=>obtain⟨_,_,_,q⟩:=hs;exact q.elim
 |cont=>obtain⟨_,_,_,q⟩:=hs;exact q.elim
end
end L2
namespace R
open PySem L2
inductive AV where
 |non|bl (b:Bool)|int (i:Int)|str (x:Str)|ref (k:Nat)|tup (xs:List AV)|fz (xs:List AV)
inductive Mw where
 |lst (xs:List AV)|al (t:AV)|dK (Mx:List (aR×AV))|dT (Mx:List (List aR×AV))|ins (c:Str) (fs:List (Str×AV))|wk (Mx:List (aR×AV))
abbrev aa:=List Mw
abbrev Sl:=List (Option AV)
abbrev Pr:=Addr->Prop
class My where
 tb:List (Addr×Pos×Str)
structure Gm where
 K:Frag
 mg:Str->Option Value
def FLk(mg:Gm)(P:Pr)(H:Hp)(a:Addr)(vs:List V):Prop:=(P a/\Rd H a (.lst vs))\/∀H',bw mg.K H' a vs
mutual
def RA(mg:Gm)(P:Pr)(H:Hp)(φ:List Addr):AV->V->Prop
 |.non,v=>v=.non
 |.bl b,v=>v=.bl b
 |.int i,v=>v=.int i
 |.str x,v=>v=.str x
 |.ref k,v=>∃a,φ[k]?=some a/\v=.ref a
 |.tup xs,v=>∃a vs,v=.ref a/\P a/\H a=some (.tup vs)/\MB mg P H φ xs vs
 |.fz xs,v=>∃a vs,v=.ref a/\FLk mg P H a vs/\MB mg P H [] xs vs
def MB(mg:Gm)(P:Pr)(H:Hp)(φ:List Addr):List AV->List V->Prop
 |[],vs=>vs=[]
 |x::xs,vs=>∃v ws,vs=v::ws/\RA mg P H φ x v/\MB mg P H φ xs ws
end
theorem bh:MB mg P H φ [] []:=by simp only[MB]
theorem aS(h:RA mg P H φ x v)(t:MB mg P H φ xs vs):MB mg P H φ (x::xs) (v::vs):=by simp only[MB];exact⟨v,vs,rfl,h,t⟩
structure Frm(P:Pr)(φ:List Addr)(H:Hp)(P':Pr)(φ':List Addr)(H':Hp):Prop where
 ext:∀a,P a->P' a/\H' a=H a
 new:∃more,φ'=φ++more/\∀a∈more,H a=none
 keep:∀a,H a≠none->a∉φ->(∀ps,H a≠some (.tbl ps))->H' a=H a
 pn:∀a,P' a->P a\/H a=none\/a∈φ
 sm:∀a,H a≠none->H' a≠none
 fz:∀a o u,H a=some (.frz o u)->H' a=some (.frz o u)
theorem Frm.refl:Frm P φ H P φ H:=⟨fun _ h=>⟨h,rfl⟩,⟨[],by simp,by simp⟩,fun _ _ _ _=>rfl,fun _ h=>.inl h,fun _ h=>h,fun _ _ _ h=>h⟩
theorem Frm.trans{P P1 P2:Pr}{φ φ1 φ2:List Addr}{H H1 H2:Hp}(a:Frm P φ H P1 φ1 H1)(b:Frm P1 φ1 H1 P2 φ2 H2):Frm P φ H P2 φ2 H2:=by
 obtain⟨m1,e1,n1⟩:=a.new;obtain⟨m2,e2,n2⟩:=b.new;have nn:∀x,H1 x=none->H x=none:=fun x h=>by
  cases e:H x with
  |none=>rfl
  |some o=>exact absurd h (a.sm x (by rw[e];exact fun z=>nomatch z))
 refine⟨fun x h=>?_,⟨m1++m2,by rw[e2,e1,yQ],fun x h=>?_⟩,fun x h1 h2 h3=>?_,fun x h=>?_,fun x h=>b.sm x (a.sm x h),fun x o u h=>b.fz x o u (a.fz x o u h)⟩
 ·obtain⟨h1,e⟩:=a.ext x h
  obtain⟨h2,e'⟩:=b.ext x h1;exact⟨h2,e'.trans e⟩
 ·rcases z7.mp h with h|h
  ·exact n1 x h
  ·exact nn x (n2 x h)
 ·have e:=a.keep x h1 h2 h3
  refine(b.keep x (by rw[e];exact h1) (fun z=>?_) (by rw[e];exact h3)).trans e;rw[e1]at z;rcases z7.mp z with z|z
  ·exact h2 z
  ·exact h1 (n1 x z)
 ·rcases b.pn x h with h|h|h
  ·exact a.pn x h
  ·exact .inr (.inl (nn x h))
  ·rw[e1]at h
   rcases z7.mp h with h|h
   ·exact .inr (.inr h)
   ·exact .inr (.inl (n1 x h))
theorem Rd.at(h:Rd H a u)(e:H' a=H a):Rd H' a u:=by
 rcases h with h|⟨o,h⟩
 ·exact .inl (e.trans h)
 ·exact .inr ⟨o,e.trans h⟩
theorem FLk.mono{mg:Gm}{P P':Pr}{H H':Hp}{a:Addr}{vs:List V}(h:FLk mg P H a vs)(x:∀a,P a->P' a/\H' a=H a):FLk mg P' H' a vs:=by
 rcases h with⟨p,r⟩|h
 ·exact .inl ⟨(x a p).1,Rd.at r (x a p).2⟩
 ·exact .inr h
theorem FLk.sq(h:FLk mg P H a vs):bw mg.K H a vs:=by
 rcases h with⟨_,r⟩|h
 ·exact .inl r
 ·exact h H
section
variable{mg:Gm}{P P':Pr}{H H':Hp}{φ φ':List Addr}
mutual
theorem RA.mono'(x:∀a,P a->P' a/\H' a=H a):∀{t:AV}{v:V}{φ φ':List Addr},(∀(k:Nat) a,φ[k]?=some a->φ'[k]?=some a)->RA mg P H φ t v->RA mg P' H' φ' t v
 |.non,_,_,_,_,h=>by simp only[RA]at h ⊢;exact h
 |.bl _,_,_,_,_,h=>by simp only[RA]at h ⊢;exact h
 |.int _,_,_,_,_,h=>by simp only[RA]at h ⊢;exact h
 |.str _,_,_,_,_,h=>by simp only[RA]at h ⊢;exact h
 |.ref k,_,_,_,hφ,h=>by simp only[RA]at h ⊢;obtain⟨a,e,r⟩:=h;exact⟨a,hφ k a e,r⟩
 |.tup xs,_,_,_,hφ,h=>by
  simp only[RA]at h ⊢;obtain⟨a,vs,r,p,e,q⟩:=h;exact⟨a,vs,r,(x a p).1,(x a p).2.trans e,MB.mono' x hφ q⟩
 |.fz xs,_,_,_,hφ,h=>by
  simp only[RA]at h ⊢;obtain⟨a,vs,r,e,q⟩:=h;exact⟨a,vs,r,e.mono x,MB.mono' x (fun _ _ z=>z) q⟩
theorem MB.mono'(x:∀a,P a->P' a/\H' a=H a):∀{ts:List AV}{vs:List V}{φ φ':List Addr},(∀(k:Nat) a,φ[k]?=some a->φ'[k]?=some a)->MB mg P H φ ts vs->MB mg P' H' φ' ts vs
 |[],_,_,_,_,h=>by simp only[MB]at h ⊢;exact h
 |t::ts,_,_,_,hφ,h=>by
  simp only[MB]at h ⊢;obtain⟨v,ws,e,r,q⟩:=h;exact⟨v,ws,e,RA.mono' x hφ r,MB.mono' x hφ q⟩
end
theorem RA.mono{t:AV}{v:V}(h:RA mg P H φ t v)(x:∀a,P a->P' a/\H' a=H a)(hφ:∀(k:Nat) a,φ[k]?=some a->φ'[k]?=some a):RA mg P' H' φ' t v:=RA.mono' x hφ h
theorem MB.mono{ts:List AV}{vs:List V}(h:MB mg P H φ ts vs)(x:∀a,P a->P' a/\H' a=H a)(hφ:∀(k:Nat) a,φ[k]?=some a->φ'[k]?=some a):MB mg P' H' φ' ts vs:=MB.mono' x hφ h
theorem Frm.ix(f:Frm P φ H P' φ' H'):∀(k:Nat) a,φ[k]?=some a->φ'[k]?=some a:=fun k a e=>by
 obtain⟨m,rfl,_⟩:=f.new;rw[zQ (zD.mp e).1];exact e
theorem RA.frm(h:RA mg P H φ t v)(f:Frm P φ H P' φ' H'):RA mg P' H' φ' t v:=h.mono f.ext f.ix
theorem MB.frm(h:MB mg P H φ ts vs)(f:Frm P φ H P' φ' H'):MB mg P' H' φ' ts vs:=h.mono f.ext f.ix
theorem RA.lift(h:RA mg P H [] t v):RA mg P H φ t v:=h.mono (fun _ h=>⟨h,rfl⟩) fun k a e=>by simp at e
theorem MB.lift(h:MB mg P H [] ts vs):MB mg P H φ ts vs:=h.mono (fun _ h=>⟨h,rfl⟩) fun k a e=>by simp at e
theorem MB.length:∀{ts:List AV}{vs:List V},MB mg P H φ ts vs->ts.length=vs.length
 |[],_,h=>by simp only[MB]at h;subst h;rfl
 |t::ts,_,h=>by
  simp only[MB]at h;obtain⟨v,ws,rfl,_,q⟩:=h;rw[xB,xB,MB.length q]
theorem MB.get:∀{ts:List AV}{vs:List V}{i:Nat}{t:AV},MB mg P H φ ts vs->ts[i]?=some t->∃v,vs[i]?=some v/\RA mg P H φ t v
 |[],_,_,_,_,e=>by simp at e
 |x::ts,_,i,t,h,e=>by
  simp only[MB]at h;obtain⟨v,ws,rfl,r,q⟩:=h;cases i with
  |zero=>simp at e;subst e;exact⟨v,rfl,r⟩
  |succ i=>simpa using MB.get (i:=i) q (by simpa using e)
theorem MB.app:∀{xs ys:List AV}{vs ws:List V},MB mg P H φ xs vs->MB mg P H φ ys ws->MB mg P H φ (xs++ys) (vs++ws)
 |[],_,_,_,h,g=>by simp only[MB]at h;subst h;exact g
 |x::xs,_,_,_,h,g=>by
  simp only[MB]at h;obtain⟨v,ws,rfl,r,q⟩:=h;exact aS r (MB.app q g)
theorem MB.take:∀{xs:List AV}{vs:List V} (n:Nat),MB mg P H φ xs vs->MB mg P H φ (xs.take n) (vs.take n)
 |xs,vs,0,_=>by rw[List.take_zero,List.take_zero];exact bh
 |[],vs,n+1,h=>by simp only[MB]at h;subst h;exact bh
 |x::xs,vs,n+1,h=>by
  simp only[MB]at h;obtain⟨v,ws,rfl,r,q⟩:=h;exact aS r (MB.take n q)
theorem MB.drop:∀{xs:List AV}{vs:List V} (n:Nat),MB mg P H φ xs vs->MB mg P H φ (xs.drop n) (vs.drop n)
 |xs,vs,0,h=>h
 |[],vs,n+1,h=>by simp only[MB]at h;subst h;exact bh
 |x::xs,vs,n+1,h=>by
  simp only[MB]at h;obtain⟨v,ws,rfl,r,q⟩:=h;exact MB.drop n q
theorem MB.set(r:RA mg P H φ x v):∀{xs:List AV}{vs:List V} (n:Nat),MB mg P H φ xs vs->MB mg P H φ (xs.set n x) (vs.set n v)
 |[],vs,_,h=>by simp only[MB]at h;subst h;exact bh
 |y::xs,vs,n,h=>by
  simp only[MB]at h;obtain⟨w,ws,rfl,q,t⟩:=h;cases n with
  |zero=>exact aS r t
  |succ n=>exact aS q (MB.set r n t)
theorem MB.ints:∀{ns:List Int}{vs:List V},MB mg P H φ (ns.map .int) vs->vs=ns.map .int
 |[],_,h=>by simpa only[List.map_nil,MB] using h
 |n::ns,_,h=>by
  simp only[zR,MB,RA]at h;obtain⟨v,ws,rfl,rfl,q⟩:=h;rw[MB.ints q];rfl
theorem MB.of_ints:∀{ns:List Int},MB mg P H φ (ns.map .int) (ns.map V.int)
 |[]=>bh
 |n::ns=>aS (by simp only[RA]) MB.of_ints
end
def KVR(mg:Gm)(P:Pr)(H:Hp)(φ:List Addr){κ:Type}(Mx:List (κ×AV))(ws:List (κ×V)):Prop:=Mx.map (·.1)=ws.map (·.1)/\MB mg P H φ (Mx.map (·.2)) (ws.map (·.2))
def CellR(mg:Gm)(P:Pr)(H:Hp)(φ:List Addr)(a:Addr):Mw->Prop
 |.lst xs=>¬P a/\∃vs,H a=some (.lst vs)/\MB mg P H φ xs vs
 |.al t=>P a/\RA mg P H [] t (.ref a)
 |.dK Mx=>¬P a/\∃ws,H a=some (.dK ws)/\KVR mg P H φ Mx ws
 |.dT Mx=>¬P a/\∃ws,H a=some (.dT ws)/\KVR mg P H φ Mx ws
 |.ins c fs=>¬P a/\∃C dx ws,mg.mg c=some (.ref C)/\H a=some (.ins C dx ws)/\KVR mg P H φ fs ws
 |.wk Mx=>¬P a/\∃o ws,H a=some (.frz o (.dK ws))/\KVR mg P H φ Mx ws
def F5(o:Option HO):Prop:=(∀ps,o≠some (.tbl ps))/\∀f,o≠some (.ext f)
theorem _root_.L2.fe.new(h:fe H P pos q)(hp:H p=none):fe (ae H p o) P pos q:=by
 obtain⟨ps,e,t,c⟩:=h;refine⟨ps,by rw[ad (aT e hp)];exact e,t,?_⟩;rcases c with c|⟨c',c1,c2⟩
 ·exact .inl c
 ·exact .inr ⟨c',c1,by rw[ad (aT c2 hp)];exact c2⟩
theorem _root_.L2.fe.ne(h:fe H P pos q)(hp:H p=none):P≠p:=by
 obtain⟨ps,e,_⟩:=h;exact aT e hp
theorem _root_.L2.fe.wr(h:fe H P pos q)(hp:F5 (H p)):fe (ae H p o) P pos q:=by
 obtain⟨ps,e,t,c⟩:=h;refine⟨ps,by rw[ad fun z=>hp.1 ps (by rw[<- z];exact e)];exact e,t,?_⟩;rcases c with c|⟨c',c1,c2⟩
 ·exact .inl c
 ·exact .inr ⟨c',c1,by rw[ad fun z=>hp.2 _ (by rw[<- z];exact c2)];exact c2⟩
structure Sim[My](mg:Gm)(P:Pr)(φ:List Addr)(st:aa)(H:Hp):Prop where
 len:φ.length=st.length
 nd:φ.Nodup
 dom:∀a,P a->H a≠none
 cd:∀a∈φ,H a≠none
 cell:∀(k:Nat) c a,st[k]?=some c->φ[k]?=some a->CellR mg P H φ a c
 tb:∀t∈My.tb,fe H t.1 t.2.1 t.2.2/\¬P t.1
section
variable{mg:Gm}{P P':Pr}{H H':Hp}{φ φ':List Addr}{st st':aa}{a:Addr}
theorem KVR.mono{κ:Type}{Mx:List (κ×AV)}{ws:List (κ×V)}(h:KVR mg P H φ Mx ws)(x:∀a,P a->P' a/\H' a=H a)(hφ:∀(k:Nat) a,φ[k]?=some a->φ'[k]?=some a):KVR mg P' H' φ' Mx ws:=⟨h.1,h.2.mono x hφ⟩
theorem CellR.mono{c:Mw}(h:CellR mg P H φ a c)(x:∀a,P a->P' a/\H' a=H a)(hφ:∀(k:Nat) a,φ[k]?=some a->φ'[k]?=some a)(e:H' a=H a)(np:¬P a->¬P' a):CellR mg P' H' φ' a c:=by
 cases c with
 |lst xs=>obtain⟨n,vs,r,q⟩:=h;exact⟨np n,vs,e.trans r,q.mono x hφ⟩
 |al t=>exact⟨(x a h.1).1,h.2.mono x fun _ _ z=>z⟩
 |dK Mx=>obtain⟨n,vs,r,q⟩:=h;exact⟨np n,vs,e.trans r,q.mono x hφ⟩
 |dT Mx=>obtain⟨n,vs,r,q⟩:=h;exact⟨np n,vs,e.trans r,q.mono x hφ⟩
 |ins c fs=>obtain⟨n,C,dx,ws,m,r,q⟩:=h;exact⟨np n,C,dx,ws,m,e.trans r,q.mono x hφ⟩
 |wk Mx=>obtain⟨n,o,ws,r,q⟩:=h;exact⟨np n,o,ws,e.trans r,q.mono x hφ⟩
theorem Sim.at[My](s:Sim mg P φ st H){k:Nat}(e:st[k]?=some c):∃a,φ[k]?=some a/\CellR mg P H φ a c:=by
 have hk:k<φ.length:=by rw[s.len];exact(zD.mp e).1
 exact⟨φ[k],zI hk,s.cell k c _ e (zI hk)⟩
theorem Sim.notb[My](s:Sim mg P φ st H){k:Nat}(ea:φ[k]?=some a)(na:¬P a):F5 (H a):=by
 obtain⟨c,hc⟩:∃c,st[k]?=some c:=⟨_,zI (by rw[<- s.len];exact(zD.mp ea).1)⟩;have h:=s.cell k c a hc ea;cases c with
 |lst xs=>obtain⟨n,vs,r,q⟩:=h;rw[r];exact⟨fun _ z=>(nomatch z),fun _ z=>(nomatch z)⟩
 |al t=>exact absurd h.1 na
 |dK Mx=>obtain⟨n,vs,r,q⟩:=h;rw[r];exact⟨fun _ z=>(nomatch z),fun _ z=>(nomatch z)⟩
 |dT Mx=>obtain⟨n,vs,r,q⟩:=h;rw[r];exact⟨fun _ z=>(nomatch z),fun _ z=>(nomatch z)⟩
 |ins c fs=>obtain⟨n,C,dx,ws,m,r,q⟩:=h;rw[r];exact⟨fun _ z=>(nomatch z),fun _ z=>(nomatch z)⟩
 |wk Mx=>obtain⟨n,o,ws,r,q⟩:=h;rw[r];exact⟨fun _ z=>(nomatch z),fun _ z=>(nomatch z)⟩
theorem Sim.tnc[My](s:Sim mg P φ st H)(ht:t∈My.tb):t.1∉φ:=fun h=>by
 obtain⟨j,hj⟩:=yC h;obtain⟨ps,e,_⟩:=(s.tb t ht).1;exact(s.notb hj (s.tb t ht).2).1 ps e
theorem Sim.okeep[My](s:Sim mg P φ st H)(f:Frm P φ H P' φ' H')(h:H c=some (fv c q)):H' c=some (fv c q):=by
 by_cases hP:P c
 ·exact(f.ext c hP).2.trans h
 ·refine(f.keep c (by rw[h];exact fun z=>nomatch z) (fun z=>?_) fun ps z=>by rw[h]at z;cases z).trans h
  obtain⟨j,hj⟩:=yC z;exact(s.notb hj hP).2 _ h
theorem Sim.ckeep[My](s:Sim mg P φ st H)(x:∀a,P a->H' a=H a)(k:∀a,H a≠none->(∀ps,H a≠some (.tbl ps))->H' a=H a):∀a∈φ,H' a=H a:=fun a h=>by
 by_cases hP:P a
 ·exact x a hP
 ·obtain⟨j,hj⟩:=yC h
  exact k a (s.cd a h) (s.notb hj hP).1
theorem Sim.stay[My](s:Sim mg P φ st H)(x:∀a,P a->P' a/\H' a=H a)(hc:∀a∈φ,H' a=H a)(np:∀a∈φ,¬P a->¬P' a)(dm:∀a,P' a->H' a≠none)(tb:∀t∈My.tb,fe H' t.1 t.2.1 t.2.2/\¬P' t.1):Sim mg P' φ st H' :=
 ⟨s.len,s.nd,dm,fun a h=>by rw[hc a h];exact s.cd a h,fun k c a e1 e2=>(s.cell k c a e1 e2).mono x (fun _ _ z=>z) (hc a (zZ e2)) (np a (zZ e2)),tb⟩
theorem Sim.nil[My](dm:∀a,P a->H a≠none)(tb:∀t∈My.tb,fe H t.1 t.2.1 t.2.2/\¬P t.1):Sim mg P [] [] H:=⟨rfl,List.nodup_nil,dm,fun _ h=>by simp at h,fun k c a e _=>by simp at e,tb⟩
theorem jJ[My](s:Sim mg P φ st H)(hp:H p=none):Frm P φ H (fun a=>P a\/a=p) φ (ae H p o)/\Sim mg (fun a=>P a\/a=p) φ st (ae H p o):=by
 have ne:∀a,H a≠none->a≠p:=fun a h e=>h (by rw[e];exact hp)
 have f:Frm P φ H (fun a=>P a\/a=p) φ (ae H p o):=by
  refine⟨fun a h=>⟨.inl h,ad (ne a (s.dom a h))⟩,⟨[],by simp,by simp⟩,fun a h _ _=>ad (ne a h),fun a h=>?_,fun a h=>by rw[ad (ne a h)];exact h,fun a o u h=>by rw[ad (aT h hp)];exact h⟩;rcases h with h|h
  ·exact .inl h
  ·exact .inr (.inl (by rw[h];exact hp))
 refine⟨f,s.stay f.ext (fun a h=>ad (ne a (s.cd a h))) (fun a h n z=>?_) (fun a h=>?_) fun t ht=>⟨(s.tb t ht).1.new hp,fun z=>z.elim (s.tb t ht).2 (fun e=>(s.tb t ht).1.ne hp e)⟩⟩
 ·rcases z with z|z
  ·exact n z
  ·exact ne a (s.cd a h) z
 ·rcases h with h|h
  ·rw[ad (ne a (s.dom a h))];exact s.dom a h
  ·rw[h,aq];exact fun z=>nomatch z
theorem lE[My](s:Sim mg P φ st H)(hp:H p=none)(hc:CellR mg P (ae H p o) (φ++[p]) p c):Frm P φ H P (φ++[p]) (ae H p o)/\Sim mg P (φ++[p]) (st++[c]) (ae H p o):=by
 have ne:∀a,H a≠none->a≠p:=fun a h e=>h (by rw[e];exact hp)
 have ex:∀a,P a->P a/\ae H p o a=H a:=fun a h=>⟨h,ad (ne a (s.dom a h))⟩
 have ix:∀(k:Nat) a,φ[k]?=some a->(φ++[p])[k]?=some a:=fun k a e=>by rw[zQ (zD.mp e).1];exact e
 have sm:∀a,H a≠none->ae H p o a≠none:=fun a h=>by rw[ad (ne a h)];exact h
 refine⟨⟨ex,⟨[p],rfl,fun a h=>by rw[zP.mp h];exact hp⟩,fun a h _ _=>ad (ne a h),fun a h=>.inl h,sm,fun a o u h=>by rw[ad (aT h hp)];exact h⟩,?_,?_,fun a h=>sm a (s.dom a h),fun a h=>?_,fun k d a e1 e2=>?_,fun t ht=>⟨(s.tb t ht).1.new hp,(s.tb t ht).2⟩⟩
 ·rw[zY,zY,s.len];rfl
 ·exact List.nodup_append.mpr ⟨s.nd,(by simp),fun a h b hb e=>ne a (s.cd a h) (by rw[e];exact zP.mp hb)⟩
 ·rcases z7.mp h with h|h
  ·exact sm a (s.cd a h)
  ·rw[zP.mp h,aq];exact fun z=>nomatch z
 ·by_cases hk:k<st.length
  ·rw[zQ hk]at e1
   rw[zQ (by rw[s.len];exact hk)]at e2;exact(s.cell k d a e1 e2).mono ex ix (ad (ne a (s.cd a (zZ e2)))) fun z=>z
  ·have hk':k=st.length:=by
    have:=(zD.mp e1).1
    rw[zY]at this;simp at this;lia
   subst hk';simp at e1;rw[<- s.len]at e2;simp at e2;subst e1;subst e2;exact hc
theorem gJ[My]{k:Nat}(s:Sim mg P φ st H)(ea:φ[k]?=some a)(na:¬P a)(hc:CellR mg P (ae H a o) φ a c)(nz:∀o u,H a≠some (.frz o u)):Frm P φ H P φ (ae H a o)/\Sim mg P φ (st.set k c) (ae H a o):=by
 have hm:a∈φ:=zZ ea;have ne:∀b,P b->b≠a:=fun b h e=>na (by rw[<- e];exact h)
 have sm:∀b,H b≠none->ae H a o b≠none:=fun b h=>by
  by_cases e:b=a
  ·rw[e,aq];exact fun z=>nomatch z
  ·rw[ad e];exact h
 have ex:∀b,P b->P b/\ae H a o b=H b:=fun b h=>⟨h,ad (ne b h)⟩
 refine⟨⟨ex,⟨[],by simp,by simp⟩,fun b _ h _=>ad fun e=>h (by rw[e];exact hm),fun b h=>.inl h,sm,fun b o u h=>by rw[ad (fun e=>nz o u (by rw[<- e];exact h))];exact h⟩,by rw[List.length_set];exact s.len,s.nd,fun b h=>sm b (s.dom b h),fun b h=>sm b (s.cd b h),fun j d b e1 e2=>?_,fun t ht=>⟨(s.tb t ht).1.wr (s.notb ea na),(s.tb t ht).2⟩⟩;by_cases hj:j=k
 ·subst hj
  rw[ea]at e2;cases e2;rw[List.getElem?_set_self (by rw[<- s.len];exact(zD.mp ea).1)]at e1;cases e1;exact hc
 ·rw[List.getElem?_set_ne (Ne.symm hj)]at e1
  have hb:b≠a:=fun e=>hj (by
   subst e;exact nodup_ix' s.nd e2 ea)
  exact(s.cell j d b e1 e2).mono ex (fun _ _ z=>z) (ad hb) fun z=>z
where
 nodup_ix' {l:List Addr} (hN:l.Nodup) {i j:Nat}{x:Addr} (a:l[i]?=some x) (b:l[j]?=some x):i=j:=by
  obtain⟨h1,e1⟩:=zD.mp a;obtain⟨h2,e2⟩:=zD.mp b;exact(List.getElem_inj hN).mp (e1.trans e2.symm)
end
open PySem.Spec PyProof.Rows
open DD (PE_imp PT_imp PA_imp PS_imp PSs_imp OpR_imp PW_imp PG_imp)
abbrev St:=L2.St
abbrev _root_.L2.Cx.gm(X:Cx):Gm:=⟨X.K,X.mg⟩
def KG[My]{α β:Type}(mg:Gm)(Rl:Gm->Pr->Hp->List Addr->α->β->Prop)(P:Pr)(φ:List Addr)(H:Hp)(r:Option (α×aa))(Q:β->Hp->Prop):Prop :=
 ∃a st',r=some (a,st')/\∀P' φ' H' b,Frm P φ H P' φ' H'->Sim mg P' φ' st' H'->Rl mg P' H' φ' a b->Q b H'
def RB{α:Type}(_:Gm)(_:Pr)(_:Hp)(_:List Addr)(a b:α):Prop:=a=b
section
variable{α β γ δ:Type}{mg:Gm}{Ra:Gm->Pr->Hp->List Addr->α->β->Prop}{Rc:Gm->Pr->Hp->List Addr->γ->δ->Prop}{P:Pr}{φ:List Addr}{H:Hp}
theorem KG.bind[My]{m:Option (α×aa)}{k:α×aa->Option (γ×aa)}{Q:δ->Hp->Prop}(h:KG mg Rc P φ H (m.bind k) Q) :
  KG mg Ra P φ H m fun b H1=>∃P1 φ1 st1 a,Frm P φ H P1 φ1 H1/\Sim mg P1 φ1 st1 H1/\Ra mg P1 H1 φ1 a b/\KG mg Rc P1 φ1 H1 (k (a,st1)) Q:=by
 obtain⟨c,st',e,q⟩:=h;cases m with
 |none=>cases e
 |some p =>
  obtain⟨a,st1⟩:=p;refine⟨a,st1,rfl,fun P1 φ1 H1 b f s r=>⟨P1,φ1,st1,a,f,s,r,c,st',e,fun P' φ' H' d f' s' r'=>q P' φ' H' d (f.trans f') s' r'⟩⟩
theorem KG.pure[My]{a:α}{st:aa}{Q:β->Hp->Prop}{b:β}(h:KG mg Ra P φ H (some (a,st)) Q)(s:Sim mg P φ st H)(r:Ra mg P H φ a b):Q b H:=by
 obtain⟨_,_,e,q⟩:=h;cases e;exact q P φ H b Frm.refl s r
theorem KG.map[My]{m:Option α}{st:aa}{Q:β->Hp->Prop}(h:KG mg Ra P φ H (m.map fun a=>(a,st)) Q):∃a,m=some a/\KG mg Ra P φ H (some (a,st)) Q:=by
 obtain⟨b,st',e,q⟩:=h;cases m with
 |none=>cases e
 |some a=>exact⟨a,rfl,b,st',e,q⟩
end
def MH(mg:Gm)(P:Pr)(H:Hp)(φ:List Addr)(sl:Sl)(σ:St):Prop:=sl.length=σ.length/\∀(i:Nat) v,sl[i]?=some (some v)->∃w,σ[i]?=some (some w)/\RA mg P H φ v w
section
variable{mg:Gm}{P P':Pr}{H H':Hp}{φ φ':List Addr}{sl:Sl}{σ:St}
theorem MH.frm(h:MH mg P H φ sl σ)(f:Frm P φ H P' φ' H'):MH mg P' H' φ' sl σ:=⟨h.1,fun i v e=>let⟨w,e',r⟩:=h.2 i v e;⟨w,e',r.frm f⟩⟩
theorem MH.set(h:MH mg P H φ sl σ)(r:RA mg P H φ v w)(i:Nat):MH mg P H φ (sl.set i (some v)) (σ.set i (some w)):=by
 refine⟨by rw[List.length_set,List.length_set];exact h.1,fun j u e=>?_⟩;by_cases hj:i=j
 ·subst hj
  by_cases hi:i<sl.length
  ·rw[List.getElem?_set_self hi]at e
   cases e;exact⟨w,List.getElem?_set_self (by rw[<- h.1];exact hi),r⟩
  ·rw[List.getElem?_eq_none (by rw[List.length_set];lia)]at e;cases e
 ·rw[List.getElem?_set_ne hj]at e
  rw[List.getElem?_set_ne hj];exact h.2 j u e
end
abbrev EF:=Sl->aa->Option (AV×aa)
abbrev TF:=Sl->aa->Option (Bool×aa)
abbrev AF:=Sl->aa->Option (List AV×aa)
def rE[My](mg:Gm)(f:EF):TE:=fun σ H Q=>∃P φ sl st,MH mg P H φ sl σ/\Sim mg P φ st H/\KG mg RA P φ H (f sl st) Q
def rT[My](mg:Gm)(f:TF):TT:=fun σ H Q=>∃P φ sl st,MH mg P H φ sl σ/\Sim mg P φ st H/\KG mg RB P φ H (f sl st) Q
def rA[My](mg:Gm)(f:AF):TA:=fun σ H Q=>∃P φ sl st,MH mg P H φ sl σ/\Sim mg P φ st H/\KG mg MB P φ H (f sl st) Q
def QE[My](X:Cx)(e:Expr)(f:EF):Prop:=PE X e (rE X.gm f)
def QT[My](X:Cx)(e:Expr)(f:TF):Prop:=PT X e (rT X.gm f)
def QW[My](X:Cx)(e:Expr)(f:TF):Prop:=PW X e (rT X.gm f)
def QA[My](X:Cx)(es:List Expr)(f:AF):Prop:=PA X es (rA X.gm f)
def aV(i:Nat):EF:=fun sl st=>match sl[i]? with
 |some (some v)=>some (v,st)
 |_=>none
def aC(v:AV):EF:=fun _ st=>some (v,st)
def d8:AF:=fun _ st=>some ([],st)
def eI(f:EF)(g:AF):AF:=fun sl st=>(f sl st).bind fun p=>(g sl p.2).bind fun q=>some (p.1::q.1,q.2)
noncomputable def ot:AV->Option V
 |.non=>some .non
 |.bl b=>some (.bl b)
 |.int i=>some (.int i)
 |.str x=>some (.str x)
 |_=>none
theorem RA.sc(h:ot v=some w):RA mg P H φ v w:=by
 cases v<;>simp only[ot]at h<;>cases h<;>simp only[RA]
section
variable{X:Cx}{e:Expr}{es:List Expr}{pos:Pos}
theorem DU[My]{i:Nat}(hN:X.N[i]?=some x)(hv:wU X.env.scope x)(hd:(x==("__debug__":Str))=false)(hcd:(x==("__classdict__":Str))=false):QE X (.Name x pos) (aV i) :=
 PE_imp (Er hN hv hd hcd) fun σ H Q hq0=>by
  obtain⟨P,φ,sl,st,r,s,k⟩:=hq0;unfold aV at k;cases h:sl[i]? with
  |none=>rw[h]at k;obtain⟨_,_,e,_⟩:=k;cases e
  |some o =>
   cases o with
   |none=>rw[h]at k;obtain⟨_,_,e,_⟩:=k;cases e
   |some v =>
    rw[h]at k;obtain⟨w,e,ra⟩:=r.2 i v h;exact⟨w,e,k.pure s ra⟩
theorem pQ[My](hw:ot v=some w)(h:PE X e t)(ht:∀σ H Q,Q w H->t σ H Q):QE X e (aC v) :=
 PE_imp h fun σ H Q ⟨P,φ,sl,st,r,s,k⟩=>ht σ H Q (k.pure s (RA.sc hw))
theorem d9[My]:QA X [] d8:=PA_imp vS fun σ H Q ⟨P,φ,sl,st,r,s,k⟩=>k.pure s bh
theorem cK[My](ha:QE X e f)(hr:QA X es g)(hs:starEach (e::es) X.env=(false,eval e X.env)::starEach es X.env):QA X (e::es) (eI f g) :=
 PA_imp (rY ha hr hs) fun σ H Q ⟨P,φ,sl,st,r,s,k⟩=>⟨P,φ,sl,st,r,s,by
  obtain⟨a,st',e1,q⟩:=k.bind (Ra:=RA);refine⟨a,st',e1,fun P1 φ1 H1 b f1 s1 r1=>?_⟩;obtain⟨P2,φ2,st2,a2,f2,s2,r2,k2⟩:=q P1 φ1 H1 b f1 s1 r1;refine⟨P2,φ2,sl,st2,r.frm f2,s2,?_⟩;obtain⟨xs,st3,e3,q3⟩:=k2.bind (Ra:=MB);refine⟨xs,st3,e3,fun P4 φ4 H4 bs f4 s4 r4=>?_⟩;obtain⟨P5,φ5,st5,a5,f5,s5,r5,k5⟩:=q3 P4 φ4 H4 bs f4 s4 r4;exact k5.pure s5 (aS (r2.frm f5) r5)⟩
end
def a2(f g:EF)(k:AV->AV->aa->Option (AV×aa)):EF:=fun sl st=>(f sl st).bind fun p=>(g sl p.2).bind fun q=>k p.1 q.1 q.2
def a1(f:EF)(k:AV->aa->Option (AV×aa)):EF:=fun sl st=>(f sl st).bind fun p=>k p.1 p.2
def r2[My](mg:Gm)(k:AV->AV->aa->Option (AV×aa)):R2:=fun v w H Q=>∃P φ st x y,Sim mg P φ st H/\RA mg P H φ x v/\RA mg P H φ y w/\KG mg RA P φ H (k x y st) Q
def r1[My](mg:Gm)(k:AV->aa->Option (AV×aa)):V->Hp->VK->Prop:=fun v H Q=>∃P φ st x,Sim mg P φ st H/\RA mg P H φ x v/\KG mg RA P φ H (k x st) Q
section
variable{mg:Gm}{k:AV->AV->aa->Option (AV×aa)}{k1:AV->aa->Option (AV×aa)}{f g:EF}
theorem uY[My](q:rE mg (a2 f g k) σ H Q):vq (r2 mg k) (rE mg f) (rE mg g) σ H Q:=by
 obtain⟨P,φ,sl,st,rs,s,kk⟩:=q;refine⟨P,φ,sl,st,rs,s,?_⟩;obtain⟨a,st',e1,q⟩:=kk.bind (Ra:=RA);refine⟨a,st',e1,fun P1 φ1 H1 b f1 s1 r1=>?_⟩;obtain⟨P2,φ2,st2,x,f2,s2,r2,k2⟩:=q P1 φ1 H1 b f1 s1 r1;refine⟨P2,φ2,sl,st2,rs.frm f2,s2,?_⟩;obtain⟨a',st3,e3,q3⟩:=k2.bind (Ra:=RA);refine⟨a',st3,e3,fun P4 φ4 H4 b' f4 s4 r4=>?_⟩;obtain⟨P5,φ5,st5,y,f5,s5,r5,k5⟩:=q3 P4 φ4 H4 b' f4 s4 r4;exact⟨P5,φ5,st5,x,y,s5,r2.frm f5,r5,k5⟩
theorem Ka[My](q:rE mg (a1 f k1) σ H Q):Ii (r1 mg k1) (rE mg f) σ H Q:=by
 obtain⟨P,φ,sl,st,rs,s,kk⟩:=q;refine⟨P,φ,sl,st,rs,s,?_⟩;obtain⟨a,st',e1,q⟩:=kk.bind (Ra:=RA);refine⟨a,st',e1,fun P1 φ1 H1 b f1 s1 r1=>?_⟩;obtain⟨P2,φ2,st2,x,f2,s2,r2,k2⟩:=q P1 φ1 H1 b f1 s1 r1;exact⟨P2,φ2,st2,x,s2,r2,k2⟩
end
def jE(h:aa->AV->AV->Option AV):AV->AV->aa->Option (AV×aa):=fun x y st=>(h st x y).map fun z=>(z,st)
def Ds(h:aa->AV->Option AV):AV->aa->Option (AV×aa):=fun x st=>(h st x).map fun z=>(z,st)
noncomputable def cG(a b:Int):Bool:=(Nat.ble a.natAbs.log2 62||Nat.ble b.natAbs.log2 62)||(Nat.ble a.natAbs.log2 1000000&&Nat.ble b.natAbs.log2 1000000)
noncomputable def dB(b:Int):Bool:=!(b==0)&&Nat.ble b.natAbs.log2 8999
noncomputable def tP(a b:Int):Bool:=decide (0<=b)&&Nat.ble b.natAbs 100000&&Nat.ble a.natAbs.log2 62
noncomputable def sK(a b:Int):Int:=if 0<b then a/b else a.fdiv b
noncomputable def oF(a b:Int):Int:=if 0<b then a%b else a.fmod b
def qR:Operator->Int->Int->Option Int
 |.Add,a,b=>some (a+b)
 |.Sub,a,b=>some (a-b)
 |.Mult,a,b=>if cG a b=true then some (a*b) else none
 |.FloorDiv,a,b=>if dB b=true then some (sK a b) else none
 |.Mod,a,b=>if b=0 then none else some (oF a b)
 |.Pow,a,b=>if tP a b=true then some (a^b.toNat) else none
 |.LShift,a,b=>if tP a b=true then some (a*2^b.toNat) else none
 |.RShift,a,b=>if 0<=b then some (a/2^b.toNat) else none
 |.BitAnd,a,b=>some (Builtin.bitAnd a b)
 |.BitOr,a,b=>some (Builtin.bitOr a b)
 |.BitXor,a,b=>some (Builtin.bitXor a b)
 |_,_,_=>none
def bG(o:Operator)(_:aa):AV->AV->Option AV
 |.int a,.int b=>(qR o a b).map .int
 |.str a,.str b=>if(decide (o=.Add)&&Nat.ble (a.length+b.length) 1000000)=true then some (.str (a++b)) else none
 |_,_=>none
theorem log2_lt{n k:Nat}(h:Nat.ble n.log2 k=true):n<2^(k+1):=by
 by_cases h0:n=0
 ·subst h0;exact Nat.two_pow_pos _
 ·exact(Nat.log2_lt h0).mp (Nat.lt_succ_of_le (zV h))
theorem kt{a:Int}{k:Nat}(h:a.natAbs<2^k):Builtin.Int.intBits a<=k:=by
 unfold Builtin.Int.intBits;split
 ·lia
 ·rename_i h0
  have:a.natAbs.log2<k:=(Nat.log2_lt (by simpa using h0)).mpr h;lia
theorem Cr{a b:Int}(h:cG a b=true):IntMulOk a b:=by
 unfold cG at h;rcases Bool.or_eq_true_iff.mp h with h|h
 ·rcases Bool.or_eq_true_iff.mp h with h|h
  ·exact .of_left (z9 (kt (log2_lt h)) dC)
  ·exact .of_right (z9 (kt (log2_lt h)) dC)
 ·obtain⟨h1,h2⟩:=Bool.and_eq_true_iff.mp h
  exact .of_bits (z9 (kt (log2_lt h1)) dC) (z9 (kt (log2_lt h2)) dC)
theorem CJ{b:Int}(h:dB b=true):b≠0/\b.natAbs.log2<9000:=by
 unfold dB at h;obtain⟨h1,h2⟩:=Bool.and_eq_true_iff.mp h;exact⟨by simpa using h1,Nat.lt_succ_of_le (zV h2)⟩
theorem FO(a b:Int):a.fdiv b=sK a b:=by
 unfold sK;split
 ·exact Int.fdiv_eq_ediv_of_nonneg _ oM
 ·rfl
theorem FD(a b:Int):a.fmod b=oF a b:=by
 unfold oF;split
 ·exact Int.fmod_eq_emod_of_nonneg _ oM
 ·rfl
theorem rX{a b:Int}(h:tP a b=true):Kd a b:=by
 unfold tP at h;simp only[zE,yF]at h;obtain⟨⟨h1,h2⟩,h3⟩:=h;have h2:=zV h2;exact⟨h1,by lia,zM (log2_lt h3) dC⟩
def JI(o:Operator):R2:=fun x y H Q=>(∃i j k,x=.int i/\y=.int j/\qR o i j=some k/\Q (.int k) H)\/(o=.Add/\∃i j,x=.str i/\y=.str j/\i.length+j.length<=sizeLine/\Q (.str (i++j)) H)
section
variable{X:Cx}
theorem EH(o:Operator):j3 X (binaryOp o) (JI o):=by
 have hI:∀(h:∀i j k t u s (Q:Value->Shared->Prop) (E:Value->Shared->Prop),qR o i j=some k->Q (.int k s.toks) { s with toks:=s.toks+1 }->wpAny (model X.prog X.w) X.A (binaryOp o (.int i t) (.int j u)) Q E s)
   (Mv:List (Addr×Obj)) (s:Shared) (σ:St) (H:Hp) (x y:V) (v u:Value) (Q:VK),Inv X Mv σ H s->RelV x v->RelV y u->(∃i j k,x=.int i/\y=.int j/\qR o i j=some k/\Q (.int k) H) ->
   wpAny (model X.prog X.w) X.A (binaryOp o v u) (EP X Mv σ Q) X.xe s:=by
  rintro h Mv s σ H x y v u Q I rx ry ⟨i,j,k,e1,e2,e3,q⟩;subst e1;subst e2;obtain⟨t,rfl⟩:=rx;obtain⟨t',rfl⟩:=ry;exact h i j k t t' s _ _ e3 ⟨.int k,H,I.tok _,⟨_,rfl⟩,q⟩
 intro Mv s σ H x y v u Q I rx ry h;rcases h with h|⟨rfl,h⟩
 ·refine hI ?_ Mv s σ H x y v u Q I rx ry h
  intro i j k t u s Q E e q;cases o<;>simp only[qR]at e
  case Add=>cases e;exact add_int q
  case Sub=>cases e;exact sub_int q
  case Mult =>
   split at e
   ·rename_i hm;cases e;exact mul_int q (Cr hm)
   ·cases e
  case FloorDiv =>
   split at e
   ·rename_i hm;cases e
    obtain⟨h1,h2⟩:=CJ hm;exact floordiv_int h1 (by rw[FO];exact q) (.inl (PyProof.noPylong_of_log2 h2))
   ·cases e
  case Mod =>
   split at e
   ·cases e
   ·rename_i hm;cases e
    exact mod_int' hm (by rw[FD];exact q)
  case Pow =>
   split at e
   ·rename_i hm;cases e
    have c:=rX hm;exact pow_int_small c.1 c.2.1 c.2.2 q
   ·cases e
  case LShift =>
   split at e
   ·rename_i hm;cases e
    have c:=rX hm;exact lshift_int_small c.1 c.2.1 c.2.2 q
   ·cases e
  case RShift =>
   split at e
   ·rename_i hm;cases e
    exact rshift_int hm (by rw[Int.fdiv_eq_ediv_of_nonneg _ (tf _)];exact q)
   ·cases e
  case BitAnd=>cases e;exact and_int q
  case BitOr=>cases e;exact or_int q
  case BitXor=>cases e;exact xor_int q
  all_goals cases e
 ·exact tW Mv s σ H x y v u Q I rx ry h
theorem EK[My](o:Operator):j3 X (binaryOp o) (r2 X.gm (jE (bG o))):=OpR_imp (EH o) fun v w H Q hq0=>by
 obtain ⟨P,φ,st,x,y,s,r1,r2,k⟩:=hq0;obtain ⟨z,e,k⟩:=k.map;cases x <;> cases y <;> simp only [bG] at e <;> first | (cases e;done) | skip
 ·rename_i a b
  simp only[RA]at r1 r2;obtain⟨c,e1,e2⟩:=zH.mp e;subst e2;exact .inl ⟨a,b,c,r1,r2,e1,k.pure s (by simp only[RA])⟩
 ·rename_i a b
  simp only[RA]at r1 r2;split at e
  ·rename_i hc
   cases e;simp only[zE,yF]at hc;exact .inr ⟨hc.1,a,b,r1,r2,z9 (zV hc.2) dC,k.pure s (by simp only[RA])⟩
  ·cases e
theorem Eb[My](ha:QE X a f)(hb:QE X b g):QE X (.BinOp a o b pos) (a2 f g (jE (bG o))) :=
 PE_imp (tT (EK o) ha hb) fun _ _ _ q=>uY q
end
open DD (pyOk reads_each any_vals obj_list obj_tup)
def dr(st:aa):AV->AV
 |.ref k=>match st[k]? with
  |some (.al t)=>t
  |_=>.ref k
 |v=>v
def bu(st:aa)(v:AV):Option (List AV):=match dr st v with
 |.fz xs=>some xs
 |.ref k=>match st[k]? with
  |some (.lst xs)=>some xs
  |_=>none
 |_=>none
def ib(st:aa)(v:AV):Option (List AV):=match dr st v with
 |.tup xs=>some xs
 |_=>none
section
variable{mg:Gm}{P:Pr}{φ:List Addr}{st:aa}{H:Hp}{v:AV}{w:V}{xs:List AV}
theorem RA.dr[My](s:Sim mg P φ st H)(r:RA mg P H φ v w):RA mg P H φ (dr st v) w:=by
 cases v with
 |ref k =>
  unfold R.dr;dsimp only;split
  ·rename_i t h
   obtain⟨a,e,c⟩:=s.at h;simp only[RA]at r;obtain⟨a',e',rfl⟩:=r;rw[e]at e';cases e';exact c.2.lift
  ·exact r
 |_=>exact r
theorem RA.ls[My](s:Sim mg P φ st H)(r:RA mg P H φ v w)(h:bu st v=some xs):∃a vs,w=.ref a/\bw mg.K H a vs/\MB mg P H φ xs vs:=by
 have r:=r.dr s;unfold bu at h;split at h
 ·rename_i ys e
  cases h;rw[e]at r;simp only[RA]at r;obtain⟨a,vs,e1,e2,q⟩:=r;exact⟨a,vs,e1,e2.sq,q.lift⟩
 ·rename_i k e
  rw[e]at r;simp only[RA]at r;obtain⟨a,e1,e2⟩:=r;split at h
  ·rename_i ys e3
   cases h;obtain⟨a',e4,c⟩:=s.at e3;rw[e1]at e4;cases e4;obtain⟨_,vs,q1,q2⟩:=c;exact⟨a,vs,e2,.inl (.inl q1),q2⟩
  ·cases h
 ·cases h
theorem RA.tp[My](s:Sim mg P φ st H)(r:RA mg P H φ v w)(h:ib st v=some xs):∃a vs,w=.ref a/\H a=some (.tup vs)/\MB mg P H φ xs vs:=by
 have r:=r.dr s;unfold ib at h;split at h
 ·rename_i ys e
  cases h;rw[e]at r;simp only[RA]at r;obtain⟨a,vs,e1,_,e2,q⟩:=r;exact⟨a,vs,e1,e2,q⟩
 ·cases h
end
noncomputable def bE{α β:Type}(f:α->Option β):List α->Option (List β)
 |[]=>some []
 |x::xs=>(f x).bind fun y=>(bE f xs).map fun ys=>y::ys
theorem fN{α β γ:Type}{f:α->Option β}{i:γ->α}{g:γ->β}(h:∀x,f (i x)=some (g x))(xs:List γ):bE f (xs.map i)=some (xs.map g):=by
 induction xs with
 |nil=>rfl
 |cons x xs ih=>simp only[zR,bE,h,ih,bind_some,map_some]
def cL:Nat->aa->AV->Option PyData
 |_,_,.non=>some .none
 |_,_,.bl b=>some (.bool b)
 |_,_,.int i=>some (.int i)
 |_,_,.str x=>some (.str x)
 |n+1,st,.fz xs=>(bE (cL n st) xs).map .list
 |n+1,st,.tup xs=>(bE (cL n st) xs).map .tuple
 |n+1,st,.ref k=>match st[k]? with
  |some (.lst xs)=>(bE (cL n st) xs).map .list
  |some (.al t)=>cL n st t
  |_=>none
 |0,_,_=>none
section
variable{X:Cx}{Mv:List (Addr×Obj)}{σ:St}{H:Hp}{s:Shared}{P:Pr}{φ:List Addr}{st:aa}
theorem pN[My]{n:Nat}(ih:∀t v p u,RA mg P H φ t v->cL n st t=some p->RelV v u->∃as,Reads s.heap u p as) :
  ∀{xs:List AV}{vs:List V}{ps:List PyData}{us:List Value},MB mg P H φ xs vs->bE (cL n st) xs=some ps->Vals vs us->∃as,ReadsAll s.heap us ps as:=by
 intro xs
 induction xs with
 |nil =>
  intro vs ps us r e q;simp only[MB]at r;subst r;cases e;cases q;exact⟨_,.nil⟩
 |cons x xs ihx =>
  intro vs ps us r e q;simp only[MB]at r;obtain⟨v,ws,rfl,r1,r2⟩:=r;simp only[bE]at e;obtain⟨p,e1,e2⟩:=zA e;obtain⟨qs,e3,e4⟩:=zH.mp e2;subst e4;cases q with
  |cons q1 q2 =>
   obtain⟨as,ra⟩:=ih x v p _ r1 e1 q1;obtain⟨bs,rb⟩:=ihx r2 e3 q2;exact⟨_,.cons ra rb⟩
theorem fY[My](I:L2.Inv X Mv σ H s)(sm:Sim X.gm P φ st H):∀(n:Nat)(t:AV)(v:V)(p:PyData)(u:Value),RA X.gm P H φ t v->cL n st t=some p->RelV v u->∃as,Reads s.heap u p as:=by
 have lst:∀{a:Addr}{vs:List V}{u:Value}{ps:List PyData},bw X.K H a vs->RelV (.ref a) u->(∀{us:List Value},Vals vs us->∃as,ReadsAll s.heap us ps as)->∃as,Reads s.heap u (.list ps) as:=by
  intro a vs u ps h ru k;cases ru;obtain⟨Mz,ob,m,rv,e1,e2,e3⟩:=obj_list I h;obtain⟨as,ra⟩:=k rv;exact⟨_,.list e1 e2 e3 ra⟩
 have flat:∀(n:Nat)(t:AV)(v:V)(p:PyData)(u:Value)(w:V),ot t=some w->RA X.gm P H φ t v->cL n st t=some p->RelV v u->∃as,Reads s.heap u p as:=by
  intro n t v p u w hs r e ru;cases t with
  | non=>cases n <;> (simp only [cL] at e;cases e;simp only [RA] at r;subst r;cases ru;exact ⟨_,.none⟩)
  | bl b=>cases n <;> (simp only [cL] at e;cases e;simp only [RA] at r;subst r;cases ru;exact ⟨_,.bool b⟩)
  | int i=>cases n <;> (simp only [cL] at e;cases e;simp only [RA] at r;subst r;obtain ⟨t,rfl⟩:=ru;exact ⟨_,.int i t⟩)
  | str x=>cases n <;> (simp only [cL] at e;cases e;simp only [RA] at r;subst r;obtain ⟨t,rfl⟩:=ru;exact ⟨_,.str x t⟩)
  |_=>cases hs
 intro n
 induction n with
 |zero =>
  intro t v p u r e ru;cases t with
  |non=>exact flat 0 _ v p u _ rfl r e ru
  |bl b=>exact flat 0 _ v p u _ rfl r e ru
  |int i=>exact flat 0 _ v p u _ rfl r e ru
  |str x=>exact flat 0 _ v p u _ rfl r e ru
  |_=>simp only[cL]at e;cases e
 |succ n ih =>
  intro t v p u r e ru;cases t with
  |non=>exact flat _ _ v p u _ rfl r e ru
  |bl b=>exact flat _ _ v p u _ rfl r e ru
  |int i=>exact flat _ _ v p u _ rfl r e ru
  |str x=>exact flat _ _ v p u _ rfl r e ru
  |fz xs =>
   simp only[cL]at e;obtain⟨ps,e1,e2⟩:=zH.mp e;subst e2;simp only[RA]at r;obtain⟨a,vs,rfl,h,q⟩:=r;exact lst h.sq ru fun rv=>pN ih q.lift e1 rv
  |tup xs =>
   simp only [cL] at e;obtain ⟨ps,e1,e2⟩:=zH.mp e;subst e2;simp only [RA] at r;obtain ⟨a,vs,rfl,_,h,q⟩:=r;cases ru;obtain ⟨Mz,ob,m,rv,h1,h2,h3⟩:=obj_tup I (show fH X.K H a vs from .inl (.inl h));obtain ⟨as,ra⟩:=pN ih q e1 rv;exact ⟨_,.tuple h1 h2 h3 ra⟩
  |ref k =>
   simp only[cL]at e;simp only[RA]at r;obtain⟨a,ea,rfl⟩:=r;split at e
   ·rename_i xs hk
    obtain⟨ps,e1,e2⟩:=zH.mp e;subst e2;obtain⟨a',ea',c⟩:=sm.at hk;rw[ea]at ea';cases ea';obtain⟨_,vs,h,q⟩:=c;exact lst (.inl (.inl h)) ru fun rv=>pN ih q e1 rv
   ·rename_i t hk
    obtain⟨a',ea',c⟩:=sm.at hk;rw[ea]at ea';cases ea';exact ih t _ p u c.2.lift e ru
   ·cases e
end
noncomputable def xu:PyData->Option Str
 |.str a=>some a
 |_=>none
theorem rP{p:PyData}{a:Str}(h:xu p=some a):p=.str a:=by
 cases p with
 |str b=>cases h;rfl
 |_=>cases h
def JA(p q:PyData):Option Bool:=(xu p).bind fun a=>(xu q).map fun b=>a==b
def kT(st:aa)(x y:AV):Option Bool:=(cL 9 st x).bind fun p=>(cL 9 st y).bind fun q=>if pyOk p q=true then some (PyData.eqv p q) else JA p q
def jl:AV->Option aR
 |.int i=>some (.inl i)
 |.str x=>some (.inr x)
 |_=>none
noncomputable def lv{κ:Type}[DecidableEq κ](Mx:List (κ×AV))(k:κ):Option AV:=(Mx.find? fun kv=>decide (kv.1=k)).map (·.2)
def iz(st:aa):AV->Option (List (aR×AV))
 |.ref k=>match st[k]? with
  |some (.dK Mx)=>some Mx
  |_=>none
 |_=>none
def kU(st:aa):AV->Option (List (List aR×AV))
 |.ref k=>match st[k]? with
  |some (.dT Mx)=>some Mx
  |_=>none
 |_=>none
def lK(st:aa)(y x:AV):Option (Option AV):=match iz st y with
 |some Mx=>(jl x).map fun k=>lv Mx k
 |none=>match kU st y with
  |some Mx=>match x with
   |.tup xs=>(bE jl xs).map fun k=>lv Mx k
   |_=>none
  |none=>none
def qr(st:aa)(x y:AV):Option Bool:=match lK st y x with
 |some o=>some o.isSome
 |none=>match x,y with
  |.str a,.str b=>some (!(Builtin.Str.occurrences b a 0 b.length 1).isEmpty)
  |_,_=>(cL 9 st x).bind fun q=>(cL 9 st y).bind fun p=>match p with
   |.list ps=>if(ps.all fun r=>pyOk r q)=true then some (ps.any fun r=>PyData.eqv r q) else none
   |.tuple ps=>if(ps.all fun r=>pyOk r q)=true then some (ps.any fun r=>PyData.eqv r q) else none
   |_=>none
noncomputable def yj:CmpOp->Int->Int->Option Bool
 |.Lt,a,b=>some (decide (a<b))
 |.LtE,a,b=>some (decide (a<=b))
 |.Gt,a,b=>some (decide (b<a))
 |.GtE,a,b=>some (decide (b<=a))
 |_,_,_=>none
noncomputable def EM:AV->Bool
 |.non=>true
 |_=>false
def Ff(x y:AV):Option Bool:=match y with
 |.non=>some (EM x)
 |.bl b=>(match x with
  |.bl a=>some (a==b)
  |_=>none)
 |_=>none
def b9(o:CmpOp)(st:aa)(x y:AV):Option Bool:=match o with
 |.Eq=>kT st x y
 |.NotEq=>(kT st x y).map (!·)
 |.Is=>Ff x y
 |.IsNot=>(Ff x y).map (!·)
 |.In=>qr st x y
 |.NotIn=>(qr st x y).map (!·)
 |o=>match x,y with
  |.int a,.int b=>yj o a b
  |_,_=>none
def lM(o:CmpOp)(st:aa)(x y:AV):Option AV:=(b9 o st x y).map .bl
theorem nM(h:pyOk p q=true):p.canLay0=true/\q.canLay0=true/\min p.depth q.depth<=50:=by
 simp only[pyOk,zE,yF]at h;exact⟨h.1.1,h.1.2,h.2⟩
theorem jd{P:Pr}{H:Hp}{φ:List Addr}{κ:Type}[DecidableEq κ]{Mx:List (κ×AV)}{ws:List (κ×V)}(h:KVR mg P H φ Mx ws)(k:κ) :
  (lv Mx k).isSome=(dZ ws k).isSome/\∀v,lv Mx k=some v->∃w,dZ ws k=some w/\RA mg P H φ v w:=by
 induction Mx generalizing ws with
 |nil =>
  have:ws=[]:=by simpa using h.1.symm
  subst this;exact⟨rfl,fun v e=>by cases e⟩
 |cons p Mx ih =>
  cases ws with
  |nil=>exact absurd h.1 (by simp)
  |cons q ws =>
   obtain⟨h1,h2⟩:=h;rw[zR,zR]at h1 h2;injection h1 with h3 h4;simp only[MB]at h2;obtain⟨v,vs,h5,h6,h7⟩:=h2;injection h5 with h8 h9;subst h8;subst h9;by_cases e:q.1=k
   ·have e':p.1=k:=h3.trans e
    simp only[lv,dZ,List.find?_cons,e,e',decide_true,map_some];refine⟨rfl,fun v hv=>?_⟩;cases hv;exact⟨_,rfl,h6⟩
   ·have e':¬p.1=k:=fun z=>e (h3.symm.trans z)
    have:=ih (ws:=ws) ⟨h4,h7⟩
    simp only[lv,dZ,List.find?_cons,e,e',decide_false]at this ⊢;exact this
section
variable{X:Cx}{Mv:List (Addr×Obj)}{σ:St}{H:Hp}{s:Shared}{P:Pr}{φ:List Addr}{st:aa}
theorem lH(h:jl x=some k)(r:RA mg P H φ x v):v=kV k:=by
 cases x <;> simp only [jl] at h <;> first | (cases h;done) | skip
 ·cases h;simp only[RA]at r;exact r
 ·cases h;simp only[RA]at r;exact r
theorem oA[My]:∀{xs:List AV}{vs:List V}{k:List aR},bE jl xs=some k->MB mg P H φ xs vs->vs=k.map kV:=by
 intro xs
 induction xs with
 |nil=>intro vs k e r;cases e;simp only[MB]at r;exact r
 |cons x xs ih =>
  intro vs k e r;simp only[bE]at e;obtain⟨p,e1,e2⟩:=zA e;obtain⟨qs,e3,e4⟩:=zH.mp e2;subst e4;simp only[MB]at r;obtain⟨v,ws,rfl,r1,r2⟩:=r;rw[lH e1 r1,ih e3 r2];rfl
theorem qv[My](sm:Sim X.gm P φ st H){x y:AV}{v w:V}{o:Option AV}(h:lK st y x=some o)(rx:RA X.gm P H φ x v)(ry:RA X.gm P H φ y w) :
  ∃a o',w=.ref a/\DGet H a v o'/\o.isSome=o'.isSome/\∀t,o=some t->∃u,o'=some u/\RA X.gm P H φ t u:=by
 unfold lK at h;split at h
 ·rename_i Mx e
  obtain ⟨k,e1,e2⟩:=zH.mp h;subst e2;cases y <;> simp only [iz] at e <;> first | (cases e;done) | skip
  split at e
  ·rename_i j kvs' e3
   cases e;simp only[RA]at ry;obtain⟨a,ea,rfl⟩:=ry;obtain⟨a',ea',c⟩:=sm.at e3;rw[ea]at ea';cases ea';obtain⟨_,ws,q1,q2⟩:=c
   have:=lH e1 rx
   subst this;exact⟨a,_,rfl,DGet.k q1,(jd q2 k).1,(jd q2 k).2⟩
  ·cases e
 ·split at h
  ·rename_i Mx e
   split at h
   ·rename_i xs
    obtain ⟨k,e1,e2⟩:=zH.mp h;subst e2;cases y <;> simp only [kU] at e <;> first | (cases e;done) | skip
    split at e
    ·rename_i j kvs' e3
     cases e;simp only[RA]at ry;obtain⟨a,ea,rfl⟩:=ry;obtain⟨a',ea',c⟩:=sm.at e3;rw[ea]at ea';cases ea';obtain⟨_,ws,q1,q2⟩:=c;simp only[RA]at rx;obtain⟨b,vs,rfl,_,hb,rr⟩:=rx;rw[oA e1 rr]at hb;exact⟨a,_,rfl,DGet.t q1 hb,(jd q2 k).1,(jd q2 k).2⟩
    ·cases e
   ·cases h
  ·cases h
theorem qp(hu:X.A.units+64<cLine){v:Value}{q:PyData}{as bs:List Addr}{ps:List PyData}{items:Array Value}(ra:Reads s.heap v q as)(rb:ReadsAll s.heap items.toList ps bs)(hk:(ps.all fun r=>pyOk r q)=true) :
  ∃e:Value->Bool,(∀z∈items,SeqAt.EqAt X.A.in1 s z v (e z))/\items.any e=ps.any fun r=>PyData.eqv r q:=by
 classical
 have uq:∀z p' az,Reads s.heap z p' az->decide (∃p as,Reads s.heap z p as/\PyData.eqv p q=true)=PyData.eqv p' q:=by
  intro z p' az rz;rcases he:PyData.eqv p' q with _|_
  ·refine yD ?_
   rintro⟨p2,as',r',e'⟩
   have:=(PySem.Reads.unique rz p2 as' r').1
   rw[<- this,he]at e';cases e'
  ·exact yZ ⟨p',az,rz,he⟩
 refine⟨fun z=>decide (∃p as,Reads s.heap z p as/\PyData.eqv p q=true),fun z hz=>?_,?_⟩
 ·obtain⟨pz,az,hpz,rz⟩:=reads_each rb z (by simpa using hz)
  obtain⟨k1,k2,k3⟩:=nM (yU.mp hk pz hpz);dsimp only;rw[uq z pz az rz];exact PySem.SeqAt.eqAt_reads pz q _ s z v az as rz ra k1 k2 (by simp only[Around.in1_units];lia)
 ·have hc:=any_vals (q:=q) (e:=fun z=>decide (∃p as,Reads s.heap z p as/\PyData.eqv p q=true)) (h:=s.heap) (fun v p as rv=>uq v p as rv) rb
  rw[<- hc];simp
theorem sC[My](hu:X.A.units+64<cLine)(I:L2.Inv X Mv σ H s)(sm:Sim X.gm P φ st H){x y:AV}{v w:V}{u r:Value}{b:Bool}(h:qr st x y=some b)(rx:RA X.gm P H φ x v)(ry:RA X.gm P H φ y w)(ru:RelV v u)(rr:RelV w r){E:Value->Shared->Prop}
  {Q:Value->Shared->Prop}{Q':Value->Shared->Prop} (hQ:∀s',L2.Inv X Mv σ H s'->Q (.bool b) s') (hQ':∀s',L2.Inv X Mv σ H s'->Q' (.bool (!b)) s') :
  wpAny (model X.prog X.w) X.A (compareOp .In u r) Q E s/\wpAny (model X.prog X.w) X.A (compareOp .NotIn u r) Q' E s:=by
 unfold qr at h;split at h
 ·rename_i o e
  cases h;obtain⟨a,o',rfl,g,eo,_⟩:=qv sm e rx ry;cases rr;exact⟨J1 oM I g ru fun s' I'=>by rw[<- eo];exact hQ s' I',CK oM I g ru fun s' I'=>by rw[<- eo];exact hQ' s' I'⟩
 ·split at h
  ·rename_i a c
   cases h;simp only[RA]at rx ry;subst rx;subst ry;obtain⟨t,rfl⟩:=ru;obtain⟨t',rfl⟩:=rr;exact⟨in_str (hQ s I),notIn_str (hQ' s I)⟩
  ·obtain⟨q,e1,e2⟩:=zA h
   obtain⟨p,e3,e4⟩:=zA e2;obtain⟨as,ra⟩:=fY I sm 9 _ _ _ _ rx e1 ru;obtain⟨bs,rb⟩:=fY I sm 9 _ _ _ _ ry e3 rr;split at e4
   ·rename_i ps
    split at e4
    ·rename_i hk
     cases e4;cases rb with
     |@list a o items n xs as' hg hc hdt rall =>
      obtain⟨e,he,ee⟩:=qp hu ra rall hk;have hl:s.heap.IsList a items:=⟨o,hg,hc,n,hdt⟩;exact⟨SeqAt.in_listAt e hl he (by rw[ee];exact hQ s I),SeqAt.notIn_listAt e hl he (by rw[ee];exact hQ' s I)⟩
    ·cases e4
   ·rename_i ps
    split at e4
    ·rename_i hk
     cases e4;cases rb with
     |@tuple a o items n xs as' hg hc hdt rall =>
      obtain⟨e,he,ee⟩:=qp hu ra rall hk;have hl:IsTup s.heap a items:=⟨o,hg,hc,n,hdt⟩;exact⟨SeqAt.in_tupleAt e hl he (by rw[ee];exact hQ s I),SeqAt.notIn_tupleAt e hl he (by rw[ee];exact hQ' s I)⟩
    ·cases e4
   ·cases e4
end
section
variable{X:Cx}
theorem vV[My](hu:X.A.units+64<cLine)(o:CmpOp):j3 X (compareOp o) (r2 X.gm (jE (lM o))):=by
 rintro Mv s σ H v w u r Q I ru rr ⟨P,φ,st,x,y,sm,rx,ry,k⟩;obtain⟨z,e,k⟩:=k.map;obtain⟨b,e1,e2⟩:=zH.mp e;subst e2;have ay:∀s',L2.Inv X Mv σ H s'->EP X Mv σ Q (.bool b) s':=fun s' I'=>⟨.bl b,H,I',rfl,k.pure sm (by simp only[RA])⟩
 have neg:∀{o:Option Bool},o.map (!·)=some b->∃c,o=some c/\b=!c:=fun h=>by
  obtain⟨c,h1,h2⟩:=zH.mp h;exact⟨c,h1,h2.symm⟩
 have eq:∀{c:Bool},kT st x y=some c->∀{Q:Value->Shared->Prop}{E:Value->Shared->Prop},(Q (.bool c) s->wpAny (model X.prog X.w) X.A (compareOp .Eq u r) Q E s)/\(Q (.bool (!c)) s->wpAny (model X.prog X.w) X.A (compareOp .NotEq u r) Q E s):=by
  intro c h Q E;unfold kT at h;obtain⟨p,h1,h2⟩:=zA h;obtain⟨q,h3,h4⟩:=zA h2;split at h4
  ·rename_i hk
   cases h4;obtain⟨c1,c2,hd⟩:=nM hk;obtain⟨as,ra⟩:=fY I sm 9 _ _ _ _ rx h1 ru;obtain⟨bs,rb⟩:=fY I sm 9 _ _ _ _ ry h3 rr;exact⟨fun q=>SeqAt.eqOverData _ _ _ _ _ _ _ _ _ _ _ _ ra rb c1 c2 oM q,fun q=>SeqAt.neOverData _ _ _ _ _ _ _ _ _ _ _ _ ra rb c1 c2 oM q⟩
  ·obtain⟨a,ha,h5⟩:=zA h4
   obtain⟨b,hb,h6⟩:=zH.mp h5;subst h6;rw[rP ha]at h1;rw[rP hb]at h3;obtain⟨as,ra⟩:=fY I sm 9 _ _ _ _ rx h1 ru;obtain⟨bs,rb⟩:=fY I sm 9 _ _ _ _ ry h3 rr;cases ra;cases rb;exact⟨fun q=>eq_str q,fun q=>ne_str q⟩
 have is:∀{c:Bool},Ff x y=some c->∀{Q:Value->Shared->Prop}{E:Value->Shared->Prop},(Q (.bool c) s->wpAny (model X.prog X.w) X.A (compareOp .Is u r) Q E s)/\(Q (.bool (!c)) s->wpAny (model X.prog X.w) X.A (compareOp .IsNot u r) Q E s):=by
  intro c h Q E;have nn:y=.non->c=(u==Value.none)->(Q (.bool c) s->wpAny (model X.prog X.w) X.A (compareOp .Is u r) Q E s)/\(Q (.bool (!c)) s->wpAny (model X.prog X.w) X.A (compareOp .IsNot u r) Q E s):=fun hy hc=>by
   subst hy;simp only[RA]at ry;subst ry;cases rr;exact⟨fun q=>is_none_gen (by rw[<- hc];exact q),fun q=>isnot_none_gen (by rw[<- hc];exact q)⟩
  cases y with
  |non =>
   have h:some (EM x)=some c:=h;cases h;refine nn rfl ?_;cases x with
   |non=>simp only[RA]at rx;subst rx;cases ru;rfl
   | _=>rw [RelV.none_iff ru];refine (yD fun hv=>?_).symm;subst hv;simp only [RA] at rx;first | (cases rx;done) | (obtain ⟨_,_,z,_⟩:=rx;cases z;done) | (obtain ⟨_,_,z⟩:=rx;cases z;done)
  |bl d=>cases x with
   |bl a =>
    cases h;simp only[RA]at rx ry;subst rx;subst ry;cases ru;cases rr;cases a<;>cases d<;>exact⟨fun q=>yJ q,fun q=>yJ q⟩
   |_=>exact nomatch h
  |_=>exact nomatch h
 have ord:∀{a c:Int},x=.int a->y=.int c->yj o a c=some b->wpAny (model X.prog X.w) X.A (compareOp o u r) (EP X Mv σ Q) X.xe s:=by
  intro a c hx hy ho;subst hx;subst hy;simp only [RA] at rx ry;subst rx;subst ry;obtain ⟨t,rfl⟩:=ru;obtain ⟨t',rfl⟩:=rr;cases o <;> simp only [yj] at ho <;> first | (cases ho;done) | skip
  ·cases ho;exact lt_int (ay s I)
  ·cases ho;exact le_int (ay s I)
  ·cases ho;exact gt_int (ay s I)
  ·cases ho;exact ge_int (ay s I)
 cases o<;>simp only[b9]at e1
 case Eq=>exact(eq e1).1 (ay s I)
 case NotEq=>obtain⟨c,h1,rfl⟩:=neg e1;exact(eq h1).2 (ay s I)
 case Is=>exact(is e1).1 (ay s I)
 case IsNot=>obtain⟨c,h1,rfl⟩:=neg e1;exact(is h1).2 (ay s I)
 case In=>exact(sC hu I sm e1 rx ry ru rr (Q':=fun _ _=>True) ay fun _ _=>trivial).1
 case NotIn=>obtain⟨c,h1,rfl⟩:=neg e1;exact(sC hu I sm h1 rx ry ru rr (Q:=fun _ _=>True) (fun _ _=>trivial) ay).2
 all_goals
  split at e1
  ·exact ord rfl rfl e1
  ·cases e1
noncomputable def kb(op:CmpOp)(b:Expr):Bool:=!(behindInMarks op b)
theorem p8(h:kb op b=true):behindInMarks op b=false:=by simpa [kb] using h
theorem Ea[My](hu:X.A.units+64<cLine)(ha:QE X a f)(hb:QE X b g)(hm:kb o b=true):QE X (.Compare a [o] [b] pos) (a2 f g (jE (lM o))) :=
 PE_imp (Cj (vV hu o) ha hb (p8 hm)) fun _ _ _ q=>uY q
def Dl(f g:EF)(o:CmpOp):TF:=fun sl st=>(f sl st).bind fun p=>(g sl p.2).bind fun q=>(b9 o q.2 p.1 q.1).map fun b=>(b,q.2)
theorem DG[My](hu:X.A.units+64<cLine)(ha:QE X a f)(hb:QE X b g)(hm:kb o b=true):QT X (.Compare a [o] [b] pos) (Dl f g o) :=
 PT_imp (BZ (vV hu o) ha hb (p8 hm)) fun σ H Q hq0=>by
  obtain⟨P,φ,sl,st,rs,s,k⟩:=hq0;refine uY (k:=jE (lM o)) ⟨P,φ,sl,st,rs,s,?_⟩;obtain⟨b,st',e,q⟩:=k;unfold Dl at e;obtain⟨p,e1,e2⟩:=zA e;obtain⟨r,e3,e4⟩:=zA e2;obtain⟨c,e5,e6⟩:=zH.mp e4;injection e6 with e7 e8;subst e7;subst e8;refine⟨.bl c,r.2,by simp only[a2,e1,bind_some,e3,jE,lM,e5,map_some],fun P' φ' H' w f' s' r'=>?_⟩;simp only[RA]at r';exact⟨c,r',q P' φ' H' c f' s' rfl⟩
def lU(o:UnaryOp)(_:aa):AV->Option AV
 |.int i=>match o with
  |.USub=>some (.int (-i))
  |.Invert=>some (.int (Builtin.bitNot i))
  |_=>none
 |_=>none
theorem GK[My](ha:QE X a f):QE X (.UnaryOp o a pos) (a1 f (Ds (lU o))):=by
 have h:wV X (unaryOp o) (r1 X.gm (Ds (lU o))):=by
  rintro Mv s σ H v u Q I ru ⟨P,φ,st,x,sm,rx,k⟩;obtain ⟨z,e,k⟩:=k.map;cases x <;> simp only [lU] at e <;> first | (cases e;done) | skip
  rename_i i;simp only [RA] at rx;subst rx;cases o <;> first | (cases e;done) | skip
  ·cases e
   exact C1 Mv s σ H _ u Q I ru ⟨i,rfl,k.pure sm (by simp only[RA])⟩
  ·cases e
   exact CZ Mv s σ H _ u Q I ru ⟨i,rfl,k.pure sm (by simp only[RA])⟩
 exact PE_imp (GT h ha) fun _ _ _ q=>Ka q
def eJ(st:aa)(v:AV):Option Bool:=match bu st v with
 |some xs=>some !xs.isEmpty
 |none=>match v with
  |.non=>some false
  |.bl b=>some b
  |.int i=>some (i !=0)
  |.str x=>if Nat.ble x.length 1000000=true then some ((x.length:Int) !=0) else none
  |.tup xs=>some !xs.isEmpty
  |v=>(iz st v).map fun Mx=>!Mx.isEmpty
theorem oH(r:MB mg P H φ xs vs):vs.isEmpty=xs.isEmpty:=by
 cases xs with
 |nil=>simp only[MB]at r;subst r;rfl
 |cons x xs=>simp only[MB]at r;obtain⟨v,ws,rfl,_⟩:=r;rfl
theorem xm[My]{P:Pr}{H:Hp}{φ:List Addr}{st:aa}(sm:Sim X.gm P φ st H){v:AV}{w:V}{b:Bool}(h:eJ st v=some b)(r:RA X.gm P H φ v w):Aa X.K w H b:=by
 unfold eJ at h;split at h
 ·rename_i xs e
  cases h;obtain⟨a,vs,rfl,rd,q⟩:=r.ls sm e;exact .inl ⟨vs,rd,by rw[oH q]⟩
 ·cases v<;>simp only at h
  case non=>cases h;simp only[RA]at r;subst r;exact rfl
  case bl=>cases h;simp only[RA]at r;subst r;exact rfl
  case int=>cases h;simp only[RA]at r;subst r;exact rfl
  case str x =>
   simp only[RA]at r;subst r;split at h
   ·rename_i hl;cases h;exact⟨z9 (zV hl) dC,rfl⟩
   ·cases h
  case tup xs =>
   cases h;simp only[RA]at r;obtain⟨a,vs,rfl,_,e,q⟩:=r;exact .inr (.inl ⟨vs,.inl (.inl e),by rw[oH q]⟩)
  case fz=>obtain⟨_,z,_⟩:=zH.mp h;simp[iz]at z
  case ref k =>
   obtain⟨Mx,e1,e2⟩:=zH.mp h;subst e2;simp only[iz]at e1;split at e1
   ·rename_i kvs' hk
    cases e1;simp only[RA]at r;obtain⟨a,ea,rfl⟩:=r;obtain⟨a',ea',c⟩:=sm.at hk;rw[ea]at ea';cases ea';obtain⟨_,ws,q1,q2,q3⟩:=c;refine .inr (.inr ⟨ws,q1,?_⟩)
    have:=congrArg List.isEmpty q2
    simpa using this
   ·cases e1
def tV(f:EF):TF:=fun sl st=>(f sl st).bind fun p=>(eJ p.2 p.1).map fun b=>(b,p.2)
theorem vD[My](ha:QE X a f)(he:∀whole,isTrue a X.env whole=(do let v <- whole;standAt a.pos;holding [v] (truthy v))):QT X a (tV f) :=
 PT_imp (xS ha he) fun σ H Q ⟨P,φ,sl,st,rs,s,k⟩=>⟨P,φ,sl,st,rs,s,by
  obtain⟨a,st',e1,q⟩:=k.bind (Ra:=RA);refine⟨a,st',e1,fun P1 φ1 H1 b f1 s1 r1=>?_⟩;obtain⟨P2,φ2,st2,x,f2,s2,r2,k2⟩:=q P1 φ1 H1 b f1 s1 r1;obtain⟨c,e2,k2⟩:=k2.map;exact⟨c,xm s2 e2 r2,k2.pure s2 rfl⟩⟩
def Io(f g:TF):TF:=fun sl st=>(f sl st).bind fun p=>if p.1=true then g sl p.2 else some (false,p.2)
def Dg(f g:TF):TF:=fun sl st=>(f sl st).bind fun p=>if p.1=true then some (true,p.2) else g sl p.2
def Il(f:TF):TF:=fun sl st=>(f sl st).bind fun p=>some (!p.1,p.2)
section
variable{a b:Expr}{rest:List Expr}{pos:Pos}{f g:TF}
theorem DB[My](op:BoolOp)(ha:QT X a f):QW X (.BoolOp op [a] pos) f:=by
 cases op
 ·exact BY ha
 ·exact Ed ha
theorem DC[My](ha:QT X a f)(hb:QW X (.BoolOp .And (b::rest) pos) g):QW X (.BoolOp .And (a::b::rest) pos) (Io f g) :=
 PW_imp (Ee ha hb) fun σ H Q ⟨P,φ,sl,st,rs,s,k⟩=>⟨P,φ,sl,st,rs,s,by
  obtain⟨a,st',e1,q⟩:=k.bind (Ra:=RB);refine⟨a,st',e1,fun P1 φ1 H1 c f1 s1 r1=>?_⟩;obtain⟨P2,φ2,st2,x,f2,s2,r2,k2⟩:=q P1 φ1 H1 c f1 s1 r1;cases r2;cases c with
  |true=>exact⟨P2,φ2,sl,st2,rs.frm f2,s2,k2⟩
  |false=>exact k2.pure s2 rfl⟩
theorem GC[My](ha:QT X a f)(hb:QW X (.BoolOp .Or (b::rest) pos) g):QW X (.BoolOp .Or (a::b::rest) pos) (Dg f g) :=
 PW_imp (GP ha hb) fun σ H Q ⟨P,φ,sl,st,rs,s,k⟩=>⟨P,φ,sl,st,rs,s,by
  obtain⟨a,st',e1,q⟩:=k.bind (Ra:=RB);refine⟨a,st',e1,fun P1 φ1 H1 c f1 s1 r1=>?_⟩;obtain⟨P2,φ2,st2,x,f2,s2,r2,k2⟩:=q P1 φ1 H1 c f1 s1 r1;cases r2;cases c with
  |false=>exact⟨P2,φ2,sl,st2,rs.frm f2,s2,k2⟩
  |true=>exact k2.pure s2 rfl⟩
theorem DF[My](ha:QT X a f):QT X (.UnaryOp .Not a pos) (Il f) :=
 PT_imp (Eg ha) fun σ H Q ⟨P,φ,sl,st,rs,s,k⟩=>⟨P,φ,sl,st,rs,s,by
  obtain⟨a,st',e1,q⟩:=k.bind (Ra:=RB);refine⟨a,st',e1,fun P1 φ1 H1 c f1 s1 r1=>?_⟩;obtain⟨P2,φ2,st2,x,f2,s2,r2,k2⟩:=q P1 φ1 H1 c f1 s1 r1;cases r2;exact k2.pure s2 rfl⟩
end
def A5(f g:EF):EF:=fun sl st=>(f sl st).bind fun p=>match p.1 with
 |.bl true=>g sl p.2
 |.bl false=>some (.bl false,p.2)
 |_=>none
def AW(f g:EF):EF:=fun sl st=>(f sl st).bind fun p=>match p.1 with
 |.bl false=>g sl p.2
 |.bl true=>some (.bl true,p.2)
 |_=>none
def IW(f:EF):EF:=fun sl st=>(f sl st).bind fun p=>match p.1 with
 |.bl b=>some (.bl !b,p.2)
 |_=>none
def IX(t:TF)(f g:EF):EF:=fun sl st=>(t sl st).bind fun p=>if p.1=true then f sl p.2 else g sl p.2
section
variable{a b c:Expr}{rest:List Expr}{pos:Pos}{f g:EF}{t:TF}
theorem KG.no[My]{α β:Type}{Ra:Gm->Pr->Hp->List Addr->α->β->Prop}{Q:β->Hp->Prop}(h:KG mg Ra P φ H none Q):False:=by obtain⟨_,_,e,_⟩:=h;cases e
theorem Ec[My](ha:QE X a f)(hb:QE X (.BoolOp .And (b::rest) pos) g):QE X (.BoolOp .And (a::b::rest) pos) (A5 f g) :=
 PE_imp (EC ha hb) fun σ H Q ⟨P,φ,sl,st,rs,s,k⟩=>⟨P,φ,sl,st,rs,s,by
  obtain⟨a,st',e1,q⟩:=k.bind (Ra:=RA);refine⟨a,st',e1,fun P1 φ1 H1 c f1 s1 r1=>?_⟩;obtain⟨P2,φ2,st2,x,f2,s2,r2,k2⟩:=q P1 φ1 H1 c f1 s1 r1;cases x<;>first|exact k2.no.elim|skip
  rename_i d;simp only[RA]at r2;refine⟨d,r2,?_⟩;cases d with
  |true=>exact⟨P2,φ2,sl,st2,rs.frm f2,s2,k2⟩
  |false=>exact k2.pure s2 (by simp only[RA])⟩
theorem GM[My](ha:QE X a f)(hb:QE X (.BoolOp .Or (b::rest) pos) g):QE X (.BoolOp .Or (a::b::rest) pos) (AW f g) :=
 PE_imp (GU ha hb) fun σ H Q ⟨P,φ,sl,st,rs,s,k⟩=>⟨P,φ,sl,st,rs,s,by
  obtain⟨a,st',e1,q⟩:=k.bind (Ra:=RA);refine⟨a,st',e1,fun P1 φ1 H1 c f1 s1 r1=>?_⟩;obtain⟨P2,φ2,st2,x,f2,s2,r2,k2⟩:=q P1 φ1 H1 c f1 s1 r1;cases x<;>first|exact k2.no.elim|skip
  rename_i d;simp only[RA]at r2;refine⟨d,r2,?_⟩;cases d with
  |false=>exact⟨P2,φ2,sl,st2,rs.frm f2,s2,k2⟩
  |true=>exact k2.pure s2 (by simp only[RA])⟩
theorem DX[My](ha:QE X a f):QE X (.UnaryOp .Not a pos) (IW f) :=
 PE_imp (Ew ha) fun σ H Q ⟨P,φ,sl,st,rs,s,k⟩=>⟨P,φ,sl,st,rs,s,by
  obtain⟨a,st',e1,q⟩:=k.bind (Ra:=RA);refine⟨a,st',e1,fun P1 φ1 H1 c f1 s1 r1=>?_⟩;obtain⟨P2,φ2,st2,x,f2,s2,r2,k2⟩:=q P1 φ1 H1 c f1 s1 r1;cases x<;>first|exact k2.no.elim|skip
  rename_i d;simp only[RA]at r2;exact⟨d,r2,k2.pure s2 (by simp only[RA])⟩⟩
theorem GO[My](hc:QT X c t)(ha:QE X a f)(hb:QE X b g):QE X (.IfExp c a b pos) (IX t f g) :=
 PE_imp (ye hc ha hb) fun σ H Q ⟨P,φ,sl,st,rs,s,k⟩=>⟨P,φ,sl,st,rs,s,by
  obtain⟨a,st',e1,q⟩:=k.bind (Ra:=RB);refine⟨a,st',e1,fun P1 φ1 H1 c f1 s1 r1=>?_⟩;obtain⟨P2,φ2,st2,x,f2,s2,r2,k2⟩:=q P1 φ1 H1 c f1 s1 r1;cases r2;cases c with
  |true=>exact⟨P2,φ2,sl,st2,rs.frm f2,s2,k2⟩
  |false=>exact⟨P2,φ2,sl,st2,rs.frm f2,s2,k2⟩⟩
end
def bN(st:aa)(x y:AV):Option AV:=match lK st x y with
 |some o=>o
 |none=>match y with
  |.int i=>match bu st x with
   |some xs=>fC xs i
   |none=>match ib st x with
    |some xs=>fC xs i
    |none=>match x with
     |.str z=>if Nat.ble z.length 1000000=true then(fC z.cps.toList i).map fun c=>.str ⟨#[c]⟩ else none
     |_=>none
  |_=>none
theorem n9{i:Int}(r:MB mg P H φ xs vs)(h:fC xs i=some x):∃v,fC vs i=some v/\RA mg P H φ x v:=by
 unfold fC at h ⊢;rw[<- r.length];obtain⟨j,e1,e2⟩:=zA h;rw[e1,bind_some];exact r.get e2
theorem CA(hu:X.A.units+64<cLine):IxR X (fun x y H Q=>∃a v,x=.ref a/\DGet H a y (some v)/\Q v H):=by
 rintro value slice Mv s σ H x y v u Q I rx ry ⟨a,t,ex,g,q⟩ hs;subst ex;cases rx;have hT:=rk I g;unfold subscriptTail;refine yI ?_;rw[getitemInPython_of_ne hT.not_modules];refine yI (wpAny_specialOf hT PySem.F.slot_dict_getitem.lookup ?_);have ay:wpAny (model X.prog X.w) X.A (subscripted slice false (.ref a) u) (fun r s₃=>wpAny (model X.prog X.w) X.A (letTemporaryGo value (.ref a) r>>=fun _=>pure r) (EP X Mv σ Q) X.xe s₃) X.xe s:=by
  rw[hs];exact wpAny_operating (wJ oM I g ry fun w' s3 I3 rw'=>yI (wpAny_letTemporaryGo (yJ ⟨t,H,I3,rw',q⟩)))
 first
  |exact yJ (yI ay)
  |exact yI (yJ (yI ay))
  |exact yI ay
theorem JT[My](hu:X.A.units+64<cLine):IxR X (r2 X.gm (jE bN)):=by
 rintro value slice Mv s σ H v w u r Q I ru rr ⟨P,φ,st,x,y,sm,rx,ry,k0⟩ hs;obtain⟨z,e,k⟩:=k0.map;clear k0;unfold bN at e;split at e
 ·rename_i o eo
  subst e;obtain⟨a,o',rfl,g,_,g2⟩:=qv sm eo ry rx;obtain⟨t,rfl,rt⟩:=g2 z rfl;exact CA hu value slice Mv s σ H _ _ u r Q I ru rr ⟨a,t,rfl,g,k.pure sm rt⟩ hs
 ·cases y with
  |int i =>
   simp only[RA]at ry;subst ry;dsimp only at e;split at e
   ·rename_i xs el
    obtain⟨a,vs,rfl,rd,q⟩:=rx.ls sm el;obtain⟨t,e2,rt⟩:=n9 q e;exact qj value slice Mv s σ H _ _ u r Q I ru rr (.inl ⟨a,vs,i,t,rfl,rfl,rd,e2,k.pure sm rt⟩) hs
   ·split at e
    ·rename_i xs el
     obtain⟨a,vs,rfl,rd,q⟩:=rx.tp sm el;obtain⟨t,e2,rt⟩:=n9 q e;exact qj value slice Mv s σ H _ _ u r Q I ru rr (.inr (.inl ⟨a,vs,i,t,rfl,rfl,.inl (.inl rd),e2,k.pure sm rt⟩)) hs
    ·cases x with
     |str x =>
      dsimp only at e;split at e
      ·rename_i hl
       obtain⟨c,e1,e2⟩:=zH.mp e;subst e2;simp only[RA]at rx;subst rx;exact qj value slice Mv s σ H _ _ u r Q I ru rr (.inr (.inr ⟨x,i,c,rfl,rfl,z9 (zV hl) dC,e1,k.pure sm (by simp only[RA])⟩)) hs
      ·cases e
     |_=>cases e
  |_=>cases e
theorem GN[My](hu:X.A.units+64<cLine)(ha:QE X a f)(hb:QE X b g)(hs:oh b):QE X (.Subscript a b pos) (a2 f g (jE bN)) :=
 PE_imp (GW (JT hu) ha hb hs) fun _ _ _ q=>uY q
def IV(g:AF):EF:=fun sl st=>(g sl st).bind fun p=>if Nat.ble p.1.length 1000=true then some (.tup p.1,p.2) else none
theorem DV[My]{x1:Nat}(h:QA X es g):QE X (.Tuple es x1 pos) (IV g) :=
 PE_imp (Es h) fun σ H Q ⟨P,φ,sl,st,rs,s,k⟩=>⟨P,φ,sl,st,rs,s,by
  obtain⟨a,st',e1,q⟩:=k.bind (Ra:=MB);refine⟨a,st',e1,fun P1 φ1 H1 vs f1 s1 r1=>?_⟩;obtain⟨P2,φ2,st2,xs,f2,s2,r2,k2⟩:=q P1 φ1 H1 vs f1 s1 r1;dsimp only at k2;split at k2
  ·rename_i hl
   refine⟨by rw[<- r2.length];exact z9 (zV hl) dC,fun p hp=>?_⟩;obtain⟨f3,s3⟩:=jJ (o:=.tup vs) s2 hp;obtain⟨_,_,e5,q5⟩:=k2;cases e5;refine q5 _ _ _ _ f3 s3 ?_;simp only[RA];exact⟨p,vs,rfl,.inr rfl,aq,r2.frm f3⟩
  ·exact k2.no.elim⟩
end
mutual
noncomputable def cC:AV->AV->Bool
 |.non,.non=>true
 |.bl a,.bl b=>a==b
 |.int a,.int b=>a==b
 |.str a,.str b=>a==b
 |.ref a,.ref b=>a==b
 |.tup a,.tup b=>fx a b
 |.fz a,.fz b=>fx a b
 |_,_=>false
noncomputable def fx:List AV->List AV->Bool
 |[],[]=>true
 |x::xs,y::ys=>cC x y&&fx xs ys
 |_,_=>false
end
mutual
theorem sQ:∀{x y:AV},cC x y=true->x=y
 |.non,y,h=>by cases y<;>simp only[cC]at h<;>first|rfl|cases h
 | .bl a,y,h=>by cases y <;> simp only [cC] at h <;> first | (rw [yN h]) | cases h
 | .int a,y,h=>by cases y <;> simp only [cC] at h <;> first | (rw [yN h]) | cases h
 | .str a,y,h=>by cases y <;> simp only [cC] at h <;> first | (rw [yN h]) | cases h
 | .ref a,y,h=>by cases y <;> simp only [cC] at h <;> first | (rw [yN h]) | cases h
 | .tup a,y,h=>by cases y <;> simp only [cC] at h <;> first | (rw [ku h]) | cases h
 | .fz a,y,h=>by cases y <;> simp only [cC] at h <;> first | (rw [ku h]) | cases h
theorem ku:∀{xs ys:List AV},fx xs ys=true->xs=ys
 |[],ys,h=>by cases ys<;>simp only[fx]at h<;>first|rfl|cases h
 |x::xs,ys,h=>by
  cases ys with
  |nil=>simp only[fx]at h;cases h
  |cons y ys =>
   simp only[fx,zE]at h;rw[sQ h.1,ku h.2]
end
mutual
theorem wR:∀x:AV,cC x x=true
 |.non=>by simp only[cC]
 |.bl a=>by simp[cC]
 |.int a=>by simp[cC]
 |.str a=>by simp[cC]
 |.ref a=>by simp[cC]
 |.tup a=>by simp only[cC];exact iA a
 |.fz a=>by simp only[cC];exact iA a
theorem iA:∀xs:List AV,fx xs xs=true
 |[]=>by simp only[fx]
 |x::xs=>by simp only[fx,wR x,iA xs,Bool.and_self]
end
abbrev Gd:=List (Nat×Mw)
def uJ:Mw->Mw->Bool
 |.lst a,.lst b=>fx a b
 |.dK a,.dK b=>decide (a.map (·.1)=b.map (·.1))&&fx (a.map (·.2)) (b.map (·.2))
 |_,_=>false
def bQ:Gd->aa->Bool
 |[],_=>true
 |g::gs,st=>(match st[g.1]? with|some c=>uJ c g.2|none=>false)&&bQ gs st
theorem zl{k:Nat}{xs:List AV}{gs:Gd}{st:aa}(h:bQ ((k,.lst xs)::gs) st=true):st[k]?=some (.lst xs)/\bQ gs st=true:=by
 simp only[bQ,zE]at h;refine⟨?_,h.2⟩;have h:=h.1;split at h
 ·rename_i c e
  cases c <;> simp only [uJ] at h <;> first | (cases h;done) | skip
  rw[e,ku h]
 ·cases h
theorem sI{a b:Gd}{st:aa}(h:bQ (a++b) st=true):bQ a st=true/\bQ b st=true:=by
 induction a with
 |nil=>exact⟨rfl,h⟩
 |cons g a ih =>
  simp only[List.cons_append,bQ,zE]at h ⊢;exact⟨⟨h.1,(ih h.2).1⟩,(ih h.2).2⟩
structure Iv where
 Mz:List AV
 gd:Gd
abbrev IF:=Sl->aa->Option (Iv×aa)
structure sZ[My](mg:Gm)(J:It)(iv:Iv)(P:Pr)(φ:List Addr)(H:Hp):Prop where
 go:∀P2 φ2 H2 st2 (i:Nat) x,Frm P φ H P2 φ2 H2->Sim mg P2 φ2 st2 H2->bQ iv.gd st2=true->iv.Mz[i]?=some x->J.go i H2/\∀v H3,J.yld i H2 v H3->∃P3,Frm P2 φ2 H2 P3 φ2 H3/\Sim mg P3 φ2 st2 H3/\RA mg P3 H3 φ2 x v
 stop:∀P2 φ2 H2 st2,Frm P φ H P2 φ2 H2->Sim mg P2 φ2 st2 H2->bQ iv.gd st2=true->J.stop iv.Mz.length H2
def rI[My](mg:Gm)(f:IF):TI:=fun σ H R=>∃P φ sl st,MH mg P H φ sl σ/\Sim mg P φ st H/\∃iv st',f sl st=some (iv,st')/\∀P' φ' H' J,Frm P φ H P' φ' H'->Sim mg P' φ' st' H'->sZ mg J iv P' φ' H'->R J H'
def QI[My](X:Cx)(tg iter:Expr)(f:IF):Prop:=PI X tg iter (rI X.gm f)
theorem gO(h:PI X tg iter t)(i:∀σ H R,t' σ H R->t σ H R):PI X tg iter t':=fun Mv s σ H R I h'=>h Mv s σ H R I (i σ H R h')
def gU(st:aa)(v:AV):Option Iv:=match dr st v with
 |.fz xs=>some ⟨xs,[]⟩
 |.ref k=>match st[k]? with
  |some (.lst xs)=>some ⟨xs,[(k,.lst xs)]⟩
  |_=>none
 |_=>none
section
variable{mg:Gm}{P:Pr}{φ:List Addr}{st:aa}{H:Hp}{v:AV}{w:V}{iv:Iv}
theorem jN[My](s:Sim mg P φ st H)(r:RA mg P H φ v w)(h:gU st v=some iv):∃a,w=.ref a/\∀P2 φ2 H2 st2,Frm P φ H P2 φ2 H2->Sim mg P2 φ2 st2 H2->bQ iv.gd st2=true->∃vs,bw mg.K H2 a vs/\MB mg P2 H2 φ2 iv.Mz vs:=by
 have r:=r.dr s;unfold gU at h;split at h
 ·rename_i ys e
  cases h;rw[e]at r;simp only[RA]at r;obtain⟨a,vs,e1,e2,q⟩:=r;refine⟨a,e1,fun P2 φ2 H2 st2 f _ _=>⟨vs,(e2.mono f.ext).sq,?_⟩⟩;exact MB.lift (q.mono f.ext fun k a e=>by simp at e)
 ·rename_i k e
  rw[e]at r;simp only[RA]at r;obtain⟨a,e1,e2⟩:=r;split at h
  ·rename_i ys e3
   cases h;refine⟨a,e2,fun P2 φ2 H2 st2 f s2 g=>?_⟩;obtain⟨g1,_⟩:=zl g;obtain⟨a',e4,c⟩:=s2.at g1;rw[f.ix k a e1]at e4;cases e4;obtain⟨_,vs,q1,q2⟩:=c;exact⟨vs,.inl (.inl q1),q2⟩
  ·cases h
 ·cases h
end
section
variable{X:Cx}{tg e a b:Expr}{es:List Expr}{pos p:Pos}
def mw(st:aa)(v:AV):Option Iv:=match v with
 |.str x=>if x.cps.all (·<128)=true then some ⟨x.cps.toList.map fun c=>.str ⟨#[c]⟩,[]⟩ else none
 |v=>match ib st v with
  |some xs=>some ⟨xs,[]⟩
  |none=>gU st v
def iE(f:EF):IF:=fun sl st=>(f sl st).bind fun p=>(mw p.2 p.1).map fun iv=>(iv,p.2)
theorem En[My](hl:PE X e tl):PI X tg e (fun σ H R=>tl σ H fun x H1=>(∃a,x=.ref a/\(∃xs,bw X.K H1 a xs)/\R (Bc X.K a) H1)\/(∃a,x=.ref a/\(∃xs,fH X.K H1 a xs)/\R (Ba X.K a) H1)\/∃x':Str,x=.str x'/\x'.cps.all (·<128)=true/\R (Bb x') H1):=by
 intro Mv s σ H R I h;refine ax (hl Mv s σ H _ I h) fun v s1 hq0=>?_
 obtain⟨x,H1,I1,r1,q1⟩:=hq0;have fp:∀b∈[s1.heap.objs.size],df X Mv H1 b:=fun b hb=>by
  have e:b=s1.heap.objs.size:=by simpa using hb
  subst e;exact I1.fpOk (zS _) (I1.MD.fresh (zS _))
 rcases q1 with⟨a,e,⟨xs,hq⟩,q⟩|⟨a,e,⟨xs,hq⟩,q⟩|⟨y,e,hy,q⟩
 ·subst e
  cases r1;obtain⟨Mz,rv,p,hz⟩:=I1.list hq;refine wpAny_pyIter_list p.isList ?_;exact⟨s1.heap.objs.size,[s1.heap.objs.size],_,_,H1,rfl,I1.kept (t':=s1.toks) fun b o e=>zJ _ e,vh a _,⟨_,z6 _ rfl,rfl,rfl⟩,fp,q⟩
 ·subst e
  cases r1;obtain ⟨Mz,rv,p,hz⟩:=I1.tuple hq;refine wpAny_pyIter_tuple (show s1.heap.IsTuple a Mz.toArray from p) ?_;exact ⟨s1.heap.objs.size,[s1.heap.objs.size],_,_,H1,rfl,I1.kept (t':=s1.toks) fun b o e=>zJ _ e,tx a _,⟨_,z6 _ rfl,rfl,rfl⟩,fp,q⟩
 ·subst e
  obtain⟨t,rfl⟩:=r1;refine wpAny_pyIter_ascii hy ?_;exact⟨s1.heap.objs.size,[s1.heap.objs.size],_,_,H1,rfl,I1.kept (t':=s1.toks) fun b o e=>zJ _ e,xk y t _,⟨_,z6 _ rfl,rfl,rfl⟩,fp,q⟩
theorem zd[My]{mg:Gm}{P:Pr}{φ:List Addr}{H:Hp}{K:Frag}{a:Addr}{iv:Iv}(h:∀P2 φ2 H2 st2,Frm P φ H P2 φ2 H2->Sim mg P2 φ2 st2 H2->bQ iv.gd st2=true->∃vs,bw K H2 a vs/\MB mg P2 H2 φ2 iv.Mz vs):sZ mg (Bc K a) iv P φ H where
 go:=fun P2 φ2 H2 st2 i x f s g e=>by
  obtain⟨vs,rd,ra⟩:=h P2 φ2 H2 st2 f s g;obtain⟨v,e1,r1⟩:=ra.get e;refine⟨⟨vs,v,rd,e1⟩,fun w H3 hq0=>?_⟩;obtain⟨hH,hx⟩:=hq0;subst hH
  have:=hx vs rd
  rw[e1]at this;cases this;exact⟨P2,Frm.refl,s,r1⟩
 stop:=fun P2 φ2 H2 st2 f s g=>by
  obtain⟨vs,rd,ra⟩:=h P2 φ2 H2 st2 f s g;exact⟨vs,rd,by rw[<- ra.length];exact zS _⟩
theorem CB[My]{mg:Gm}{P:Pr}{φ:List Addr}{H:Hp}{K:Frag}{a:Addr}{xs:List AV}{vs:List V}(pa:P a)(ea:H a=some (.tup vs))(ra:MB mg P H φ xs vs):sZ mg (Ba K a) ⟨xs,[]⟩ P φ H where
 go:=fun P2 φ2 H2 st2 i x f s g e=>by
  obtain⟨v,e1,r1⟩:=(ra.frm f).get e;have e2:fH K H2 a vs:=.inl (.inl ((f.ext a pa).2.trans ea));refine⟨⟨vs,v,e2,e1⟩,fun w H3 hq0=>?_⟩;obtain⟨hH,hx⟩:=hq0;subst hH
  have:=hx vs e2
  rw[e1]at this;cases this;exact⟨P2,Frm.refl,s,r1⟩
 stop:=fun P2 φ2 H2 st2 f s g=>⟨vs,.inl (.inl ((f.ext a pa).2.trans ea)),by rw[<- ra.length];exact zS _⟩
theorem CC[My]:sZ mg (Bb x) ⟨x.cps.toList.map fun c=>.str ⟨#[c]⟩,[]⟩ P φ H where
 go:=fun P2 φ2 H2 st2 i y f s g e=>by
  rw[zU]at e;obtain⟨c,e1,e2⟩:=zH.mp e;rw[Array.getElem?_toList]at e1;subst e2;refine⟨⟨c,e1⟩,fun w H3 hq0=>?_⟩;obtain⟨hH,c',e3,hw⟩:=hq0;subst hH;rw[e1]at e3;cases e3;exact⟨P2,Frm.refl,s,by simp only[RA];exact hw⟩
 stop:=fun P2 φ2 H2 st2 f s g=>by
  show x.cps[_]?=none;simp
theorem jM{st:aa}{v:AV}{iv:Iv}(h:gU st v=some iv):bQ iv.gd st=true:=by
 unfold gU at h;split at h
 ·cases h;rfl
 ·split at h
  ·rename_i k _ xs hk
   cases h;simp only[bQ];rw[hk];simp only[uJ,iA,Bool.and_self]
  ·cases h
 ·cases h
theorem JJ[My](ha:QE X e f):QI X tg e (iE f):=gO (En ha) fun σ H R ⟨P,φ,sl,st,rs,s,iv,st',ef,k⟩=>⟨P,φ,sl,st,rs,s,by
 unfold iE at ef;obtain⟨p,e1,e2⟩:=zA ef;obtain⟨iv',e3,e4⟩:=zH.mp e2;cases e4;refine⟨p.1,p.2,e1,fun P1 φ1 H1 w f1 s1 r1=>?_⟩;unfold mw at e3;have gen:∀v:AV,p.1=v->(match ib p.2 v with|some xs=>some ⟨xs,[]⟩|none=>gU p.2 v)=some iv->((∃a,w=.ref a/\(∃xs,bw X.K H1 a xs)/\R (Bc X.K a) H1)\/(∃a,w=.ref a/\(∃xs,fH X.K H1 a xs)/\R (Ba X.K a) H1)\/∃x':Str,w=.str x'/\x'.cps.all (·<128)=true/\R (Bb x') H1):=by
  intro v ev e3;rw[ev]at r1;split at e3
  ·rename_i xs et
   cases e3;have r2:=r1.dr s1;unfold ib at et;split at et
   ·rename_i ys ed
    cases et;rw[ed]at r2;simp only[RA]at r2;obtain⟨a,vs,rfl,pa,ea,ra⟩:=r2;exact .inr (.inl ⟨a,rfl,⟨vs,.inl (.inl ea)⟩,k P1 φ1 H1 _ f1 s1 (CB pa ea ra)⟩)
   ·cases et
  ·obtain⟨a,rfl,h⟩:=jN s1 r1 e3
   obtain⟨vs,rd,_⟩:=h P1 φ1 H1 p.2 Frm.refl s1 (jM e3);exact .inl ⟨a,rfl,⟨vs,rd⟩,k P1 φ1 H1 _ f1 s1 (zd h)⟩
 cases hv:p.1 with
 |str x =>
  rw[hv]at e3 r1;simp only at e3;split at e3
  ·rename_i hx
   cases e3;simp only[RA]at r1;exact .inr (.inr ⟨x,r1,hx,k P1 φ1 H1 _ f1 s1 CC⟩)
  ·cases e3
 |_=>rw[hv]at e3;exact gen _ hv e3⟩
noncomputable def eM(i:Int):Bool:=Nat.ble i.natAbs.log2 60
noncomputable def cF(i:Int)(n:Nat):List AV:=(List.range n).map fun k=>.int (i+(k:Nat))
def ww(f:EF):IF:=fun sl st=>(f sl st).bind fun p=>match p.1 with
 |.int j=>if eM j=true then some (⟨cF 0 j.toNat,[]⟩,p.2) else none
 |_=>none
def AB(f g:EF):IF:=fun sl st=>(f sl st).bind fun p=>(g sl p.2).bind fun q=>match p.1,q.1 with
 |.int i,.int j=>if(eM i&&eM j)=true then some (⟨cF i (j-i).toNat,[]⟩,q.2) else none
 |_,_=>none
theorem fK{i:Int}(h:eM i=true):-(2^62)<=i/\i<2^62:=by
 have:=log2_lt h
 have e:(2:Nat)^(60+1)=2305843009213693952:=by decide
 rw[e]at this;lia
theorem sv[My]{i:Int}{n:Nat}:sZ mg (wZ i n) ⟨cF i n,[]⟩ P φ H where
 go:=fun P2 φ2 H2 st2 k y f s g e=>by
  unfold cF at e;rw[zU]at e;obtain⟨c,e1,e2⟩:=zH.mp e;obtain⟨h1,h2⟩:=zD.mp e1;rw[List.getElem_range]at h2;subst h2 e2;rw[List.length_range]at h1;refine⟨h1,fun w H3 hq0=>?_⟩;obtain⟨hH,hw⟩:=hq0;subst hH;exact⟨P2,Frm.refl,s,by simp only[RA];exact hw⟩
 stop:=fun P2 φ2 H2 st2 f s g=>by
  show n<=(cF i n).length;simp[cF]
theorem vC[My]{mg:Gm}{f:EF}{σ:St}{H:Hp}{Q:List V->Hp->Prop}{P:Pr}{φ:List Addr}{sl:Sl}{st:aa}(rs:MH mg P H φ sl σ)(s:Sim mg P φ st H)
  (h:∃v st1,f sl st=some (v,st1)/\∀P1 φ1 H1 w,Frm P φ H P1 φ1 H1->Sim mg P1 φ1 st1 H1->RA mg P1 H1 φ1 v w->Q [w] H1):rA mg (eI f d8) σ H Q:=by
 obtain⟨v,st1,e,k⟩:=h;refine⟨P,φ,sl,st,rs,s,[v],st1,by simp only[eI,d8,e,bind_some],fun P1 φ1 H1 ws f1 s1 r1=>?_⟩;simp only[MB]at r1;obtain⟨w,us,rfl,r,rfl⟩:=r1;exact k P1 φ1 H1 w f1 s1 r
theorem DA[My]{mg:Gm}{f g:EF}{σ:St}{H:Hp}{Q:List V->Hp->Prop}{P:Pr}{φ:List Addr}{sl:Sl}{st:aa}(rs:MH mg P H φ sl σ)(s:Sim mg P φ st H)
  (h:∃v st1 u st2,f sl st=some (v,st1)/\g sl st1=some (u,st2)/\∀P1 φ1 H1 w w',Frm P φ H P1 φ1 H1->Sim mg P1 φ1 st2 H1->RA mg P1 H1 φ1 v w->RA mg P1 H1 φ1 u w'->Q [w,w'] H1):rA mg (eI f (eI g d8)) σ H Q:=by
 obtain⟨v,st1,u,st2,e,e',k⟩:=h;refine⟨P,φ,sl,st,rs,s,[v,u],st2,by simp only[eI,d8,e,e',bind_some],fun P1 φ1 H1 ws f1 s1 r1=>?_⟩;simp only[MB]at r1;obtain⟨w,us,rfl,r,w',us',rfl,r',rfl⟩:=r1;exact k P1 φ1 H1 w w' f1 s1 r r'
theorem GI[My](hg:Gl X "range")(hm:X.mg "range"=none)(ha:QE X a f)(hs:starEach [a] X.env=[(false,eval a X.env)]):QI X tg (.Call (.Name "range" p) [a] [] pos) (ww f) :=
 gO (vP hg hm (cK ha d9 (by rw[hs];rfl)) hs) fun σ H R hq0=>by
  obtain⟨P,φ,sl,st,rs,s,iv,st',ef,k⟩:=hq0;obtain⟨q,e1,e2⟩:=zA ef;refine vC rs s ⟨q.1,q.2,e1,fun P1 φ1 H1 w f1 s1 r1=>?_⟩;split at e2
  ·rename_i j ej
   rw[ej]at r1;split at e2
   ·rename_i hb
    cases e2;simp only[RA]at r1;subst r1;exact⟨j,rfl,(fK hb).1,(fK hb).2,k P1 φ1 H1 _ f1 s1 sv⟩
   ·cases e2
  ·cases e2
theorem GH[My](hg:Gl X "range")(hm:X.mg "range"=none)(ha:QE X a f)(hb:QE X b g)(hs:starEach [a,b] X.env=[(false,eval a X.env),(false,eval b X.env)])(hs2:starEach [b] X.env=[(false,eval b X.env)]) :
  QI X tg (.Call (.Name "range" p) [a,b] [] pos) (AB f g) :=
 gO (vN hg hm (cK ha (cK hb d9 (by rw[hs2];rfl)) (by rw[hs,hs2])) hs hs2) fun σ H R hq0=>by
  obtain⟨P,φ,sl,st,rs,s,iv,st',ef,k⟩:=hq0;obtain⟨q,e1,e2⟩:=zA ef;obtain⟨r,e3,e4⟩:=zA e2;refine DA rs s ⟨q.1,q.2,r.1,r.2,e1,e3,fun P1 φ1 H1 w w' f1 s1 r1 r2=>?_⟩;split at e4
  ·rename_i i j ei ej
   rw[ei]at r1;rw[ej]at r2;split at e4
   ·rename_i hb
    cases e4;obtain⟨h1,h2⟩:=Bool.and_eq_true_iff.mp hb;simp only[RA]at r1 r2;subst r1;subst r2;exact⟨i,j,rfl,⟨(fK h1).1,(fK h1).2,(fK h2).1,(fK h2).2⟩,k P1 φ1 H1 _ f1 s1 sv⟩
   ·cases e4
  ·cases e4
def iZ(f g:EF):IF:=fun sl st=>(f sl st).bind fun p=>(g sl p.2).bind fun q=>(gU q.2 p.1).bind fun x=>(gU q.2 q.1).bind fun y=>some (⟨(x.Mz.zip y.Mz).map fun z=>.tup [z.1,z.2],x.gd++y.gd⟩,q.2)
theorem rZ[My]{mg:Gm}{P:Pr}{φ:List Addr}{st:aa}{H:Hp}{p:Addr}{x y:AV}{u w:V}(s:Sim mg P φ st H)(hp:H p=none)(rx:RA mg P H φ x u)(ry:RA mg P H φ y w) :
  ∃P3,Frm P φ H P3 φ (ae H p (.tup [u,w]))/\Sim mg P3 φ st (ae H p (.tup [u,w]))/\RA mg P3 (ae H p (.tup [u,w])) φ (.tup [x,y]) (.ref p):=by
 obtain⟨f3,s3⟩:=jJ (o:=.tup [u,w]) s hp;refine⟨_,f3,s3,?_⟩;simp only[RA];exact⟨p,[u,w],rfl,.inr rfl,aq,aS (rx.frm f3) (aS (ry.frm f3) bh)⟩
theorem DQ[My]{x1:Nat}(hg:Gl X "zip")(hm:X.mg "zip"=none)(ha:QE X a f)(hb:QE X b g)(hs:starEach [a,b] X.env=[(false,eval a X.env),(false,eval b X.env)])(hs2:starEach [b] X.env=[(false,eval b X.env)]) :
  QI X (.Tuple elts x1 tpos) (.Call (.Name "zip" p) [a,b] [] pos) (iZ f g) :=
 gO (Em hg hm (cK ha (cK hb d9 (by rw[hs2];rfl)) (by rw[hs,hs2])) hs hs2) fun σ H R hq0=>by
  obtain⟨P,φ,sl,st,rs,s,iv,st',ef,k⟩:=hq0;obtain⟨q,e1,e2⟩:=zA ef;obtain⟨r,e3,e4⟩:=zA e2;obtain⟨x,e5,e6⟩:=zA e4;obtain⟨y,e7,e8⟩:=zA e6;cases e8;refine DA rs s ⟨q.1,q.2,r.1,r.2,e1,e3,fun P1 φ1 H1 w w' f1 s1 r1 r2=>?_⟩;obtain⟨a1,rfl,h1⟩:=jN s1 r1 e5;obtain⟨a2,rfl,h2⟩:=jN s1 r2 e7;obtain⟨vs,rd1,_⟩:=h1 P1 φ1 H1 r.2 Frm.refl s1 (jM e5);obtain⟨us,rd2,_⟩:=h2 P1 φ1 H1 r.2 Frm.refl s1 (jM e7);refine⟨a1,a2,rfl,⟨vs,rd1⟩,⟨us,rd2⟩,k P1 φ1 H1 _ f1 s1 ⟨fun P2 φ2 H2 st2 i t f2 s2 g2 et=>?_,fun P2 φ2 H2 st2 f2 s2 g2=>?_⟩⟩
  ·obtain⟨ga,gb⟩:=sI g2
   obtain⟨vs2,d1,q1⟩:=h1 P2 φ2 H2 st2 f2 s2 ga;obtain⟨us2,d2,q2⟩:=h2 P2 φ2 H2 st2 f2 s2 gb;rw[zU]at et;obtain⟨z,ez,et⟩:=zH.mp et;subst et;obtain⟨hx,hy⟩:=List.getElem?_zip_eq_some.mp ez;obtain⟨u1,c1,b1⟩:=q1.get hx;obtain⟨u2,c2,b2⟩:=q2.get hy;refine⟨⟨vs2,us2,u1,u2,d1,d2,c1,c2⟩,fun v H3 hq0=>?_⟩;obtain⟨pp,u,w,k1,k2,hp,hH,hv⟩:=hq0;have k1:=k1 vs2 d1;have k2:=k2 us2 d2;rw[c1]at k1;rw[c2]at k2;cases k1;cases k2;subst hH;subst hv;exact rZ s2 hp b1 b2
  ·obtain⟨ga,gb⟩:=sI g2
   obtain⟨vs2,d1,q1⟩:=h1 P2 φ2 H2 st2 f2 s2 ga;obtain⟨us2,d2,q2⟩:=h2 P2 φ2 H2 st2 f2 s2 gb;refine⟨vs2,us2,d1,d2,?_⟩;rw[<- q1.length,<- q2.length];simp only[zK,List.length_zip];lia
noncomputable def dX(n0:Nat)(xs:List AV):List AV:=(xs.zipIdx n0).map fun z=>.tup [.int ((z.2:Nat):Int),z.1]
theorem qk[My]{mg:Gm}{P:Pr}{φ:List Addr}{H:Hp}{K:Frag}{a:Addr}{iv:Iv}{n0:Nat}(h:∀P2 φ2 H2 st2,Frm P φ H P2 φ2 H2->Sim mg P2 φ2 st2 H2->bQ iv.gd st2=true->∃vs,bw K H2 a vs/\MB mg P2 H2 φ2 iv.Mz vs):sZ mg (w6 K a n0) ⟨dX n0 iv.Mz,iv.gd⟩ P φ H where
 go:=fun P2 φ2 H2 st2 i x f s g e=>by
  obtain⟨vs,rd,ra⟩:=h P2 φ2 H2 st2 f s g;unfold dX at e;rw[zU,List.getElem?_zipIdx]at e;cases hz:iv.Mz[i]? with
  |none=>rw[hz]at e;cases e
  |some y =>
   rw[hz]at e;cases e;obtain⟨v,e1,r1⟩:=ra.get hz;refine⟨⟨vs,v,rd,e1⟩,fun w H3 hq0=>?_⟩;obtain⟨pp,u,hx,hp,hH,hw⟩:=hq0
   have:=hx vs rd
   rw[e1]at this;cases this;subst hH;subst hw;exact rZ s hp (by simp only[RA]) r1
 stop:=fun P2 φ2 H2 st2 f s g=>by
  obtain⟨vs,rd,ra⟩:=h P2 φ2 H2 st2 f s g;exact⟨vs,rd,by rw[<- ra.length];simp[dX]⟩
def IM(f:EF):IF:=fun sl st=>(f sl st).bind fun p=>(gU p.2 p.1).map fun iv=>(⟨dX 0 iv.Mz,iv.gd⟩,p.2)
theorem GJ[My]{x1:Nat}(hg:Gl X "enumerate")(hm:X.mg "enumerate"=none)(ha:QE X a f)(hs:starEach [a] X.env=[(false,eval a X.env)]) :
  QI X (.Tuple elts x1 tpos) (.Call (.Name "enumerate" p) [a] [] pos) (IM f) :=
 gO (Cb hg hm (cK ha d9 (by rw[hs];rfl)) hs) fun σ H R hq0=>by
  obtain⟨P,φ,sl,st,rs,s,iv,st',ef,k⟩:=hq0;obtain⟨q,e1,e2⟩:=zA ef;obtain⟨iv',e3,e4⟩:=zH.mp e2;cases e4;refine vC rs s ⟨q.1,q.2,e1,fun P1 φ1 H1 w f1 s1 r1=>?_⟩;obtain⟨a1,rfl,h1⟩:=jN s1 r1 e3;obtain⟨vs,rd1,_⟩:=h1 P1 φ1 H1 q.2 Frm.refl s1 (jM e3);exact⟨a1,rfl,⟨vs,rd1⟩,k P1 φ1 H1 _ f1 s1 (qk h1)⟩
end
end R
namespace L2
open PySem PySem.Spec PyProof.Rows
section
variable{prog:Program}{w:World}{A:Around}{E:Value->Shared->Prop}{s:Shared}
theorem wG(l:Addr)(items:Array Value)(n:Nat)(dct:Option Addr)(sl:Array (Option Value))(t:Tok)(i:Int)(hf:Builtin.SmallTypes.fitsIndex i=true) :
  Meets (Builtin.«enumerate.__new__» ⟨[.type "enumerate",.ref l],[("start",.int i t)]⟩) (fun _ R s=>s.heap.get? l=some { cls:=.type "list",dict:=dct,data:=.seq items n,slots:=sl } /\
   R (.ok (.ret (.ref (s.heap.push { cls:=.type "list_iterator",data:=.fields #[.ref l,.int 0 0] }).objs.size)))
    { s with heap:=(s.heap.push { cls:=.type "list_iterator",data:=.fields #[.ref l,.int 0 0] }).push { cls:=.type "enumerate",data:=.fields #[.none,.bool false,.ref s.heap.objs.size,rawInt i,.none,.none] } }):=Meets.of_wp fun prog w A R s h=>by
  obtain⟨hp,g,d,tk,os⟩:=s;obtain⟨hl,h⟩:=h;have hsub:=sub_enumerate;have hL:Heap.IsList (Shared.heap ⟨hp,g,d,tk,os⟩) l items:=⟨_,hl,rfl,n,rfl⟩
  wp_walk using AutoSeq1.wpAny_loadPart' hl
  refine wpAny_stack_any fun st=>yJ ?_
  split
  ·rename_i c _ _ _ _ _
   cases (c==Value.type "enumerate")
   ·wp_walk using AutoSeq1.wpAny_loadPart' hl,wpAny_pyIter_list hL
    exact⟨_,rfl,h⟩
   ·wp_walk using AutoSeq1.wpAny_loadPart' hl,wpAny_pyIter_list hL
    exact⟨_,rfl,h⟩
  ·wp_walk using AutoSeq1.wpAny_loadPart' hl,wpAny_pyIter_list hL
   exact⟨_,rfl,h⟩
theorem uH{l:Addr}{items:Array Value}{t:Tok}{i:Int}{Q:Value->Shared->Prop}(hf:Builtin.SmallTypes.fitsIndex i=true)(hL:s.heap.IsList l items)
  (h:∀h',IsEnum h' (s.heap.objs.size+1) s.heap.objs.size i .none->h'.IsListIter s.heap.objs.size l 0->(∀b o,s.heap.get? b=some o->h'.get? b=some o)->Q (.ref (s.heap.objs.size+1)) { s with heap:=h' }) :
  wpAny (model prog w) A (call (.type "enumerate") [.ref l] [("start",.int i t)]) Q E s:=by
 obtain⟨⟨c0,dct,dt,sl⟩,hl,hc0,n,hd⟩:=hL;dsimp only at hc0 hd;subst hc0 hd;have ft:=F.called_enumerate;obtain⟨c,tl,hmro⟩:=ft.mro;have hmade:=ft.made;have hsub:=ft.sub;have h1:=ft.notType;have h2:=ft.canCreate;have hct:=pC (.ref l) (.int i t);have hcn:=oX (.ref l) (.int i t);refine wpAny_call (codeAny_of_tree ?_);show wpAny _ _ (callAny (.type "enumerate") _) _ _ _;refine yJ ⟨Code.quiet_builtin _ (by decide +kernel),codeAny_builtin F.entry_type_call ?_⟩;rw[Around.under_plain (weight_type_call_type "enumerate" _ _) (units_type_call_type "enumerate" _ _)]
 repeat (any_goals (first | assumption | wp_step))
 have hz:(s.heap.push { cls:=.type "list_iterator",data:=.fields #[.ref l,.int 0 0] }).objs.size=s.heap.objs.size+1:=Heap.size_push ..;have he:=z6 (s.heap.push { cls:=.type "list_iterator",data:=.fields #[.ref l,.int 0 0] }) (o:={ cls:=.type "enumerate",data:=.fields #[.none,.bool false,.ref s.heap.objs.size,rawInt i,.none,.none] }) rfl;rw[hz]at he;refine codeAny_mono (codeAny_call_builtin (R:=wants (fun obj s₁=>s₁.TypeIs obj "enumerate"/\Q obj s₁) E) ft.plain F.entry_enumerate_new (wpAny_of_eq hcn (wG l items n dct sl t i hf prog w A.in1 _ s ⟨hl,?_⟩))) fun r s₁ hr=>?_
 ·show _/\_
  rw[hz];exact⟨⟨_,he,rfl⟩,h _ he ⟨_,zJ _ (z6 _ rfl),rfl,rfl⟩ fun b o x=>zJ _ (zJ _ x)⟩
 ·cases r with
  |error e=>exact hr
  |ok fl =>
   cases fl with
   |ret obj =>
    obtain⟨hT,hq0⟩:=hr;have hli:=ft.init.lookup;have hbi:=ft.init.bind obj
    repeat (any_goals (first | assumption | wp_step))
    refine codeAny_mono (codeAny_call_builtin (R:=wants (fun r s₂=>r=.none/\Q obj s₂) E) ft.init.plain F.entry_object_init (ft.init.check _ _ _ _ _ _ _ _ hT (nV obj (.ref l) (.int i t)) (uv ft.init.lookup ft.made dC prog w A.in1 _ s₁ ⟨hT,rfl,hq0⟩))) fun r₂ s₂ hr₂=>?_
    cases r₂ with
    |error e=>exact hr₂
    |ok fl₂ =>
     cases fl₂ with
     |ret r =>
      obtain⟨rfl,hq⟩:=hr₂
      repeat (any_goals (first | assumption | wp_step))
     |_=>exact hr₂.elim
   |_=>exact hr.elim
end
end L2
namespace R
open PySem PySem.Spec PyProof.Rows L2
open DD (PE_imp PT_imp PA_imp PS_imp PSs_imp OpR_imp PW_imp PG_imp pyOk)
section
variable{X:Cx}{tg e a b:Expr}{es:List Expr}{pos p kp:Pos}
theorem xY[My]{x1:Nat}(hg:Gl X "enumerate")(hm:X.mg "enumerate"=none)(ha:PA X [a] ta)(hb:PE X b tb)(hs:starEach [a] X.env=[(false,eval a X.env)]) :
  PI X (.Tuple elts x1 tpos) (.Call (.Name "enumerate" p) [a] [⟨some "start",b,kp⟩] pos) (fun σ H R=>ta σ H fun vs H1=>tb σ H1 fun y H2=>∃l n0,vs=[.ref l]/\y=.int ((n0:Nat):Int)/\n0<=1000000/\(∃xs,bw X.K H2 l xs)/\R (w6 X.K l n0) H2):=by
 intro Mv s σ H R I h;refine wpAny_Call_Name_kw (c6 I hg hm oO (qO (by rw[hs];rfl) (by rfl) ?_));have hA:=ha pos Mv s σ H _ I h;rw[hs]at hA ⊢;refine PyProof.Rows.evalArgs_kwB (by rfl) (xp hA fun us s1 hq0=>?_);obtain⟨vs,H1,I1,r1,q1⟩:=hq0;refine PyProof.Rows.kws_cons (ax (hb Mv s1 σ H1 _ I1 q1) fun u s2 ⟨y,H2,I2,r2,l,n0,e1,e2,hn,⟨xs,hq⟩,q⟩=>PyProof.Rows.kws_nil ?_);subst e1;subst e2;obtain⟨t,rfl⟩:=r2;cases r1 with
 |cons r rr =>
  cases rr;cases r;obtain⟨Mz,rv,p1,_⟩:=I2.list hq;show wpAny _ _ (call (.type "enumerate") [.ref l] [("start",.int ((n0:Nat):Int) t)]) _ _ _;refine uH (s:=s2) ?_ p1.isList fun h' he hi hk=>?_
  ·unfold Builtin.SmallTypes.fitsIndex
   simp only[zE,yF];lia
  refine wpAny_pyIter_enum (s:={ s2 with heap:=h' }) he ?_;exact qE (t':=s2.toks) (n0:=n0) I2 he hi hk q
def uw(f g:EF):IF:=fun sl st=>(f sl st).bind fun p=>(g sl p.2).bind fun q=>match q.1 with
 |.int i=>if(decide (0<=i)&&Nat.ble i.natAbs 1000000)=true then(gU q.2 p.1).map fun iv=>(⟨dX i.toNat iv.Mz,iv.gd⟩,q.2) else none
 |_=>none
theorem DR[My]{x1:Nat}(hg:Gl X "enumerate")(hm:X.mg "enumerate"=none)(ha:QE X a f)(hb:QE X b g)(hs:starEach [a] X.env=[(false,eval a X.env)]) :
  QI X (.Tuple elts x1 tpos) (.Call (.Name "enumerate" p) [a] [⟨some "start",b,kp⟩] pos) (uw f g) :=
 gO (xY hg hm (cK ha d9 (by rw[hs];rfl)) hb hs) fun σ H R hq0=>by
  obtain⟨P,φ,sl,st,rs,s,iv,st',ef,k⟩:=hq0;obtain⟨q,e1,e2⟩:=zA ef;obtain⟨r,e3,e4⟩:=zA e2;refine vC rs s ⟨q.1,q.2,e1,fun P1 φ1 H1 w f1 s1 r1=>⟨P1,φ1,sl,q.2,rs.frm f1,s1,r.1,r.2,e3,fun P2 φ2 H2 w2 f2 s2 r2=>?_⟩⟩;split at e4
  ·rename_i i ei
   rw[ei]at r2;simp only[RA]at r2;subst r2;split at e4
   ·rename_i hc
    simp only[zE,yF]at hc;have hc2:=zV hc.2;obtain⟨iv',e5,e6⟩:=zH.mp e4;cases e6;obtain⟨a1,rfl,h1⟩:=jN s2 (r1.frm f2) e5;obtain⟨vs,rd1,_⟩:=h1 P2 φ2 H2 r.2 Frm.refl s2 (jM e5);exact⟨a1,i.toNat,rfl,by rw[Int.toNat_of_nonneg hc.1],by lia,⟨vs,rd1⟩,k P2 φ2 H2 _ (f1.trans f2) s2 (qk h1)⟩
   ·cases e4
  ·cases e4
end
mutual
noncomputable def rf:AV->Bool
 |.ref _=>false
 |.tup xs=>rfs xs
 |_=>true
noncomputable def rfs:List AV->Bool
 |[]=>true
 |x::xs=>rf x&&rfs xs
end
mutual
theorem RA.rf:∀{t:AV}{v:V},R.rf t=true->RA mg P H φ t v->RA mg P H ψ t v
 |.non,_,_,h=>by simp only[RA]at h ⊢;exact h
 |.bl _,_,_,h=>by simp only[RA]at h ⊢;exact h
 |.int _,_,_,h=>by simp only[RA]at h ⊢;exact h
 |.str _,_,_,h=>by simp only[RA]at h ⊢;exact h
 |.fz _,_,_,h=>by simp only[RA]at h ⊢;exact h
 |.ref k,_,e,_=>by simp only[R.rf]at e;cases e
 |.tup xs,_,e,h=>by
  simp only[RA,R.rf]at h e ⊢;obtain⟨a,vs,r,p,e',q⟩:=h;exact⟨a,vs,r,p,e',MB.rf e q⟩
theorem MB.rf:∀{ts:List AV}{vs:List V},R.rfs ts=true->MB mg P H φ ts vs->MB mg P H ψ ts vs
 |[],_,_,h=>by simp only[MB]at h ⊢;exact h
 |t::ts,_,e,h=>by
  simp only[MB,R.rfs,zE]at h e ⊢;obtain⟨v,ws,e',r,q⟩:=h;exact⟨v,ws,e',RA.rf e.1 r,MB.rf e.2 q⟩
end
abbrev NF:=Sl->aa->Option (List AV×aa)
def rN[My](mg:Gm)(f:NF):TE:=fun σ H Q=>∃P φ sl st,MH mg P H φ sl σ/\Sim mg P φ st H/\∃xs st',f sl st=some (xs,st') /\
 ∀P' φ' H' p vs,Frm P φ H P' φ' H'->Sim mg P' φ' st' H'->H' p=none->MB mg P' H' φ' xs vs->Q (.ref p) (ae H' p (.lst vs))
def QN[My](X:Cx)(e:Expr)(f:NF):Prop:=PE X e (rN X.gm f)
def K8(f:NF):EF:=fun sl st=>(f sl st).bind fun p=>if rfs p.1=true then some (.fz p.1,p.2) else none
def K7(f:NF):EF:=fun sl st=>(f sl st).bind fun p=>some (.ref p.2.length,p.2++[.lst p.1])
theorem Fv[My]{mg:Gm}{P:Pr}{φ:List Addr}{st:aa}{H:Hp}{p:Addr}{xs:List AV}{vs:List V}(s:Sim mg P φ st H)(hp:H p=none)(hr:rfs xs=true)(r:MB mg P H φ xs vs) :
  ∃P3,Frm P φ H P3 φ (ae H p (.lst vs))/\Sim mg P3 φ st (ae H p (.lst vs))/\RA mg P3 (ae H p (.lst vs)) φ (.fz xs) (.ref p):=by
 obtain⟨f3,s3⟩:=jJ (o:=.lst vs) s hp;refine⟨_,f3,s3,?_⟩;simp only[RA];exact⟨p,vs,rfl,.inl ⟨.inr rfl,.inl aq⟩,MB.rf hr (r.frm f3)⟩
theorem EQ[My]{mg:Gm}{P:Pr}{φ:List Addr}{st:aa}{H:Hp}{p:Addr}{xs:List AV}{vs:List V}(s:Sim mg P φ st H)(hp:H p=none)(r:MB mg P H φ xs vs) :
  Frm P φ H P (φ++[p]) (ae H p (.lst vs))/\Sim mg P (φ++[p]) (st++[.lst xs]) (ae H p (.lst vs))/\RA mg P (ae H p (.lst vs)) (φ++[p]) (.ref st.length) (.ref p):=by
 have ne:∀a,H a≠none->a≠p:=fun a h e=>h (by rw[e];exact hp)
 obtain⟨f3,s3⟩:=lE (c:=.lst xs) (o:=.lst vs) s hp ⟨fun z=>s.dom p z hp,vs,aq,r.mono (fun a h=>⟨h,ad (ne a (s.dom a h))⟩) fun k a e=>by rw[zQ (zD.mp e).1];exact e⟩;refine⟨f3,s3,?_⟩;simp only[RA];exact⟨p,by rw[<- s.len];simp,rfl⟩
section
variable{X:Cx}{e a b:Expr}{es:List Expr}{pos:Pos}{f:NF}
noncomputable def b8(n:Nat):Bool:=Nat.ble n 1000000
theorem iQ{n:Nat}(h:b8 n=true):n<=sizeLine:=z9 (zV h) dC
def ID(g:AF):NF:=fun sl st=>(g sl st).bind fun p=>if b8 p.1.length=true then some p else none
theorem BO[My](h:QA X es g):QN X (.List es pos) (ID g) :=
 PE_imp (vQ h) fun σ H Q hq0=>by
  obtain⟨P,φ,sl,st,rs,s,xs,st',ef,k⟩:=hq0;obtain⟨q,e1,e2⟩:=zA ef;split at e2
  ·rename_i hz
   cases e2;exact⟨P,φ,sl,st,rs,s,xs,st',e1,fun P1 φ1 H1 vs f1 s1 r1=>⟨by rw[<- r1.length];exact iQ hz,fun p hp=>k P1 φ1 H1 p vs f1 s1 hp r1⟩⟩
  ·cases e2
def pY(f g:EF):NF:=fun sl st=>(f sl st).bind fun p=>(g sl p.2).bind fun q=>(bu q.2 p.1).bind fun xs=>(bu q.2 q.1).bind fun ys=>if b8 (xs.length+ys.length)=true then some (xs++ys,q.2) else none
theorem DO[My]{f g:EF}(ha:QE X a f)(hb:QE X b g):QN X (.BinOp a .Add b pos) (pY f g) :=
 PE_imp (tT Cl ha hb) fun σ H Q hq0=>by
  obtain⟨P,φ,sl,st,rs,s,xs,st',ef,k⟩:=hq0;obtain⟨q,e1,e2⟩:=zA ef;obtain⟨r,e3,e4⟩:=zA e2;obtain⟨x,e5,e6⟩:=zA e4;obtain⟨y,e7,e8⟩:=zA e6;split at e8
  ·rename_i hz
   cases e8;refine⟨P,φ,sl,st,rs,s,q.1,q.2,e1,fun P1 φ1 H1 w f1 s1 r1=>⟨P1,φ1,sl,q.2,rs.frm f1,s1,r.1,r.2,e3,fun P2 φ2 H2 w2 f2 s2 r2=>?_⟩⟩;obtain⟨a1,vs,rfl,d1,q1⟩:=(r1.frm f2).ls s2 e5;obtain⟨a2,us,rfl,d2,q2⟩:=r2.ls s2 e7;exact⟨a1,a2,vs,us,rfl,rfl,d1,d2,by rw[<- q1.length,<- q2.length];exact iQ hz,fun p hp=>k P2 φ2 H2 p _ (f1.trans f2) s2 hp (q1.app q2)⟩
  ·cases e8
def t8(g:AF)(f:EF):NF:=fun sl st=>(g sl st).bind fun p=>(f sl p.2).bind fun q=>match q.1 with
 |.int k=>if(eM k&&b8 (p.1.length*k.toNat)&&b8 p.1.length)=true then some ((List.replicate k.toNat p.1).flatten,q.2) else none
 |_=>none
theorem MB.rep(h:MB mg P H φ xs vs):∀k:Nat,MB mg P H φ (List.replicate k xs).flatten (List.replicate k vs).flatten
 |0=>bh
 |k+1=>by rw[List.replicate_succ,List.replicate_succ,List.flatten_cons,List.flatten_cons];exact h.app (MB.rep h k)
theorem DK[My]{g:AF}{f:EF}{pos':Pos}(h:QA X es g)(hb:QE X b f):QN X (.BinOp (.List es pos') .Mult b pos) (t8 g f) :=
 PE_imp (tT EG (vQ h) hb) fun σ H Q hq0=>by
  obtain⟨P,φ,sl,st,rs,s,xs,st',ef,k⟩:=hq0;obtain⟨q,e1,e2⟩:=zA ef;obtain⟨r,e3,e4⟩:=zA e2;split at e4
  ·rename_i j ej
   split at e4
   ·rename_i hc
    cases e4;simp only[zE]at hc;refine⟨P,φ,sl,st,rs,s,q.1,q.2,e1,fun P1 φ1 H1 vs f1 s1 r1=>⟨by rw[<- r1.length];exact iQ hc.2,fun p hp=>?_⟩⟩
    -- the list itself is a cell that nobody has
    obtain⟨f2,s2⟩:=jJ (o:=.lst vs) s1 hp;refine⟨_,φ1,sl,q.2,(rs.frm f1).frm f2,s2,r.1,r.2,e3,fun P3 φ3 H3 w f3 s3 r3=>?_⟩;rw[ej]at r3;simp only[RA]at r3;subst r3;have hH:H3 p=some (.lst vs):=by rw[(f3.ext p (.inr rfl)).2,aq]
    have hj:=fK hc.1.1;refine⟨p,j,vs,rfl,rfl,hH,by lia,by lia,by rw[<- r1.length];exact iQ hc.1.2,fun p' hp'=>?_⟩;exact k P3 φ3 H3 p' _ ((f1.trans f2).trans f3) s3 hp' (MB.rep ((r1.frm f2).frm f3) _)
   ·cases e4
  ·cases e4
abbrev OF:=Sl->aa->Option (Option Int×aa)
def rO[My](mg:Gm)(f:OF):TO:=fun σ H Q=>∃P φ sl st,MH mg P H φ sl σ/\Sim mg P φ st H/\KG mg RB P φ H (f sl st) Q
def QO[My](X:Cx)(e:Option Expr)(f:OF):Prop:=PO X e (rO X.gm f)
def IB:OF:=fun _ st=>some (none,st)
def ow(f:EF):OF:=fun sl st=>(f sl st).bind fun p=>match p.1 with
 |.int i=>some (some i,p.2)
 |_=>none
theorem sV(h:PO X eo t)(i:∀σ H Q,t' σ H Q->t σ H Q):PO X eo t':=fun Mv s σ H Q I h'=>h Mv s σ H Q I (i σ H Q h')
theorem BN[My]:QO X none IB:=sV B7 fun σ H Q ⟨P,φ,sl,st,rs,s,k⟩=>k.pure s rfl
theorem BM[My]{f:EF}(h:QE X e f):QO X (some e) (ow f):=sV (B6 h) fun σ H Q ⟨P,φ,sl,st,rs,s,k⟩=>⟨P,φ,sl,st,rs,s,by
 obtain⟨a,st',e1,q⟩:=k.bind (Ra:=RA);refine⟨a,st',e1,fun P1 φ1 H1 c f1 s1 r1=>?_⟩;obtain⟨P2,φ2,st2,x,f2,s2,r2,k2⟩:=q P1 φ1 H1 c f1 s1 r1;cases x<;>first|exact k2.no.elim|skip
 rename_i i;simp only[RA]at r2;exact⟨i,r2,k2.pure s2 rfl⟩⟩
def cut{α:Type}(xs:List α)(lo hi:Option Int):List α:=(xs.drop (HT.MG xs.length 0 lo)).take (HT.MG xs.length xs.length hi-HT.MG xs.length 0 lo)
theorem MB.cut(h:MB mg P H φ xs vs)(lo hi:Option Int):MB mg P H φ (R.cut xs lo hi) (jp vs lo hi):=by
 unfold R.cut jp;rw[h.length];exact(h.drop _).take _
theorem Dp[My]{mg:Gm}{f:EF}{l h:OF}{σ:St}{H:Hp}{P:Pr}{φ:List Addr}{sl:Sl}{st:aa}(rs:MH mg P H φ sl σ)(s:Sim mg P φ st H){r:V->Option Int->Option Int->Hp->VK->Prop}{Q:VK}
  (k:∃v st1 lo st2 hi st3,f sl st=some (v,st1)/\l sl st1=some (lo,st2)/\h sl st2=some (hi,st3)/\∀P' φ' H' w,Frm P φ H P' φ' H'->Sim mg P' φ' st3 H'->RA mg P' H' φ' v w->r w lo hi H' Q):Ik r (rE mg f) (rO mg l) (rO mg h) σ H Q:=by
 obtain⟨v,st1,lo,st2,hi,st3,e1,e2,e3,k⟩:=k;refine⟨P,φ,sl,st,rs,s,v,st1,e1,fun P1 φ1 H1 w f1 s1 r1=>⟨P1,φ1,sl,st1,rs.frm f1,s1,lo,st2,e2,fun P2 φ2 H2 lo' f2 s2 r2=>⟨P2,φ2,sl,st2,(rs.frm f1).frm f2,s2,hi,st3,e3,fun P3 φ3 H3 hi' f3 s3 r3=>?_⟩⟩⟩;cases r2;cases r3;exact k P3 φ3 H3 w ((f1.trans f2).trans f3) s3 ((r1.frm f2).frm f3)
def oy(f:EF)(l h:OF):NF:=fun sl st=>(f sl st).bind fun p=>(l sl p.2).bind fun q=>(h sl q.2).bind fun r=>(bu r.2 p.1).map fun xs=>(cut xs q.1 r.1,r.2)
theorem GE[My]{f:EF}{l h:OF}{lo hi:Option Expr}{p2:Pos}(ha:QE X a f)(hl:QO X lo l)(hh:QO X hi h):QN X (.Subscript a (.Slice lo hi none p2) pos) (oy f l h) :=
 PE_imp (pT Bz ha hl hh) fun σ H Q hq0=>by
  obtain⟨P,φ,sl,st,rs,s,xs,st',ef,k⟩:=hq0;obtain⟨q,e1,e2⟩:=zA ef;obtain⟨r,e3,e4⟩:=zA e2;obtain⟨t,e5,e6⟩:=zA e4;obtain⟨ys,e7,e8⟩:=zH.mp e6;cases e8;refine Dp rs s ⟨q.1,q.2,r.1,r.2,t.1,t.2,e1,e3,e5,fun P1 φ1 H1 w f1 s1 r1=>?_⟩;obtain⟨a1,vs,rfl,d1,q1⟩:=r1.ls s1 e7;exact⟨a1,vs,rfl,d1,fun p hp=>k P1 φ1 H1 p _ f1 s1 hp (q1.cut _ _)⟩
def nQ(f:EF):NF:=fun sl st=>(f sl st).bind fun p=>match bu p.2 p.1 with
 |some xs=>some (xs,p.2)
 |none=>(ib p.2 p.1).map fun xs=>(xs,p.2)
theorem DN[My]{f:EF}{p pos:Pos}(hg:Gl X "list")(hm:X.mg "list"=none)(ha:QE X a f)(hs:starEach [a] X.env=[(false,eval a X.env)]):QN X (.Call (.Name "list" p) [a] [] pos) (nQ f) :=
 PE_imp (ou qM hg hm jr (cK ha d9 (by rw[hs];rfl)) (he:=by rw[hs];rfl) (hpl:=rfl)) fun σ H Q hq0=>by
  obtain⟨P,φ,sl,st,rs,s,xs,st',ef,k⟩:=hq0;obtain⟨q,e1,e2⟩:=zA ef;refine vC rs s ⟨q.1,q.2,e1,fun P1 φ1 H1 w f1 s1 r1=>?_⟩;split at e2
  ·rename_i ys e3
   cases e2;obtain⟨a1,vs,rfl,d1,q1⟩:=r1.ls s1 e3;exact⟨a1,vs,rfl,.inl d1,fun p hp=>k P1 φ1 H1 p vs f1 s1 hp q1⟩
  ·obtain⟨ys,e3,e4⟩:=zH.mp e2
   cases e4;obtain⟨a1,vs,rfl,d1,q1⟩:=r1.tp s1 e3;exact⟨a1,vs,rfl,.inr (.inl (.inl d1)),fun p hp=>k P1 φ1 H1 p vs f1 s1 hp q1⟩
end
abbrev GF:=AV->Sl->aa->Option (Sl×aa)
abbrev qZ:=List AV->Sl->aa->Option (Sl×aa)
def KS[My](mg:Gm)(P:Pr)(φ:List Addr)(H:Hp)(r:Option (Sl×aa))(Q:St->Hp->Prop):Prop :=
 ∃sl' st',r=some (sl',st')/\∀P' φ' H' σ',Frm P φ H P' φ' H'->Sim mg P' φ' st' H'->MH mg P' H' φ' sl' σ'->Q σ' H'
def rG[My](mg:Gm)(f:GF):TG:=fun v σ H Q=>∃P φ sl st x,MH mg P H φ sl σ/\Sim mg P φ st H/\RA mg P H φ x v/\KS mg P φ H (f x sl st) Q
def KD[My](mg:Gm)(f:qZ):lb:=fun vs σ H Q=>∃P φ sl st xs,MH mg P H φ sl σ/\Sim mg P φ st H/\MB mg P H φ xs vs/\KS mg P φ H (f xs sl st) Q
def QG[My](X:Cx)(tg:Expr)(f:GF):Prop:=PG X tg (rG X.gm f)
def wW[My](X:Cx)(tgs:List Expr)(f:qZ):Prop:=oV X tgs (KD X.gm f)
def wB(i:Nat):GF:=fun x sl st=>some (sl.set i (some x),st)
def Fo:qZ:=fun xs sl st=>match xs with
 |[]=>some (sl,st)
 |_=>none
def Ft(f:GF)(g:qZ):qZ:=fun xs sl st=>match xs with
 |x::xs=>(f x sl st).bind fun p=>g xs p.1 p.2
 |[]=>none
def wA(n:Nat)(g:qZ):GF:=fun x sl st=>match ib st x with
 |some xs=>if xs.length=n then g xs sl st else none
 |none=>match bu st x with
  |some xs=>if xs.length=n then g xs sl st else none
  |none=>none
theorem qW(h:oV X tgs t)(i:∀v σ H Q,t' v σ H Q->t v σ H Q):oV X tgs t':=fun Mv s σ H v u Q I rv h'=>h Mv s σ H v u Q I rv (i v σ H Q h')
section
variable{X:Cx}{e a b:Expr}{es:List Expr}{pos:Pos}
theorem KS.pure[My]{mg:Gm}{P:Pr}{φ:List Addr}{H:Hp}{sl:Sl}{st:aa}{σ:St}{Q:St->Hp->Prop}(h:KS mg P φ H (some (sl,st)) Q)(s:Sim mg P φ st H)(r:MH mg P H φ sl σ):Q σ H:=by
 obtain⟨_,_,e,q⟩:=h;cases e;exact q P φ H σ Frm.refl s r
theorem BS[My]{i:Nat}(hN:X.N.Nodup)(hi:X.N[i]?=some x)(hx:Loc X.env.scope x)(hf:X.fn x=true\/X.env.scope.names.lookup x=some .local):QG X (.Name x pos) (wB i) :=
 PG_imp (Cf hN hi hx hf) fun v σ H Q ⟨P,φ,sl,st,x,rs,s,rx,k⟩=>k.pure s (rs.set rx i)
theorem BR[My]:wW X [] Fo:=qW Cd fun v σ H Q hq0=>by
 obtain⟨P,φ,sl,st,xs,rs,s,rx,k⟩:=hq0;cases xs with
 |nil=>simp only[MB]at rx;exact⟨rx,k.pure s rs⟩
 |cons _ _=>obtain⟨_,_,e,_⟩:=k;cases e
theorem xP[My](h1:QG X e f)(h2:wW X es g)(hs:(assignEach (e::es) X.env).map (·.2)=assign e X.env::(assignEach es X.env).map (·.2)):wW X (e::es) (Ft f g) :=
 qW (xZ h1 h2 hs) fun v σ H Q hq0=>by
  obtain⟨P,φ,sl,st,xs,rs,s,rx,k⟩:=hq0;cases xs with
  |nil=>obtain⟨_,_,e,_⟩:=k;cases e
  |cons x xs =>
   simp only[MB]at rx;obtain⟨w,ws,rfl,r1,r2⟩:=rx;obtain⟨sl',st',e,q⟩:=k;obtain⟨p,e1,e2⟩:=zA e;exact⟨w,ws,rfl,P,φ,sl,st,x,rs,s,r1,p.1,p.2,e1,fun P1 φ1 H1 σ1 f1 s1 rs1=>⟨P1,φ1,p.1,p.2,xs,rs1,s1,r2.frm f1,sl',st',e2,fun P2 φ2 H2 σ2 f2 s2 rs2=>q P2 φ2 H2 σ2 (f1.trans f2) s2 rs2⟩⟩
theorem GS(h:PG X tg t)(h':PG X tg t'):PG X tg (fun v σ H Q=>t v σ H Q\/t' v σ H Q):=fun Mv s σ H v u Q I r q=>by
 rcases q with q|q
 ·exact h Mv s σ H v u Q I r q
 ·exact h' Mv s σ H v u Q I r q
theorem DS[My]{k n:Nat}(hc:X.calm=true)(h:wW X es g)(hn:(assignEach es X.env).length=n)(hst:(assignEach es X.env).findIdx? (·.1)=none):QG X (.Tuple es k pos) (wA n g) :=
 PG_imp (GS (Eo (k:=k) hc h hn hst) (Ce (k:=k) hc h hn hst)) fun v σ H Q hq0=>by
  obtain⟨P,φ,sl,st,x,rs,s,rx,kk⟩:=hq0;obtain⟨sl',st',e,q⟩:=kk;unfold wA at e;split at e
  ·rename_i xs ex
   split at e
   ·rename_i hl
    obtain⟨a1,vs,rfl,d1,q1⟩:=rx.tp s ex;exact .inl ⟨a1,vs,rfl,.inl (.inl d1),by rw[<- q1.length];exact hl,P,φ,sl,st,xs,rs,s,q1,sl',st',e,q⟩
   ·cases e
  ·split at e
   ·rename_i xs ex
    split at e
    ·rename_i hl
     obtain⟨a1,vs,rfl,d1,q1⟩:=rx.ls s ex;exact .inr ⟨a1,vs,rfl,d1,by rw[<- q1.length];exact hl,P,φ,sl,st,xs,rs,s,q1,sl',st',e,q⟩
    ·cases e
   ·cases e
noncomputable def lD{κ:Type}[DecidableEq κ](Mx:List (κ×AV))(k:κ)(v:AV):List (κ×AV) :=
 if(Mx.any fun kv=>decide (kv.1=k))=true then Mx.map fun kv=>if kv.1=k then(kv.1,v) else kv else Mx++[(k,v)]
theorem pR{P:Pr}{H:Hp}{φ:List Addr}{κ:Type}[DecidableEq κ]{Mx:List (κ×AV)}{ws:List (κ×V)}{k:κ}{v:AV}{w:V}(h:KVR mg P H φ Mx ws)(r:RA mg P H φ v w):KVR mg P H φ (lD Mx k v) (d3 ws k w):=by
 have hany:(Mx.any fun kv=>decide (kv.1=k))=(ws.any fun kv=>decide (kv.1=k)):=by
  have h1:∀{α:Type} (l:List (κ×α)),(l.any fun kv=>decide (kv.1=k))=((l.map (·.1)).any fun x=>decide (x=k)):=fun l=>by rw[List.any_map];rfl
  rw[h1 Mx,h1 ws,h.1]
 unfold lD d3;rw[hany];split
 ·clear hany
  rename_i hh;clear hh
  induction Mx generalizing ws with
  |nil =>
   have:ws=[]:=by simpa using h.1.symm
   subst this;exact⟨rfl,bh⟩
  |cons p Mx ih =>
   cases ws with
   |nil=>exact absurd h.1 (by simp)
   |cons q ws =>
    obtain⟨h1,h2⟩:=h;rw[zR,zR]at h1 h2;injection h1 with h3 h4;simp only[MB]at h2;obtain⟨u,us,h5,h6,h7⟩:=h2;injection h5 with h8 h9;subst h8;subst h9;have ih:=ih (ws:=ws) ⟨h4,h7⟩;have h3':p.1=q.1:=h3;by_cases e:q.1=k
    ·rw[zR,zR,yL e,yL (h3'.trans e)]
     exact⟨by rw[zR,zR,ih.1,h3'],aS r ih.2⟩
    ·rw[zR,zR,yK e,yK (fun z=>e (h3'.symm.trans z))]
     exact⟨by rw[zR,zR,ih.1,h3'],aS h6 ih.2⟩
 ·refine⟨by rw[List.map_append,List.map_append,h.1];rfl,?_⟩
  rw[List.map_append,List.map_append];exact h.2.app (aS r bh)
def jf(st:aa)(o i v:AV):Option aa:=match o with
 |.ref k=>match st[k]? with
  |some (.lst xs)=>match i with
   |.int j=>(kJ xs.length j).map fun n=>st.set k (.lst (xs.set n v))
   |_=>none
  |some (.dK Mx)=>(jl i).bind fun x=>if b8 Mx.length=true then some (st.set k (.dK (lD Mx x v))) else none
  |some (.dT Mx)=>match i with
   |.tup is=>(bE jl is).bind fun x=>if b8 Mx.length=true then some (st.set k (.dT (lD Mx x v))) else none
   |_=>none
  |_=>none
 |_=>none
theorem Ap[My](hu:X.A.units+64<cLine):u0 X (fun o i v H Q=>∃P φ st x y z st',Sim X.gm P φ st H/\RA X.gm P H φ x o/\RA X.gm P H φ y i/\RA X.gm P H φ z v/\jf st x y z=some st'/\∀P' φ' H',Frm P φ H P' φ' H'->Sim X.gm P' φ' st' H'->Q H'):=by
 rintro Mv s σ H o i v ov iv u Q I ro ri rv ⟨P,φ,st,x,y,z,st',sm,rx,ry,rz,e,k⟩;unfold jf at e;cases x with
 |ref j =>
  simp only[RA]at rx;obtain⟨a,ea,rfl⟩:=rx;dsimp only at e;split at e
  ·rename_i xs hk
   obtain⟨a',ea',c⟩:=sm.at hk;rw[ea]at ea';cases ea';obtain⟨na,vs,q1,q2⟩:=c;cases y with
   |int n =>
    simp only[RA]at ry;subst ry;obtain⟨m,e1,e2⟩:=zH.mp e;subst e2;have hp:P a->False:=na;obtain⟨f3,s3⟩:=gJ (c:=.lst (xs.set m z)) (o:=.lst (vs.set m v)) sm ea na ⟨na,_,aq,(q2.set rz m).mono (fun b h=>⟨h,ad fun e=>na (e▸h)⟩) fun _ _ z=>z⟩ (fun _ _ z=>by rw[q1]at z;cases z);exact xG Mv s σ H _ _ v ov iv u Q I ro ri rv ⟨a,vs,n,m,rfl,rfl,q1,by rw[<- q2.length];exact e1,k P φ _ f3 s3⟩
   |_=>cases e
  ·rename_i Mx hk
   obtain⟨a',ea',c⟩:=sm.at hk;rw[ea]at ea';cases ea';obtain⟨na,ws,q1,q2⟩:=c;obtain⟨x,e1,e2⟩:=zA e;split at e2
   ·rename_i hz
    cases e2
    have:=lH e1 ry
    subst this;cases ro;obtain⟨f3,s3⟩:=gJ (c:=.dK (lD Mx x z)) (o:=.dK (d3 ws x v)) sm ea na ⟨na,_,aq,(pR q2 rz).mono (fun b h=>⟨h,ad fun e=>na (e▸h)⟩) fun _ _ z=>z⟩ (fun _ _ z=>by rw[q1]at z;cases z);refine oK oM I (DPut.k q1 ?_) ri rv fun s' I'=>⟨_,I',k P φ _ f3 s3⟩
    have:=congrArg List.length q2.1
    rw[zK,zK]at this;rw[<- this];have h1:=zV hz;have h2:(1000000:Nat)<sizeLine:=by decide
    lia
   ·cases e2
  ·rename_i Mx hk
   obtain⟨a',ea',c⟩:=sm.at hk;rw[ea]at ea';cases ea';obtain⟨na,ws,q1,q2⟩:=c;cases y with
   |tup is =>
    dsimp only at e;obtain⟨x,e1,e2⟩:=zA e;split at e2
    ·rename_i hz
     cases e2;simp only[RA]at ry;obtain⟨b,us,rfl,_,hb,rr⟩:=ry;rw[oA e1 rr]at hb;cases ro;obtain⟨f3,s3⟩:=gJ (c:=.dT (lD Mx x z)) (o:=.dT (d3 ws x v)) sm ea na ⟨na,_,aq,(pR q2 rz).mono (fun b h=>⟨h,ad fun e=>na (e▸h)⟩) fun _ _ z=>z⟩ (fun _ _ z=>by rw[q1]at z;cases z);refine oK oM I (DPut.t q1 hb ?_) ri rv fun s' I'=>⟨_,I',k P φ _ f3 s3⟩
     have:=congrArg List.length q2.1
     rw[zK,zK]at this;rw[<- this];have h1:=zV hz;have h2:(1000000:Nat)<sizeLine:=by decide
     lia
    ·cases e2
   |_=>cases e
  ·cases e
 |_=>cases e
def IN(f g:EF):GF:=fun x sl st=>(f sl st).bind fun p=>(g sl p.2).bind fun q=>(jf q.2 p.1 q.1 x).map fun st'=>(sl,st')
theorem DT[My](hu:X.A.units+64<cLine)(ho:QE X o f)(hi:QE X i g)
  (ha:∀v,assign (.Subscript o i pos) X.env v=(do
   let ov <- holding [v] (eval o X.env)
   let iv <- holding [v,ov] (eval i X.env)
   standAt pos
   holding [v,ov,iv] (setItem ov iv v)
   release [v,ov,iv] [])):QG X (.Subscript o i pos) (IN f g) :=
 PG_imp (Ep ho hi (Ap hu) ha) fun v σ H Q hq0=>by
  obtain⟨P,φ,sl,st,x,rs,s,rx,sl',st',e,k⟩:=hq0;obtain⟨q,e1,e2⟩:=zA e;obtain⟨r,e3,e4⟩:=zA e2;obtain⟨z,e5,e6⟩:=zH.mp e4;cases e6;exact⟨P,φ,sl,st,rs,s,q.1,q.2,e1,fun P1 φ1 H1 w f1 s1 r1=>⟨P1,φ1,sl,q.2,rs.frm f1,s1,r.1,r.2,e3,fun P2 φ2 H2 w2 f2 s2 r2=>⟨P2,φ2,r.2,q.1,r.1,x,st',s2,r1.frm f2,r2,(rx.frm f1).frm f2,e5,fun P3 φ3 H3 f3 s3=>k P3 φ3 H3 σ ((f1.trans f2).trans f3) s3 (((rs.frm f1).frm f2).frm f3)⟩⟩⟩
end
def hid(H:Hp)(p:Addr):Hp:=fun b=>if b=p then none else H b
theorem aZ(h:b≠p):hid H p b=H b:=yK h
theorem cS:hid H p p=none:=yL rfl
theorem Bm(h:H p=some o):ae (hid H p) p o=H:=by
 funext b;by_cases e:b=p
 ·subst e;rw[aq,h]
 ·rw[ad e,aZ e]
theorem sF:hid (ae H p o) p=hid H p:=by
 funext b;by_cases e:b=p
 ·subst e;rw[cS,cS]
 ·rw[aZ e,aZ e,ad e]
theorem ze(h:H p=none):hid H p=H:=by
 funext b;by_cases e:b=p
 ·subst e;rw[cS,h]
 ·rw[aZ e]
section
variable{mg:Gm}{P P':Pr}{φ φ':List Addr}{st st':aa}{H H':Hp}{p:Addr}
theorem _root_.L2.fe.sh{P:Addr}{pos:Pos}{q:Str}(h:fe (hid H p) P pos q):fe H P pos q:=by
 obtain⟨ps,e,t,c⟩:=h;have ne:∀{a o},hid H p a=some o->H a=some o:=fun {a o} e=>by
  by_cases z:a=p
  ·rw[z,cS]at e;cases e
  ·rw[aZ z]at e;exact e
 refine⟨ps,ne e,t,?_⟩;rcases c with c|⟨c',c1,c2⟩
 ·exact .inl c
 ·exact .inr ⟨c',c1,ne c2⟩
theorem _root_.L2.fe.hd{P:Addr}{pos:Pos}{q:Str}(h:fe H P pos q)(hl:∃vs,H p=some (.lst vs)):fe (hid H p) P pos q:=by
 obtain⟨ps,e,t,c⟩:=h;obtain⟨vs,hv⟩:=hl;refine⟨ps,by rw[aZ (tZ e hv fun z=>nomatch z)];exact e,t,?_⟩;rcases c with c|⟨c',c1,c2⟩
 ·exact .inl c
 ·exact .inr ⟨c',c1,by rw[aZ (tZ c2 hv fun z=>nomatch z)];exact c2⟩
theorem Sim.sh[My](s:Sim mg P φ st (hid H p))(o:HO)(ho:H p=some o):Sim mg P φ st H/\∀a,P a->P a/\H a=hid H p a:=by
 have nP:∀a,P a->a≠p:=fun a h e=>s.dom a h (by rw[e];exact cS)
 have nC:∀a∈φ,a≠p:=fun a h e=>s.cd a h (by rw[e];exact cS)
 have ex:∀a,P a->P a/\H a=hid H p a:=fun a h=>⟨h,(aZ (nP a h)).symm⟩
 exact⟨s.stay ex (fun a h=>(aZ (nC a h)).symm) (fun _ _ h=>h) (fun a h=>by rw[(ex a h).2];exact s.dom a h) fun t ht=>⟨(s.tb t ht).1.sh,(s.tb t ht).2⟩,ex⟩
theorem Frm.hd[My](s0:Sim mg P φ st (hid H p))(hl:∃vs,H p=some (.lst vs))(f:Frm P φ H P' φ' H')(s:Sim mg P' φ' st' H'):Frm P φ (hid H p) P' φ' (hid H' p)/\Sim mg P' φ' st' (hid H' p)/\(∀a,P' a->P' a/\hid H' p a=H' a)/\H' p=H p:=by
 have nP:∀a,P a->a≠p:=fun a h e=>s0.dom a h (by rw[e];exact cS)
 have nC:∀a∈φ,a≠p:=fun a h e=>s0.cd a h (by rw[e];exact cS)
 have hp:H p≠none:=fun z=>by obtain⟨vs,e⟩:=hl;rw[z]at e;cases e
 have kp:H' p=H p:=f.keep p hp (fun h=>nC p h rfl) fun ps z=>by obtain⟨vs,e⟩:=hl;rw[z]at e;cases e
 obtain⟨m,em,nm⟩:=f.new;have nP':∀a,P' a->a≠p:=fun a h e=>by
  rcases f.pn a h with z|z|z
  ·exact nP a z e
  ·exact hp (by rw[<- e];exact z)
  ·exact nC a z e
 have nC':∀a∈φ',a≠p:=fun a h e=>by
  rw[em]at h;rcases z7.mp h with z|z
  ·exact nC a z e
  ·exact hp (by rw[<- e];exact nm a z)
 have hn:∀a,hid H p a≠none->a≠p:=fun a h e=>h (by rw[e];exact cS)
 have ex:∀a,P' a->P' a/\hid H' p a=H' a:=fun a h=>⟨h,aZ (nP' a h)⟩
 refine⟨⟨fun a h=>⟨(f.ext a h).1,by rw[aZ (nP a h),aZ (nP a h)];exact(f.ext a h).2⟩,⟨m,em,fun a h=>?_⟩,fun a h n z=>?_,fun a h=>?_,fun a h=>?_,fun a o u h=>?_⟩,s.stay ex (fun a h=>aZ (nC' a h)) (fun _ _ h=>h) (fun a h=>by rw[(ex a h).2];exact s.dom a h) (fun t ht=>⟨(s.tb t ht).1.hd (by rw[kp];exact hl),(s.tb t ht).2⟩),ex,kp⟩
 ·rw[aZ (nC' a (by rw[em];exact zN _ h))];exact nm a h
 ·rw[aZ (hn a h),aZ (hn a h)]
  rw[aZ (hn a h)]at z;rw[aZ (hn a h)]at h;exact f.keep a h n z
 ·rcases f.pn a h with z|z|z
  ·exact .inl z
  ·exact .inr (.inl (by rw[aZ (nP' a h)];exact z))
  ·exact .inr (.inr z)
 ·rw[aZ (hn a h)]
  rw[aZ (hn a h)]at h;exact f.sm a h
 ·have ne:=hn a (by rw[h];exact fun z=>nomatch z)
  rw[aZ ne]at h ⊢;exact f.fz a o u h
end
def f8(gd:Gd)(g:GF)(t:TF)(f:EF)(sl:Sl):List AV->aa->Option (List AV×aa)
 |[],st=>if bQ gd st=true then some ([],st) else none
 |x::xs,st=>if bQ gd st=true then(g x sl st).bind fun p=>(t p.1 p.2).bind fun q=>if q.1=true then(f p.1 q.2).bind fun r=>(f8 gd g t f sl xs r.2).map fun z=>(r.1::z.1,z.2) else f8 gd g t f sl xs q.2 else none
def Aw(k:Nat)(it:IF)(g:GF)(t:TF)(f:EF):NF:=fun sl st=>(it sl st).bind fun p=>if b8 p.1.Mz.length=true then f8 p.1.gd g t f (sl++List.replicate k none) p.1.Mz p.2 else none
def Ij:TF:=fun _ st=>some (true,st)
theorem MH.ext0(h:MH mg P H φ sl σ)(k:Nat):MH mg P H φ (sl++List.replicate k none) (σ++List.replicate k none):=by
 refine⟨by rw[zY,zY,h.1,List.length_replicate,List.length_replicate],fun i v e=>?_⟩;have hi:i<sl.length:=by
  rcases yX i sl.length with z|z
  ·exact z
  ·rw[yA z,List.getElem?_replicate]at e
   split at e<;>cases e
 rw[zQ hi]at e;rw[zQ (by rw[<- h.1];exact hi)];exact h.2 i v e
def m9(n:Nat)(g:GF):Prop:=∀x sl st sl' st',g x sl st=some (sl',st')->sl'.length=sl.length/\∀j,j<n->sl'[j]?=sl[j]?
theorem MH.back{k:Nat}(h:MH mg P H φ sl' σ)(hl:sl'.length=(sl++List.replicate k none).length)(hj:∀j,j<sl.length->sl'[j]?=(sl++List.replicate k none)[j]?):MH mg P H φ (sl++List.replicate k none) σ:=by
 refine⟨by rw[<- hl];exact h.1,fun i v e=>?_⟩;have hi:i<sl.length:=by
  rcases yX i sl.length with z|z
  ·exact z
  ·rw[yA z,List.getElem?_replicate]at e
   split at e<;>cases e
 exact h.2 i v (by rw[hj i hi];exact e)
theorem E7[My]{n k:Nat}(hk:m9 n g)(hn:σ.length=n)(h:rN mg (Aw k it g t f) σ H Q):Dj k (rI mg it) (rG mg g) (rT mg t) (rE mg f) σ H Q:=by
 obtain⟨P,φ,sl,st,rs,s,out,stE,ef,kk⟩:=h;obtain⟨q,e1,e2⟩:=zA ef;split at e2
 ·rename_i hz
  refine⟨P,φ,sl,st,rs,s,q.1,q.2,e1,fun P1 φ1 H1 J f1 s1 ij=>fun p hp=>?_⟩;have hsl:sl.length=n:=by rw[rs.1];exact hn
  refine⟨fun i m σ' H'=>m=q.1.Mz.length-i/\i<=q.1.Mz.length/\∃P' φ' st' xs vs zs,Frm P1 φ1 H1 P' φ' (hid H' p)/\Sim mg P' φ' st' (hid H' p)/\MH mg P' (hid H' p) φ' (sl++List.replicate k none) σ'/\H' p=some (.lst vs)/\MB mg P' (hid H' p) φ' xs vs/\xs.length<=i /\
    f8 q.1.gd g t f (sl++List.replicate k none) (q.1.Mz.drop i) st'=some (zs,stE)/\out=xs++zs,⟨_,rfl,Nat.zero_le _,P1,φ1,q.2,[],[],out,?_⟩,?_⟩
  ·have e:hid (ae H1 p (.lst [])) p=H1:=by rw[sF,ze hp]
   rw[e];exact⟨Frm.refl,s1,(rs.frm f1).ext0 k,aq,bh,zS _,by simpa using e2,rfl⟩
  ·rintro i m σ' H' ⟨rfl,hle,P2,φ2,st2,xs,vs,zs,f2,s2,rs2,hv,rx,hlen,eg,eo⟩
   obtain⟨s2v,ex2⟩:=s2.sh _ hv;have rs2v:MH mg P2 H' φ2 (sl++List.replicate k none) σ':=⟨rs2.1,fun i v e=>let⟨w,e',r⟩:=rs2.2 i v e;⟨w,e',r.mono ex2 fun _ _ z=>z⟩⟩;have hpn:H' p≠none:=by rw[hv];exact fun z=>nomatch z
   -- the iterator's rules hold at the whole heap: it keeps what is out of sight as it is
   have f2v:Frm P1 φ1 H1 P2 φ2 H':=by
    refine⟨fun a h=>⟨(f2.ext a h).1,?_⟩,f2.new,fun a h n z=>?_,fun a h=>f2.pn a h,fun a h=>?_,fun a o u h=>?_⟩
    ·have ne:a≠p:=fun e=>s1.dom a h (by rw[e];exact hp)
     rw[<- aZ (H:=H') ne];exact(f2.ext a h).2
    ·have ne:a≠p:=fun e=>h (by rw[e];exact hp)
     rw[<- aZ (H:=H') ne];exact f2.keep a h n z
    ·have ne:a≠p:=fun e=>h (by rw[e];exact hp)
     rw[<- aZ (H:=H') ne];exact f2.sm a h
    ·have ne:a≠p:=aT h hp
     rw[<- aZ (H:=H') ne];exact f2.fz a o u h
   rcases yX i q.1.Mz.length with hi|hi
   ·right
    rw[List.drop_eq_getElem_cons hi]at eg;simp only[f8]at eg;split at eg
    ·rename_i hgd
     obtain⟨go,yl⟩:=ij.go P2 φ2 H' st2 i _ f2v s2v hgd (zI hi);refine⟨go,fun x H3 hy=>?_⟩;obtain⟨P3,f3,s3,r3⟩:=yl x H3 hy;obtain⟨q4,e4,e5⟩:=zA eg;obtain⟨q6,e6,e7⟩:=zA e5;obtain⟨kl,kj⟩:=hk _ _ _ _ _ e4;refine⟨P3,φ2,sl++List.replicate k none,st2,q.1.Mz[i],rs2v.frm f3,s3,r3,q4.1,q4.2,e4,fun P4 φ4 H4 σ4 f4 s4 rs4=>⟨P4,φ4,q4.1,q4.2,rs4,s4,q6.1,q6.2,e6,fun P5 φ5 H5 c f5 s5 r5=>?_⟩⟩;cases r5;have f35:=(f3.trans f4).trans f5;have back:∀{P6:Pr}{φ6:List Addr}{H6:Hp},Frm P5 φ5 H5 P6 φ6 H6->MH mg P6 H6 φ6 (sl++List.replicate k none) σ4:=fun f6=>((rs4.frm f5).frm f6).back kl fun j hj=>kj j oM
     cases hc:q6.1 with
     |true =>
      rw[hc]at e7;simp only[if_true]at e7 ⊢;obtain⟨q8,e8,e9⟩:=zA e7;obtain⟨z,e10,e11⟩:=zH.mp e9;cases e11;refine⟨P5,φ5,q4.1,q6.2,rs4.frm f5,s5,q8.1,q8.2,e8,fun P6 φ6 H6 y f6 s6 r6=>?_⟩;obtain⟨fh,sh,exh,hpe⟩:=Frm.hd s2 ⟨_,hv⟩ (f35.trans f6) s6;refine⟨vs,by rw[hpe];exact hv,?_,q.1.Mz.length-(i+1),by lia,rfl,hi,P6,φ6,q8.2,xs++[q8.1],vs++[y],z.1,?_⟩
      ·rw[<- rx.length]
       have h1:=zV hz;have h2:(1000000:Nat)<sizeLine:=by decide
       lia
      ·have eh:hid (ae H6 p (.lst (vs++[y]))) p=hid H6 p:=sF
       rw[eh];refine⟨f2.trans fh,sh,?_,aq,(rx.frm fh).app (aS (r6.mono exh fun _ _ z=>z) bh),by rw[zY];simp;lia,e10,by rw[eo,yQ];rfl⟩
       have:=back f6
       exact⟨this.1,fun i v e=>let⟨w,e',r⟩:=this.2 i v e;⟨w,e',r.mono exh fun _ _ z=>z⟩⟩
     |false =>
      rw[hc]at e7;simp only[yE,if_false]at e7 ⊢;obtain⟨fh,sh,exh,hpe⟩:=Frm.hd s2 ⟨_,hv⟩ f35 s5;refine⟨q.1.Mz.length-(i+1),by lia,rfl,hi,P5,φ5,q6.2,xs,vs,zs,f2.trans fh,sh,?_,by rw[hpe];exact hv,rx.frm fh,by lia,e7,eo⟩
      have:=back Frm.refl
      exact⟨this.1,fun i v e=>let⟨w,e',r⟩:=this.2 i v e;⟨w,e',r.mono exh fun _ _ z=>z⟩⟩
    ·cases eg
   ·left
    have ei:i=q.1.Mz.length:=Nat.le_antisymm hle hi;subst ei;rw[List.drop_length]at eg;simp only[f8]at eg;split at eg
    ·rename_i hgd
     cases eg;refine⟨ij.stop P2 φ2 H' _ f2v s2v hgd,?_⟩
     have:=kk P2 φ2 (hid H' p) p vs (f1.trans f2) s2 cS (by rw[eo,List.append_nil];exact rx)
     rw[Bm hv]at this;exact this
    ·cases eg
 ·cases e2
def sU[My](X:Cx)(ifs:List Expr)(t:TF):Prop:=sX X ifs (rT X.gm t)
section
variable{X:Cx}{elt iter tg:Expr}{ifs:List Expr}{N':List Str}{scope:Scope}{pos:Pos}{it:IF}{g:GF}{t:TF}{f:EF}
theorem BQ[My]:sU X [] Ij:=fun Mv s σ H Q I ⟨P,φ,sl,st,rs,sm,k⟩=>B9 Mv s σ H Q I (k.pure sm rfl)
theorem BP[My](h:QT X e t):sU X [e] t:=B8 h
theorem F4{e:Expr}{t t':TE}(h:PE X e t)(i:∀σ H Q,σ.length=X.N.length->t' σ H Q->t σ H Q):PE X e t':=fun Mv s σ H Q I h'=>h Mv s σ H Q I (i σ H Q I.len h')
theorem F2{st:Stmt}{t t':TS}(h:PS X st t)(i:∀D σ H,σ.length=X.N.length->t' D σ H->t D σ H):PS X st t':=fun Mv s σ H D I h'=>h Mv s σ H D I (i D σ H I.len h')
theorem Au[My](hc:X.calm=true)(T:iN X N' scope)(hi:QI X tg iter it)(hg:∀cl s H fp Mv,QG (bV X N' scope cl s H fp Mv) tg g)(ht:∀cl s H fp Mv,sU (bV X N' scope cl s H fp Mv) ifs t)
  (he:∀cl s H fp Mv,QE (bV X N' scope cl s H fp Mv) elt f) (hk:m9 X.N.length g) (hs:∀x,foldedSetIterable iter X.env x=pure x):QN X (.ListComp elt [⟨tg,iter,ifs,0⟩] scope pos) (Aw (N'.length-X.N.length) it g t f) :=
 F4 (GV (g:=rG X.gm g) (tt:=rT X.gm t) (te:=rE X.gm f) hc T hi (fun cl s H fp Mv=>hg cl s H fp Mv) (fun cl s H fp Mv=>ht cl s H fp Mv) (fun cl s H fp Mv=>he cl s H fp Mv) hs) fun σ H Q hl h=>E7 hk hl h
end
inductive Out where
 |nx (sl:Sl) (st:aa)|rt (v:AV) (st:aa)|bk (sl:Sl) (st:aa)|ct (sl:Sl) (st:aa)
abbrev SF:=Sl->aa->Option Out
def ThO[My](mg:Gm)(P:Pr)(φ:List Addr)(H:Hp)(D:iM):Out->Prop
 |.nx sl st=>∀P' φ' H' σ',Frm P φ H P' φ' H'->Sim mg P' φ' st H'->MH mg P' H' φ' sl σ'->D.nx σ' H'
 |.bk sl st=>∀P' φ' H' σ',Frm P φ H P' φ' H'->Sim mg P' φ' st H'->MH mg P' H' φ' sl σ'->D.bk σ' H'
 |.ct sl st=>∀P' φ' H' σ',Frm P φ H P' φ' H'->Sim mg P' φ' st H'->MH mg P' H' φ' sl σ'->D.ct σ' H'
 |.rt v st=>∀P' φ' H' w,Frm P φ H P' φ' H'->Sim mg P' φ' st H'->RA mg P' H' φ' v w->D.rt w H'
def KO[My](mg:Gm)(P:Pr)(φ:List Addr)(H:Hp)(r:Option Out)(D:iM):Prop:=∃o,r=some o/\ThO mg P φ H D o
def rS[My](mg:Gm)(f:SF):TS:=fun D σ H=>∃P φ sl st,MH mg P H φ sl σ/\Sim mg P φ st H/\KO mg P φ H (f sl st) D
def QS[My](X:Cx)(st:Stmt)(f:SF):Prop:=PS X st (rS X.gm f)
def ld[My](X:Cx)(sts:List Stmt)(f:SF):Prop:=PSs X sts (rS X.gm f)
theorem ThO.frm[My](h:ThO mg P φ H D o)(f:Frm P φ H P1 φ1 H1):ThO mg P1 φ1 H1 D o:=by
 cases o with
 |nx sl st=>exact fun P' φ' H' σ' f'=>h P' φ' H' σ' (f.trans f')
 |bk sl st=>exact fun P' φ' H' σ' f'=>h P' φ' H' σ' (f.trans f')
 |ct sl st=>exact fun P' φ' H' σ' f'=>h P' φ' H' σ' (f.trans f')
 |rt v st=>exact fun P' φ' H' σ' f'=>h P' φ' H' σ' (f.trans f')
theorem KO.bindE[My]{α β:Type}{Ra:Gm->Pr->Hp->List Addr->α->β->Prop}{m:Option (α×aa)}{k:α×aa->Option Out}(h:KO mg P φ H (m.bind k) D) :
  KG mg Ra P φ H m fun b H1=>∃P1 φ1 st1 a,Frm P φ H P1 φ1 H1/\Sim mg P1 φ1 st1 H1/\Ra mg P1 H1 φ1 a b/\KO mg P1 φ1 H1 (k (a,st1)) D:=by
 obtain⟨o,e,q⟩:=h;cases m with
 |none=>cases e
 |some p=>exact⟨p.1,p.2,rfl,fun P1 φ1 H1 b f s r=>⟨P1,φ1,p.2,p.1,f,s,r,o,e,q.frm f⟩⟩
theorem KO.nx[My]{mg:Gm}{P:Pr}{φ:List Addr}{H:Hp}{sl:Sl}{st:aa}{D:iM}{σ:St}(h:KO mg P φ H (some (.nx sl st)) D)(s:Sim mg P φ st H)(r:MH mg P H φ sl σ):D.nx σ H:=by
 obtain⟨o,e,q⟩:=h;cases e;exact q P φ H σ Frm.refl s r
theorem KO.no[My](h:KO mg P φ H none D):False:=by obtain⟨_,e,_⟩:=h;cases e
section
variable{X:Cx}{st:Stmt}{rest:List Stmt}{e c tg:Expr}{pos:Pos}{s t:SF}{f:EF}{g:GF}{b:TF}
def Iu:SF:=fun sl st=>some (.nx sl st)
def Iq(s t:SF):SF:=fun sl st=>(s sl st).bind fun o=>match o with
 |.nx sl st=>t sl st
 |o=>some o
theorem BH[My]:ld X [] Iu:=PSs_imp B0 fun D σ H ⟨P,φ,sl,st,rs,s,k⟩=>k.nx s rs
theorem xN[My](h1:QS X st s)(h2:ld X rest t):ld X (st::rest) (Iq s t):=PSs_imp (xT h1 h2) fun D σ H hq0=>by
 obtain⟨P,φ,sl,st,rs,sm,o,e,q⟩:=hq0;obtain⟨o1,e1,e2⟩:=zA e;refine⟨P,φ,sl,st,rs,sm,o1,e1,?_⟩;cases o1 with
 |nx sl1 st1=>exact fun P' φ' H' σ' f' s' rs'=>⟨P',φ',sl1,st1,rs',s',o,e2,q.frm f'⟩
 |bk sl1 st1=>cases e2;exact q
 |ct sl1 st1=>cases e2;exact q
 |rt v st1=>cases e2;exact q
def Dt:SF:=fun _ _=>none
theorem BK[My]:QS X st Dt:=PS_imp xV fun D σ H ⟨P,φ,sl,st,rs,s,k⟩=>k.no
def Iz(f:EF):SF:=fun sl st=>(f sl st).bind fun p=>some (.nx sl p.2)
theorem BJ[My](he:QE X e f)(hs:swapsWith e none pos.line X.env=pure false):QS X (.Expr e pos) (Iz f):=PS_imp (B4 he hs) fun D σ H ⟨P,φ,sl,st,rs,s,k⟩=>⟨P,φ,sl,st,rs,s,by
 obtain⟨a,st',e1,q⟩:=k.bindE (Ra:=RA);refine⟨a,st',e1,fun P1 φ1 H1 w f1 s1 r1=>?_⟩;obtain⟨P2,φ2,st2,x,f2,s2,r2,k2⟩:=q P1 φ1 H1 w f1 s1 r1;exact k2.nx s2 (rs.frm f2)⟩
def Ir(f:EF):SF:=fun sl st=>(f sl st).bind fun p=>some (.rt p.1 p.2)
theorem DH[My](he:QE X e f):QS X (.Return (some e) pos) (Ir f):=PS_imp (Ei he) fun D σ H ⟨P,φ,sl,st,rs,s,k⟩=>⟨P,φ,sl,st,rs,s,by
 obtain⟨a,st',e1,q⟩:=k.bindE (Ra:=RA);refine⟨a,st',e1,fun P1 φ1 H1 w f1 s1 r1=>?_⟩;obtain⟨P2,φ2,st2,x,f2,s2,r2,o,eo,q2⟩:=q P1 φ1 H1 w f1 s1 r1;cases eo;exact q2 P2 φ2 H1 w Frm.refl s2 r2⟩
def Iw(b:TF)(s t:SF):SF:=fun sl st=>(b sl st).bind fun p=>if p.1=true then s sl p.2 else t sl p.2
theorem GD[My](hc:QT X c b)(ha:ld X x s)(hb:ld X y t):QS X (.If c x y pos) (Iw b s t):=PS_imp (GQ hc ha hb) fun D σ H ⟨P,φ,sl,st,rs,sm,k⟩=>⟨P,φ,sl,st,rs,sm,by
 obtain⟨a,st',e1,q⟩:=k.bindE (Ra:=RB);refine⟨a,st',e1,fun P1 φ1 H1 w f1 s1 r1=>?_⟩;obtain⟨P2,φ2,st2,x,f2,s2,r2,k2⟩:=q P1 φ1 H1 w f1 s1 r1;cases r2;cases w with
 |true=>exact⟨P2,φ2,sl,st2,rs.frm f2,s2,k2⟩
 |false=>exact⟨P2,φ2,sl,st2,rs.frm f2,s2,k2⟩⟩
def vB(f:EF)(g:GF):SF:=fun sl st=>(f sl st).bind fun p=>(g p.1 sl p.2).bind fun q=>some (.nx q.1 q.2)
theorem uU[My](h:rS mg (vB f g) D σ H):tJ (rE mg f) (rG mg g) D σ H:=by
 obtain⟨P,φ,sl,st,rs,s,o,e,q⟩:=h;obtain⟨p,e1,e2⟩:=zA e;obtain⟨r,e3,e4⟩:=zA e2;cases e4;exact⟨P,φ,sl,st,rs,s,p.1,p.2,e1,fun P1 φ1 H1 w f1 s1 r1=>⟨P1,φ1,sl,p.2,p.1,rs.frm f1,s1,r1,r.1,r.2,e3,fun P2 φ2 H2 σ2 f2 s2 rs2=>q P2 φ2 H2 σ2 (f1.trans f2) s2 rs2⟩⟩
theorem vG[My](he:QE X e f)(hg:QG X tg g)(hs:swapsWithSole [tg] e pos.line X.env=pure false)(hw:swappedStores [tg] e X.env=pure none)(h1:(assignEach [tg] X.env).map (·.2)=[assign tg X.env]):QS X (.Assign [tg] e pos) (vB f g) :=
 PS_imp (Ek he hg hs hw h1) fun D σ H h=>uU h
theorem EN[My]{i:Nat}(h:rG mg (wB i) v σ H Q):mI i v σ H Q:=by
 obtain⟨P,φ,sl,st,x,rs,s,rx,k⟩:=h;exact k.pure s (rs.set rx i)
theorem vF[My]{i:Nat}(hN:X.N.Nodup)(hi:X.N[i]?=some x)(hx:Loc X.env.scope x)(he:QE X e f)(hs:swapsWith e (some (.Name x pos')) pos.line X.env=pure false)(hf:X.fn x=true\/X.env.scope.names.lookup x=some .local) :
  QS X (.Assign [.Name x pos'] e pos) (vB f (wB i)):=PS_imp (Eh hN hi hx he hs hf) fun D σ H h=>by
 obtain⟨P,φ,sl,st,rs,s,p1,p2,e1,k⟩:=uU h;exact⟨P,φ,sl,st,rs,s,p1,p2,e1,fun P1 φ1 H1 w f1 s1 r1=>EN (k P1 φ1 H1 w f1 s1 r1)⟩
def AX(m:Bool)(f:NF):EF:=if m=true then K7 f else K8 f
theorem EL[My]{mg:Gm}{m:Bool}{f:NF}{σ:St}{H:Hp}{Q:VK}(h:rE mg (AX m f) σ H Q):rN mg f σ H Q:=by
 obtain⟨P,φ,sl,st,rs,s,v,st',ev,k⟩:=h;cases m with
 |true =>
  obtain⟨q,e1,e2⟩:=zA ev;cases e2;refine⟨P,φ,sl,st,rs,s,q.1,q.2,e1,fun P1 φ1 H1 p vs f1 s1 hp r1=>?_⟩;obtain⟨f3,s3,r3⟩:=EQ s1 hp r1;exact k P1 _ _ _ (f1.trans f3) s3 r3
 |false =>
  obtain⟨q,e1,e2⟩:=zA ev;split at e2
  ·rename_i hr
   cases e2;refine⟨P,φ,sl,st,rs,s,q.1,q.2,e1,fun P1 φ1 H1 p vs f1 s1 hp r1=>?_⟩;obtain⟨P3,f3,s3,r3⟩:=Fv s1 hp hr r1;exact k P3 φ1 _ _ (f1.trans f3) s3 r3
  ·cases e2
theorem gC[My]{m:Bool}{f:NF}(h:QN X e f):QE X e (AX m f):=PE_imp h fun _ _ _ q=>EL q
theorem vE[My]{i:Nat}{y:Str}{py:Pos}{elt iter tg:Expr}{ifs:List Expr}{N':List Str}{scope:Scope}{pos spos:Pos}{it:IF}{g:GF}{t:TF}{f:EF}{m:Bool}(hN:X.N.Nodup)(hiN:X.N[i]?=some y)(hx:Loc X.env.scope y)
  (hsw:swapsWith (.ListComp elt [⟨tg,iter,ifs,0⟩] scope pos) (some (.Name y py)) spos.line X.env=pure true)
  (hc:X.calm=true) (T:iN X N' scope) (hi:QI X tg iter it) (hg:∀cl s H fp Mv,QG (bV X N' scope cl s H fp Mv) tg g) (ht:∀cl s H fp Mv,sU (bV X N' scope cl s H fp Mv) ifs t)
  (he:∀cl s H fp Mv,QE (bV X N' scope cl s H fp Mv) elt f) (hk:m9 X.N.length g) (hs:∀x,foldedSetIterable iter X.env x=pure x) (hf:X.fn y=true\/X.env.scope.names.lookup y=some .local) :
  QS X (.Assign [.Name y py] (.ListComp elt [⟨tg,iter,ifs,0⟩] scope pos) spos) (vB (AX m (Aw (N'.length-X.N.length) it g t f)) (wB i)) :=
 F2 (vI (g:=rG X.gm g) (tt:=rT X.gm t) (te:=rE X.gm f) hN hiN hx hsw hc T hi (fun cl s H fp Mv=>hg cl s H fp Mv) (fun cl s H fp Mv=>ht cl s H fp Mv) (fun cl s H fp Mv=>he cl s H fp Mv) hs hf) fun D σ H hl h=>by
  obtain⟨P,φ,sl,st,rs,s,p1,p2,e1,k⟩:=uU h;exact E7 hk hl (EL (m:=m) ⟨P,φ,sl,st,rs,s,p1,p2,e1,fun P1 φ1 H1 w f1 s1 r1=>EN (k P1 φ1 H1 w f1 s1 r1)⟩)
def uQ(o:Operator)(_:aa):AV->AV->Option AV
 |.int a,.int b=>match o with
  |.Add=>some (.int (a+b))
  |.Sub=>some (.int (a-b))
  |_=>none
 |_,_=>none
theorem JU[My](o:Operator):A8 X o (fun x y H Q=>∃P φ st a b c,Sim X.gm P φ st H/\RA X.gm P H φ a x/\RA X.gm P H φ b y/\uQ o st a b=some c/\∀w,RA X.gm P H φ c w->Q w H):=by
 rintro Mv s σ H x y v u Q I rx ry ⟨P,φ,st,a,b,c,sm,ra,rb,e,k⟩;cases a <;> cases b <;> simp only [uQ] at e <;> first | (cases e;done) | skip
 rename_i i j;simp only [RA] at ra rb;subst ra;subst rb;cases o <;> first | (cases e;done) | skip
 ·cases e
  exact Fh Mv s σ H _ _ v u Q I rx ry ⟨i,j,rfl,rfl,k _ (by simp only[RA])⟩
 ·cases e
  exact Fg Mv s σ H _ _ v u Q I rx ry ⟨i,j,rfl,rfl,k _ (by simp only[RA])⟩
theorem Hn[My]:Ac X (fun x y H Q=>∃P φ st a b c,Sim X.gm P φ st H/\RA X.gm P H φ a x/\RA X.gm P H φ (.int b) y/\(∃xs,bu st a=some xs/\fC xs b=some c)/\∀w,RA X.gm P H φ c w->Q w H):=by
 rintro Mv s σ H x y v u Q I rx ry ⟨P,φ,st,a,b,c,sm,ra,rb,⟨xs,e1,e2⟩,k⟩;obtain⟨p,vs,rfl,d1,q1⟩:=ra.ls sm e1;obtain⟨w,e3,r3⟩:=n9 q1 e2;simp only[RA]at rb;exact zh Mv s σ H _ y v u Q I rx ry ⟨p,vs,b,w,rfl,rb,d1,e3,k w r3⟩
def tN(o:Operator)(f g h:EF):SF:=fun sl st=>(f sl st).bind fun p=>(g sl p.2).bind fun q=>match q.1 with
 |.int i=>(bu q.2 p.1).bind fun xs=>(fC xs i).bind fun x=>(h sl q.2).bind fun r=>(uQ o r.2 x r.1).bind fun z=>(jf r.2 p.1 (.int i) z).bind fun st'=>some (.nx sl st')
 |_=>none
theorem BL[My]{a i:Expr}{f g h:EF}{o:Operator}{tpos:Pos}(hu:X.A.units+64<cLine)(ho:QE X a f)(hi:QE X i g)(he:QE X e h)
  (ha:∀ov iv new,augStore i ov iv new=(do holding [new,ov,iv] (setItem ov iv new);release [new,ov,iv] [];pure .next)):QS X (.AugAssign (.Subscript a i tpos) o e pos) (tN o f g h) :=
 PS_imp (B5 ho hi Hn he (JU o) (Ap hu) ha) fun D σ H hq0=>by
  obtain⟨P,φ,sl,st,rs,s,out,eo,q⟩:=hq0;obtain⟨p,e1,e2⟩:=zA eo;obtain⟨r,e3,e4⟩:=zA e2;split at e4
  ·rename_i j hj
   obtain⟨xs,e5,e6⟩:=zA e4;obtain⟨x,e7,e8⟩:=zA e6;obtain⟨t,e9,e10⟩:=zA e8;obtain⟨z,e11,e12⟩:=zA e10;obtain⟨st',e13,e14⟩:=zA e12;cases e14;refine⟨P,φ,sl,st,rs,s,p.1,p.2,e1,fun P1 φ1 H1 w1 f1 s1 r1=>⟨P1,φ1,sl,p.2,rs.frm f1,s1,r.1,r.2,e3,fun P2 φ2 H2 w2 f2 s2 r2=>?_⟩⟩;rw[hj]at r2;refine⟨P2,φ2,r.2,p.1,j,x,s2,r1.frm f2,r2,⟨xs,e5,e7⟩,fun w3 r3=>⟨P2,φ2,sl,r.2,(rs.frm f1).frm f2,s2,t.1,t.2,e9,fun P3 φ3 H3 w4 f3 s3 r4=>⟨P3,φ3,t.2,x,t.1,z,s3,r3.frm f3,r4,e11,fun w5 r5=>⟨P3,φ3,t.2,p.1,.int j,z,st',s3,(r1.frm f2).frm f3,r2.frm f3,r5,e13,fun P4 φ4 H4 f4 s4=>?_⟩⟩⟩⟩;exact q P4 φ4 H4 σ (((f1.trans f2).trans f3).trans f4) s4 ((((rs.frm f1).frm f2).frm f3).frm f4)
  ·cases e4
end
def cT(gd:Gd)(g:GF)(s:SF):List AV->Sl->aa->Option Out
 |[],sl,st=>if bQ gd st=true then some (.nx sl st) else none
 |x::xs,sl,st=>if bQ gd st=true then(g x sl st).bind fun p=>(s p.1 p.2).bind fun o=>match o with
  |.nx sl st=>cT gd g s xs sl st
  |.ct sl st=>cT gd g s xs sl st
  |.bk sl st=>some (.nx sl st)
  |.rt v st=>some (.rt v st) else none
def Iy(it:IF)(g:GF)(s:SF):SF:=fun sl st=>(it sl st).bind fun p=>cT p.1.gd g s p.1.Mz sl p.2
def cO(t:TF)(s:SF):Nat->Sl->aa->Option Out
 |0,_,_=>none
 |n+1,sl,st=>(t sl st).bind fun p=>if p.1=true then(s sl p.2).bind fun o=>match o with
  |.nx sl st=>cO t s n sl st
  |.ct sl st=>cO t s n sl st
  |.bk sl st=>some (.nx sl st)
  |.rt v st=>some (.rt v st) else some (.nx sl p.2)
open Classical in
def kD(t:TF)(s:SF):SF:=fun sl st=>if h:∃n,(cO t s n sl st).isSome=true then cO t s (Classical.choose h) sl st else none
theorem oj:∀{n m:Nat}{sl:Sl}{st:aa}{o:Out},n<=m->cO t s n sl st=some o->cO t s m sl st=some o:=by
 intro n
 induction n with
 |zero=>intro m sl st o _ h;cases h
 |succ n ih =>
  intro m sl st o hm h;cases m with
  |zero=>lia
  |succ m =>
   simp only[cO]at h ⊢;obtain⟨p,e1,e2⟩:=zA h;rw[e1,bind_some];split at e2
   ·rename_i hc
    rw[yL hc];obtain⟨q,e3,e4⟩:=zA e2;rw[e3,bind_some];cases q with
    |nx sl st=>exact ih oM e4
    |ct sl st=>exact ih oM e4
    |bk sl st=>exact e4
    |rt v st=>exact e4
   ·rename_i hc
    rw[yK hc];exact e2
theorem lZ{t:TF}{s:SF}{n:Nat}{sl:Sl}{st:aa}{o:Out}(h:cO t s n sl st=some o):kD t s sl st=some o:=by
 have hx:∃n,(cO t s n sl st).isSome=true:=⟨n,by rw[h];rfl⟩;unfold kD;rw[dif_pos hx];obtain⟨o',e'⟩:=Option.isSome_iff_exists.mp (Classical.choose_spec hx);have h1:=oj (Nat.le_max_left n (Classical.choose hx)) h;have h2:=oj (Nat.le_max_right n (Classical.choose hx)) e';rw[e',<- h1,h2]
theorem vT{t:TF}{s:SF}{sl:Sl}{st:aa}{o:Out}(h:kD t s sl st=some o):∃n,cO t s n sl st=some o:=by
 unfold kD at h;split at h
 ·exact⟨_,h⟩
 ·cases h
section
variable{X:Cx}{tg iter c:Expr}{body:List Stmt}{pos:Pos}{it:IF}{g:GF}{s:SF}{t:TF}
theorem DI[My](hp:PassesOwn (model X.prog X.w) X.A X.env X.xe)(hc:X.calm=true)(hi:QI X tg iter it)(hg:QG X tg g)(hb:ld X body s)(hs:∀x,foldedSetIterable iter X.env x=pure x):QS X (.For tg iter body [] pos) (Iy it g s) :=
 PS_imp (vJ hp hc hi hg hb hs) fun D σ H hq0=>by
  obtain⟨P,φ,sl,st,rs,sm,o,e,q⟩:=hq0;obtain⟨p,e1,e2⟩:=zA e;refine⟨P,φ,sl,st,rs,sm,p.1,p.2,e1,fun P1 φ1 H1 J f1 s1 ij=>?_⟩;have q1:=q.frm f1;refine⟨fun i m σ' H'=>m=p.1.Mz.length-i/\i<=p.1.Mz.length/\∃P' φ' sl' st',Frm P1 φ1 H1 P' φ' H'/\Sim X.gm P' φ' st' H'/\MH X.gm P' H' φ' sl' σ'/\cT p.1.gd g s (p.1.Mz.drop i) sl' st'=some o,⟨_,rfl,Nat.zero_le _,P1,φ1,sl,p.2,Frm.refl,s1,rs.frm f1,by simpa using e2⟩,?_⟩;rintro i m σ' H' ⟨rfl,hle,P2,φ2,sl2,st2,f2,s2,rs2,eg⟩;rcases yX i p.1.Mz.length with hlt|hge
  ·right
   rw[List.drop_eq_getElem_cons hlt]at eg;simp only[cT]at eg;split at eg
   ·rename_i hgd
    obtain⟨go,yl⟩:=ij.go P2 φ2 H' st2 i _ f2 s2 hgd (zI hlt);obtain⟨q4,e4,e5⟩:=zA eg;obtain⟨o1,e6,e7⟩:=zA e5;refine⟨go,fun σ' H'=>∃P' φ' sl' st',Frm P1 φ1 H1 P' φ' H'/\Sim X.gm P' φ' st' H'/\MH X.gm P' H' φ' sl' σ'/\cT p.1.gd g s (p.1.Mz.drop (i+1)) sl' st'=some o,fun σ' H' z=>⟨_,by lia,rfl,hlt,z⟩,fun x H3 hy=>?_⟩;obtain⟨P3,f3,s3,r3⟩:=yl x H3 hy;refine⟨P3,φ2,sl2,st2,_,rs2.frm f3,s3,r3,q4.1,q4.2,e4,fun P4 φ4 H4 σ4 f4 s4 rs4=>⟨P4,φ4,q4.1,q4.2,rs4,s4,o1,e6,?_⟩⟩;have fa:=(f2.trans f3).trans f4;cases o1 with
    |nx sl5 st5=>exact fun P5 φ5 H5 σ5 f5 s5 rs5=>⟨P5,φ5,sl5,st5,fa.trans f5,s5,rs5,e7⟩
    |ct sl5 st5=>exact fun P5 φ5 H5 σ5 f5 s5 rs5=>⟨P5,φ5,sl5,st5,fa.trans f5,s5,rs5,e7⟩
    |bk sl5 st5=>cases e7;exact fun P5 φ5 H5 σ5 f5 s5 rs5=>q1 P5 φ5 H5 σ5 (fa.trans f5) s5 rs5
    |rt v st5=>cases e7;exact fun P5 φ5 H5 w f5 s5 r5=>q1 P5 φ5 H5 w (fa.trans f5) s5 r5
   ·cases eg
  ·left
   have ei:i=p.1.Mz.length:=Nat.le_antisymm hle hge;subst ei;rw[List.drop_length]at eg;simp only[cT]at eg;split at eg
   ·rename_i hgd
    cases eg;exact⟨ij.stop P2 φ2 H' _ f2 s2 hgd,q1 P2 φ2 H' σ' f2 s2 rs2⟩
   ·cases eg
theorem xO[My](hp:PassesOwn (model X.prog X.w) X.A X.env X.xe)(hc:QT X c t)(hb:ld X body s):QS X (.While c body [] pos) (kD t s) :=
 PS_imp (xU hp hc hb) fun D σ H hq0=>by
  obtain⟨P,φ,sl,st,rs,sm,o,e,q⟩:=hq0;obtain⟨n0,e0⟩:=vT e;refine⟨fun m σ' H'=>∃P' φ' sl' st',Frm P φ H P' φ' H'/\Sim X.gm P' φ' st' H'/\MH X.gm P' H' φ' sl' σ'/\cO t s m sl' st'=some o,⟨n0,P,φ,sl,st,Frm.refl,sm,rs,e0⟩,?_⟩;rintro m σ' H' ⟨P2,φ2,sl2,st2,f2,s2,rs2,eg⟩;cases m with
  |zero=>cases eg
  |succ m =>
   simp only[cO]at eg;obtain⟨p,e1,e2⟩:=zA eg;refine⟨P2,φ2,sl2,st2,rs2,s2,p.1,p.2,e1,fun P3 φ3 H3 b f3 s3 r3=>?_⟩;cases r3;cases hb':p.1 with
   |true =>
    rw[hb']at e2;simp only[if_true]at e2 ⊢;obtain⟨o1,e6,e7⟩:=zA e2;refine⟨fun σ' H'=>∃P' φ' sl' st',Frm P φ H P' φ' H'/\Sim X.gm P' φ' st' H'/\MH X.gm P' H' φ' sl' σ'/\cO t s m sl' st'=some o,fun σ' H' z=>⟨m,Nat.lt_succ_self m,z⟩,P3,φ3,sl2,p.2,rs2.frm f3,s3,o1,e6,?_⟩;have fa:=f2.trans f3;cases o1 with
    |nx sl5 st5=>exact fun P5 φ5 H5 σ5 f5 s5 rs5=>⟨P5,φ5,sl5,st5,fa.trans f5,s5,rs5,e7⟩
    |ct sl5 st5=>exact fun P5 φ5 H5 σ5 f5 s5 rs5=>⟨P5,φ5,sl5,st5,fa.trans f5,s5,rs5,e7⟩
    |bk sl5 st5=>cases e7;exact fun P5 φ5 H5 σ5 f5 s5 rs5=>q P5 φ5 H5 σ5 (fa.trans f5) s5 rs5
    |rt v st5=>cases e7;exact fun P5 φ5 H5 w f5 s5 r5=>q P5 φ5 H5 w (fa.trans f5) s5 r5
   |false =>
    rw[hb']at e2;simp only[yE,if_false]at e2 ⊢;cases e2;exact q P3 φ3 H3 σ' (f2.trans f3) s3 (rs2.frm f3)
end
abbrev Fn:=List AV->aa->Option (AV×aa)
def cZ[My](mg:Gm)(n:Nat)(fn:Fn):Sp:=fun vs H Q _=>vs.length=n/\∃P φ args st,MB mg P H φ args vs/\Sim mg P φ st H/\KG mg RA P φ H (fn args st) Q
def c4:Nat->aa->AV->Option AV
 |n+1,st,.ref k=>match st[k]? with
  |some (.lst xs)=>(bE (c4 n st) xs).map .fz
  |some (.al t)=>some t
  |_=>none
 |n+1,st,.tup xs=>(bE (c4 n st) xs).map .tup
 |0,_,.ref _=>none
 |0,_,.tup _=>none
 |_,_,t=>some t
def dE:aa->AV->Option AV:=c4 6
mutual
noncomputable def flat:AV->Bool
 |.ref _=>false
 |.fz _=>false
 |.tup xs=>mN xs
 |_=>true
noncomputable def mN:List AV->Bool
 |[]=>true
 |x::xs=>flat x&&mN xs
end
def io(st:aa)(x:AV):Option (AV×aa):=if rf x=true then some (x,st) else match x with
 |.ref k=>match st[k]? with
  |some (.lst xs)=>if rfs xs=true then some (.fz xs,st.set k (.al (.fz xs))) else none
  |some (.al t)=>some (t,st)
  |_=>none
 |_=>none
def kS:aa->List AV->Option (List AV×aa)
 |st,[]=>some ([],st)
 |st,x::xs=>(io st x).bind fun p=>(kS p.2 xs).map fun q=>(p.1::q.1,q.2)
def pm(fn:Fn):Fn:=fun args st=>if rfs args=true then(fn args []).bind fun p=>(dE p.2 p.1).map fun t=>(t,st)
 else(bE (dE st) args).bind fun ts=>(fn ts []).bind fun p=>(dE p.2 p.1).bind fun t=>if flat t=true then some (t,st) else
  (kS st args).bind fun q=>(fn q.1 []).bind fun p=>(dE p.2 p.1).map fun t=>(t,q.2)
section
variable{mg:Gm}{P:Pr}{φ:List Addr}{st:aa}{H:Hp}
theorem xK[My]{n:Nat}(ih:∀v w t,c4 n st v=some t->RA mg P H φ v w->RA mg P' H [] t w):∀{xs:List AV}{vs:List V}{ts:List AV},bE (c4 n st) xs=some ts->MB mg P H φ xs vs->MB mg P' H [] ts vs:=by
 intro xs
 induction xs with
 |nil=>intro vs ts e r;cases e;simp only[MB]at r ⊢;exact r
 |cons x xs ihx =>
  intro vs ts e r;simp only[bE]at e;obtain⟨y,e1,e2⟩:=zA e;obtain⟨ys,e3,e4⟩:=zH.mp e2;subst e4;simp only[MB]at r;obtain⟨v,ws,rfl,r1,r2⟩:=r;exact aS (ih x v y e1 r1) (ihx e3 r2)
theorem pK[My](s:Sim mg P φ st H):∀(n:Nat)(v:AV)(w:V)(t:AV),c4 n st v=some t->RA mg P H φ v w->RA mg (fun a=>P a\/a∈φ) H [] t w:=by
 have ex:∀a,P a->(P a\/a∈φ)/\H a=H a:=fun a h=>⟨.inl h,rfl⟩
 have pl:∀{t:AV}{w:V},R.rf t=true->RA mg P H φ t w->RA mg (fun a=>P a\/a∈φ) H [] t w:=fun h r=>(RA.rf (ψ:=[]) h r).mono ex fun _ _ z=>z
 intro n
 induction n with
 |zero =>
  intro v w t e r;cases v <;> simp only [c4] at e <;> first | (cases e;done) | skip
  all_goals cases e;exact pl rfl r
 |succ n ih =>
  intro v w t e r;cases v with
  |ref k =>
   simp only[c4]at e;simp only[RA]at r;obtain⟨a,ea,rfl⟩:=r;split at e
   ·rename_i xs hk
    obtain⟨ts,e1,e2⟩:=zH.mp e;subst e2;obtain⟨a',ea',c⟩:=s.at hk;rw[ea]at ea';cases ea';obtain⟨_,vs,h1,h2⟩:=c;simp only[RA];exact⟨a,vs,rfl,.inl ⟨.inr (zZ ea),.inl h1⟩,xK ih e1 h2⟩
   ·rename_i t' hk
    cases e;obtain⟨a',ea',c⟩:=s.at hk;rw[ea]at ea';cases ea';exact c.2.mono ex fun _ _ z=>z
   ·cases e
  |tup xs =>
   simp only[c4]at e;obtain⟨ts,e1,e2⟩:=zH.mp e;subst e2;simp only[RA]at r;obtain⟨a,vs,rfl,p,h1,h2⟩:=r;simp only[RA];exact⟨a,vs,rfl,.inl p,h1,xK ih e1 h2⟩
  |_=>simp only[c4]at e;cases e;exact pl rfl r
mutual
theorem RA.fl[My](h:∀a vs,P a->H a=some (.tup vs)->P' a):∀{t:AV}{w:V},flat t=true->RA mg P H φ t w->RA mg P' H ψ t w
 |.non,_,_,r=>by simp only[RA]at r ⊢;exact r
 |.bl _,_,_,r=>by simp only[RA]at r ⊢;exact r
 |.int _,_,_,r=>by simp only[RA]at r ⊢;exact r
 |.str _,_,_,r=>by simp only[RA]at r ⊢;exact r
 |.ref _,_,e,_=>by simp only[flat]at e;cases e
 |.fz _,_,e,_=>by simp only[flat]at e;cases e
 |.tup xs,_,e,r=>by
  simp only[RA,flat]at r e ⊢;obtain⟨a,vs,rfl,p,h1,h2⟩:=r;exact⟨a,vs,rfl,h a vs p h1,h1,MB.fl h e h2⟩
theorem MB.fl[My](h:∀a vs,P a->H a=some (.tup vs)->P' a):∀{ts:List AV}{ws:List V},mN ts=true->MB mg P H φ ts ws->MB mg P' H ψ ts ws
 |[],_,_,r=>by simp only[MB]at r ⊢;exact r
 |t::ts,_,e,r=>by
  simp only[MB,mN,zE]at r e ⊢;obtain⟨v,ws,rfl,r1,r2⟩:=r;exact⟨v,ws,rfl,RA.fl h e.1 r1,MB.fl h e.2 r2⟩
end
theorem Fw[My](s:Sim mg P φ st H)(e:io st x=some (t,st'))(r:RA mg P H φ x v):∃P',Frm P φ H P' φ H/\Sim mg P' φ st' H/\RA mg P' H [] t v:=by
 unfold io at e;split at e
 ·rename_i h
  cases e;exact⟨P,Frm.refl,s,RA.rf h r⟩
 ·cases x with
  |ref k =>
   simp only[RA]at r;obtain⟨a,ea,rfl⟩:=r;dsimp only at e;split at e
   ·rename_i xs hk
    split at e
    ·rename_i hr
     cases e;obtain⟨a',ea',c⟩:=s.at hk;rw[ea]at ea';cases ea';obtain⟨na,vs,h1,h2⟩:=c;have ex:∀b,P b->(P b\/b=a)/\H b=H b:=fun b h=>⟨.inl h,rfl⟩
     have hm:=zZ ea;have rr:RA mg (fun b=>P b\/b=a) H [] (.fz xs) (.ref a):=by
      simp only[RA];exact⟨a,vs,rfl,.inl ⟨.inr rfl,.inl h1⟩,(MB.rf hr h2).mono ex fun _ _ z=>z⟩
     have dm:∀b,(P b\/b=a)->H b≠none:=fun b h=>by
      rcases h with h|h
      ·exact s.dom b h
      ·rw[h];exact s.cd a hm
     refine⟨fun b=>P b\/b=a,⟨ex,⟨[],by simp,by simp⟩,fun _ _ _ _=>rfl,fun b h=>?_,fun _ h=>h,fun _ _ _ h=>h⟩,⟨by rw[List.length_set];exact s.len,s.nd,dm,s.cd,fun j c b e1 e2=>?_,fun t ht=>⟨(s.tb t ht).1,fun z=>z.elim (s.tb t ht).2 fun z=>s.tnc ht (by rw[z];exact hm)⟩⟩,rr⟩
     ·rcases h with h|h
      ·exact .inl h
      ·exact .inr (.inr (by rw[h];exact hm))
     ·by_cases hj:j=k
      ·subst hj
       rw[ea]at e2;cases e2;rw[List.getElem?_set_self (by rw[<- s.len];exact(zD.mp ea).1)]at e1;cases e1;exact⟨.inr rfl,rr⟩
      ·rw[List.getElem?_set_ne (Ne.symm hj)]at e1
       refine(s.cell j c b e1 e2).mono ex (fun _ _ z=>z) rfl fun n z=>?_
       rcases z with z|z
       ·exact n z
       ·refine hj ?_
        subst z;obtain⟨h1,e1⟩:=zD.mp e2;obtain⟨h2,e2⟩:=zD.mp ea;exact(List.getElem_inj s.nd).mp (e1.trans e2.symm)
    ·cases e
   ·rename_i t' hk
    cases e;obtain⟨a',ea',c⟩:=s.at hk;rw[ea]at ea';cases ea';exact⟨P,Frm.refl,s,c.2⟩
   ·cases e
  |_=>cases e
theorem Fu[My]:∀{xs ts:List AV}{st st':aa}{P:Pr}{vs:List V},Sim mg P φ st H->kS st xs=some (ts,st')->MB mg P H φ xs vs->∃P',Frm P φ H P' φ H/\Sim mg P' φ st' H/\MB mg P' H [] ts vs:=by
 intro xs
 induction xs with
 |nil=>intro ts st st' P vs s e r;cases e;simp only[MB]at r;subst r;exact⟨P,Frm.refl,s,bh⟩
 |cons x xs ih =>
  intro ts st st' P vs s e r;simp only[kS]at e;obtain⟨p,e1,e2⟩:=zA e;obtain⟨q,e3,e4⟩:=zH.mp e2;cases e4;simp only[MB]at r;obtain⟨v,ws,rfl,r1,r2⟩:=r;obtain⟨P1,f1,s1,q1⟩:=Fw s e1 r1;obtain⟨P2,f2,s2,q2⟩:=ih s1 e3 (r2.frm f1);exact⟨P2,f1.trans f2,s2,aS (q1.mono f2.ext fun _ _ z=>z) q2⟩
theorem IA[My]{fn:Fn}{args:List AV}{vs:List V}{Q:VK}(s:Sim mg P φ st H)(r:MB mg P H [] args vs)(h:KG mg RA P φ H ((fn args []).bind fun p=>(dE p.2 p.1).map fun t=>(t,st)) Q):∃P φ args st,MB mg P H φ args vs/\Sim mg P φ st H/\KG mg RA P φ H (fn args st) Q:=by
 obtain⟨t,st',e,k⟩:=h;obtain⟨p,e1,e2⟩:=zA e;obtain⟨t',e3,e4⟩:=zH.mp e2;cases e4;refine⟨P,[],args,[],r,Sim.nil s.dom s.tb,p.1,p.2,e1,fun P1 φ1 H1 w f1 s1 r1=>?_⟩;obtain⟨m,em,nm⟩:=f1.new;have kp:∀a,H a≠none->(∀ps,H a≠some (.tbl ps))->H1 a=H a:=fun a h=>f1.keep a h (by simp)
 have kc:=s.ckeep (fun a h=>(f1.ext a h).2) kp;have nn:∀a,(P1 a\/a∈φ1)->P a\/H a=none:=fun a h=>by
  rcases h with h|h
  ·rcases f1.pn a h with z|z|z
   ·exact .inl z
   ·exact .inr z
   ·cases z
  ·rw[em]at h;exact .inr (nm a h)
 refine k (fun a=>P1 a\/a∈φ1) φ H1 w ⟨fun a h=>⟨.inl (f1.ext a h).1,(f1.ext a h).2⟩,⟨[],by simp,by simp⟩,fun a h _ z=>kp a h z,fun a h=>?_,f1.sm,f1.fz⟩ (s.stay (fun a h=>⟨.inl (f1.ext a h).1,(f1.ext a h).2⟩) kc (fun a h n z=>?_) (fun a h=>?_) fun t ht=>⟨(s1.tb t ht).1,fun z=>z.elim (s1.tb t ht).2 (s1.tnc ht)⟩) (RA.lift (pK s1 6 _ _ _ e3 r1))
 ·rcases nn a h with z|z
  ·exact .inl z
  ·exact .inr (.inl z)
 ·rcases nn a z with z|z
  ·exact n z
  ·exact s.cd a h z
 ·rcases h with h|h
  ·exact s1.dom a h
  ·exact s1.cd a h
theorem GR[My]{n:Nat}(h:cZ mg n (pm fn) vs H Q E):cZ mg n fn vs H Q E:=by
 obtain⟨hl,P,φ,args,st,r,s,k⟩:=h;refine⟨hl,?_⟩;unfold pm at k;split at k
 ·rename_i hr
  exact IA s (MB.rf hr r) k
 ·obtain⟨t,st',e,k⟩:=k
  obtain⟨ts,e1,e2⟩:=zA e;obtain⟨p,e3,e4⟩:=zA e2;obtain⟨t',e5,e6⟩:=zA e4;split at e6
  ·rename_i hf
   cases e6;have dm:∀a,(P a\/a∈φ)->H a≠none:=fun a h=>by
    rcases h with h|h
    ·exact s.dom a h
    ·exact s.cd a h
   refine⟨fun a=>P a\/a∈φ,[],ts,[],xK (fun v w t e r=>pK s 6 v w t e r) e1 r,Sim.nil dm (fun t ht=>⟨(s.tb t ht).1,fun z=>z.elim (s.tb t ht).2 (s.tnc ht)⟩),p.1,p.2,e3,fun P1 φ1 H1 w f1 s1 r1=>?_⟩;obtain⟨m,em,nm⟩:=f1.new;have kp:∀a,H a≠none->(∀ps,H a≠some (.tbl ps))->H1 a=H a:=fun a h=>f1.keep a h (by simp)
   have kc:=s.ckeep (fun a h=>(f1.ext a (.inl h)).2) kp;have ext:∀a,P a->((P1 a\/a∈φ1)/\(a∈φ->P a))/\H1 a=H a:=fun a h=>⟨⟨.inl (f1.ext a (.inl h)).1,fun _=>h⟩,(f1.ext a (.inl h)).2⟩
   refine k (fun a=>(P1 a\/a∈φ1)/\(a∈φ->P a)) φ H1 w ⟨ext,⟨[],by simp,by simp⟩,fun a h _ z=>kp a h z,fun a h=>?_,f1.sm,f1.fz⟩ (s.stay ext kc (fun a h n z=>n (z.2 h)) (fun a h=>?_) fun t ht=>⟨(s1.tb t ht).1,fun z=>z.1.elim (s1.tb t ht).2 (s1.tnc ht)⟩) (RA.fl (fun a us hP hT=>⟨hP,fun hm=>?_⟩) hf (pK s1 6 _ _ _ e5 r1))
   ·rcases h.1 with z|z
    ·rcases f1.pn a z with z|z|z
     ·rcases z with z|z
      ·exact .inl z
      ·exact .inr (.inr z)
     ·exact .inr (.inl z)
     ·cases z
    ·rw[em]at z;exact .inr (.inl (nm a z))
   ·rcases h.1 with h|h
    ·exact s1.dom a h
    ·exact s1.cd a h
   ·obtain⟨j,hj⟩:=yC hm
    obtain⟨c,hc⟩:∃c,st[j]?=some c:=⟨_,zI (by rw[<- s.len];exact(zD.mp hj).1)⟩;have cr:=s.cell j c a hc hj;have hT':H a=some (.tup us):=by rw[<- kc a hm];exact hT
    cases c with
    |lst xs=>obtain⟨_,_,z,_⟩:=cr;rw[hT']at z;cases z
    |al t=>exact cr.1
    |dK Mx=>obtain⟨_,_,z,_⟩:=cr;rw[hT']at z;cases z
    |dT Mx=>obtain⟨_,_,z,_⟩:=cr;rw[hT']at z;cases z
    |ins c fs=>obtain⟨_,_,_,_,_,z,_⟩:=cr;rw[hT']at z;cases z
    |wk Mx=>obtain⟨_,_,_,z,_⟩:=cr;rw[hT']at z;cases z
  ·obtain⟨q,e7,e8⟩:=zA e6
   obtain⟨P1,f1,s1,r1⟩:=Fu s e7 r;exact IA s1 r1 ⟨t,st',e8,fun P2 φ2 H2 w f2 s2 r2=>k P2 φ2 H2 w (f1.trans f2) s2 r2⟩
end
theorem FnOk.pm[My]{P:Program}{w:World}{K:Frag}{mg:Str->Option Value}{base:Heap}{k:Nat}{f:Addr}{fd:FuncData}{ps:List Str}{n:Nat}{fn:Fn}(F:FnOk P w K mg base dY k f fd ps (cZ ⟨K,mg⟩ n fn)):FnOk P w K mg base dY k f fd ps (cZ ⟨K,mg⟩ n (R.pm fn)) :=
 F.imp fun _ _ _ _ h=>GR h
def run(n:Nat)(b:SF):Fn:=fun args st=>(b (args.map some++List.replicate (n-args.length) none) st).bind fun o=>match o with
 |.rt v st=>some (v,st)
 |.nx _ st=>some (.non,st)
 |_=>none
theorem By[My](h:MB mg P H φ args vs):MH mg P H φ (args.map some++List.replicate (N.length-args.length) none) (L2.start N vs):=by
 have hl:=h.length;unfold L2.start;refine⟨by simp[hl],fun i v e=>?_⟩;have hi:i<args.length:=by
  rcases yX i args.length with z|z
  ·exact z
  ·rw[yA (by simpa using z),List.getElem?_replicate]at e
   split at e<;>cases e
 rw[zQ (by simpa using hi),zU]at e;rw[zQ (by rw[zK,<- hl];exact hi),zU];cases ha:args[i]? with
 |none=>rw[ha]at e;cases e
 |some x =>
  rw[ha]at e;cases e;obtain⟨w,e1,r1⟩:=h.get ha;exact⟨w,by rw[e1];rfl,r1⟩
def AZ(fn:Fn)(g:AF):EF:=fun sl st=>(g sl st).bind fun p=>fn p.1 p.2
section
variable{X:Cx}{x:Str}{p pos:Pos}{e o:Expr}{es:List Expr}{k:Nat}{f:Addr}{fd:FuncData}{ps:List Str}{fn:Fn}{g:AF}{h:EF}
theorem J6[My]{n:Nat}(hn:∀sl st xs st',g sl st=some (xs,st')->xs.length=n)(q:rE mg (AZ fn g) σ H Q):tI (cZ mg n fn) [] E (rA mg g) σ H Q:=by
 obtain⟨P,φ,sl,st,rs,s,kk⟩:=q;refine⟨P,φ,sl,st,rs,s,?_⟩;obtain⟨a,st',e1,q⟩:=kk.bind (Ra:=MB);refine⟨a,st',e1,fun P1 φ1 H1 b f1 s1 r1=>?_⟩;obtain⟨P2,φ2,st2,xs,f2,s2,r2,k2⟩:=q P1 φ1 H1 b f1 s1 r1;rw[List.append_nil];exact⟨by rw[<- r1.length];exact hn _ _ _ _ e1,P2,φ2,xs,st2,r2,s2,k2⟩
theorem BX[My](F:FnOk X.prog X.w X.K X.mg X.base dY k f fd ps (cZ X.gm ps.length fn))(hr:Room k X.A)(hg:Gl X x)(hm:X.mg x=some (.ref f))(hk:keepIn X.K (.ref f)=true)(hb:Binds X.K fd ps [])
  (ha:QA X (e::es) g) (hn:∀sl st xs st',g sl st=some (xs,st')->xs.length=ps.length) (hdb:(x==("__debug__":Str))=false) (he:starEach (e::es) X.env=(false,eval e X.env)::starEach es X.env) (hpl:(backTo pos (starEach es X.env)).any (·.1)=false) :
  QE X (.Call (.Name x p) (e::es) [] pos) (AZ fn g):=PE_imp (Ck (E:=E0) F hr hg hm hk hb .nil mh ha hdb he hpl) fun _ _ _ q=>J6 hn q
theorem xR[My](F:FnOk X.prog X.w X.K X.mg X.base dY k f fd ps (cZ X.gm ps.length fn))(hr:Room k X.A)(hg:Gl X x)(hm:X.mg x=some (.ref f))(hk:keepIn X.K (.ref f)=true)(hb:Binds X.K fd ps [])
  (hn:ps.length=0) (hdb:(x==("__debug__":Str))=false):QE X (.Call (.Name x p) [] [] pos) (AZ fn d8):=PE_imp (yh (E:=E0) F hr hg hm hk hb .nil mh hdb) fun σ H Q q=>by
 obtain⟨P,φ,sl,st,rs,s,kk⟩:=q;exact⟨by simp[hn],P,φ,[],st,bh,s,kk⟩
def iH(st:aa)(c:Str):AV->Option (List (Str×AV))
 |.ref k=>match st[k]? with
  |some (.ins c' fs)=>if c'=c then some fs else none
  |_=>none
 |_=>none
theorem mr(h:KVR mg P H φ fs ws)(f:Str):(fs.lookup f=none->ws.lookup f=none)/\∀v,fs.lookup f=some v->∃w,ws.lookup f=some w/\RA mg P H φ v w:=by
 induction fs generalizing ws with
 |nil =>
  have:ws=[]:=by simpa using h.1.symm
  subst this;exact⟨fun _=>rfl,fun v e=>by cases e⟩
 |cons p fs ih =>
  cases ws with
  |nil=>exact absurd h.1 (by simp)
  |cons q ws =>
   obtain⟨h1,h2⟩:=h;rw[zR,zR]at h1 h2;injection h1 with h3 h4;simp only[MB]at h2;obtain⟨v,vs,h5,h6,h7⟩:=h2;injection h5 with h8 h9;subst h8;subst h9;obtain⟨a,b⟩:=p;obtain⟨c,d⟩:=q;dsimp only at h3 h6;subst h3;rw[yR,yR];cases hb:f==a with
   |true=>exact⟨fun z=>(by cases z),fun v z=>(by cases z;exact⟨d,rfl,h6⟩)⟩
   |false=>exact ih ⟨h4,h7⟩
theorem lJ[My]{mg:Gm}{P:Pr}{φ:List Addr}{st:aa}{H:Hp}{c:Str}{v:AV}{w:V}{fs:List (Str×AV)}(s:Sim mg P φ st H)(h:iH st c v=some fs)(r:RA mg P H φ v w) :
  ∃k a C dx ws,v=.ref k/\φ[k]?=some a/\¬P a/\w=.ref a/\mg.mg c=some (.ref C)/\H a=some (.ins C dx ws)/\KVR mg P H φ fs ws:=by
 cases v with
 |ref k =>
  simp only[iH]at h;split at h
  ·rename_i c' fs' hk
   split at h
   ·rename_i hc
    cases h;subst hc;simp only[RA]at r;obtain⟨a,ea,rfl⟩:=r;obtain⟨a',ea',cr⟩:=s.at hk;rw[ea]at ea';cases ea';obtain⟨na,C,dx,ws,h1,h2,h3⟩:=cr;exact⟨k,a,C,dx,ws,rfl,ea,na,rfl,h1,h2,h3⟩
   ·cases h
  ·cases h
 |_=>cases h
def AY(c m:Str)(fn:Fn)(h:EF)(g:AF):EF:=fun sl st=>(h sl st).bind fun p=>(iH p.2 c p.1).bind fun fs=>if(fs.lookup m).isNone=true then(g sl p.2).bind fun q=>fn (p.1::q.1) q.2 else none
theorem EX[My]{n:Nat}(hC:mg.mg c=some (.ref C))(hn:∀sl st xs st',g sl st=some (xs,st')->xs.length+1=n)(q:rE mg (AY c m fn h g) σ H Q):tH C m (cZ mg n fn) [] E (rE mg h) (rA mg g) σ H Q:=by
 obtain⟨P,φ,sl,st,rs,s,v,st',e,k⟩:=q;obtain⟨p,e1,e2⟩:=zA e;obtain⟨fs,e3,e4⟩:=zA e2;split at e4
 ·rename_i hm
  obtain⟨q,e5,e6⟩:=zA e4;refine⟨P,φ,sl,st,rs,s,p.1,p.2,e1,fun P1 φ1 H1 w f1 s1 r1=>?_⟩;obtain⟨j,a,C',dx,ws,h1,h2,h3,rfl,h5,h6,h7⟩:=lJ s1 e3 r1;rw[hC]at h5;cases h5;refine⟨a,dx,ws,rfl,h6,(mr h7 m).1 (by simpa using hm),P1,φ1,sl,p.2,rs.frm f1,s1,q.1,q.2,e5,fun P2 φ2 H2 vs f2 s2 r2=>?_⟩;show cZ mg n fn (V.ref a::(vs++[])) H2 Q E;rw[List.append_nil];exact⟨by rw[xB,<- r2.length];exact hn _ _ _ _ e5,P2,φ2,p.1::q.1,q.2,aS (r1.frm f2) r2,s2,v,st',e6,fun P3 φ3 H3 w3 f3 s3 r3=>k P3 φ3 H3 w3 ((f1.trans f2).trans f3) s3 r3⟩
 ·cases e4
theorem BV[My](ho:QE X o h)(cl:Cls X.K C)(hC:X.mg c=some (.ref C))(hm:jw X.K C m f)(F:FnOk X.prog X.w X.K X.mg X.base dY k f fd ps (cZ X.gm ps.length fn))(hr:Room k X.A)(hb:Binds X.K fd ps [])
  (ha:QA X (e::es) g) (hn:∀sl st xs st',g sl st=some (xs,st')->xs.length+1=ps.length) (hst:starEach (e::es) X.env=(false,eval e X.env)::starEach es X.env) (hpl:(backTo pos (starEach es X.env)).any (·.1)=false)
  (ht:eval (.Call (.Attribute o m apos) (e::es) [] pos) X.env=(do
   let ov <- eval o X.env
   standAt apos.atName
   let(f,first) <- holding [ov] (getMethod ov m pl)
   callWith pos f first (backTo pos (starEach (e::es) X.env)) (backToKw pos (keywordEach [] X.env)))):QE X (.Call (.Attribute o m apos) (e::es) [] pos) (AY c m fn h g) :=
 PE_imp (Cg (E:=E0) ho cl hm F hr hb .nil mh ha hst hpl ht) fun _ _ _ q=>EX hC hn q
theorem xQ[My](ho:QE X o h)(cl:Cls X.K C)(hC:X.mg c=some (.ref C))(hm:jw X.K C m f)(F:FnOk X.prog X.w X.K X.mg X.base dY k f fd ps (cZ X.gm ps.length fn))(hr:Room k X.A)(hb:Binds X.K fd ps [])
  (hn:ps.length=1)
  (ht:eval (.Call (.Attribute o m apos) [] [] pos) X.env=(do
   let ov <- eval o X.env
   standAt apos.atName
   let(f,first) <- holding [ov] (getMethod ov m pl)
   callWith pos f first (backTo pos (starEach [] X.env)) (backToKw pos (keywordEach [] X.env)))):QE X (.Call (.Attribute o m apos) [] [] pos) (AY c m fn h d8) :=
 PE_imp (yc (E:=E0) ho cl hm F hr hb .nil mh ht) fun σ H Q q=>by
  obtain⟨P,φ,sl,st,rs,s,v,st',e,k⟩:=EX (E:=E0) (C:=C) hC (g:=d8) (n:=1) (fun sl st xs st' e=>by cases e;rfl) q;refine⟨P,φ,sl,st,rs,s,v,st',e,fun P1 φ1 H1 w f1 s1 r1=>?_⟩;obtain⟨a,dx,fs,h1,h2,h3,h4⟩:=k P1 φ1 H1 w f1 s1 r1;refine⟨a,dx,fs,h1,h2,h3,?_⟩;obtain⟨P2,φ2,sl2,st2,rs2,s2,xs,st3,e3,k3⟩:=h4;cases e3
  have:=k3 P2 φ2 H1 [] Frm.refl s2 bh
  rw[hn];exact this
def wT(c:Str)(fn:Fn)(g:AF):EF:=fun sl st=>(g sl st).bind fun p=>(fn (.ref p.2.length::p.1) (p.2++[.ins c []])).bind fun q=>match q.1 with
 |.non=>some (.ref p.2.length,q.2)
 |_=>none
theorem Cp[My]{mg:Gm}{P:Pr}{φ:List Addr}{st:aa}{H:Hp}{c:Str}{C x dx:Addr}(s:Sim mg P φ st H)(hC:mg.mg c=some (.ref C))(hx:H x=none)(hd:H dx=none)(ne:dx≠x) :
  Frm P φ H P (φ++[x]) (ae (ae H dx (.own x)) x (.ins C dx []))/\Sim mg P (φ++[x]) (st++[.ins c []]) (ae (ae H dx (.own x)) x (.ins C dx [])):=by
 have nd:∀a,H a≠none->a≠dx:=fun a h e=>h (by rw[e];exact hd)
 have f1:Frm P φ H P φ (ae H dx (.own x)):=⟨fun a h=>⟨h,ad (nd a (s.dom a h))⟩,⟨[],by simp,by simp⟩,fun a h _ _=>ad (nd a h),fun a h=>.inl h,fun a h=>by rw[ad (nd a h)];exact h,fun a o u h=>by rw[ad (aT h hd)];exact h⟩;have s1:Sim mg P φ st (ae H dx (.own x)):=s.stay f1.ext (fun a h=>ad (nd a (s.cd a h))) (fun _ _ h=>h) (fun a h=>f1.sm a (s.dom a h)) fun t ht=>⟨(s.tb t ht).1.new hd,(s.tb t ht).2⟩
 have hx1:ae H dx (.own x) x=none:=by rw[ad (Ne.symm ne)];exact hx
 obtain⟨f2,s2⟩:=lE (c:=.ins c []) (o:=.ins C dx []) s1 hx1 ⟨fun z=>s1.dom x z hx1,C,dx,[],hC,aq,rfl,bh⟩;exact⟨f1.trans f2,s2⟩
theorem JL[My]{mg:Gm}{c:Str}{C:Addr}{n:Nat}{E:XK}{σ:St}{H:Hp}{Q:VK}(hC:mg.mg c=some (.ref C))(hn:∀sl st xs st',g sl st=some (xs,st')->xs.length+1=n)(q:rE mg (wT c fn g) σ H Q):An C (cZ mg n fn) [] E (rA mg g) σ H Q:=by
 obtain⟨P,φ,sl,st,rs,s,v,st',e,k⟩:=q;obtain⟨p,e1,e2⟩:=zA e;obtain⟨q,e3,e4⟩:=zA e2;refine⟨P,φ,sl,st,rs,s,p.1,p.2,e1,fun P1 φ1 H1 vs f1 s1 r1=>fun x dx hx hd ne=>?_⟩;obtain⟨f2,s2⟩:=Cp s1 hC hx hd ne;have rx:RA mg P1 (ae (ae H1 dx (.own x)) x (.ins C dx [])) (φ1++[x]) (.ref p.2.length) (.ref x):=by simp only[RA];exact⟨x,by rw[<- s1.len];simp,rfl⟩
 rw[List.append_nil];refine⟨by rw[xB,<- r1.length];exact hn _ _ _ _ e1,P1,φ1++[x],_,_,aS rx (r1.frm f2),s2,q.1,q.2,e3,fun P3 φ3 H3 w f3 s3 r3=>?_⟩;cases hq:q.1 with
 |non =>
  rw[hq]at e4 r3;cases e4;simp only[RA]at r3;exact⟨r3,k P3 φ3 H3 (.ref x) ((f1.trans f2).trans f3) s3 (rx.frm f3)⟩
 |_=>rw[hq]at e4;cases e4
theorem DY[My](M:Mk X.K C f)(F:FnOk X.prog X.w X.K X.mg X.base dY k f fd ps (cZ X.gm ps.length fn))(hr:Room (k+1) X.A)(hg:Gl X c)(hm:X.mg c=some (.ref C))(hb:Binds X.K fd ps [])
  (ha:QA X (e::es) g) (hn:∀sl st xs st',g sl st=some (xs,st')->xs.length+1=ps.length) (hdb:(c==("__debug__":Str))=false) (he:starEach (e::es) X.env=(false,eval e X.env)::starEach es X.env) (hpl:(backTo pos (starEach es X.env)).any (·.1)=false) :
  QE X (.Call (.Name c p) (e::es) [] pos) (wT c fn g):=PE_imp (Ch (E:=E0) M F hr hg hm hb .nil mh ha hdb he hpl) fun _ _ _ q=>JL hm hn q
def IY(c fl:Str)(h:EF):EF:=fun sl st=>(h sl st).bind fun p=>(iH p.2 c p.1).bind fun fs=>(fs.lookup fl).map fun v=>(v,p.2)
theorem DZ[My](ho:QE X o h)(cl:Cls X.K C)(hC:X.mg c=some (.ref C))(na:NoAttr X.K C fl)(hb:attributeBase o fl X.env (eval o X.env)=eval o X.env):QE X (.Attribute o fl apos) (IY c fl h) :=
 PE_imp (EA ho hb) fun σ H Q hq0=>by
  obtain⟨P,φ,sl,st,rs,s,v,st',e,k⟩:=hq0;obtain⟨p,e1,e2⟩:=zA e;obtain⟨fs,e3,e4⟩:=zA e2;obtain⟨t,e5,e6⟩:=zH.mp e4;cases e6;refine⟨P,φ,sl,st,rs,s,p.1,p.2,e1,fun P1 φ1 H1 w f1 s1 r1=>?_⟩;obtain⟨j,a,C',dx,ws,h1,h2,h3,rfl,h5,h6,h7⟩:=lJ s1 e3 r1;have:C'=C:=by rw[show X.gm.mg c=X.mg c from rfl,hC]at h5;cases h5;rfl
  subst this;obtain⟨w,hw,rw'⟩:=(mr h7 fl).2 _ e5;exact⟨a,C',dx,ws,w,rfl,h6,cl,na,hw,k P1 φ1 H1 w f1 s1 rw'⟩
noncomputable def ic(f:Str)(v:AV):List (Str×AV)->List (Str×AV)
 |[]=>[(f,v)]
 |(g,x)::r=>if g=f then(g,v)::r else(g,x)::ic f v r
theorem vH{mg:Gm}{P:Pr}{H:Hp}{φ:List Addr}{f:Str}{v:AV}{w:V}(r:RA mg P H φ v w):∀{fs:List (Str×AV)}{ws:List (Str×V)},KVR mg P H φ fs ws->KVR mg P H φ (ic f v fs) (dq f w ws):=by
 intro fs
 induction fs with
 |nil =>
  intro ws h;have:ws=[]:=by simpa using h.1.symm
  subst this;exact⟨rfl,aS r bh⟩
 |cons p fs ih =>
  intro ws h;cases ws with
  |nil=>exact absurd h.1 (by simp)
  |cons q ws =>
   obtain⟨h1,h2⟩:=h;rw[zR,zR]at h1 h2;injection h1 with h3 h4;simp only[MB]at h2;obtain⟨u,us,h5,h6,h7⟩:=h2;injection h5 with h8 h9;subst h8;subst h9;obtain⟨a,b⟩:=p;obtain⟨c,d⟩:=q;dsimp only at h3 h6;subst h3;have i:=ih (ws:=ws) ⟨h4,h7⟩;unfold ic dq;by_cases e:a=f
   ·rw[yL e,yL e]
    exact⟨by rw[zR,zR,h4],aS r h7⟩
   ·rw[yK e,yK e]
    exact⟨by rw[zR,zR,i.1],aS h6 i.2⟩
def vA(c fl:Str)(h f:EF):SF:=fun sl st=>(f sl st).bind fun p=>(h sl p.2).bind fun q=>match q.1 with
 |.ref k=>(iH q.2 c (.ref k)).bind fun fs=>if Nat.ble fs.length 900=true then some (.nx sl (q.2.set k (.ins c (ic fl p.1 fs)))) else none
 |_=>none
theorem DJ[My](ho:QE X o h)(hv:QE X e f')(cl:Cls X.K C)(hC:X.mg c=some (.ref C))(na:NoAttr X.K C fl)(hs:swapsWith e (some (.Attribute o fl pos')) pos.line X.env=pure false):QS X (.Assign [.Attribute o fl pos'] e pos) (vA c fl h f') :=
 PS_imp (Ej ho hv hs) fun D σ H hq0=>by
  obtain⟨P,φ,sl,st,rs,s,out,eo,q⟩:=hq0;obtain⟨p,e1,e2⟩:=zA eo;obtain⟨r,e3,e4⟩:=zA e2;split at e4
  ·rename_i j hj
   obtain⟨fs,e5,e6⟩:=zA e4;split at e6
   ·rename_i hl
    cases e6;refine⟨P,φ,sl,st,rs,s,p.1,p.2,e1,fun P1 φ1 H1 w1 f1 s1 r1=>⟨P1,φ1,sl,p.2,rs.frm f1,s1,r.1,r.2,e3,fun P2 φ2 H2 w2 f2 s2 r2=>?_⟩⟩;rw[hj]at r2;obtain⟨j',a,C',dx,ws,h1,h2,h3,rfl,h5,h6,h7⟩:=lJ s2 e5 r2;cases h1;have:C'=C:=by rw[show X.gm.mg c=X.mg c from rfl,hC]at h5;cases h5;rfl
    subst this;have ln:ws.length<1000:=by
     have z:=congrArg List.length h7.1;rw[zK,zK]at z
     have:=zV hl
     lia
    obtain⟨f3,s3⟩:=gJ (c:=.ins c (ic fl p.1 fs)) (o:=.ins C' dx (dq fl w1 ws)) s2 h2 h3 ⟨h3,C',dx,_,hC,aq,(vH (r1.frm f2) h7).mono (fun b h=>⟨h,ad fun e=>h3 (e▸h)⟩) fun _ _ z=>z⟩ (fun _ _ z=>by rw[h6]at z;cases z);exact⟨a,C',dx,ws,rfl,h6,cl,na,ln,q P2 φ2 _ σ ((f1.trans f2).trans f3) s3 (((rs.frm f1).frm f2).frm f3)⟩
   ·cases e6
  ·cases e4
end
open DD (obj_list obj_tup minL minL_eq cnt_vals)
abbrev BF:=List AV->aa->Option (AV×aa)
def rB[My](mg:Gm)(k:BF):List V->Hp->VK->Prop:=fun vs H Q=>∃P φ st xs,Sim mg P φ st H/\MB mg P H φ xs vs/\KG mg RA P φ H (k xs st) Q
def qU(k:BF)(g:AF):EF:=fun sl st=>(g sl st).bind fun p=>k p.1 p.2
theorem zy[My](q:rE mg (qU k g) σ H Q):Dk (rB mg k) (rA mg g) σ H Q:=by
 obtain⟨P,φ,sl,st,rs,s,kk⟩:=q;refine⟨P,φ,sl,st,rs,s,?_⟩;obtain⟨a,st',e1,q⟩:=kk.bind (Ra:=MB);refine⟨a,st',e1,fun P1 φ1 H1 b f1 s1 r1=>?_⟩;obtain⟨P2,φ2,st2,xs,f2,s2,r2,k2⟩:=q P1 φ1 H1 b f1 s1 r1;exact⟨P2,φ2,st2,xs,s2,r2,k2⟩
def bW(h:aa->List AV->Option AV):BF:=fun xs st=>(h st xs).map fun z=>(z,st)
section
variable{X:Cx}{x:Str}{p pos:Pos}{e o a:Expr}{es:List Expr}{g:AF}{k:BF}{bid T:String}
theorem mf[My](hc:cw X (.builtin bid) (rB X.gm k))(hg:Gl X x)(hm:X.mg x=none)(hv:bootBuiltins x=some (.builtin bid))(ha:QA X (e::es) g)(hn:x≠"__name__")(hdb:(x==("__debug__":Str))=false)
  (he:starEach (e::es) X.env=(false,eval e X.env)::starEach es X.env) (hpl:(backTo pos (starEach es X.env)).any (·.1)=false):QE X (.Call (.Name x p) (e::es) [] pos) (qU k g) :=
 PE_imp (yg hc hg hm hv ha hn hdb he hpl) fun _ _ _ q=>zy q
theorem GL[My](hc:cw X (.type T) (rB X.gm k))(hg:Gl X x)(hm:X.mg x=none)(hv:bootBuiltins x=some (.type T))(ha:QA X (e::es) g)(hn:x≠"__name__")(hdb:(x==("__debug__":Str))=false)
  (he:starEach (e::es) X.env=(false,eval e X.env)::starEach es X.env) (hpl:(backTo pos (starEach es X.env)).any (·.1)=false):QE X (.Call (.Name x p) (e::es) [] pos) (qU k g) :=
 PE_imp (ou hc hg hm hv ha hn hdb he hpl) fun _ _ _ q=>zy q
theorem MB.one{mg:Gm}{P:Pr}{H:Hp}{φ:List Addr}{x:AV}{vs:List V}(h:MB mg P H φ [x] vs):∃v,vs=[v]/\RA mg P H φ x v:=by
 simp only[MB]at h;obtain⟨v,ws,rfl,r,rfl⟩:=h;exact⟨v,rfl,r⟩
theorem MB.two{mg:Gm}{P:Pr}{H:Hp}{φ:List Addr}{x y:AV}{vs:List V}(h:MB mg P H φ [x,y] vs):∃v w,vs=[v,w]/\RA mg P H φ x v/\RA mg P H φ y w:=by
 simp only[MB]at h;obtain⟨v,ws,rfl,r,w,us,rfl,r',rfl⟩:=h;exact⟨v,w,rfl,r,r'⟩
theorem nq(h:cw X f r)(i:∀xs H Q,r' xs H Q->r xs H Q):cw X f r':=fun Mv s σ H xs us Q I rv h'=>h Mv s σ H xs us Q I rv (i xs H Q h')
def d4(st:aa):List AV->Option AV
 |[v]=>match bu st v with
  |some xs=>some (.int xs.length)
  |none=>match ib st v with
   |some xs=>some (.int xs.length)
   |none=>match v with
    |.str x=>if b8 x.length=true then some (.int x.length) else none
    |v=>match iz st v with
     |some Mx=>some (.int Mx.length)
     |none=>(kU st v).map fun Mx=>.int Mx.length
 |_=>none
theorem uF:cw X (.builtin "len") (fun xs H Q=>∃a Mx,xs=[V.ref a]/\H a=some (.dK Mx)/\Q (.int Mx.length) H):=by
 intro Mv s σ H xs us Q I r h;obtain⟨a,Mx,rfl,ha,q⟩:=h;obtain⟨u,rfl,ru⟩:=dO r;cases ru;obtain⟨z,hd,vs,rel,dd⟩:=AK I.MD ha;have hl:Mx.length=vs.length:=Paired.length rel;have hz:sizeLine=16777216:=sizeLine_eq;exact call_len_dict hd dd oM ⟨.int _,H,I.tok _,⟨_,by rw[hl]⟩,q⟩
theorem HL[My]:cw X (.builtin "len") (rB X.gm (bW d4)):=by
 rintro Mv s σ H vs us Q I rv ⟨P,φ,st,xs,sm,r,k0⟩;obtain⟨z,e,k⟩:=k0.map;clear k0;unfold d4 at e;split at e
 ·rename_i v
  obtain⟨w,ew,r9⟩:=r.one;clear r;subst ew;have r:=r9;clear r9;have ay:∀n:Nat,z=.int n->Q (.int n) H:=fun n h=>by subst h;exact k.pure sm (by simp only[RA])
  split at e
  ·rename_i ys e1
   cases e;obtain⟨a,vs,rfl,d1,q1⟩:=r.ls sm e1;exact jX Mv s σ H _ us Q I rv ⟨a,vs,rfl,.inl d1,by rw[<- q1.length];exact ay _ rfl⟩
  ·split at e
   ·rename_i ys e1
    cases e;obtain⟨a,vs,rfl,d1,q1⟩:=r.tp sm e1;exact jX Mv s σ H _ us Q I rv ⟨a,vs,rfl,.inr (.inl (.inl d1)),by rw[<- q1.length];exact ay _ rfl⟩
   ·cases v with
    |str x =>
     dsimp only at e;split at e
     ·rename_i hz
      cases e;simp only[RA]at r;subst r;exact qN Mv s σ H _ us Q I rv ⟨x,rfl,iQ hz,ay _ rfl⟩
     ·cases e
    |ref j =>
     simp only[RA]at r;obtain⟨a,ea,rfl⟩:=r;dsimp only[iz,kU]at e;cases hj:st[j]? with
     |none=>rw[hj]at e;cases e
     |some c =>
      rw[hj]at e;obtain⟨a',ea',c'⟩:=sm.at hj;rw[ea]at ea';cases ea';cases c with
      |dK Mx =>
       cases e;obtain⟨_,ws,q1,q2⟩:=c'
       have:=congrArg List.length q2.1
       rw[zK,zK]at this;exact uF Mv s σ H _ us Q I rv ⟨a,ws,rfl,q1,by rw[<- this];exact ay _ rfl⟩
      |dT Mx =>
       cases e;obtain⟨_,ws,q1,q2⟩:=c'
       have:=congrArg List.length q2.1
       rw[zK,zK]at this;exact wO Mv s σ H _ us Q I rv ⟨a,ws,rfl,q1,by rw[<- this];exact ay _ rfl⟩
      |_=>cases e
    |_=>cases e
 ·cases e
def kh:List AV->Option (List Int):=bE fun x=>match x with
 |.int i=>some i
 |_=>none
theorem wv(h:kh xs=some ns):xs=ns.map .int:=by
 unfold kh at h
 induction xs generalizing ns with
 |nil=>cases h;rfl
 |cons x xs ih =>
  simp only [bE] at h;obtain ⟨y,e1,e2⟩:=zA h;obtain ⟨ys,e3,e4⟩:=zH.mp e2;subst e4;cases x <;> first | (cases e1;done) | skip
  cases e1;rw[ih e3];rfl
def lsI(st:aa)(v:AV):Option (List Int):=(bu st v).bind kh
theorem RA.lsI[My]{mg:Gm}{P:Pr}{H:Hp}{φ:List Addr}{st:aa}{v:AV}{w:V}{ns:List Int}(s:Sim mg P φ st H)(r:RA mg P H φ v w)(h:R.lsI st v=some ns):∃a,w=.ref a/\bw mg.K H a (ns.map .int):=by
 obtain⟨xs,e1,e2⟩:=zA h;obtain⟨a,vs,rfl,d1,q1⟩:=r.ls s e1
 have:=wv e2
 subst this;rw[q1.ints]at d1;exact⟨a,rfl,d1⟩
def pE(st:aa):List AV->Option AV
 |[v]=>(lsI st v).map fun ns=>.int ns.sum
 |_=>none
theorem HI[My](hc:X.calm=true):cw X (.builtin "sum") (rB X.gm (bW pE)):=by
 rintro Mv s σ H vs us Q I rv ⟨P,φ,st,xs,sm,r,k0⟩;obtain⟨z,e,k⟩:=k0.map;clear k0;unfold pE at e;split at e
 ·rename_i v
  obtain⟨w,ew,r9⟩:=r.one;clear r;subst ew;have r:=r9;clear r9;obtain⟨ns,e1,rfl⟩:=zH.mp e;obtain⟨a,rfl,d1⟩:=r.lsI sm e1;obtain⟨u,rfl,ru⟩:=dO rv;cases ru;obtain⟨Mz,r',pl,_⟩:=I.list d1;have hi:IntsAre Mz ns:=jm r';obtain⟨ys,hy⟩:=hi.allInts.items;refine sum_intListG (xs:=ys) (I.ok.hd hc) (by rw[<- hy];exact pl.isList) fun h' tk t' hk=>⟨.int ns.sum,H,I.kept hk,?_,k.pure sm (by simp only[RA])⟩
  have:(preSum (numAt ys) ys.size)=ns.sum:=by
   rw[preSum_eq,List.take_of_length_le (by simp),<- nums_intItems,<- hy];rw[show Mz.toArray.toList=Mz from rfl,hi.numsOf]
  rw[this];exact⟨t',rfl⟩
 ·cases e
def qT(_:aa):List AV->Option AV
 |[.int i]=>some (.int (if i<0 then -i else i))
 |_=>none
theorem HN[My]:cw X (.builtin "abs") (rB X.gm (bW qT)):=nq zw fun vs H Q hq0=>by
 obtain⟨P,φ,st,xs,sm,r,k0⟩:=hq0;obtain⟨z,e,k⟩:=k0.map;unfold qT at e;split at e
 ·cases e
  obtain⟨w,ew,r9⟩:=r.one;clear r;subst ew;have r:=r9;clear r9;simp only[RA]at r;exact⟨_,by rw[r],k.pure sm (by simp only[RA])⟩
 ·cases e
def p4(st:aa):List AV->Option AV
 |[.int i,.int j]=>some (.int (if j<i then j else i))
 |[v]=>(lsI st v).bind fun ns=>(minL ns).map .int
 |_=>none
noncomputable def EY:List Int->Option Int
 |[]=>none
 |x::xs=>some (xs.foldl (fun a b=>if a<b then b else a) x)
theorem JM:∀(xs:List Int)(x:Int),(xs.foldl (fun a b=>if a<b then b else a) x∈x::xs)/\∀a∈x::xs,a<=xs.foldl (fun a b=>if a<b then b else a) x:=by
 intro xs
 induction xs with
 |nil=>intro x;exact⟨by simp,by simp⟩
 |cons y xs ih =>
  intro x;rw[List.foldl_cons];obtain⟨h1,h2⟩:=ih (if x<y then y else x);refine⟨?_,fun a ha=>?_⟩
  ·rcases zW.mp h1 with h|h
   ·rw[h];split<;>simp
   ·exact zT _ (zT _ h)
  ·have h3:=h2 _ yB
   rcases zW.mp ha with rfl|ha
   ·refine Int.le_trans ?_ h3;split<;>lia
   ·rcases zW.mp ha with rfl|ha
    ·refine Int.le_trans ?_ h3;split<;>lia
    ·exact h2 a (zT _ ha)
theorem Ct{m x:Int}(h:EY ns=some m)(h1:x∈ns)(h2:∀a∈ns,a<=x):x=m:=by
 cases ns with
 |nil=>cases h
 |cons y ns =>
  obtain⟨a,b⟩:=JM ns y;have e:ns.foldl (fun a b=>if a<b then b else a) y=m:=by injection h
  rw[e]at a b
  have:=h2 m a
  have:=b x h1
  lia
def ue(st:aa):List AV->Option AV
 |[.int i,.int j]=>some (.int (if j > i then j else i))
 |[v]=>(lsI st v).bind fun ns=>(EY ns).map .int
 |_=>none
theorem HJ[My](hc:X.calm=true):cw X (.builtin "min") (rB X.gm (bW p4)):=by
 rintro Mv s σ H vs us Q I rv ⟨P,φ,st,xs,sm,r,k0⟩;obtain⟨z,e,k⟩:=k0.map;clear k0;unfold p4 at e;split at e
 ·rename_i i j
  cases e;obtain⟨w,w',ew,r8,r9⟩:=r.two;clear r;subst ew;have r:=r8;have r':=r9;clear r8 r9;simp only[RA]at r r';subst r;subst r';exact wM hc Mv s σ H _ us Q I rv ⟨i,j,rfl,k.pure sm (by simp only[RA])⟩
 ·rename_i v
  obtain⟨w,ew,r9⟩:=r.one;clear r;subst ew;have r:=r9;clear r9;obtain⟨ns,e1,e2⟩:=zA e;obtain⟨m,hm,rfl⟩:=zH.mp e2;obtain⟨a,rfl,d1⟩:=r.lsI sm e1;obtain⟨u,rfl,ru⟩:=dO rv;cases ru;obtain⟨Mz,r',pl,_⟩:=I.list d1;have hi:IntsAre Mz ns:=jm r';obtain⟨ys,hy⟩:=hi.allInts.items;have hns':ns=ys.toList.map (·.1):=by rw[<- hi.numsOf,<- nums_intItems,<- hy]
  have hsz:0<ys.size:=by
   cases ns with
   |nil=>cases hm
   |cons n ns =>
    have:(n::ns).length=ys.size:=by rw[hns',zK,Array.length_toList]
    simp at this;lia
  refine min_intList (xs:=ys) (I.ok.hd hc) (by rw[<- hy];exact pl.isList) hsz fun v h' tk hv hk=>?_
  obtain⟨t,rfl⟩:=intItems_at hv;obtain⟨h1,h2⟩:=argBest_lt (numAt ys) (ys.size-1);refine⟨.int m,H,I.kept hk,?_,k.pure sm (by simp only[RA])⟩;have e:numAt ys (argBest (fun i j=>decide (numAt ys i<numAt ys j)) (ys.size-1))=m:=by
   refine minL_eq hm ?_ fun a ha=>?_
   ·rw[hns',numAt_eq];exact getD_mem (by rw[zK,Array.length_toList];lia)
   ·rw[hns']at ha
    obtain⟨j,hj,rfl⟩:=mem_getD ha;rw[zK,Array.length_toList]at hj;rw[<- numAt_eq];exact h2 j oM
  exact⟨t,by rw[e]⟩
 ·cases e
theorem HK[My](hc:X.calm=true):cw X (.builtin "max") (rB X.gm (bW ue)):=by
 rintro Mv s σ H vs us Q I rv ⟨P,φ,st,xs,sm,r,k0⟩;obtain⟨z,e,k⟩:=k0.map;clear k0;unfold ue at e;split at e
 ·rename_i i j
  cases e;obtain⟨w,w',ew,r8,r9⟩:=r.two;clear r;subst ew;have r:=r8;have r':=r9;clear r8 r9;simp only[RA]at r r';subst r;subst r';exact wN hc Mv s σ H _ us Q I rv ⟨i,j,rfl,k.pure sm (by simp only[RA])⟩
 ·rename_i v
  obtain⟨w,ew,r9⟩:=r.one;clear r;subst ew;have r:=r9;clear r9;obtain⟨ns,e1,e2⟩:=zA e;obtain⟨m,hm,rfl⟩:=zH.mp e2;obtain⟨a,rfl,d1⟩:=r.lsI sm e1;obtain⟨u,rfl,ru⟩:=dO rv;cases ru;obtain⟨Mz,r',pl,_⟩:=I.list d1;have hi:IntsAre Mz ns:=jm r';obtain⟨ys,hy⟩:=hi.allInts.items;have hns':ns=ys.toList.map (·.1):=by rw[<- hi.numsOf,<- nums_intItems,<- hy]
  have hsz:0<ys.size:=by
   cases ns with
   |nil=>cases hm
   |cons n ns =>
    have:(n::ns).length=ys.size:=by rw[hns',zK,Array.length_toList]
    simp at this;lia
  refine max_intList (xs:=ys) (I.ok.hd hc) (by rw[<- hy];exact pl.isList) hsz fun v h' tk hv hk=>?_
  obtain⟨t,rfl⟩:=intItems_at hv;obtain⟨h1,h2⟩:=argBest_gt (numAt ys) (ys.size-1);refine⟨.int m,H,I.kept hk,?_,k.pure sm (by simp only[RA])⟩;have e:numAt ys (argBest (fun i j=>decide (numAt ys i > numAt ys j)) (ys.size-1))=m:=by
   refine Ct hm ?_ fun a ha=>?_
   ·rw[hns',numAt_eq];exact getD_mem (by rw[zK,Array.length_toList];lia)
   ·rw[hns']at ha
    obtain⟨j,hj,rfl⟩:=mem_getD ha;rw[zK,Array.length_toList]at hj;rw[<- numAt_eq];exact h2 j oM
  exact⟨t,by rw[e]⟩
 ·cases e
def lI(_:aa):List AV->Option AV
 |[.int i]=>some (.int i)
 |[.bl b]=>some (.int (if b then 1 else 0))
 |_=>none
theorem HM[My]:cw X (.type "int") (rB X.gm (bW lI)):=nq wP fun vs H Q hq0=>by
 obtain⟨P,φ,st,xs,sm,r,k0⟩:=hq0;obtain⟨z,e,k⟩:=k0.map;unfold lI at e;split at e
 ·cases e
  obtain⟨w,ew,r9⟩:=r.one;clear r;subst ew;have r:=r9;clear r9;simp only[RA]at r;exact .inl ⟨_,by rw[r],k.pure sm (by simp only[RA])⟩
 ·cases e
  obtain⟨w,ew,r9⟩:=r.one;clear r;subst ew;have r:=r9;clear r9;simp only[RA]at r;exact .inr ⟨_,by rw[r],k.pure sm (by simp only[RA])⟩
 ·cases e
end
open DD (reads_each)
abbrev MF:=AV->List AV->aa->Option (AV×aa)
def rM[My](mg:Gm)(k:MF):V->List V->Hp->VK->Prop:=fun x vs H Q=>∃P φ st a xs,Sim mg P φ st H/\RA mg P H φ a x/\MB mg P H φ xs vs/\KG mg RA P φ H (k a xs st) Q
def pD(T:String)(st:aa)(v:AV):Bool:=match v with
 |.str _=>T=="str"
 |.int _=>T=="int"
 |v=>if T="list" then(bu st v).isSome else if T="dict" then(iz st v).isSome||(kU st v).isSome else false
def k9(T:String)(k:MF)(f:EF)(g:AF):EF:=fun sl st=>(f sl st).bind fun p=>if pD T p.2 p.1=true then(g sl p.2).bind fun q=>k p.1 q.1 q.2 else none
section
variable{X:Cx}{e o:Expr}{es:List Expr}{f:EF}{g:AF}{k:MF}{name:Str}{apos cpos:Pos}{T mid:String}
theorem Bo[My]{P:Pr}{φ:List Addr}{st:aa}{H:Hp}{v:AV}{w:V}(s:Sim X.gm P φ st H)(r:RA X.gm P H φ v w)(h:pD T st v=true):vf X.K T w H:=by
 have gen:(if T="list" then(bu st v).isSome else if T="dict" then(iz st v).isSome||(kU st v).isSome else false)=true->vf X.K T w H:=fun h=>by
  split at h
  ·rename_i hT
   obtain⟨xs,e⟩:=Option.isSome_iff_exists.mp h;obtain⟨a,vs,rfl,d1,_⟩:=r.ls s e;exact .inl ⟨hT,vs,d1⟩
  ·split at h
   ·rename_i hT
    cases v with
    |ref j =>
     simp only[RA]at r;obtain⟨a,ea,rfl⟩:=r;simp only[iz,kU]at h;cases hj:st[j]? with
     |none=>rw[hj]at h;simp at h
     |some c =>
      rw[hj]at h;obtain⟨a',ea',c'⟩:=s.at hj;rw[ea]at ea';cases ea';cases c with
      |dK Mx=>obtain⟨_,ws,q1,_⟩:=c';exact .inr (.inr (.inl ⟨hT,.inl ⟨ws,q1⟩⟩))
      |dT Mx=>obtain⟨_,ws,q1,_⟩:=c';exact .inr (.inr (.inl ⟨hT,.inr ⟨ws,q1⟩⟩))
      |_=>simp at h
    |_=>simp[iz,kU]at h
   ·cases h
 unfold pD at h;cases v with
 |str x=>simp only[RA]at r;subst r;exact yN h
 |int x=>simp only[RA]at r;subst r;exact yN h
 |_=>exact gen h
theorem ER[My](q:rE X.gm (k9 T k f g) σ H Q):Im X.K T (rM X.gm k) (rE X.gm f) (rA X.gm g) σ H Q:=by
 obtain⟨P,φ,sl,st,rs,s,v,st',ev,kk⟩:=q;obtain⟨p,e1,e2⟩:=zA ev;split at e2
 ·rename_i hT
  obtain⟨r,e3,e4⟩:=zA e2;exact⟨P,φ,sl,st,rs,s,p.1,p.2,e1,fun P1 φ1 H1 w f1 s1 r1=>⟨Bo s1 r1 hT,P1,φ1,sl,p.2,rs.frm f1,s1,r.1,r.2,e3,fun P2 φ2 H2 ws f2 s2 r2=>⟨P2,φ2,r.2,p.1,r.1,s2,r1.frm f2,r2,v,st',e4,fun P3 φ3 H3 w3 f3 s3 r3=>kk P3 φ3 H3 w3 ((f1.trans f2).trans f3) s3 r3⟩⟩⟩
 ·cases e2
theorem o6[My](pa:PlainAttrs T)(slot:Slot T name mid)(hty:typeOf (.builtin mid)=pure (.type "method_descriptor"))(hm:lj X mid (rM X.gm k))(ho:QE X o f)(ha:QA X (e::es) g)
  (hbase:attributeBase o name X.env (eval o X.env)=eval o X.env)
  (hfew:((backTo cpos (starEach (e::es) X.env)).all (fun x=>!x.1)&&(backToKw cpos (keywordEach [] X.env)).all (fun x=>x.1.isSome)
   && decide ((e::es).length+([]:List Keyword).length+(if([]:List Keyword).isEmpty then 0 else 1)<30))=true)
  (hline:(apos.endLine==cpos.line)=true) (hs:starEach (e::es) X.env=(false,eval e X.env)::starEach es X.env) (hplain:(backTo cpos (starEach es X.env)).any (·.1)=false) :
  QE X (.Call (.Attribute o name apos) (e::es) [] cpos) (k9 T k f g):=PE_imp (GY pa slot hty hm ho ha hbase hfew hline hs hplain) fun _ _ _ q=>ER q
theorem md[My](pa:PlainAttrs T)(slot:Slot T name mid)(hty:typeOf (.builtin mid)=pure (.type "method_descriptor"))(hm:lj X mid (rM X.gm k))(ho:QE X o f)
  (hbase:attributeBase o name X.env (eval o X.env)=eval o X.env) (hline:(apos.endLine==cpos.line)=true):QE X (.Call (.Attribute o name apos) [] [] cpos) (k9 T k f d8) :=
 PE_imp (EB pa slot hty hm ho hbase hline) fun σ H Q q=>by
  obtain⟨P,φ,sl,st,rs,s,v,st',ev,kk⟩:=ER q;refine⟨P,φ,sl,st,rs,s,v,st',ev,fun P1 φ1 H1 w f1 s1 r1=>?_⟩;obtain⟨h1,P2,φ2,sl2,st2,rs2,s2,xs,st3,e3,k3⟩:=kk P1 φ1 H1 w f1 s1 r1;cases e3;exact⟨h1,k3 P2 φ2 H1 [] Frm.refl s2 bh⟩
theorem lT(h:lj X mid r)(i:∀x xs H Q,r' x xs H Q->r x xs H Q):lj X mid r':=fun Mv s σ H x xs v us Q I rx rv h'=>h Mv s σ H x xs v us Q I rx rv (i x xs H Q h')
def gF(st:aa):AV->Option (Nat×List AV)
 |.ref k=>match st[k]? with
  |some (.lst xs)=>some (k,xs)
  |_=>none
 |_=>none
theorem jW[My]{mg:Gm}{P:Pr}{φ:List Addr}{st:aa}{H:Hp}{v:AV}{w:V}{j:Nat}{xs:List AV}(s:Sim mg P φ st H)(r:RA mg P H φ v w)(h:gF st v=some (j,xs)):∃a vs,w=.ref a/\φ[j]?=some a/\¬P a/\H a=some (.lst vs)/\MB mg P H φ xs vs:=by
 cases v with
 |ref i =>
  simp only[gF]at h;split at h
  ·rename_i ys hj
   cases h;simp only[RA]at r;obtain⟨a,ea,rfl⟩:=r;obtain⟨a',ea',na,vs,h1,h2⟩:=s.at hj;rw[ea]at ea';cases ea';exact⟨a,vs,rfl,ea,na,h1,h2⟩
  ·cases h
 |_=>cases h
theorem ny[My]{mg:Gm}{P:Pr}{φ:List Addr}{st:aa}{H:Hp}{j:Nat}{a:Addr}{ys:List AV}{us:List V}(s:Sim mg P φ st H)(ea:φ[j]?=some a)(na:¬P a)(nz:∃vs,H a=some (.lst vs))(r:MB mg P H φ ys us) :
  Frm P φ H P φ (ae H a (.lst us))/\Sim mg P φ (st.set j (.lst ys)) (ae H a (.lst us))/\∀{t:AV}{w:V},RA mg P H φ t w->RA mg P (ae H a (.lst us)) φ t w:=by
 have ex:∀b,P b->P b/\ae H a (.lst us) b=H b:=fun b h=>⟨h,ad fun e=>na (e▸h)⟩
 obtain⟨f3,s3⟩:=gJ (c:=.lst ys) (o:=.lst us) s ea na ⟨na,us,aq,r.mono ex fun _ _ z=>z⟩ (fun _ _ z=>by obtain⟨vs,q⟩:=nz;rw[q]at z;cases z);exact⟨f3,s3,fun h=>h.mono ex fun _ _ z=>z⟩
def qa:MF:=fun x xs st=>match xs with
 |[y]=>(gF st x).bind fun c=>if b8 c.2.length=true then some (.non,st.set c.1 (.lst (c.2++[y]))) else none
 |_=>none
theorem Gu{n:Nat}(h:b8 n=true):n<sizeLine:=yP (zV h) dC
theorem AA[My]:lj X "list.append" (rM X.gm qa):=lT oz fun x vs H Q hq0=>by
 obtain⟨P,φ,st,a,xs,s,r,rr,v,st',e,kk⟩:=hq0;unfold qa at e;split at e
 ·rename_i y
  obtain⟨c,e1,e2⟩:=zA e;split at e2
  ·rename_i hz
   cases e2;obtain⟨b,us,rfl,ea,na,h1,h2⟩:=jW s r e1;obtain⟨w,rfl,r1⟩:=rr.one;obtain⟨f3,s3,_⟩:=ny s ea na ⟨_,h1⟩ (h2.app (aS r1 bh));exact⟨b,us,w,rfl,rfl,h1,by rw[<- h2.length];exact Gu hz,kk P φ _ _ f3 s3 (by simp only[RA])⟩
  ·cases e2
 ·cases e
def ui:MF:=fun x xs st=>match xs with
 |[]=>(gF st x).bind fun c=>(c.2[c.2.length-1]?).map fun y=>(y,st.set c.1 (.lst c.2.dropLast))
 |_=>none
theorem MB.dropLast(h:MB mg P H φ xs vs):MB mg P H φ xs.dropLast vs.dropLast:=by
 rw[List.dropLast_eq_take,List.dropLast_eq_take,h.length];exact h.take _
theorem Ax[My]:lj X "list.pop" (rM X.gm ui):=lT ES fun x vs H Q hq0=>by
 obtain⟨P,φ,st,a,xs,s,r,rr,v,st',e,kk⟩:=hq0;unfold ui at e;split at e
 ·obtain⟨c,e1,e2⟩:=zA e
  obtain⟨y,e3,e4⟩:=zH.mp e2;cases e4;obtain⟨b,us,rfl,ea,na,h1,h2⟩:=jW s r e1;simp only[MB]at rr;obtain⟨w,e5,r5⟩:=h2.get e3;obtain⟨f3,s3,lf⟩:=ny s ea na ⟨_,h1⟩ h2.dropLast;exact⟨b,us,w,rfl,rr,h1,by rw[<- h2.length];exact e5,kk P φ _ _ f3 s3 (lf r5)⟩
 ·cases e
def uj:MF:=fun x xs st=>match xs with
 |[y]=>(gF st x).bind fun c=>(bu st y).bind fun ys=>if b8 (c.2.length+ys.length)=true then some (.non,st.set c.1 (.lst (c.2++ys))) else none
 |_=>none
theorem Ay[My]:lj X "list.extend" (rM X.gm uj):=lT Cs fun x vs H Q hq0=>by
 obtain⟨P,φ,st,a,xs,s,r,rr,v,st',e,kk⟩:=hq0;unfold uj at e;split at e
 ·rename_i y
  obtain⟨c,e1,e2⟩:=zA e;obtain⟨ys,e3,e4⟩:=zA e2;split at e4
  ·rename_i hz
   cases e4;obtain⟨b,us,rfl,ea,na,h1,h2⟩:=jW s r e1;obtain⟨w,rfl,r1⟩:=rr.one;obtain⟨b2,us2,rfl,d2,q2⟩:=r1.ls s e3;obtain⟨f3,s3,_⟩:=ny s ea na ⟨_,h1⟩ (h2.app q2);exact⟨b,b2,us,us2,rfl,rfl,h1,d2,by rw[<- h2.length,<- q2.length];exact iQ hz,kk P φ _ _ f3 s3 (by simp only[RA])⟩
  ·cases e4
 ·cases e
def yr:MF:=fun x xs st=>match xs with
 |[y]=>(cL 9 st x).bind fun p=>(cL 9 st y).bind fun q=>match p with
  |.list ps=>if(ps.all fun r=>pyOk r q)=true then some (.int ((ps.countP fun r=>PyData.eqv r q:Nat):Int),st) else none
  |_=>none
 |_=>none
theorem Az[My](hu:X.A.units+64<cLine):lj X "list.count" (rM X.gm yr):=by
 rintro Mv s σ H x vs v us Q I rx rv ⟨P,φ,st,a,xs,sm,r,rr,z,st',e,kk⟩;unfold yr at e;split at e
 ·rename_i y
  obtain⟨p,e1,e2⟩:=zA e;obtain⟨q,e3,e4⟩:=zA e2;split at e4
  ·rename_i ps
   split at e4
   ·rename_i MD
    cases e4;obtain⟨w,rfl,r1⟩:=rr.one;obtain⟨u,rfl,ru⟩:=rv.one;obtain⟨as,ra⟩:=fY I sm 9 _ _ _ _ r e1 rx;obtain⟨bs,rb⟩:=fY I sm 9 _ _ _ _ r1 e3 ru;cases ra with
    |@list a o items n xs as' hg hc hdt rall =>
     obtain⟨ocl,odi,oda,osl⟩:=o;dsimp only at hc hdt;subst hc;subst hdt
     classical
     have uq:∀z p' az,Reads s.heap z p' az->decide (∃p as,Reads s.heap z p as/\PyData.eqv p q=true)=PyData.eqv p' q:=by
      intro z p' az rz;rcases he:PyData.eqv p' q with _|_
      ·refine yD ?_
       rintro⟨p2,as',r',e'⟩
       have:=(PySem.Reads.unique rz p2 as' r').1
       rw[<- this,he]at e';cases e'
      ·exact yZ ⟨p',az,rz,he⟩
     refine call_meets PySem.F.slot_list_count ⟨_,hg,rfl⟩ PySem.F.entry_list_count (PySem.F.args_list_count_2 _ _) (PySem.SeqAt.list_countAt a items n odi osl u (fun z=>decide (∃p as,Reads s.heap z p as/\PyData.eqv p q=true))) ⟨hg,?_,?_⟩
     ·intro z hz
      obtain⟨pz,az,hpz,rz⟩:=reads_each rall z (by simpa using hz);obtain⟨k1,k2,k3⟩:=nM (yU.mp MD pz hpz);rw[uq z pz az rz];exact PySem.SeqAt.eqAt_reads pz q _ s z u az bs rz rb k1 k2 (by simp only[Around.in1_units];lia)
     ·have hc:=cnt_vals (q:=q) (e:=fun z=>decide (∃p as,Reads s.heap z p as/\PyData.eqv p q=true)) (h:=s.heap) (vs:=items.toList) (ps:=ps) (fun v p as rv=>uq v p as rv) rall
      rw[hc];exact⟨.int _,H,I.kept (fun _ _ e=>e),⟨_,rfl⟩,kk P φ H _ Frm.refl sm (by simp only[RA])⟩
   ·cases e4
  ·cases e4
 ·cases e
def IZ(t:Bool):EF:=fun _ st=>some (.ref st.length,st++[if t=true then .dT [] else .dK []])
theorem BW[My](hm:PE X (.Dict [] [] pos) vw):QE X (.Dict [] [] pos) (IZ false):=PE_imp hm fun σ H Q hq0=>by
 obtain⟨P,φ,sl,st,rs,s,v,st',e,kk⟩:=hq0;cases e;intro d hd;obtain⟨f3,s3⟩:=lE (c:=.dK []) (o:=.dK []) s hd ⟨fun z=>s.dom d z hd,[],aq,rfl,bh⟩;refine kk P _ _ _ f3 s3 ?_;simp only[RA];exact⟨d,by rw[<- s.len];simp,rfl⟩
end
theorem qP:bootBuiltins "min"=some (.builtin "min"):=by decide +kernel
def yo(ns:List Int):AV:=match minL ns with
 |some m=>.int m
 |none=>.non
def mo(st:aa):List AV->Option AV
 |[v]=>(lsI st v).map yo
 |_=>none
theorem EV(a:Value):argsOk "min" ⟨[a],[(Str.ofString "default",.none)]⟩:=by unfold argsOk;kernel_rfl
theorem EU(a v:Value):argsOk "min" ⟨[a],[(Str.ofString "key",v),(Str.ofString "default",.none)]⟩:=by unfold argsOk;kernel_rfl
theorem EW{α:Type}{l:List α}{x:α}(h:x∈l):∃i:Nat,l[i]?=some x:=yC h
section
variable{X:Cx}{a:Expr}{f:EF}{p pos kp pc:Pos}{j:Nat}
theorem BU[My](hc:X.calm=true)(hg:Gl X "min")(hm:X.mg "min"=none)(ha:QE X a f)(hs:starEach [a] X.env=[(false,eval a X.env)]) :
  QE X (.Call (.Name "min" p) [a] [⟨some "default",.Constant .none j pc,kp⟩] pos) (qU (bW mo) (eI f d8)):=by
 intro Mv s σ H Q I h;have hb:=zy h;refine wpAny_Call_Name_kw (c6 I hg hm qP (callWith_kw (ax ((cK ha d9 (by rw[hs];rfl)) pos Mv s σ H _ I hb) fun us s1 ⟨vs,H1,I1,r1,q1⟩=>?_) (by rw[hs];rfl) (by rw[hs];rfl) (by rfl) (by rfl)));refine kws_cons (Constant_none (kws_nil ?_));obtain⟨P,φ,st,xs,sm,r,k0⟩:=q1;obtain⟨z,e,k⟩:=k0.map;unfold mo at e;split at e
 ·rename_i v
  obtain⟨w,rfl,rv⟩:=r.one;obtain⟨ns,e1,e2⟩:=zH.mp e;obtain⟨l,rfl,hl⟩:=rv.lsI sm e1;obtain⟨u,rfl,ru⟩:=dO r1;cases ru;refine p0 (ko:=none) (ns:=ns) (I.ok.hd hc) (fun i=>ns.getD i 0) (fun _ H=>H=H1) (fun i H e=>by rw[e];exact hl) rfl (EV _) (fun i n u pl s H en ru eH I=>.inl ⟨rfl,by simp[en],eH⟩) (fun i n H en hmin eH=>?_) (fun en=>?_) I1 rfl
  ·subst eH
   have:minL ns=some n:=by
    cases hM:minL ns with
    |none =>
     cases ns with
     |nil=>simp at en
     |cons _ _=>cases hM
    |some m =>
     rw[minL_eq hM (zZ en) fun b hb=>?_];obtain⟨i',hi'⟩:=EW hb;have h1:=(hmin i' (zD.mp hi').1).1;simpa [en,hi'] using h1
   have ez:z=.int n:=by rw[<- e2];unfold yo;rw[this]
   subst ez;exact k.pure sm (by simp only[RA])
  ·subst en
   have ez:z=.non:=by rw[<- e2];rfl
   subst ez;exact k.pure sm (by simp only[RA])
 ·cases e
end
def wm(key:EF)(sl:Sl)(st:aa)(n:Int):Option Int:=match key (sl++[some (.int n)]) st with
 |some (.int k,_)=>some k
 |_=>none
noncomputable def jZ:Int->Int->List (Int×Int)->Int
 |n,_,[]=>n
 |n,k,(m,j)::r=>if j<k then jZ m j r else jZ n k r
def oa:List (Int×Int)->AV
 |[]=>.non
 |(n,k)::r=>.int (jZ n k r)
def pq(f key:EF):EF:=fun sl st=>(f sl st).bind fun p=>(lsI p.2 p.1).bind fun ns=>(bE (wm key sl p.2) ns).map fun ks=>(oa (ns.zip ks),p.2)
def A7(f:EF):Prop:=∀sl st v st',f sl st=some (v,st')->st'=st
theorem kA:∀(r:List (Int×Int))(n k:Int),∃(i:Nat)(κ:Int),((n,k)::r)[i]?=some (jZ n k r,κ)/\∀(j:Nat) q,((n,k)::r)[j]?=some q->κ<=q.2/\(j<i->κ<q.2)
 |[],n,k=>⟨0,k,rfl,fun j q e=>by
   cases j with
   |zero=>cases e;exact⟨Int.le_refl _,fun h=>absurd h (xF _)⟩
   |succ j=>simp at e⟩
 |(m,j0)::r,n,k=>by
  by_cases hb:j0<k
  ·obtain⟨i,κ,e1,e2⟩:=kA r m j0
   refine⟨i+1,κ,by rw[List.getElem?_cons_succ];simpa [jZ,hb] using e1,fun j q e=>?_⟩;cases j with
   |zero =>
    cases e
    have:=(e2 0 (m,j0) rfl).1
    exact⟨by show κ<=k;lia,fun _=>by show κ<k;lia⟩
   |succ j =>
    rw[List.getElem?_cons_succ]at e;exact⟨(e2 j q e).1,fun h=>(e2 j q e).2 oM⟩
  ·obtain⟨i,κ,e1,e2⟩:=kA r n k
   have ea:jZ n k ((m,j0)::r)=jZ n k r:=by simp[jZ,hb]
   have hk:=(e2 0 (n,k) rfl).1;refine⟨if i=0 then 0 else i+1,κ,?_,fun j q e=>?_⟩
   ·rw[ea]
    cases i with
    |zero=>simpa using e1
    |succ i=>simpa using e1
   ·cases j with
    |zero =>
     cases e;refine⟨hk,fun h=>?_⟩;cases i with
     |zero=>simp at h
     |succ i=>exact(e2 0 (n,k) rfl).2 (Nat.succ_pos i)
    |succ j =>
     rw[List.getElem?_cons_succ]at e;cases j with
     |zero =>
      cases e;refine⟨by show κ<=j0;lia,fun h=>?_⟩;cases i with
      |zero=>simp at h
      |succ i =>
       have:=(e2 0 (n,k) rfl).2 (Nat.succ_pos i)
       show κ<j0;have:κ<k:=this;lia
     |succ j =>
      rw[List.getElem?_cons_succ]at e
      have:=e2 (j+1) q (by rw[List.getElem?_cons_succ];exact e)
      refine⟨this.1,fun h=>this.2 ?_⟩;cases i with
      |zero=>simp at h
      |succ i=>simp at h;lia
theorem CP{ns ks:List Int}{i:Nat}{n:Int}(hl:ns.length=ks.length)(hn:ns[i]?=some n)(hm:∀j,j<ns.length->ks.getD i 0<=ks.getD j 0/\(j<i->ks.getD i 0<ks.getD j 0)):oa (ns.zip ks)=.int n:=by
 have hi:i<ns.length:=(zD.mp hn).1;obtain⟨k,hk⟩:∃k,ks[i]?=some k:=⟨_,zI oM⟩;have hz:(ns.zip ks)[i]?=some (n,k):=by rw[List.getElem?_zip_eq_some];exact⟨hn,hk⟩
 have hd:ks.getD i 0=k:=by simp[hk]
 cases e:ns.zip ks with
 |nil=>rw[e]at hz;simp at hz
 |cons q r =>
  obtain⟨n0,k0⟩:=q;obtain⟨i',κ,e1,e2⟩:=kA r n0 k0;rw[<- e]at e1 e2;have e3:=List.getElem?_zip_eq_some.mp e1;have hi':i'<ns.length:=(zD.mp e3.1).1;have hd':ks.getD i' 0=κ:=by simp[e3.2]
  have m1:=hm i' hi';have m2:=e2 i (n,k) hz;rw[hd,hd']at m1;have m2a:κ<=k:=m2.1;have m2b:i<i'->κ<k:=m2.2;have:i=i':=by
   rcases Nat.lt_trichotomy i i' with h|h|h
   ·have:=m2b h;lia
   ·exact h
   ·have:=m1.2 h;lia
  subst this;rw[hn]at e3
  have:=e3.1
  simp only[oa];cases this;rfl
theorem p9{α β:Type}{f:α->Option β}:∀{l:List α}{r:List β},bE f l=some r->l.length=r.length/\∀(i:Nat) x,l[i]?=some x->∃y,r[i]?=some y/\f x=some y
 |[],r,h=>by cases h;exact⟨rfl,fun i x e=>by simp at e⟩
 |x::l,r,h=>by
  simp only[bE]at h;obtain⟨y,e1,e2⟩:=zA h;obtain⟨ys,e3,e4⟩:=zH.mp e2;subst e4;obtain⟨h1,h2⟩:=p9 e3;refine⟨by simp[h1],fun i z e=>?_⟩;cases i with
  |zero=>cases e;exact⟨y,rfl,e1⟩
  |succ i=>exact h2 i z (by simpa using e)
section
variable{X:Cx}{a body:Expr}{f key:EF}{p pos kp lp kp2 pc:Pos}{j:Nat}{params:Arguments}{scope:Scope}{N':List Str}{x:Str}{c P:Addr}
theorem MH.snoc[My]{mg:Gm}{P:Pr}{H:Hp}{φ:List Addr}{sl:Sl}{σ:St}{v:AV}{w:V}(h:MH mg P H φ sl σ)(r:RA mg P H φ v w):MH mg P H φ (sl++[some v]) (σ++[some w]):=by
 refine⟨by rw[zY,zY,h.1];rfl,fun i u e=>?_⟩;rcases yX i sl.length with hi|hi
 ·rw[zQ hi]at e
  rw[zQ (by rw[<- h.1];exact hi)];exact h.2 i u e
 ·rw[yA hi]at e
  rw[yA (by rw[<- h.1];exact hi),<- h.1];cases hk:i-sl.length with
  |zero=>rw[hk]at e;cases e;exact⟨w,rfl,r⟩
  |succ m=>rw[hk]at e;simp at e
theorem BT[My](hc:X.calm=true)(hg:Gl X "min")(hm:X.mg "min"=none)(ha:QE X a f)(hs:starEach [a] X.env=[(false,eval a X.env)])(hdef:defaultsOf params X.env=([],[]))(hcode:X.env.code=.ref c)(C:CodeHd X.base c P)(B:iG X.mg X.base)
  (ht:(P,lp,X.env.qual++"<lambda>")∈My.tb) (T:u7 X N' scope x) (hp:plainA params=true) (hps:params.args.map (·.arg)=[x]) (hd:X.A.in1.depth<recursionLimit) (pu:A7 key)
  (he:∀cl f c' s H,QE (qH X N' scope cl f (X.env.qual++"<lambda>") (.ref c') X.A.in1 s H) body key)
  (hdj:∀t∈My.tb,t.1=P->t=(P,lp,X.env.qual++"<lambda>")) :
  QE X (.Call (.Name "min" p) [a] [⟨some "key",.Lambda params body scope lp,kp⟩,⟨some "default",.Constant .none j pc,kp2⟩] pos) (pq f key):=by
 rintro Mv s σ H Q I ⟨Pr0,φ,sl,st,rs,sm,v,st',ev,k⟩;obtain⟨p1,e1,e2⟩:=zA ev;obtain⟨ns,e3,e4⟩:=zA e2;obtain⟨ks,e5,e6⟩:=zH.mp e4;cases e6;have hra:rA X.gm (eI f d8) σ H (fun vs H1=>∃P1 φ1 w,vs=[w]/\Frm Pr0 φ H P1 φ1 H1/\Sim X.gm P1 φ1 p1.2 H1/\RA X.gm P1 H1 φ1 p1.1 w) :=
  vC rs sm ⟨p1.1,p1.2,e1,fun P1 φ1 H1 w f1 s1 r1=>⟨P1,φ1,w,rfl,f1,s1,r1⟩⟩
 refine wpAny_Call_Name_kw (c6 I hg hm qP (callWith_kw (ax ((cK ha d9 (by rw[hs];rfl)) pos Mv s σ H _ I hra) fun us s1 ⟨vs,H1,I1,r1,P1,φ1,w,ew,f1,s1',rw1⟩=>?_) (by rw[hs];rfl) (by rw[hs];rfl) (by rfl) (by rfl)));subst ew;obtain⟨l,rfl,hl0⟩:=rw1.lsI s1' e3;obtain⟨u,rfl,ru⟩:=dO r1;cases ru;obtain⟨cl,hcl,hcl1,hcl2⟩:=jq (scope:=scope) (env:=X.env) (fun y hy=>by
  rcases T.cy.free y hy with h|h
  ·exact I1.ok.has y (.inl h)
  ·exact I1.ok.has y (.inr h))
 refine kws_cons (yz I1 hdef hcode C B hcl (s1'.tb _ ht).1 fun q c' ctv H2 s2 hH2 De hx2 I2=>kws_cons (Constant_none (kws_nil ?_)))
 -- the heap behind the making
 have fs:Frm P1 φ1 H1 P1 φ1 H2/\Sim X.gm P1 φ1 p1.2 H2:=by
  rcases hH2 with rfl|⟨ps,more,hP,hn,hne,rfl⟩
  ·exact⟨Frm.refl,s1'⟩
  ·have nP:∀b,P1 b->b≠P:=fun b h e=>(s1'.tb _ ht).2 (by rw[<- e];exact h)
   have nc:∀b,H1 b≠none->b≠c':=fun b h e=>h (by rw[e];exact hn)
   have ncell:∀b∈φ1,b≠P:=fun b h e=>s1'.tnc ht (by rw[<- e];exact h)
   have eq:∀b,b≠P->b≠c'->ae (ae H1 P (.tbl (ps++more))) c' (fv c' (X.env.qual++"<lambda>")) b=H1 b:=fun b h1 h2=>by rw[ad h2,ad h1]
   have ex:∀b,P1 b->P1 b/\ae (ae H1 P (.tbl (ps++more))) c' (fv c' (X.env.qual++"<lambda>")) b=H1 b:=fun b h=>⟨h,eq b (nP b h) (nc b (s1'.dom b h))⟩
   refine⟨⟨ex,⟨[],by simp,by simp⟩,fun b h _ z=>eq b (fun e=>z ps (by rw[e];exact hP)) (nc b h),fun b h=>.inl h,fun b h=>?_,fun b o u h=>?_⟩,s1'.stay ex (fun b h=>eq b (ncell b h) (nc b (s1'.cd b h))) (fun _ _ h=>h) (fun b h=>by rw[(ex b h).2];exact s1'.dom b h) fun t ht'=>⟨?_,(s1'.tb t ht').2⟩⟩
   ·by_cases e:b=P
    ·subst e;rw[ad hne,aq];exact fun z=>nomatch z
    ·rw[eq b e (nc b h)];exact h
   ·rw[eq b (fun e=>by rw[e,hP]at h;cases h) (nc b (by rw[h];exact fun z=>nomatch z))];exact h
   ·by_cases e:t.1=P
    ·rw[hdj t ht' e];exact De
    ·obtain⟨qs,g1,g2,g3⟩:=(s1'.tb t ht').1
     refine⟨qs,by rw[eq t.1 e (nc _ (by rw[g1];exact fun z=>nomatch z))];exact g1,g2,?_⟩;rcases g3 with g3|⟨c2,g4,g5⟩
     ·exact .inl g3
     ·exact .inr ⟨c2,g4,by rw[eq c2 (fun z=>by rw[z,hP]at g5;cases g5) (nc _ (by rw[g5];exact fun z=>nomatch z))];exact g5⟩
 obtain⟨hlen,hget⟩:=p9 e5;have ay:∀H',(∃P' φ',Frm P1 φ1 H2 P' φ' H'/\Sim X.gm P' φ' p1.2 H')->∀z,oa (ns.zip ks)=z->∀w,(∀P' φ',RA X.gm P' H' φ' z w)->Q w H':=fun H' hq0 z hz w r=>by
  obtain⟨P',φ',f',s'⟩:=hq0;rw[hz]at k;exact k P' φ' H' w ((f1.trans fs.1).trans f') s' (r P' φ')
 have hmc:=p0 (X:=X) (Mv:=Mv++[(q,uo X.mg (X.env.qual++"<lambda>") params body scope cl (.ref c') ctv)]) (σ:=σ) (ko:=some (.ref q)) (kws:=[(Str.ofString "key",.ref q),(Str.ofString "default",.none)]) (l:=l) (ns:=ns) (H:=H2) (s:=s2) (Q:=Q) (E:=X.xe)
  (I.ok.hd hc) (fun i=>ks.getD i 0) (fun _ H'=>∃P' φ',Frm P1 φ1 H2 P' φ' H'/\Sim X.gm P' φ' p1.2 H') (fun i H' ⟨P',φ',f',s'⟩=>?_) rfl (EU _ _) (fun i n u pl s3 H3 en ru ⟨P3,φ3,f3,s3'⟩ I3=>.inr ⟨q,rfl,?_⟩) (fun i n H' en hmin hJ=>?_) (fun en=>?_) I2 ⟨P1,φ1,Frm.refl,fs.2⟩
 ·exact ax hmc fun u s9 ⟨v9,H9,I9,r9,q9⟩=>⟨v9,H9,I9.pins_of fun p hp=>I9.pin p (zN _ (zO _ hp)),r9,q9⟩
 ·obtain⟨b,eb,hb⟩:=(rw1.frm (fs.1.trans f')).lsI s' e3
  cases eb;exact hb
 ·obtain⟨kv,ek,hk⟩:=hget i n en
  unfold wm at hk;split at hk
  ·rename_i k0 st0 ekey
   cases hk
   have:=pu _ _ _ _ ekey
   subst this;have hpin:=I3.pin (q,uo X.mg (X.env.qual++"<lambda>") params body scope cl (.ref c') ctv) (zN _ (zO _ (zN _ (zP.mpr rfl))));have hcx:H3 c'=some (fv c' (X.env.qual++"<lambda>")):=fs.2.okeep f3 hx2;have hcr:s3.heap.CodeRec (.ref c') (X.env.qual++"<lambda>"):=(I3.MD c' _ hcx).1;refine za (te:=rE X.gm key) T I3 I.ok.frames (I.ok.hd hc) hd hcl1 hcl2 hp hps hpin.1 hcr (fun s H=>he cl q c' s H) ru ?_;have ksl:MH X.gm P3 H3 φ3 (sl++[some (.int n)]) (σ++[some (.int n)]):=MH.snoc (((rs.frm f1).frm fs.1).frm f3) (by simp only[RA]);refine⟨P3,φ3,sl++[some (.int n)],p1.2,ksl,s3',.int kv,p1.2,ekey,fun P4 φ4 H4 b f4 s4 r4=>?_⟩;simp only[RA]at r4;exact⟨by rw[r4];simp[ek],P4,φ4,f3.trans f4,s4⟩
  ·cases hk
 ·exact ay H' hJ _ (CP hlen en hmin) _ fun P' φ'=>by simp only[RA]
 ·subst en
  exact ay H2 ⟨P1,φ1,Frm.refl,fs.2⟩ _ rfl _ fun P' φ'=>by simp only[List.zip_nil_left,oa,RA]
end
def uW(f:EF)(l h:OF):EF:=fun sl st=>(f sl st).bind fun p=>(l sl p.2).bind fun q=>(h sl q.2).bind fun r=>match p.1 with
 |.tup xs=>if(HT.MG xs.length 0 q.1==0&&HT.MG xs.length xs.length r.1==xs.length)=true then none else some (.tup (cut xs q.1 r.1),r.2)
 |_=>none
section
variable{X:Cx}{a b:Expr}{f g:EF}{pos p1 p2 pos2:Pos}
theorem DW[My]{l h:OF}{lo hi:Option Expr}{p2:Pos}(ha:QE X a f)(hl:QO X lo l)(hh:QO X hi h):QE X (.Subscript a (.Slice lo hi none p2) pos) (uW f l h) :=
 PE_imp (pT Do ha hl hh) fun σ H Q hq0=>by
  obtain⟨P,φ,sl,st,rs,s,xs,st',ef,k⟩:=hq0;obtain⟨q,e1,e2⟩:=zA ef;obtain⟨r,e3,e4⟩:=zA e2;obtain⟨t,e5,e6⟩:=zA e4;refine Dp rs s ⟨q.1,q.2,r.1,r.2,t.1,t.2,e1,e3,e5,fun P1 φ1 H1 w f1 s1 r1=>?_⟩;split at e6
  ·rename_i ys ey
   split at e6
   ·cases e6
   ·rename_i hz
    cases e6;rw[ey]at r1;simp only[RA]at r1;obtain⟨a,vs,rfl,hP,hT,rr⟩:=r1;refine⟨a,vs,rfl,.inl (.inl hT),fun z=>hz (by rw[rr.length,zE,beq_iff_eq,beq_iff_eq];exact z),fun p hp=>?_⟩;obtain⟨f3,s3⟩:=jJ (o:=.tup (jp vs r.1 t.1)) s1 hp;refine k _ φ1 _ _ (f1.trans f3) s3 ?_;simp only[RA];exact⟨p,_,rfl,.inr rfl,aq,(rr.cut _ _).frm f3⟩
  ·cases e6
noncomputable def oq(i:Int):Bool:=decide (0<=i)&&decide (i<=1000)
def uc(f:EF):NF:=fun sl st=>(f sl st).bind fun p=>match p.1 with
 |.int j=>if oq j=true then some (cF 0 j.toNat,p.2) else none
 |_=>none
def t9(f g:EF):NF:=fun sl st=>(f sl st).bind fun p=>(g sl p.2).bind fun q=>match p.1,q.1 with
 |.int i,.int j=>if(oq i&&oq j&&decide (i<=j))=true then some (cF i (j-i).toNat,q.2) else none
 |_,_=>none
theorem MB.rng(i:Nat):∀n:Nat,MB mg P H φ (cF (i:Int) n) ((List.range' i n).map fun(q:Nat)=>V.int (q:Int)):=by
 have key:∀(l:List Nat),MB mg P H φ (l.map fun(k:Nat)=>AV.int ((i:Int)+(k:Int))) (l.map fun(k:Nat)=>V.int ((i:Int)+(k:Int))):=by
  intro l
  induction l with
  |nil=>exact bh
  |cons x l ih=>exact aS (by simp only[RA]) ih
 intro n;have:((List.range' i n).map fun(q:Nat)=>V.int (q:Int))=(List.range n).map fun(k:Nat)=>V.int ((i:Int)+(k:Int)):=by
  rw[List.range'_eq_map_range,List.map_map];refine List.map_congr_left fun k _=>?_
  simp
 rw[this];exact key _
theorem DM[My](hc:X.calm=true)(hgl:Gl X "list")(hml:X.mg "list"=none)(hgr:Gl X "range")(hmr:X.mg "range"=none)(ha:QE X a f)
  (hs:starEach [a] X.env=[(false,eval a X.env)]):QN X (.Call (.Name "list" p1) [.Call (.Name "range" p2) [a] [] pos2] [] pos) (uc f) :=
 PE_imp (yd hc hgl hml hgr hmr ha hs) fun σ H Q hq0=>by
  obtain⟨P,φ,sl,st,rs,s,xs,st',ef,k⟩:=hq0;obtain⟨q,e1,e2⟩:=zA ef;refine⟨P,φ,sl,st,rs,s,q.1,q.2,e1,fun P1 φ1 H1 w f1 s1 r1=>?_⟩;show ∃j:Nat,[w]=[.int (j:Int)]/\j<=1000/\∀p,H1 p=none->Q (.ref p) (ae H1 p (.lst ((List.range' 0 j).map fun(q:Nat)=>V.int (q:Int))));split at e2
  ·rename_i j ej
   split at e2
   ·rename_i hb
    cases e2;rw[ej]at r1;simp only[RA]at r1;subst r1;obtain⟨h1,h2⟩:=Bool.and_eq_true_iff.mp hb;have h1:=of_decide_eq_true h1;have h2:=of_decide_eq_true h2;refine⟨j.toNat,by rw[Int.toNat_of_nonneg h1],by lia,fun p hp=>?_⟩;exact k P1 φ1 H1 p _ f1 s1 hp (MB.rng 0 j.toNat)
   ·cases e2
  ·cases e2
theorem DL[My](hc:X.calm=true)(hgl:Gl X "list")(hml:X.mg "list"=none)(hgr:Gl X "range")(hmr:X.mg "range"=none)(ha:QE X a f)(hb:QE X b g)
  (hs:starEach [a,b] X.env=[(false,eval a X.env),(false,eval b X.env)]) (hs2:starEach [b] X.env=[(false,eval b X.env)]):QN X (.Call (.Name "list" p1) [.Call (.Name "range" p2) [a,b] [] pos2] [] pos) (t9 f g) :=
 PE_imp (vR hc hgl hml hgr hmr (cK ha (cK hb d9 (by rw[hs2];rfl)) (by rw[hs,hs2])) hs hs2) fun σ H Q hq0=>by
  obtain⟨P,φ,sl,st,rs,s,xs,st',ef,k⟩:=hq0;obtain⟨q,e1,e2⟩:=zA ef;obtain⟨r,e3,e4⟩:=zA e2;refine DA rs s ⟨q.1,q.2,r.1,r.2,e1,e3,fun P1 φ1 H1 w w' f1 s1 r1 r2=>?_⟩;split at e4
  ·rename_i i j ei ej
   split at e4
   ·rename_i hb
    cases e4;rw[ei]at r1;rw[ej]at r2;simp only[RA]at r1 r2;subst r1;subst r2;simp only[oq,zE,yF]at hb;obtain⟨⟨⟨h1,h2⟩,h3,h4⟩,h5⟩:=hb;refine⟨i.toNat,j.toNat,by rw[Int.toNat_of_nonneg h1,Int.toNat_of_nonneg h3],by lia,by lia,fun p hp=>?_⟩;refine k P1 φ1 H1 p _ f1 s1 hp ?_;have e1:(j-i).toNat=j.toNat-i.toNat:=by lia
    have e2:i=((i.toNat:Nat):Int):=by lia
    have:=MB.rng (mg:=X.gm) (P:=P1) (H:=H1) (φ:=φ1) i.toNat (j.toNat-i.toNat)
    rw[<- e2,<- e1]at this;rw[<- e1];exact this
   ·cases e4
  ·cases e4
end
def ms:aR->AV
 |.inl i=>.int i
 |.inr x=>.str x
noncomputable def Al(k:Nat):Out->Option Out
 |.nx sl st=>match st[k]? with
  |some (.wk Mx)=>some (.nx sl (st.set k (.dK Mx)))
  |_=>none
 |.rt v st=>match st[k]? with
  |some (.wk Mx)=>some (.rt v (st.set k (.dK Mx)))
  |_=>none
 |_=>none
def tM(f:EF)(g:GF)(s:SF):SF:=fun sl st=>(f sl st).bind fun p=>match p.1 with
 |.ref k=>match p.2[k]? with
  |some (.dK Mx)=>(cT [] g s (Mx.map fun q=>ms q.1) sl (p.2.set k (.wk Mx))).bind (Al k)
  |_=>none
 |_=>none
section
variable{X:Cx}{tg iter:Expr}{body:List Stmt}{pos:Pos}{f:EF}{g:GF}{s:SF}
theorem BI[My](hp:PassesOwn (model X.prog X.w) X.A X.env X.xe)(hc:X.calm=true)(hi:QE X iter f)(hg:QG X tg g)(hb:ld X body s)(hs:∀x,foldedSetIterable iter X.env x=pure x):QS X (.For tg iter body [] pos) (tM f g s) :=
 PS_imp (B3 (vJ hp hc (Cc hi) hg hb hs)) fun D σ H hq0=>by
  obtain⟨P,φ,sl,st,rs,sm,o,e,q⟩:=hq0;obtain⟨p,e1,e2⟩:=zA e;refine⟨P,φ,sl,st,rs,sm,p.1,p.2,e1,fun P1 φ1 H1 w f1 s1 r1=>?_⟩;split at e2
  ·rename_i k ek
   rw[ek]at r1;simp only[RA]at r1;obtain⟨a,ea,rfl⟩:=r1;split at e2
   ·rename_i Mx hk
    obtain⟨o1,e3,e4⟩:=zA e2;obtain⟨na,ws,h1,h2⟩:=s1.cell k _ a hk ea;refine⟨a,ws,rfl,h1,fun ob hn=>?_⟩;have hkeys:(Mx.map fun q=>ms q.1).length=ws.length:=by
     have:=congrArg List.length h2.1
     rw[zK,zK]at this;rw[zK];exact this
    obtain⟨fw,sw⟩:=gJ (c:=.wk Mx) (o:=.frz ob (.dK ws)) s1 ea na ⟨na,ob,ws,aq,h2.mono (fun b h=>⟨h,ad fun e=>na (e▸h)⟩) fun _ _ z=>z⟩ (fun _ _ z=>by rw[h1]at z;cases z);have rsw:MH X.gm P1 (ae H1 a (.frz ob (.dK ws))) φ1 sl σ:=(rs.frm f1).frm fw
    -- behind the loop
    have back:∀{P5 φ5 H5 st5},Frm P1 φ1 (ae H1 a (.frz ob (.dK ws))) P5 φ5 H5->Sim X.gm P5 φ5 st5 H5->∀{kvs'},st5[k]?=some (.wk kvs')->∃o5 ws5,H5 a=some (.frz o5 (.dK ws5)) /\
      Frm P φ H P5 φ5 (ae H5 a (.dK ws5))/\Sim X.gm P5 φ5 (st5.set k (.dK kvs')) (ae H5 a (.dK ws5))/\∀b,P5 b->P5 b/\ae H5 a (.dK ws5) b=H5 b:=by
     intro P5 φ5 H5 st5 f5 s5 kvs' hw;have ea5:φ5[k]?=some a:=f5.ix k a ea;obtain⟨na5,o5,ws5,g1,g2⟩:=s5.cell k _ a hw ea5;have ex5:∀b,P5 b->P5 b/\ae H5 a (.dK ws5) b=H5 b:=fun b h=>⟨h,ad fun e=>na5 (e▸h)⟩
     refine⟨o5,ws5,g1,?_,?_,ex5⟩
     ·have fall:=(f1.trans fw).trans f5
      obtain⟨m,em,nm⟩:=fall.new;have hna:H a=none\/a∈φ:=by
       rcases z7.mp (show a ∈ φ++f1.new.choose by rw [<- f1.new.choose_spec.1];exact zZ ea) with z | z
       ·exact .inr z
       ·exact .inl (f1.new.choose_spec.2 a z)
      refine⟨fun b h=>⟨(fall.ext b h).1,?_⟩,⟨m,em,nm⟩,fun b h n z=>?_,fall.pn,fun b h=>?_,fun b o u h=>?_⟩
      ·rw[(ex5 b (fall.ext b h).1).2];exact(fall.ext b h).2
      ·have nb:b≠a:=fun e=>by
        rcases hna with y|y
        ·exact h (by rw[e];exact y)
        ·exact n (by rw[e];exact y)
       rw[ad nb];exact fall.keep b h n z
      ·by_cases e:b=a
       ·rw[e,aq];exact fun z=>nomatch z
       ·rw[ad e];exact fall.sm b h
      ·have nb:b≠a:=fun e=>by
        have:=f1.fz b o u h
        rw[e,h1]at this;cases this
       rw[ad nb];exact fall.fz b o u h
     ·have hs5:st5[k]?=some (.wk kvs'):=hw
      refine⟨by rw[List.length_set];exact s5.len,s5.nd,fun b h=>by rw[(ex5 b h).2];exact s5.dom b h,fun b h=>?_,fun j c b e5 e6=>?_,fun t ht=>⟨(s5.tb t ht).1.wr (s5.notb ea5 na5),(s5.tb t ht).2⟩⟩
      ·by_cases e:b=a
       ·rw[e,aq];exact fun z=>nomatch z
       ·rw[ad e];exact s5.cd b h
      ·by_cases hj:j=k
       ·subst hj
        rw[ea5]at e6;cases e6;rw[List.getElem?_set_self (by rw[<- s5.len];exact(zD.mp ea5).1)]at e5;cases e5;exact⟨na5,ws5,aq,g2.mono ex5 fun _ _ z=>z⟩
       ·rw[List.getElem?_set_ne (Ne.symm hj)]at e5
        have hb:b≠a:=fun e=>hj (by
         subst e;obtain⟨l1,q1⟩:=zD.mp e6;obtain⟨l2,q2⟩:=zD.mp ea5;exact(List.getElem_inj s5.nd).mp (q1.trans q2.symm))
        exact(s5.cell j c b e5 e6).mono ex5 (fun _ _ z=>z) (ad hb) fun z=>z
    have endN:∀{P5 φ5 H5 σ5 sl5 st5},o1=.nx sl5 st5->Frm P1 φ1 (ae H1 a (.frz ob (.dK ws))) P5 φ5 H5->Sim X.gm P5 φ5 st5 H5->MH X.gm P5 H5 φ5 sl5 σ5->(oZ X.H₀ D).nx σ5 H5:=by
     intro P5 φ5 H5 σ5 sl5 st5 eo f5 s5 rs5;subst eo;simp only[Al]at e4;split at e4
     ·rename_i kvs' hw
      cases e4;obtain⟨o5,ws5,g1,g2,g3,g4⟩:=back f5 s5 hw;exact⟨a,o5,ws5,g1,hn,q P5 φ5 _ σ5 g2 g3 ⟨rs5.1,fun i v e=>let⟨w,e',r⟩:=rs5.2 i v e;⟨w,e',r.mono g4 fun _ _ z=>z⟩⟩⟩
     ·cases e4
    have endR:∀{P5 φ5 H5 v5 st5 w5},o1=.rt v5 st5->Frm P1 φ1 (ae H1 a (.frz ob (.dK ws))) P5 φ5 H5->Sim X.gm P5 φ5 st5 H5->RA X.gm P5 H5 φ5 v5 w5->(oZ X.H₀ D).rt w5 H5:=by
     intro P5 φ5 H5 v5 st5 w5 eo f5 s5 r5;subst eo;simp only[Al]at e4;split at e4
     ·rename_i kvs' hw
      cases e4;obtain⟨o5,ws5,g1,g2,g3,g4⟩:=back f5 s5 hw;exact⟨a,o5,ws5,g1,hn,q P5 φ5 _ w5 g2 g3 (r5.mono g4 fun _ _ z=>z)⟩
     ·cases e4
    refine⟨fun i m σ' H'=>m=ws.length-i/\i<=ws.length/\∃P' φ' sl' st',Frm P1 φ1 (ae H1 a (.frz ob (.dK ws))) P' φ' H'/\Sim X.gm P' φ' st' H'/\MH X.gm P' H' φ' sl' σ'/\cT [] g s ((Mx.map fun q=>ms q.1).drop i) sl' st'=some o1,
     ⟨_,rfl,Nat.zero_le _,P1,φ1,sl,_,Frm.refl,sw,rsw,by simpa using e3⟩,?_⟩
    rintro i m σ' H' ⟨rfl,hle,P2,φ2,sl2,st2,f2,s2,rs2,eg⟩;have hfz:H' a=some (.frz ob (.dK ws)):=f2.fz a _ _ aq;rcases yX i ws.length with hlt|hge
    ·right
     rw[List.drop_eq_getElem_cons (by rw[hkeys];exact hlt)]at eg;simp only[cT,bQ,if_true]at eg;obtain⟨q4,e5,e6⟩:=zA eg;obtain⟨o2,e7,e8⟩:=zA e6;refine⟨⟨hfz,hlt⟩,fun σ' H'=>∃P' φ' sl' st',Frm P1 φ1 (ae H1 a (.frz ob (.dK ws))) P' φ' H'/\Sim X.gm P' φ' st' H'/\MH X.gm P' H' φ' sl' σ'/\cT [] g s ((Mx.map fun q=>ms q.1).drop (i+1)) sl' st'=some o1,fun σ' H' z=>⟨_,by lia,rfl,hlt,z⟩,fun x H3 hy=>?_⟩;obtain⟨rfl,hx⟩:=hy;have rx:RA X.gm P2 H3 φ2 ((Mx.map fun q=>ms q.1)[i]'(by rw[hkeys];exact hlt)) x:=by
      have hkw:Mx[i]?.map (·.1)=ws[i]?.map (·.1):=by rw[<- zU,<- zU,h2.1]
      have hlt':i<Mx.length:=by rw[zK]at hkeys;lia
      rw[zU,zI hlt]at hx;rw[zI hlt',zI hlt]at hkw;simp only[map_some,Option.some.injEq]at hx hkw;rw[List.getElem_map,hkw,<- hx];cases ws[i].1 with
      |inl n=>simp only[ms,RA,kV]
      |inr z=>simp only[ms,RA,kV]
     refine⟨P2,φ2,sl2,st2,_,rs2,s2,rx,q4.1,q4.2,e5,fun P4 φ4 H4 σ4 f4 s4 rs4=>⟨P4,φ4,q4.1,q4.2,rs4,s4,o2,e7,?_⟩⟩;have fa:=f2.trans f4;cases o2 with
     |nx sl5 st5=>exact fun P5 φ5 H5 σ5 f5 s5 rs5=>⟨P5,φ5,sl5,st5,fa.trans f5,s5,rs5,e8⟩
     |ct sl5 st5=>exact fun P5 φ5 H5 σ5 f5 s5 rs5=>⟨P5,φ5,sl5,st5,fa.trans f5,s5,rs5,e8⟩
     |bk sl5 st5=>exact fun P5 φ5 H5 σ5 f5 s5 rs5=>endN (yH e8).symm (fa.trans f5) s5 rs5
     |rt v st5=>exact fun P5 φ5 H5 w f5 s5 r5=>endR (yH e8).symm (fa.trans f5) s5 r5
    ·left
     have ei:i=ws.length:=Nat.le_antisymm hle hge;subst ei;rw[<- hkeys,List.drop_length]at eg;simp only[cT,bQ,if_true]at eg;exact⟨⟨hfz,zS _⟩,endN (yH eg).symm f2 s2 rs2⟩
   ·cases e2
  ·cases e2
end
noncomputable def bU:Expr->Bool
 |.Starred _ _=>false
 |_=>true
noncomputable def iR:Expr->Bool
 |.Slice _ _ _ _=>false
 |_=>true
noncomputable def ym:Expr->Bool
 |.Set _ _ _=>false
 |_=>true
noncomputable def nO:Expr->Bool
 |.Call (.Name _ _) [] [] _=>false
 |_=>true
noncomputable def mj:Expr->Bool
 |.ListComp _ _ _ _=>false
 |.SetComp _ _ _ _=>false
 |.DictComp _ _ _ _ _=>false
 |_=>true
noncomputable def pW:Expr->Bool
 |.Tuple _ _ _=>false
 |_=>true
noncomputable def vL:Expr->Bool
 |.UnaryOp .Not _ _=>false
 |.BoolOp _ _ _=>false
 |.IfExp _ _ _ _=>false
 |.Compare _ _ _ _=>false
 |_=>true
section
variable{env:Env}{e o i a b:Expr}{es:List Expr}{pos cpos apos:Pos}{f:Str}
theorem aE(h:bU e=true):starEach (e::es) env=(false,eval e env)::starEach es env:=by
 cases e<;>first|rfl|cases h
theorem gT(h:es.all bU=true):(backTo pos (starEach es env)).any (·.1)=false:=by
 induction es with
 |nil=>rfl
 |cons e es ih =>
  rw[List.all_cons,zE]at h;rw[aE h.1];show(false||(backTo pos (starEach es env)).any (·.1))=false;rw[ih h.2];rfl
theorem xy(h:es.all bU=true):(backTo pos (starEach es env)).all (fun x=>!x.1)=true:=by
 induction es with
 |nil=>rfl
 |cons e es ih =>
  rw[List.all_cons,zE]at h;rw[aE h.1];show(true&&(backTo pos (starEach es env)).all (fun x=>!x.1))=true;rw[ih h.2];rfl
theorem IR(h:es.all bU=true)(hl:es.length<30):((backTo cpos (starEach es env)).all (fun x=>!x.1)&&(backToKw cpos (keywordEach [] env)).all (fun x=>x.1.isSome)&&decide (es.length+([]:List Keyword).length+(if([]:List Keyword).isEmpty then 0 else 1)<30))=true:=by
 rw[xy h];have:decide (es.length+([]:List Keyword).length+(if([]:List Keyword).isEmpty then 0 else 1)<30)=true:=yZ (by simpa using hl);rw[this];rfl
theorem fc(w:Sem Value)(h:nO o=true):attributeBase o f env w=w:=by
 unfold attributeBase;split
 ·simp[nO]at h
 ·rfl
theorem sf(hb:nO o=true)(hs:es.all bU=true)(hl:es.length<30)(hline:(apos.endLine==pos.line)=true):eval (.Call (.Attribute o f apos) es [] pos) env=(do
   let ov <- eval o env
   standAt apos.atName
   let(f,first) <- holding [ov] (getMethod ov f (do return (<- importBound o env).getD true))
   callWith pos f first (backTo pos (starEach es env)) (backToKw pos (keywordEach [] env))):=by
 rw[arm_eval_Call,fc _ hb];have hform:methodCallForm (es.length+([]:List Keyword).length) (backTo pos (starEach es env)) (backToKw pos (keywordEach [] env))=true:=IR hs hl;have hpos:methodCallPos true o env apos pos=pure pos:=by unfold methodCallPos;simp[hline]
 unfold methodCall;rw[hform,hpos];rfl
theorem pJ(h:ym e=true)(x:Value):foldedSetIterable e env x=pure x:=by
 cases e<;>first|rfl|cases h
theorem Hg(h:iR i=true):oh i:=fun _ _=>by
 cases i<;>first|rfl|cases h
theorem Dn(h:iR i=true)(v:Value):assign (.Subscript o i pos) env v=(do
   let ov <- holding [v] (eval o env)
   let iv <- holding [v,ov] (eval i env)
   standAt pos
   holding [v,ov,iv] (setItem ov iv v)
   release [v,ov,iv] []):=by
 cases i<;>first|rfl|cases h
theorem FX(h:iR i=true)(ov iv new:Value):augStore i ov iv new=(do holding [new,ov,iv] (setItem ov iv new);release [new,ov,iv] [];pure .next):=by
 cases i<;>first|rfl|cases h
theorem rK{l:Nat}(h:mj e=true):swapsWith e t l env=pure false:=by
 cases e<;>first|rfl|cases h
theorem xq{l:Nat}:swapsWith e (some (.Attribute o f p)) l env=pure false:=by
 cases e<;>rfl
noncomputable def Ip(nm:List (Str×NameKind))(t:Str)(tl:Nat)(sc:Scope)(vl:Nat):Bool:=decide (nm.lookup t=some .local)&&(tl==vl)&&!(sc.names.any fun(n,k)=>n==t&&(k==.local||k==.cell))
theorem Dm{l:Nat}(hk:env.scope.kind=.function) :
  swapsWith (.ListComp elt gens sc pos) (some (.Name t p)) l env=pure (Ip env.scope.names t p.line sc pos.line):=by
 have hb:env.blockKind=.function:=by unfold Env.blockKind;rw[hk];rfl
 show(pure (env.blockKind==.function&&env.kindOf t==some .local&&p.line==pos.line&&!(sc.names.any fun(n,k)=>n==t&&(k==.local||k==.cell))):Sem Bool)=_;rw[hb];have:(env.kindOf t==some NameKind.local)=decide (env.scope.names.lookup t=some .local):=by
  show(env.scope.names.lookup t==some NameKind.local)=_;cases h:env.scope.names.lookup t with
  |none=>rfl
  |some k=>cases k<;>rfl
 rw[this];rfl
theorem xx:swappedStores [.Subscript a b p] e env=pure none:=by cases e<;>rfl
theorem xw{k:Nat}(h:pW e=true):swappedStores [.Tuple ts k p] e env=pure none:=by cases e<;>first|rfl|cases h
theorem sM(h:bU e=true):(assignEach [e] env).map (·.2)=[assign e env]:=by
 cases e<;>first|rfl|cases h
theorem zn(h:bU e=true):(assignEach (e::es) env).map (·.2)=assign e env::(assignEach es env).map (·.2):=by
 cases e<;>first|rfl|cases h
theorem zo:(assignEach es env).length=es.length:=by
 induction es with
 |nil=>rfl
 | cons e es ih=>cases e <;> (show (assignEach es env).length + 1=es.length + 1;rw [ih])
theorem zp(h:es.all bU=true):(assignEach es env).findIdx? (·.1)=none:=by
 have:∀p∈assignEach es env,p.1=false:=by
  induction es with
  |nil=>intro p hp;cases hp
  |cons e es ih =>
   rw[List.all_cons,zE]at h;have e1:assignEach (e::es) env=(false,assign e env)::assignEach es env:=by
    cases e<;>first|rfl|cases h.1
   rw[e1];intro p hp;rcases zW.mp hp with rfl|hp
   ·rfl
   ·exact ih h.2 p hp
 rw[List.findIdx?_eq_none_iff];intro p hp;rw[this p hp]
theorem rC(h:vL e=true)(whole:Sem Value):isTrue e env whole=(do let v <- whole;standAt e.pos;holding [v] (truthy v)):=by
 cases e with
 |UnaryOp op x p=>cases op<;>first|rfl|cases h
 |BoolOp=>cases h
 |IfExp=>cases h
 |Compare=>cases h
 |_=>rfl
end
set_option genInjectivity false
set_option genSizeOf false
set_option genSizeOfSpec false
inductive Bi where
 |len|sum|abs|min|max|int
inductive Mi where
 |app|pop|ext|cnt
mutual
inductive Ex where
 |n|b (x:Bool)|i (x:Int)|s (x:Str)|v (k:Nat)|g (x:Str) (c:AV)|bin (o:Operator) (a b:Ex)|cmp (o:CmpOp) (a b:Ex)|un (o:UnaryOp) (a:Ex)|no (a:Ex)|an (a b:Ex)|or (a b:Ex)|ife (t:Tx) (a b:Ex)|ix (a b:Ex)|tu (es:Exs)|nw (m:Bool) (x:Nx)|ca (p:Bool) (j:Nat) (es:Exs)|me (c m:Str) (j:Nat) (o:Ex) (es:Exs)|ne (c:Str) (j:Nat) (es:Exs)|fd (c f:Str) (o:Ex)|bi (b:Bi) (es:Exs)|mt (m:Mi) (o:Ex) (es:Exs)|dn|mnd (a:Ex)|mnk (a key:Ex)|slt (a:Ex) (l h:Ox)
inductive Tx where
 |va (e:Ex)|cmp (o:CmpOp) (a b:Ex)|no (t:Tx)|an (t u:Tx)|or (t u:Tx)
inductive Exs where
 |nil|cons (e:Ex) (es:Exs)
inductive Nx where
 |li (es:Exs)|cat (a b:Ex)|rep (es:Exs) (b:Ex)|sl (a:Ex) (l h:Ox)|lof (a:Ex)|lc (k:Nat) (it:Ix) (t:Tg) (c:Cx') (e:Ex)|lr1 (a:Ex)|lr2 (a b:Ex)
inductive Ox where
 |no|so (e:Ex)
inductive Cx' where
 |no|so (t:Tx)
inductive Ix where
 |e (a:Ex)|r1 (a:Ex)|r2 (a b:Ex)|zi (a b:Ex)|en (a:Ex)|es (a b:Ex)
inductive Tg where
 |nm (k:Nat)|tu (n:Nat) (ts:Tgs)|su (a b:Ex)
inductive Tgs where
 |nil|cons (t:Tg) (ts:Tgs)
end
mutual
inductive Sx where
 |ex (e:Ex)|as (e:Ex) (t:Tg)|aus (o:Operator) (a b e:Ex)|fl (c f:Str) (o e:Ex)|rt (e:Ex)|iff (t:Tx) (a b:MK)|fo (it:Ix) (t:Tg) (b:MK)|wh (t:Tx) (b:MK)|dead|fd (a:Ex) (t:Tg) (b:MK)
inductive MK where
 |nil|cons (s:Sx) (ss:MK)|dead
end
def mV:Bi->BF
 |.len=>bW d4
 |.sum=>bW pE
 |.abs=>bW qT
 |.min=>bW p4
 |.max=>bW ue
 |.int=>bW lI
def p6:Mi->MF
 |.app=>qa
 |.pop=>ui
 |.ext=>uj
 |.cnt=>yr
noncomputable def p7:Mi->String
 |_=>"list"
def kf(ks:List Fn)(j:Nat):Fn:=ks.getD j fun _ _=>none
def dW(p:Bool)(fn:Fn):Fn:=if p=true then pm fn else fn
section
variable(ks:List Fn)
mutual
noncomputable def ev:Ex->EF
 |.n=>aC .non
 |.b x=>aC (.bl x)
 |.i x=>aC (.int x)
 |.s x=>aC (.str x)
 |.v k=>aV k
 |.g _ c=>aC c
 |.bin o a b=>a2 (ev a) (ev b) (jE (bG o))
 |.cmp o a b=>a2 (ev a) (ev b) (jE (lM o))
 |.un o a=>a1 (ev a) (Ds (lU o))
 |.no a=>IW (ev a)
 |.an a b=>A5 (ev a) (ev b)
 |.or a b=>AW (ev a) (ev b)
 |.ife t a b=>IX (tv t) (ev a) (ev b)
 |.ix a b=>a2 (ev a) (ev b) (jE bN)
 |.tu es=>IV (dG es)
 |.nw m x=>AX m (iq x)
 |.ca p j es=>AZ (dW p (kf ks j)) (dG es)
 |.me c m j o es=>AY c m (kf ks j) (ev o) (dG es)
 |.ne c j es=>wT c (kf ks j) (dG es)
 |.fd c f o=>IY c f (ev o)
 |.bi b es=>qU (mV b) (dG es)
 |.mt m o es=>k9 (p7 m) (p6 m) (ev o) (dG es)
 |.dn=>IZ false
 |.mnd a=>qU (bW mo) (eI (ev a) d8)
 |.mnk a key=>pq (ev a) (ev key)
 |.slt a l h=>uW (ev a) (jV l) (jV h)
noncomputable def tv:Tx->TF
 |.va e=>tV (ev e)
 |.cmp o a b=>Dl (ev a) (ev b) o
 |.no a=>Il (tv a)
 |.an a b=>Io (tv a) (tv b)
 |.or a b=>Dg (tv a) (tv b)
noncomputable def dG:Exs->AF
 |.nil=>d8
 |.cons e es=>eI (ev e) (dG es)
noncomputable def iq:Nx->NF
 |.li es=>ID (dG es)
 |.cat a b=>pY (ev a) (ev b)
 |.rep es b=>t8 (dG es) (ev b)
 |.sl a l h=>oy (ev a) (jV l) (jV h)
 |.lof a=>nQ (ev a)
 |.lc k it t c e=>Aw k (dk it) (bH t) (iu c) (ev e)
 |.lr1 a=>uc (ev a)
 |.lr2 a b=>t9 (ev a) (ev b)
noncomputable def jV:Ox->OF
 |.no=>IB
 |.so e=>ow (ev e)
noncomputable def iu:Cx'->TF
 |.no=>Ij
 |.so e=>tv e
noncomputable def dk:Ix->IF
 |.e a=>iE (ev a)
 |.r1 a=>ww (ev a)
 |.r2 a b=>AB (ev a) (ev b)
 |.zi a b=>iZ (ev a) (ev b)
 |.en a=>IM (ev a)
 |.es a b=>uw (ev a) (ev b)
noncomputable def bH:Tg->GF
 |.nm k=>wB k
 |.tu n ts=>wA n (iJ ts)
 |.su a b=>IN (ev a) (ev b)
noncomputable def iJ:Tgs->qZ
 |.nil=>Fo
 |.cons t ts=>Ft (bH t) (iJ ts)
end
mutual
noncomputable def cA:Sx->SF
 |.ex e=>Iz (ev ks e)
 |.as e t=>vB (ev ks e) (bH ks t)
 |.aus o a b e=>tN o (ev ks a) (ev ks b) (ev ks e)
 |.fl c f o e=>vA c f (ev ks o) (ev ks e)
 |.rt e=>Ir (ev ks e)
 |.iff t a b=>Iw (tv ks t) (aj a) (aj b)
 |.fo it t b=>Iy (dk ks it) (bH ks t) (aj b)
 |.wh t b=>kD (tv ks t) (aj b)
 |.dead=>Dt
 |.fd a t b=>tM (ev ks a) (bH ks t) (aj b)
noncomputable def aj:MK->SF
 |.nil=>Iu
 |.cons s ss=>Iq (cA s) (aj ss)
 |.dead=>Dt
end
end
inductive Ke where
 |f (x:Str) (n:Nat)|m (c m:Str) (n:Nat)|k (c:Str) (n:Nat)
structure SC where
 N:List Str
 nm:List (Str×NameKind)
 cf:List Str
 ke:List Ke
 gs:List (Str×AV)
 cl:List (Str×List Str)
 la:List Pos
 cn:List Str
 hs:List Nat
 ck:Bool
noncomputable def kd(C:SC)(x:Str):Option NameKind:=C.nm.lookup x
def xg(C:SC)(x:Str):Bool:=match kd C x with
 |some .local=>true
 |some .cell=>true
 |some .free=>true
 |_=>false
def yt(C:SC)(x:Str):Bool:=match kd C x with
 |some .local=>true
 |some .cell=>C.cf.contains x
 |_=>false
noncomputable def AL(x:Str):Bool:=!(x==("__debug__":Str))&&!(x==("__classdict__":Str))
def im(C:SC)(x:Str):Bool:=(match kd C x with
 |some .globalImplicit=>true
 |_=>false)&&AL x
noncomputable def IK(C:SC)(j:Nat)(x:Str)(n:Nat):Bool:=match C.ke[j]? with
 |some (.f y m)=>y==x&&m==n
 |_=>false
noncomputable def II(C:SC)(j:Nat)(c m:Str)(n:Nat):Bool:=match C.ke[j]? with
 |some (.m c' m' k)=>c'==c&&m'==m&&k==n
 |_=>false
noncomputable def IJ(C:SC)(j:Nat)(c:Str)(n:Nat):Bool:=match C.ke[j]? with
 |some (.k c' k)=>c'==c&&k==n
 |_=>false
noncomputable def bnames:List Str:=["len","sum","all","any","abs","min","max","int","tuple","range","zip","enumerate","list","isinstance","bool","str","sorted"]
noncomputable def FU:List (Str×Bi):=[("len",.len)
 ,("sum",.sum)
 ,("abs",.abs)
 ,("min",.min)
 ,("max",.max)
 ,("int",.int)
 ]
noncomputable def ET:List (Str×Mi):=[("append",.app)
 ,("pop",.pop)
 ,("extend",.ext)
 ,("count",.cnt)
 ]
noncomputable def Bi.nm:Bi->Str
 |.len=>"len"
 |.sum=>"sum"
 |.abs=>"abs"
 |.min=>"min"
 |.max=>"max"
 |.int=>"int"
noncomputable def Mi.nm:Mi->Str
 |.app=>"append"
 |.pop=>"pop"
 |.ext=>"extend"
 |.cnt=>"count"
noncomputable def Kv:List (Str×String):=[("int","int"),("bool","bool"),("list","list"),("tuple","tuple"),("str","str")]
noncomputable def yi(sc:Scope):List Str:=(sc.names.filter fun p=>(match p.2 with|.local=>true|.cell=>true|_=>false)&&!(p.1==(".0":Str))).map (·.1)
noncomputable def qo(sc:Scope)(x:Str):Bool:=match sc.names.lookup x with
 |some .free=>true
 |_=>false
noncomputable def Fl(k:Bool)(x:Str):Str:=match k with
 |true=>x++("!":Str)
 |false=>""
def dH(C:SC)(sc:Scope):List Str:=(C.N.map fun x=>if qo sc x=true then x else Fl C.ck x)++yi sc
noncomputable def IP:NameKind->Bool
 |.free=>true
 |_=>false
noncomputable def AN:Option NameKind->Bool
 |some .cell=>true
 |_=>false
noncomputable def rn{α:Type}(k:Bool)(x:List α):List α:=match k with
 |true=>x
 |false=>[]
@[reducible] def blk(C:SC)(sc:Scope):SC:={ C with N:=dH C sc,nm:=rn C.ck (sc.names.map fun p=>if(IP p.2&&AN (kd C p.1))=true then(p.1,.cell) else(p.1,p.2)),cf:=rn C.ck ((sc.names.filter fun p=>AN (some p.2)).map (·.1)),la:=[] }
def qQ(C:SC)(sc:Scope):Bool :=
 (match sc.kind with|.function=>true|_=>false)&&decide (sc.names.map (·.1)).Nodup&&decide (dH C sc).Nodup &&
 (sc.names.all fun p=>match p.2 with|.free=>(match kd C p.1 with|some .cell=>true|some .free=>true|_=>false)|_=>true) &&
 ((List.range C.N.length).all fun i=>match (dH C sc)[i]? with
  |some x=>(match sc.names.lookup x with
   |some .free=>decide (C.N[i]?=some x)
   |some _=>false
   |none=>true)
  |none=>false)
mutual
noncomputable def nF(n:Nat):Tg->Bool
 |.nm k=>Nat.ble n k
 |.tu _ ts=>o0 n ts
 |.su _ _=>false
noncomputable def o0(n:Nat):Tgs->Bool
 |.nil=>true
 |.cons t ts=>nF n t&&o0 n ts
end
@[reducible] def E8(C:SC)(sc:Scope):SC:={ C with N:=dH C sc,nm:=rn C.ck sc.names,cf:=[],ke:=[],la:=[] }
noncomputable def KM(C:SC)(p:Pos):Bool:=C.la.any fun q=>q.line==p.line&&q.col==p.col&&q.endLine==p.endLine&&q.endCol==p.endCol
def zb(C:SC)(sc:Scope)(ps:Arguments):Bool:=qQ C sc&&!sc.isCoroutine&&!sc.isGenerator&&plainA ps&&ps.defaults.isEmpty&&ps.kw_defaults.isEmpty &&
 (match yi sc,ps.args.map (·.arg) with
  |[x],[y]=>x==y&&(match sc.names.lookup x with|some .local=>true|_=>false)
  |_,_=>false)&&sc.names.all fun p=>!(AN (some p.2))
noncomputable def ka:Ex->Bool
 |.v _=>true
 |.i _=>true
 |.ix a b=>ka a&&ka b
 |.fd _ _ o=>ka o
 |_=>false
theorem kE{P:Prop}(h:false=true):P:=nomatch h
theorem aW{α:Type}{P:Prop}{m:α}(h:none=some m):P:=nomatch h
theorem cX{a b:Bool}{P:Prop}(h:(a&&b)=true)(H:a=true->b=true->P):P:=by cases a;exact kE h;exact H rfl h
theorem jC{a b c:Bool}{P:Prop}(h:(a&&b&&c)=true)(H:a=true->b=true->c=true->P):P:=cX h fun x y=>cX x fun h0 h1=>H h0 h1 y
theorem oT{a b c d:Bool}{P:Prop}(h:(a&&b&&c&&d)=true)(H:a=true->b=true->c=true->d=true->P):P:=cX h fun x y=>jC x fun h0 h1 h2=>H h0 h1 h2 y
section
variable{α β γ δ ε:Type}
noncomputable def gu(k c:Bool)(x:Option α):Option α:=match k with
 |false=>x
 |true=>if c=true then x else none
noncomputable def m2(f:α->β->γ)(x:Option α)(y:Option β):Option γ:=x.bind fun a=>y.map (f a)
def m3(f:α->β->γ->δ)(x:Option α)(y:Option β)(z:Option γ):Option δ:=x.bind fun a=>m2 (f a) y z
theorem aM{k c:Bool}{x:Option α}{m:α}{P:Prop}(hk:k=true)(h:gu k c x=some m)(H:c=true->x=some m->P):P:=by
 subst hk;cases c
 ·exact aW h
 ·exact H rfl h
@[elab_as_elim] theorem bM{f:α->β}{x:Option α}{m:β}{P:β->Prop}(h:x.map f=some m)(H:∀a,x=some a->P (f a)):P m:=by
 cases x with
 |none=>exact aW h
 |some a=>cases h;exact H a rfl
@[elab_as_elim] theorem bF{f:α->β->γ}{x:Option α}{y:Option β}{m:γ}{P:γ->Prop}(h:m2 f x y=some m)(H:∀a b,x=some a->y=some b->P (f a b)):P m:=by
 cases x with
 |none=>exact aW h
 |some a=>exact bM h fun b hb=>H a b rfl hb
@[elab_as_elim] theorem ji{f:α->β->γ->δ}{x:Option α}{y:Option β}{z:Option γ}{m:δ}{P:δ->Prop}(h:m3 f x y z=some m)(H:∀a b c,x=some a->y=some b->z=some c->P (f a b c)):P m:=by
 cases x with
 |none=>exact aW h
 |some a=>exact bF h fun b c hb hc=>H a b c rfl hb hc
theorem fV{x:Option α}{f:α->Option β}{m:β}{P:Prop}(h:x.bind f=some m)(H:∀a,x=some a->f a=some m->P):P:=by
 cases x with
 |none=>exact aW h
 |some a=>exact H a rfl h
noncomputable def at_(x:Str):List Str->Nat->Option Nat
 |[],_=>none
 |y::l,k=>if(y==x)=true then some k else at_ x l (k+1)
theorem AS{x:Str}:∀{l:List Str}{k j:Nat},at_ x l k=some j->∃i,j=k+i/\l[i]?=some x
 |[],_,_,h=>aW h
 |y::l,k,j,h=>by
  unfold at_ at h;split at h
  ·rename_i e;cases h;exact⟨0,rfl,by rw[yN e];rfl⟩
  ·obtain⟨i,e1,e2⟩:=AS h
   exact⟨i+1,by lia,e2⟩
theorem FY{x:Str}{l:List Str}{j:Nat}(h:at_ x l 0=some j):l[j]?=some x:=by
 obtain⟨i,e,h⟩:=AS h;rw[e,Nat.zero_add];exact h
noncomputable def lk(x:Str):List (Str×α)->Option α
 |[]=>none
 |p::l=>if(p.1==x)=true then some p.2 else lk x l
theorem pb{x:Str}{v:α}:∀{l:List (Str×α)},lk x l=some v->(x,v)∈l
 |[],h=>aW h
 |p::l,h=>by
  unfold lk at h;split at h
  ·rename_i e;cases h;rw[<- yN e];exact yB
  ·exact zT _ (pb h)
def qK(f:Str):List (Str×List Str)->Option Str
 |[]=>none
 |p::l=>match at_ f p.2 0 with
  |some _=>some p.1
  |none=>qK f l
theorem wL{f c:Str}:∀{l:List (Str×List Str)},qK f l=some c->∃fs,(c,fs)∈l/\f∈fs
 |[],h=>aW h
 |p::l,h=>by
  unfold qK at h;split at h
  ·rename_i e;cases h;exact⟨p.2,yB,zZ (FY e)⟩
  ·obtain⟨fs,h1,h2⟩:=wL h
   exact⟨fs,zT _ h1,h2⟩
noncomputable def yp(n:Nat):List Nat->Bool
 |[]=>false
 |m::l=>(m==n)||yp n l
def hB(C:SC)(p:Pos)(k:Nat):Bool:=yp (((p.line*1000+p.col)*1000+p.endCol)*8+k) C.hs
end
noncomputable def nmO:Expr->Option Str
 |.Name x _=>some x
 |_=>none
theorem v6{e:Expr}(h:nmO e=some x):∃p,e=.Name x p:=by
 cases e with
 |Name y p=>cases h;exact⟨p,rfl⟩
 |_=>exact aW h
noncomputable def lsO:Expr->Option (List Expr)
 |.List es _=>some es
 |_=>none
theorem E3{e:Expr}(h:lsO e=some es):∃p,e=.List es p:=by
 cases e with
 |List y p=>cases h;exact⟨p,rfl⟩
 |_=>exact aW h
noncomputable def cN:Expr->Bool
 |.Constant .none _ _=>true
 |_=>false
theorem AO{e:Expr}(h:cN e=true):∃a p,e=.Constant .none a p:=by
 cases e with
 |Constant c a p=>cases c with
  |none=>exact⟨a,p,rfl⟩
  |_=>exact kE h
 |_=>exact kE h
noncomputable def kX:Const->Option Ex
 |.none=>some .n
 |.bool b=>some (.b b)
 |.int i=>some (.i i)
 |.str s=>some (.s s)
 |_=>none
structure Tr where
 E:SC->Expr->Option Ex
 T:SC->Expr->Option Tx
 G:SC->Expr->Option Tg
 S:SC->Stmt->Option Sx
def Aj(C:SC)(x:Str):Option Ex:=match at_ x C.N 0 with
 |some k=>gu C.ck (xg C x&&AL x) (some (.v k))
 |none=>(lk x C.gs).bind fun c=>gu C.ck (im C x&&(ot c).isSome) (some (.g x c))
section
variable(r:Tr)(C:SC)
def jz:List Expr->Option Exs
 |[]=>some .nil
 |e::es=>gu C.ck (bU e) (m2 .cons (r.E C e) (jz es))
noncomputable def trO:Option Expr->Option Ox
 |none=>some .no
 |some e=>(r.E C e).map .so
def tB:List Expr->Option Tgs
 |[]=>some .nil
 |e::es=>gu C.ck (bU e) (m2 .cons (r.G C e) (tB es))
def lX:List Stmt->Option MK
 |[]=>some .nil
 |s::ss=>m2 .cons (r.S C s) (lX ss)
noncomputable def IU:BoolOp->Ex->Ex->Ex
 |.And=>.an
 |.Or=>.or
noncomputable def IT:BoolOp->Tx->Tx->Tx
 |.And=>.an
 |.Or=>.or
def tE(o:BoolOp):List Expr->Option Ex
 |[]=>none
 |[x]=>r.E C x
 |x::y::es=>m2 (IU o) (r.E C x) (tE o (y::es))
def tD(o:BoolOp):List Expr->Option Tx
 |[]=>none
 |[x]=>r.T C x
 |x::y::es=>m2 (IT o) (r.T C x) (tD o (y::es))
noncomputable def trC:List Expr->Option Cx'
 |[]=>some .no
 |[e]=>(r.T C e).map .so
 |_=>none
def trR(es:List Expr):Option Ix:=match es with
 |[a]=>(r.E C a).map .r1
 |[a,b]=>m2 .r2 (r.E C a) (r.E C b)
 |_=>none
def trZ(es:List Expr):Option Ix:=match es with
 |[a,b]=>m2 .zi (r.E C a) (r.E C b)
 |_=>none
def trEn(a:Expr)(kws:List Keyword):Option Ix:=match kws with
 |[]=>(r.E C a).map .en
 |[⟨some y,b,_⟩]=>gu C.ck (y==("start":Str)) (m2 .es (r.E C a) (r.E C b))
 |_=>none
def trIc(t e:Expr)(es:List Expr)(kws:List Keyword)(o:Option Str):Option Ix:=match o with
 |some x =>
  if(x==("range":Str))=true then gu C.ck (im C "range"&&kws.isEmpty&&es.all bU) (trR r C es)
  else if(x==("zip":Str))=true then gu C.ck (im C "zip"&&kws.isEmpty&&es.all bU&&!pW t) (trZ r C es)
  else if(x==("enumerate":Str))=true then gu C.ck (im C "enumerate"&&es.all bU&&!pW t) (match es with
   |[a]=>trEn r C a kws
   |_=>none)
  else(r.E C e).map .e
 |none=>(r.E C e).map .e
def trI(t e:Expr):Option Ix:=match e with
 |.Call f es kws _=>trIc r C t e es kws (nmO f)
 |_=>(r.E C e).map .e
def trL(elt:Expr)(gens:List Comprehension)(sc:Scope):Option Nx:=match gens with
 |[⟨t,it,cs,i⟩]=>gu C.ck (qQ C sc&&(i==0)&&ym it) ((trI r C t it).bind fun x=>(r.G (blk C sc) t).bind fun g=>gu C.ck (nF C.N.length g) (m2 (.lc ((dH C sc).length-C.N.length) x g) (trC r (blk C sc) cs) (r.E (blk C sc) elt)))
 |_=>none
def trLr(p:Pos)(es:List Expr):Option Ex:=match es with
 |[a]=>(r.E C a).map fun a=>.nw (hB C p 0) (.lr1 a)
 |[a,b]=>m2 (fun a b=>.nw (hB C p 0) (.lr2 a b)) (r.E C a) (r.E C b)
 |_=>none
def trLf(p:Pos)(a:Expr):Option Ex:=match a with
 |.Call f es kws _=>gu C.ck ((match nmO f with|some y=>y==("range":Str)|none=>false)&&kws.isEmpty&&im C "range"&&es.all bU) (trLr r C p es)
 |a=>(r.E C a).map fun a=>.nw (hB C p 0) (.lof a)
def trF1(x:Str)(p:Pos)(es:List Expr):Option Ex:=match es with
 |[a] =>
  gu C.ck (x==("list":Str)&&im C "list"&&bU a) (trLf r C p a)
 |_=>none
def xn(x:Str)(es:List Expr)(p:Pos)(j:Nat)(o:Option (List Str)):Option Ex:=match o with
 |some _=>gu C.ck (IJ C j x (es.length+1)&&im C x&&!es.isEmpty&&es.all bU) ((jz r C es).map (.ne x j))
 |_=>gu C.ck (IK C j x es.length&&im C x&&es.all bU) ((jz r C es).map (.ca (!hB C p 6) j))
def xo(x:Str)(es:List Expr)(p:Pos)(o:Option Bi):Option Ex:=match o with
 |some b=>gu C.ck (im C x&&!es.isEmpty&&es.all bU) ((jz r C es).map (.bi b))
 |none=>trF1 r C x p es
def Ak(x:Str)(es:List Expr)(p:Pos):Option Ex:=match at_ x C.cn 0 with
 |some j=>xn r C x es p j (lk x C.cl)
 |none=>xo r C x es p (lk x FU)
def trK(x:Str)(es:List Expr)(kws:List Keyword):Option Ex:=match es with
 |[a]=>(match kws with
  |[⟨some y,d,_⟩]=>gu C.ck (x==("min":Str)&&y==("default":Str)&&cN d&&(im C "min"&&bU a)) ((r.E C a).map .mnd)
  |[⟨some y,.Lambda ps body sc lp,_⟩,⟨some z,d,_⟩]=>gu C.ck (x==("min":Str)&&y==("key":Str)&&z==("default":Str)&&(cN d&&im C "min"&&bU a&&(KM C lp&&zb C sc ps))) ((r.E C a).bind fun a=>(r.E (E8 C sc) body).bind fun b=>gu C.ck (ka b) (some (.mnk a b)))
  |_=>none)
 |_=>none
noncomputable def miA(q:Mi)(es:List Expr):Mi:=match q,es with
 |q,_=>q
def C8(o:Expr)(m:Str)(ap:Pos)(es:List Expr)(p:Pos):Option Ex:=gu C.ck (es.all bU&&Nat.blt es.length 30&&nO o&&(ap.endLine==p.line)) (match at_ m C.cn 0 with
 |some j=>C.cl.head?.bind fun q=>gu C.ck (II C j q.1 m (es.length+1)) (m2 (.me q.1 m j) (r.E C o) (jz r C es))
 |none=>(lk m ET).bind fun q=>m2 (.mt (miA q es)) (r.E C o) (jz r C es))
def trSl(a:Expr)(l h st:Option Expr)(p:Pos):Option Ex:=match st with
 |none =>
  if hB C p 2=true then m3 .slt (r.E C a) (trO r C l) (trO r C h) else
  m3 (fun a l h=>.nw (hB C p 0) (.sl a l h)) (r.E C a) (trO r C l) (trO r C h)
 |some _=>none
def trCe(a:Expr)(os:List CmpOp)(bs:List Expr):Option Ex:=match os with
 |[o]=>(match bs with
  |[b]=>gu C.ck (kb o b) (m2 (.cmp o) (r.E C a) (r.E C b))
  |_=>none)
 |_=>none
def trCt(a:Expr)(os:List CmpOp)(bs:List Expr):Option Tx:=match os with
 |[o]=>(match bs with
  |[b]=>gu C.ck (kb o b) (m2 (.cmp o) (r.E C a) (r.E C b))
  |_=>none)
 |_=>none
def trE(e:Expr):Option Ex:=match e with
 |.Constant k _ _=>kX k
 |.Name x _=>Aj C x
 |.BinOp a o b p =>
  if hB C p 1=true then gu C.ck (decide (o=.Add)) (m2 (fun x y=>.nw (hB C p 0) (.cat x y)) (r.E C a) (r.E C b)) else
  (match lsO a with
  |some es=>gu C.ck (decide (o=.Mult)) (m2 (fun x y=>.nw (hB C p 0) (.rep x y)) (jz r C es) (r.E C b))
  |none=>m2 (.bin o) (r.E C a) (r.E C b))
 |.Compare a os bs _=>trCe r C a os bs
 |.UnaryOp o a _=>(match o with
  |.Not=>(r.E C a).map .no
  |o=>(r.E C a).map (.un o))
 |.BoolOp o es _=>tE r C o es
 |.IfExp t a b _=>m3 .ife (r.T C t) (r.E C a) (r.E C b)
 |.Subscript a i p=>(match i with
  |.Slice l h st _=>trSl r C a l h st p
  |i=>gu C.ck (iR i) (m2 .ix (r.E C a) (r.E C i)))
 |.Tuple es _ _=>(jz r C es).map .tu
 |.List es p=>(jz r C es).map fun x=>.nw (hB C p 0) (.li x)
 |.ListComp elt gens sc p=>(trL r C elt gens sc).map fun x=>.nw (hB C p 0) x
 |.Dict ks vs _=>gu C.ck (ks.isEmpty&&vs.isEmpty) (some .dn)
 |.Attribute o f _=>(qK f C.cl).bind fun c=>gu C.ck (nO o) ((r.E C o).map (.fd c f))
 |.Call f es kws p=>(match f with
  |.Name x _=>(match kws with
   |[]=>Ak r C x es p
   |kws=>trK r C x es kws)
  |.Attribute o m ap=>gu C.ck kws.isEmpty (C8 r C o m ap es p)
  |_=>none)
 |_=>none
def trT(e:Expr):Option Tx:=match e with
 |.UnaryOp o a p=>(match o with
  |.Not=>(r.T C a).map .no
  |o=>(r.E C (.UnaryOp o a p)).map .va)
 |.BoolOp o es _=>tD r C o es
 |.Compare a os bs _=>trCt r C a os bs
 |e=>gu C.ck (vL e) ((r.E C e).map .va)
def nB(x:Str):Option Tg:=(at_ x C.N 0).bind fun k=>gu C.ck (yt C x&&AL x) (some (.nm k))
def trG(e:Expr):Option Tg:=match e with
 |.Name x _=>nB C x
 |.Tuple es _ _=>gu C.ck (es.all bU) ((tB r C es).map (.tu es.length))
 |.Subscript a b _=>gu C.ck (iR b) (m2 .su (r.E C a) (r.E C b))
 |_=>none
def trAn(x:Str)(v:Expr):Option Sx:=match v with
 |.ListComp elt gens sc q=>m2 .as ((trL r C elt gens sc).map fun x=>.nw (hB C q 0) x) (nB C x)
 |v=>gu C.ck (mj v) (m2 .as (r.E C v) (nB C x))
def trAs(t v:Expr):Option Sx:=match t with
 |.Attribute o f _=>(qK f C.cl).bind fun c=>m2 (.fl c f) (r.E C o) (r.E C v)
 |.Name x _=>trAn r C x v
 |.Subscript a b p=>m2 .as (r.E C v) (r.G C (.Subscript a b p))
 |.Tuple ts k p=>(match v with
  |v=>gu C.ck (pW v&&mj v) (m2 .as (r.E C v) (r.G C (.Tuple ts k p))))
 |_=>none
def trS(s:Stmt):Option Sx:=match s with
 |.Expr e _=>gu C.ck (mj e) ((r.E C e).map .ex)
 |.Assign ts v _=>(match ts with
  |[t]=>trAs r C t v
  |_=>none)
 |.AugAssign t o v _=>(match t with
  |.Subscript a b _=>gu C.ck (iR b) (m3 (.aus o) (r.E C a) (r.E C b) (r.E C v))
  |_=>none)
 |.Return e _=>(match e with
  |none=>none
  |some e=>(r.E C e).map .rt)
 |.If t a b _=>m3 .iff (r.T C t) (lX r C a) (lX r C b)
 |.For t it b els p=>gu C.ck (els.isEmpty&&ym it) (
  if hB C p 4=true then m3 .fd (r.E C it) (r.G C t) (lX r C b) else
  m3 .fo (trI r C t it) (r.G C t) (lX r C b))
 |.While t b els _=>gu C.ck els.isEmpty (m2 .wh (r.T C t) (lX r C b))
 |.Raise _ _ _=>some .dead
 |_=>none
end
theorem Fm{α:Type}{c:Bool}{x:Option α}:gu false c x=x:=rfl
theorem Cn{a b:String}(h:Str.ofString a=Str.ofString b):a=b:=by
 rw[Str.ofString_eq_byList]at h;have h:=congrArg (fun x=>x.cps.toList) h;exact String.toList_inj.mp (List.map_inj_right (fun x y e=>Char.toNat_inj.mp e) |>.mp h)
theorem EJ{a b:String}:(Str.ofString a==Str.ofString b)=decide (a=b):=by
 by_cases h:a=b
 ·subst h;simp
 ·rw[yD h]
  exact beq_eq_false_iff_ne.mpr fun e=>h (Cn e)
def tr:Nat->Tr
 |0=>⟨fun _ _=>none,fun _ _=>none,fun _ _=>none,fun _ _=>none⟩
 |n+1=>⟨trE (tr n),trT (tr n),trG (tr n),trS (tr n)⟩
section
variable{n:Nat}
theorem Jm:(tr (n+1)).E=trE (tr n):=rfl
theorem Jj:(tr (n+1)).T=trT (tr n):=rfl
theorem Jl:(tr (n+1)).G=trG (tr n):=rfl
theorem Jk:(tr (n+1)).S=trS (tr n):=rfl
end
theorem uS:type_of% @trS.eq_def:=@trS.eq_def
theorem uE:type_of% @trE.eq_def:=@trE.eq_def
theorem uT:type_of% @trT.eq_def:=@trT.eq_def
theorem uG:type_of% @trG.eq_def:=@trG.eq_def
theorem Kt:type_of% @trAs.eq_def:=@trAs.eq_def
theorem Ku:type_of% @trAn.eq_def:=@trAn.eq_def
theorem uK:type_of% @trK.eq_def:=@trK.eq_def
theorem Ks:type_of% @trCe.eq_def:=@trCe.eq_def
theorem Kr:type_of% @trCt.eq_def:=@trCt.eq_def
theorem uI:type_of% @trI.eq_def:=@trI.eq_def
theorem Kn:type_of% @trIc.eq_def:=@trIc.eq_def
theorem Kk:type_of% @trSl.eq_def:=@trSl.eq_def
theorem uL:type_of% @trL.eq_def:=@trL.eq_def
theorem Kq:type_of% @trEn.eq_def:=@trEn.eq_def
theorem uR:type_of% @trR.eq_def:=@trR.eq_def
theorem uZ:type_of% @trZ.eq_def:=@trZ.eq_def
theorem Ko:type_of% @trF1.eq_def:=@trF1.eq_def
theorem Km:type_of% @trLf.eq_def:=@trLf.eq_def
theorem Kl:type_of% @trLr.eq_def:=@trLr.eq_def
theorem uO:type_of% @trO.eq_def:=@trO.eq_def
theorem uC:type_of% @trC.eq_def:=@trC.eq_def
theorem uX:type_of% @kX.eq_def:=@kX.eq_def
theorem uM:type_of% @nmO.eq_def:=@nmO.eq_def
theorem uN:type_of% @lsO.eq_def:=@lsO.eq_def
theorem uP:type_of% @miA.eq_def:=@miA.eq_def
def F8[My](P:Program)(w:World)(K:Frag)(mg:Str->Option Value)(base:Heap)(A:Around)(fn:Fn):Ke->Prop
 |.f x n=>∃d f fd ps,ps.length=n/\FnOk P w K mg base dY d f fd ps (cZ ⟨K,mg⟩ ps.length fn)/\Room d A/\mg x=some (.ref f)/\keepIn K (.ref f)=true/\Binds K fd ps []
 |.m c m n=>∃d f fd ps C,ps.length=n/\FnOk P w K mg base dY d f fd ps (cZ ⟨K,mg⟩ ps.length fn)/\Room d A/\mg c=some (.ref C)/\Cls K C/\jw K C m f/\Binds K fd ps []
 |.k c n=>∃d f fd ps C,ps.length=n/\FnOk P w K mg base dY d f fd ps (cZ ⟨K,mg⟩ ps.length fn)/\Room (d+1) A/\mg c=some (.ref C)/\Mk K C f/\Binds K fd ps []
structure Fit[My](X:Cx)(C:SC)(ks:List Fn):Prop where
 N:X.N=C.N
 ck:C.ck=true
 nm:X.env.scope.names=C.nm
 nd:C.N.Nodup
 kind:X.env.scope.kind=.function
 calm:X.calm=true
 cf:∀x∈C.cf,X.fn x=true
 hu:X.A.units+64<cLine
 gd:X.A.guards=some []
 bl:∀x∈bnames,X.mg x=none
 po:PassesOwn (model X.prog X.w) X.A X.env X.xe
 ke:∀(j:Nat) k,C.ke[j]?=some k->F8 X.prog X.w X.K X.mg X.base X.A (kf ks j) k
 gs:∀p∈C.gs,∀w,ot p.2=some w->∃u,X.mg p.1=some u/\RelV w u
 cl:∀p∈C.cl,∃Ca,X.mg p.1=some (.ref Ca)/\Cls X.K Ca/\∀f∈p.2,NoAttr X.K Ca f
 la:∀p∈C.la,Room 2 X.A/\∃c P,X.env.code=.ref c/\CodeHd X.base c P/\iG X.mg X.base/\(P,p,X.env.qual++"<lambda>")∈My.tb/\∀t∈My.tb,t.1=P->t=(P,p,X.env.qual++"<lambda>")
section
variable{X:Cx}{C:SC}{ks:List Fn}
theorem Fit.kdO[My](F:Fit X C ks)(x:Str):X.env.kindOf x=kd C x:=by unfold kd;rw[<- F.nm];rfl
theorem Fit.vis[My](F:Fit X C ks)(h:xg C x=true):wU X.env.scope x:=by
 unfold xg kd at h;rw[<- F.nm]at h;unfold wU;split at h
 ·rename_i e;exact .inl e
 ·rename_i e;exact .inr (.inl e)
 ·rename_i e;exact .inr (.inr e)
 ·cases h
theorem Fit.loc[My](F:Fit X C ks)(h:yt C x=true):L2.Loc X.env.scope x/\(X.fn x=true\/X.env.scope.names.lookup x=some .local):=by
 unfold yt kd at h;rw[<- F.nm]at h;unfold L2.Loc;split at h
 ·rename_i e;exact⟨.inl e,.inr e⟩
 ·rename_i e;exact⟨.inr e,.inl (F.cf x (by simpa using h))⟩
 ·cases h
theorem qG(h:AL x=true):(x==("__debug__":Str))=false/\(x==("__classdict__":Str))=false:=cX h fun h1 h2=>⟨by simpa using h1,by simpa using h2⟩
theorem Fit.gl[My](F:Fit X C ks)(h:im C x=true):Gl X x/\(x==("__debug__":Str))=false:=by
 unfold im at h;refine cX h fun h1 h2=>⟨?_,(qG h2).1⟩
 unfold Gl;rw[F.kdO];split at h1
 ·rename_i e;exact e
 ·cases h1
theorem Fit.nmb[My](F:Fit X C ks){k:Nat}(h:at_ x C.N 0=some k):X.N[k]?=some x:=by rw[F.N];exact FY h
theorem Fit.clb[My](F:Fit X C ks){c f:Str}(h:qK f C.cl=some c):∃Ca,X.mg c=some (.ref Ca)/\Cls X.K Ca/\NoAttr X.K Ca f:=by
 obtain⟨fs,h1,h2⟩:=wL h;obtain⟨Ca,a,b,d⟩:=F.cl _ h1;exact⟨Ca,a,b,d f h2⟩
theorem Fit.blt[My](F:Fit X C ks)(h:x∈bnames):X.mg x=none:=F.bl x h
theorem FA(b:NameKind):IP b=(b==NameKind.free):=by cases b<;>rfl
theorem FR(o:Option NameKind):AN o=(o==some NameKind.cell):=by
 cases o with
 |none=>rfl
 |some k=>cases k<;>rfl
theorem Fit.blk[My](F:Fit X C ks)(h:qQ C sc=true):iN X (dH C sc) sc/\∀cl s H fp Mv,Fit (bV X (dH C sc) sc cl s H fp Mv) (R.blk C sc) ks:=by
 unfold qQ at h;simp only[zE,yF]at h;obtain⟨⟨⟨⟨h1,h2⟩,h3⟩,h4⟩,h5⟩:=h;have hk:sc.kind=.function:=by
  split at h1
  ·rename_i e;exact e
  ·cases h1
 have hlen:C.N.length<=(dH C sc).length:=by unfold dH;rw[zY,zK];lia
 have free:∀x,(x,NameKind.free)∈sc.names->X.env.kindOf x=some .cell\/X.env.kindOf x=some .free:=fun x hx=>by
  have:=yU.mp h4 _ hx
  simp only at this;rw[F.kdO];split at this
  ·rename_i e;exact .inl e
  ·rename_i e;exact .inr e
  ·cases this
 have at5:∀i x,i<X.N.length->(dH C sc)[i]?=some x->(∀k,(x,k)∈sc.names->k=.free/\X.N[i]?=some x):=fun i x hi e k hm=>by
  rw[F.N]at hi ⊢
  have:=yU.mp h5 i (List.mem_range.mpr hi)
  rw [e] at this;simp only at this;have hl:=cH h2 hm;rw [hl] at this;cases k <;> simp only at this <;> first | (cases this;done) | exact ⟨rfl,of_decide_eq_true this⟩
 refine ⟨⟨hk,h2,by rw [F.N];exact hlen,free,fun i x hi e hm=>(at5 i x hi e _ hm).2,fun i x hi e hq0=>by obtain ⟨k,hm⟩:=hq0;have:=(at5 i x hi e k hm).1;subst this;exact hm⟩,fun cl s H fp Mv=>?_⟩;refine ⟨rfl,F.ck,?_,h3,hk,F.calm,fun x hx=>?_,F.hu,F.gd,F.bl,PassesOwn.never,F.ke,F.gs,F.cl,fun p hp=>absurd (show p ∈ ([]:List Pos) from hp) (by simp)⟩
 ·show(relabel sc X.env).names=_
  unfold relabel R.blk;dsimp only;rw[F.kind,F.ck];apply List.map_congr_left;intro p _;obtain⟨a,b⟩:=p;simp only[F.kdO,FA,FR];simp
 ·unfold R.blk at hx
  rw[F.ck]at hx;obtain⟨p,hp,e⟩:=yG.mp hx;obtain⟨hp1,hp2⟩:=List.mem_filter.mp hp;obtain⟨a,b⟩:=p;dsimp only at e hp2;subst e;have:b=.cell:=by cases b<;>first|rfl|cases hp2
  subst this;show(sc.names.lookup a==some NameKind.cell)=true;rw[cH h2 hp1];rfl
end
section
variable{X:Cx}{C:SC}{ks:List Fn}
theorem Fit.lam[My](F:Fit X C ks)(rm:Room 2 X.A)(h:zb C sc ps=true):∃x,u7 X (dH C sc) sc x/\plainA ps=true/\ps.args.map (·.arg)=[x]/\defaultsOf ps X.env=([],[]) /\
  ∀cl f q cd s H,Fit (qH X (dH C sc) sc cl f q cd X.A.in1 s H) (E8 C sc) ks:=by
 unfold zb at h;simp only[zE]at h;obtain⟨⟨⟨⟨⟨⟨⟨h1,h2⟩,h3⟩,h4⟩,h5⟩,h6⟩,h7⟩,h8⟩:=h;obtain⟨cy,_⟩:=F.blk h1;split at h7
 ·rename_i x y ex ey
  simp only[zE]at h7;have exy:=yN h7.1;subst exy;have hl:sc.names.lookup x=some .local:=by
   have:=h7.2
   split at this
   ·rename_i e;exact e
   ·cases this
  have hN:dH C sc=(C.N.map fun x=>if qo sc x=true then x else Fl C.ck x)++[x]:=by unfold dH;rw[ex]
  refine⟨x,⟨cy,by simpa using h2,by simpa using h3,by rw[hN,F.N];simp,by rw[hN,F.N];simp,hl,fun y hy e=>?_⟩,h4,ey,?_,fun cl f q cd s H=>?_⟩
  ·have:=yU.mp h8 y hy
   rw[e]at this;cases this
  ·obtain⟨a1,a2,a3,a4,a5,a6,a7⟩:=ps
   have e5:a7=[]:=List.isEmpty_iff.mp h5;have e6:a5=[]:=List.isEmpty_iff.mp h6;subst e5;subst e6;rfl
  ·have hnd:(dH C sc).Nodup:=by
    unfold qQ at h1;simp only[zE,yF]at h1;exact h1.1.1.2
   have hkd:sc.kind=.function:=cy.kind;have r1:Room 1 X.A.in1:=rm.in1;have r0:=Room.deeper r1 (newEnv sc s.heap.objs.size mainGlobals cl (q++".<locals>.") (some f) cd none builtinsNs);refine ⟨rfl,F.ck,(by show _=rn C.ck sc.names;rw [F.ck];rfl),hnd,hkd,rfl,fun x hx=>absurd (show x ∈ ([]:List Str) from hx) (by simp),r0.units,r0.gd,F.bl,PassesOwn.never,fun j k e=>absurd (show ([]:List Ke)[j]?=some k from e) (by simp),F.gs,F.cl,fun p hp=>absurd (show p ∈ ([]:List Pos) from hp) (by simp)⟩
 ·cases h7
end
mutual
theorem rH{n:Nat}:∀{t:Tg},nF n t=true->m9 n (bH ks t)
 |.nm k,h=>by
  simp only[nF]at h;have hk:=zV h;simp only[bH];intro x sl st sl' st' e;cases e;exact⟨List.length_set,fun j hj=>List.getElem?_set_ne oM⟩
 |.tu m ts,h=>by
  simp only[nF]at h;simp only[bH];intro x sl st sl' st' e;unfold wA at e;split at e
  ·split at e
   ·exact lx h _ _ _ _ _ e
   ·cases e
  ·split at e
   ·split at e
    ·exact lx h _ _ _ _ _ e
    ·cases e
   ·cases e
 |.su _ _,h=>by simp only[nF]at h;cases h
theorem lx{n:Nat}:∀{ts:Tgs},o0 n ts=true->∀xs sl st sl' st',iJ ks ts xs sl st=some (sl',st')->sl'.length=sl.length/\∀j,j<n->sl'[j]?=sl[j]?
 |.nil,_,xs,sl,st,sl',st',e=>by
  simp only[iJ]at e;cases xs with
  |nil=>cases e;exact⟨rfl,fun _ _=>rfl⟩
  |cons _ _=>cases e
 |.cons t ts,h,xs,sl,st,sl',st',e=>by
  simp only[o0,zE]at h;simp only[iJ]at e;cases xs with
  |nil=>cases e
  |cons x xs =>
   obtain⟨p,e1,e2⟩:=zA e;obtain⟨a1,a2⟩:=rH h.1 _ _ _ _ _ e1;obtain⟨b1,b2⟩:=lx h.2 _ _ _ _ _ e2;exact⟨b1.trans a1,fun j hj=>(b2 j hj).trans (a2 j hj)⟩
end
theorem km{r:Tr}(hk:C.ck=true):∀{es:List Expr}{as:Exs},jz r C es=some as->∀sl st xs st',dG ks as sl st=some (xs,st')->xs.length=es.length
 |[],as,h,sl,st,xs,st',e=>by cases h;cases e;rfl
 |x::es,as,h,sl,st,xs,st',e=>by
  refine aM hk h fun _ h=>?_
  revert e
  refine bF h fun a as _ h2 e=>?_
  obtain⟨p,e1,e2⟩:=zA e;obtain⟨q,e3,e4⟩:=zA e2;cases e4;rw[xB,xB,km hk h2 _ _ _ _ e3]
theorem HW:bootBuiltins "len"=some (.builtin "len"):=by decide +kernel
theorem HQ:bootBuiltins "sum"=some (.builtin "sum"):=by decide +kernel
theorem HY:bootBuiltins "abs"=some (.builtin "abs"):=by decide +kernel
theorem HU:bootBuiltins "min"=some (.builtin "min"):=by decide +kernel
theorem HV:bootBuiltins "max"=some (.builtin "max"):=by decide +kernel
theorem HX:bootBuiltins "int"=some (.type "int"):=by decide +kernel
section
variable{X:Cx}{C:SC}{ks:List Fn}
theorem HP[My](F:Fit X C ks)(b:Bi){e:Expr}{es:List Expr}{g:AF}{p pos:Pos}(hg:im C b.nm=true)(ha:QA X (e::es) g)(hs:(e::es).all bU=true):QE X (.Call (.Name b.nm p) (e::es) [] pos) (qU (mV b) g):=by
 have gl:=F.gl hg;rw[List.all_cons,zE]at hs;have he:=aE (env:=X.env) (es:=es) hs.1;have hpl:=gT (env:=X.env) (pos:=pos) hs.2;cases b with
 |len=>exact mf HL gl.1 (F.blt dC) HW ha dC gl.2 he hpl
 |sum=>exact mf (HI F.calm) gl.1 (F.blt dC) HQ ha dC gl.2 he hpl
 |abs=>exact mf HN gl.1 (F.blt dC) HY ha dC gl.2 he hpl
 |min=>exact mf (HJ F.calm) gl.1 (F.blt dC) HU ha dC gl.2 he hpl
 |max=>exact mf (HK F.calm) gl.1 (F.blt dC) HV ha dC gl.2 he hpl
 |int=>exact GL HM gl.1 (F.blt dC) HX ha dC gl.2 he hpl
theorem G4[My](F:Fit X C ks)(m:Mi){o:Expr}{es:List Expr}{f:EF}{g:AF}{ap p:Pos}(ho:QE X o f)(ha:QA X es g)(h0:es=[]->g=d8)(hs:es.all bU=true)(hl:es.length<30)(hb:nO o=true)(hline:(ap.endLine==p.line)=true) :
  QE X (.Call (.Attribute o m.nm ap) es [] p) (k9 (p7 m) (p6 m) f g):=by
 cases es with
 |nil =>
  have:=h0 rfl
  subst this;have hbase:=fc (env:=X.env) (f:=m.nm) (eval o X.env) hb;cases m with
  |app=>exact md PySem.F.plainAttrs_list PySem.F.slot_list_append PySem.F.type_list_append AA ho hbase hline
  |pop=>exact md PySem.F.plainAttrs_list PySem.F.slot_list_pop PySem.F.type_list_pop Ax ho hbase hline
  |ext=>exact md PySem.F.plainAttrs_list PySem.F.slot_list_extend PySem.F.type_list_extend Ay ho hbase hline
  |cnt=>exact md PySem.F.plainAttrs_list PySem.F.slot_list_count PySem.F.type_list_count (Az F.hu) ho hbase hline
 |cons e es =>
  have hbase:=fc (env:=X.env) (f:=m.nm) (eval o X.env) hb;have hfew:=IR (env:=X.env) (cpos:=p) hs hl;rw[List.all_cons,zE]at hs;have he:=aE (env:=X.env) (es:=es) hs.1;have hpl:=gT (env:=X.env) (pos:=p) hs.2;cases m with
  |app=>exact o6 PySem.F.plainAttrs_list PySem.F.slot_list_append PySem.F.type_list_append AA ho ha hbase hfew hline he hpl
  |pop=>exact o6 PySem.F.plainAttrs_list PySem.F.slot_list_pop PySem.F.type_list_pop Ax ho ha hbase hfew hline he hpl
  |ext=>exact o6 PySem.F.plainAttrs_list PySem.F.slot_list_extend PySem.F.type_list_extend Ay ho ha hbase hfew hline he hpl
  |cnt=>exact o6 PySem.F.plainAttrs_list PySem.F.slot_list_count PySem.F.type_list_count (Az F.hu) ho ha hbase hfew hline he hpl
theorem El[My]{P:Program}{w:World}{K:Frag}{mg:Str->Option Value}{base:Heap}{k:Nat}{f:Addr}{fd:FuncData}{ps:List Str}{n:Nat}{fn:Fn}(b:Bool)(F:FnOk P w K mg base dY k f fd ps (cZ ⟨K,mg⟩ n fn)):FnOk P w K mg base dY k f fd ps (cZ ⟨K,mg⟩ n (dW b fn)):=by
 cases b
 ·exact F
 ·exact FnOk.pm F
end
theorem jg{ks:List Fn}:∀{e:Ex},ka e=true->A7 (ev ks e)
 |.v k,_=>fun sl st v st' e=>by
  have e:aV k sl st=some (v,st'):=e;unfold aV at e;split at e
  ·cases e;rfl
  ·cases e
 |.i k,_=>fun sl st v st' e=>by
  cases e;rfl
 |.ix a b,h=>fun sl st v st' e=>by
  refine cX h fun h1 h2=>?_
  obtain⟨p,e1,e2⟩:=zA e;obtain⟨q,e3,e4⟩:=zA e2;obtain⟨z,e5,e6⟩:=zH.mp e4;cases e6;rw[jg h2 _ _ _ _ e3,jg h1 _ _ _ _ e1]
 |.fd c f o,h=>fun sl st v st' e=>by
  obtain ⟨p,e1,e2⟩:=zA e;obtain ⟨q,e3,e4⟩:=zA e2;obtain ⟨z,e5,e6⟩:=zH.mp e4;cases e6;rw [jg (show ka o=true from h) _ _ _ _ e1]
theorem G5{α β γ:Type}{f:α->β->γ}{x:Option α}{y:Option β}{m:γ}(h:m2 f x y=some m):∃a b,x=some a/\y=some b/\m=f a b:=bF h fun a b h1 h2=>⟨a,b,h1,h2,rfl⟩
structure Ab[My](r:Tr)(ks:List Fn):Prop where
 E:∀{X:Cx}{C:SC}{e:Expr}{m:Ex},Fit X C ks->r.E C e=some m->QE X e (ev ks m)
 T:∀{X:Cx}{C:SC}{e:Expr}{m:Tx},Fit X C ks->r.T C e=some m->QT X e (tv ks m)
 G:∀{X:Cx}{C:SC}{e:Expr}{m:Tg},Fit X C ks->r.G C e=some m->QG X e (bH ks m)
 S:∀{X:Cx}{C:SC}{s:Stmt}{m:Sx},Fit X C ks->r.S C s=some m->QS X s (cA ks m)
section
variable[My]{ks:List Fn}{r:Tr}(R:Ab r ks){X:Cx}{C:SC}(F:Fit X C ks)
include R F
theorem ff:∀{es:List Expr}{m:Exs},jz r C es=some m->QA X es (dG ks m)
 |[],m,h=>by cases h;exact d9
 |e::es,m,h=>aM F.ck h fun h0 h=>bF h fun a as h1 h2=>cK (R.E F h1) (ff h2) (aE h0)
theorem lW{e:Option Expr}{m:Ox}(h:trO r C e=some m):QO X e (jV ks m):=by
 cases e with
 |none=>cases h;exact BN
 |some e=>exact bM h fun a h=>BM (R.E F h)
theorem gR:∀{ss:List Stmt}{m:MK},lX r C ss=some m->ld X ss (aj ks m)
 |[],m,h=>by cases h;exact BH
 |s::ss,m,h=>bF h fun a as h1 h2=>xN (R.S F h1) (gR h2)
theorem rD:∀{es:List Expr}{m:Tgs},tB r C es=some m->wW X es (iJ ks m)
 |[],m,h=>by cases h;exact BR
 |e::es,m,h=>aM F.ck h fun h0 h=>bF h fun a as h1 h2=>xP (R.G F h1) (rD h2) (zn h0)
theorem nE{o:BoolOp}{p:Pos}:∀{x:Expr}{es:List Expr}{m:Ex},tE r C o (x::es)=some m->QE X (.BoolOp o (x::es) p) (ev ks m)
 |x,[],m,h=>by cases o<;>exact Eu (R.E F h)
 |x,y::es,m,h=>bF h fun a b h1 h2=>by
  cases o
  ·exact Ec (R.E F h1) (nE h2)
  ·exact GM (R.E F h1) (nE h2)
theorem nD{o:BoolOp}{p:Pos}:∀{x:Expr}{es:List Expr}{m:Tx},tD r C o (x::es)=some m->QW X (.BoolOp o (x::es) p) (tv ks m)
 |x,[],m,h=>DB o (R.T F h)
 |x,y::es,m,h=>bF h fun a b h1 h2=>by
  cases o
  ·exact DC (R.T F h1) (nD h2)
  ·exact GC (R.T F h1) (nD h2)
theorem Dd{es:List Expr}{m:Cx'}(h:trC r C es=some m):sU X es (iu ks m):=by
 rcases es with _|⟨e,_|_⟩
 ·cases h;exact BQ
 ·exact bM h fun a h=>BP (R.T F h)
 ·exact aW h
omit R in
theorem C4{x:Str}{p:Pos}{m:Ex}(h:Aj C x=some m):QE X (.Name x p) (ev ks m):=by
 unfold Aj at h;split at h
 ·rename_i k hk
  refine aM F.ck h fun h0 h=>cX h0 fun h1 h2=>?_
  cases h;exact DU (F.nmb hk) (F.vis h1) (qG h2).1 (qG h2).2
 ·refine fV h fun c hc h=>aM F.ck h fun h0 h=>cX h0 fun h1 h2=>?_
  cases h;obtain⟨w,hw⟩:=Option.isSome_iff_exists.mp h2;obtain⟨u,h2',h3⟩:=F.gs _ (pb hc) w hw;obtain⟨g1,g2⟩:=F.gl h1;exact pQ hw (Ci g1 h2' h3 g2) fun _ _ _ h=>h
omit R F in
theorem vn{t:Expr}(h:(!pW t)=true):∃ts k p,t=.Tuple ts k p:=by
 cases t with
 |Tuple ts k p=>exact⟨ts,k,p,rfl⟩
 |_=>exact kE h
theorem vp{t e:Expr}{m:Ix}(h:trI r C t e=some m):QI X t e (dk ks m):=by
 have dfl:∀{m},(r.E C e).map .e=some m->QI X t e (dk ks m):=fun h=>bM h fun a h=>JJ (R.E F h)
 cases e with
 |Call f es kws p =>
  have h:trIc r C t _ es kws (nmO f)=some m:=h;cases hx:nmO f with
  |none=>rw[hx]at h;exact dfl h
  |some x =>
   rw[hx]at h;obtain⟨q,rfl⟩:=v6 hx;unfold trIc at h;split at h
   ·rename_i hr
    rw[yN hr];refine aM F.ck h fun h0 g=>jC h0 fun h1 h2 h3=>?_
    cases List.isEmpty_iff.mp h2;rcases es with _|⟨a,_|⟨b,_|⟨c,_|_⟩⟩⟩
    ·exact aW g
    ·refine cX h3 fun h4 _=>?_
     exact bM g fun x hx=>GI (F.gl h1).1 (F.blt dC) (R.E F hx) (aE h4)
    ·refine cX h3 fun h4 h3=>cX h3 fun h5 _=>?_
     exact bF g fun x y hx hy=>GH (F.gl h1).1 (F.blt dC) (R.E F hx) (R.E F hy) (by rw[aE h4,aE h5];rfl) (aE h5)
    all_goals exact aW g
   ·split at h
    ·rename_i hr
     rw[yN hr];refine aM F.ck h fun h0 g=>oT h0 fun h1 h2 h3 ht=>?_
     cases List.isEmpty_iff.mp h2;obtain⟨ts,k,tp,rfl⟩:=vn ht;rcases es with _|⟨a,_|⟨b,_|⟨c,_|⟨d,_|_⟩⟩⟩⟩
     ·exact aW g
     ·exact aW g
     ·refine cX h3 fun h4 h3=>cX h3 fun h5 _=>?_
      exact bF g fun x y hx hy=>DQ (F.gl h1).1 (F.blt dC) (R.E F hx) (R.E F hy) (by rw[aE h4,aE h5];rfl) (aE h5)
     ·exact aW g
     all_goals exact aW g
    ·split at h
     ·rename_i hr
      rw[yN hr];refine aM F.ck h fun h0 g=>jC h0 fun h1 h3 ht=>?_
      obtain⟨ts,k,tp,rfl⟩:=vn ht;rcases es with _|⟨a,_|_⟩
      ·exact aW g
      ·refine cX h3 fun h4 _=>?_
       unfold trEn at g;dsimp only at g;split at g
       ·exact bM g fun x hx=>GJ (F.gl h1).1 (F.blt dC) (R.E F hx) (aE h4)
       ·refine aM F.ck g fun h0 g=>?_
        rw[yN h0];exact bF g fun x y hx hy=>DR (F.gl h1).1 (F.blt dC) (R.E F hx) (R.E F hy) (aE h4)
       ·exact aW g
      ·exact aW g
     ·exact dfl h
 |_=>exact dfl h
theorem vo{elt:Expr}{gens:List Comprehension}{sc:Scope}{m:Nx}(h:trL r C elt gens sc=some m):∃t it cs x g c y N',gens=[⟨t,it,cs,0⟩]/\m=.lc (N'.length-X.N.length) x g c y/\iN X N' sc/\QI X t it (dk ks x)/\(∀cl s H fp Mv,QG (bV X N' sc cl s H fp Mv) t (bH ks g))/\(∀cl s H fp Mv,sU (bV X N' sc cl s H fp Mv) cs (iu ks c)) /\
  (∀cl s H fp Mv,QE (bV X N' sc cl s H fp Mv) elt (ev ks y))/\m9 X.N.length (bH ks g)/\(∀x,foldedSetIterable it X.env x=pure x):=by
 unfold trL at h;split at h
 ·rename_i t it cs i
  refine aM F.ck h fun h0 h=>jC h0 fun h1 h2 h3=>fV h fun x hx h=>fV h fun g hg h=>aM F.ck h fun h4 k=>?_
  cases yN h2;obtain⟨T,FB⟩:=F.blk h1;obtain⟨c,y,hc,hy,rfl⟩:=G5 k;exact⟨t,it,cs,x,g,c,y,dH C sc,rfl,by rw[F.N],T,vp R F hx,fun cl s H fp Mv=>R.G (FB cl s H fp Mv) hg,fun cl s H fp Mv=>Dd R (FB cl s H fp Mv) hc,fun cl s H fp Mv=>R.E (FB cl s H fp Mv) hy,by rw[F.N];exact rH h4,pJ h3⟩
 ·exact aW h
theorem Bq{x:Str}{es:List Expr}{p p':Pos}{m:Ex}(h:trF1 r C x p' es=some m):QE X (.Call (.Name x p) es [] p') (ev ks m):=by
 rcases es with _|⟨a,_|⟨b,_|_⟩⟩
 ·exact aW h
 ·skip
  refine aM F.ck h fun h0 g=>jC h0 fun hx h1 h2=>?_
  rw[yN hx];clear h;have dfl:∀{m},((r.E C a).map fun a=>Ex.nw (hB C p' 0) (.lof a))=some m->QE X (.Call (.Name "list" p) [a] [] p') (ev ks m):=fun h=>bM h fun y h=>gC (DN (F.gl h1).1 (F.blt dC) (R.E F h) (aE h2))
  cases a with
  |Call f es' kws' q =>
   refine aM F.ck g fun h0 k=>oT h0 fun h3 h4 h5 h6=>?_
   obtain⟨q1,rfl⟩:∃q,f=.Name "range" q:=by
    split at h3
    ·rename_i y hy
     obtain⟨q,rfl⟩:=v6 hy;rw[yN h3];exact⟨q,rfl⟩
    ·exact kE h3
   cases List.isEmpty_iff.mp h4;rcases es' with _|⟨a,_|⟨b,_|⟨c,_|_⟩⟩⟩
   ·exact aW k
   ·exact cX h6 fun h7 _=>bM k fun x hx=>gC (DM F.calm (F.gl h1).1 (F.blt dC) (F.gl h5).1 (F.blt dC) (R.E F hx) (aE h7))
   ·exact cX h6 fun h7 h6=>cX h6 fun h8 _=>bF k fun x y hx hy=>gC (DL F.calm (F.gl h1).1 (F.blt dC) (F.gl h5).1 (F.blt dC) (R.E F hx) (R.E F hy) ((aE h7).trans (by rw[aE h8];rfl)) (aE h8))
   ·exact aW k
   all_goals exact aW k
  |_=>first|exact dfl g|exact aW g
 all_goals exact aW h
theorem Db{x:Str}{es:List Expr}{p p':Pos}{m:Ex}(h:Ak r C x es p'=some m):QE X (.Call (.Name x p) es [] p') (ev ks m):=by
 unfold Ak at h;split at h
 ·rename_i j _
  unfold xn at h;split at h
  ·refine aM F.ck h fun h0 h=>oT h0 fun h1 h2 h3 h4=>bM h fun as h=>?_
   unfold IJ at h1;split at h1
   ·rename_i c' k hk
    refine cX h1 fun a1 a2=>?_
    obtain⟨d,f,fd,ps,Ca,hl,Fn,hr,hC,M,hb⟩:=F.ke j _ hk;rw[yN a1]at hC;obtain⟨g1,g2⟩:=F.gl h2;cases es with
    |nil=>exact kE h3
    |cons e1 es1 =>
     have hn:ps.length=es1.length+2:=by rw[hl];exact yN a2
     refine cX h4 fun h4 h6=>?_
     exact DY M Fn hr g1 hC hb (ff R F h) (fun sl st xs st' e=>by rw[hn,km F.ck h _ _ _ _ e];rfl) g2 (aE h4) (gT h6)
   ·exact kE h1
  ·refine aM F.ck h fun h0 h=>jC h0 fun h1 h2 h4=>bM h fun as h=>?_
   unfold IK at h1;split at h1
   ·rename_i y m hk
    refine cX h1 fun h1 h0=>?_
    obtain⟨d,f,fd,ps,hl,Fn,hr,hm,kp,hb⟩:=F.ke j _ hk;obtain⟨g1,g2⟩:=F.gl h2;rw[yN h1]at hm;have hn:ps.length=es.length:=by rw[hl];exact yN h0
    cases es with
    |nil=>cases h;exact xR (El _ Fn) hr g1 hm kp hb hn g2
    |cons e1 es1 =>
     refine cX h4 fun h4 h5=>?_
     exact BX (El _ Fn) hr g1 hm kp hb (ff R F h) (fun sl st xs st' e=>by rw[hn];exact km F.ck h _ _ _ _ e) g2 (aE h4) (gT h5)
   ·exact kE h1
 ·unfold xo at h
  split at h
  ·rename_i b hb
   refine aM F.ck h fun h0 h=>jC h0 fun h1 h2 h3=>bM h fun as g=>?_
   cases es with
   |nil=>exact kE h2
   |cons e es =>
    obtain rfl:x=b.nm:=(show ∀ q ∈ FU,q.1=q.2.nm by decide) _ (pb hb);exact HP F b h1 (ff R F g) h3
  ·exact Bq R F h
theorem C9{x:Str}{es:List Expr}{kws:List Keyword}{p p':Pos}{m:Ex}(h:trK r C x es kws=some m):QE X (.Call (.Name x p) es kws p') (ev ks m):=by
 unfold trK at h;split at h
 rotate_left
 ·exact aW h
 split at h
 ·refine aM F.ck h fun h0 h=>oT h0 fun h1 h2 h3 h4=>cX h4 fun h4 h5=>bM h fun y g=>?_
  obtain⟨a,q,rfl⟩:=AO h3;rw[yN h1,yN h2];exact BU F.calm (F.gl h4).1 (F.blt dC) (R.E F g) (aE h5)
 ·rename_i a y ps body sc lp p1 z d p2
  refine aM F.ck h fun h0 h=>oT h0 fun h1 h2 h3 h4=>oT h4 fun h4 h5 h6 h7=>cX h7 fun h7 h8=>fV h fun y hy h=>fV h fun w hw h=>aM F.ck h fun h9 h=>?_
  cases h;obtain⟨a,q,rfl⟩:=AO h4;rw[yN h1,yN h2,yN h3];obtain⟨q,hq,hqe⟩:=List.any_eq_true.mp h7;have eqp:q=lp:=by
   refine oT hqe fun q1 q2 q3 q4=>?_
   cases q;cases lp;cases yN q1;cases yN q2;cases yN q3;cases yN q4;rfl
  subst eqp;obtain⟨rm,c,P,g1,g2,g3,g4,g5⟩:=F.la q hq;obtain⟨x,T,hp,hps,hdef,FL⟩:=F.lam rm h8;exact BT F.calm (F.gl h5).1 (F.blt dC) (R.E F hy) (aE h6) hdef g1 g2 g3 g4 T hp hps rm.in1.depth (jg h9) (fun cl f c' s H=>R.E (FL cl f _ _ s H) hw) g5
 ·exact aW h
theorem C7{o:Expr}{f:Str}{ap p:Pos}{es:List Expr}{m:Ex}(h:C8 r C o f ap es p=some m):QE X (.Call (.Attribute o f ap) es [] p) (ev ks m):=by
 refine aM F.ck h fun h0 h=>oT h0 fun h3 h4 h5 h6=>?_
 have h4':es.length<30:=zM (Nat.lt_succ_self _) (zV h4);split at h
 ·rename_i j _
  refine fV h fun q _ h=>aM F.ck h fun h1 h=>?_
  revert h;intro h
  refine bF h fun a as ha has=>?_
  unfold II at h1;split at h1
  ·rename_i c' m'' k hk
   refine jC h1 fun a1 a2 a3=>?_
   obtain⟨d,f',fd,ps,Ca,hl,Fn,hr,hC,cl,hm,hb⟩:=F.ke j _ hk;rw[yN a1]at hC;rw[yN a2]at hm;have hn:ps.length=es.length+1:=by rw[hl];exact yN a3
   cases es with
   |nil=>cases has;exact xQ (R.E F ha) cl hC hm Fn hr hb hn (sf h5 h3 h4' h6)
   |cons e1 es1 =>
    have ht:=sf (env:=X.env) (f:=f) (o:=o) (es:=e1::es1) h5 h3 h4' h6;refine cX h3 fun h3 h8=>?_
    exact BV (R.E F ha) cl hC hm Fn hr hb (ff R F has) (fun sl st xs st' e=>by rw[hn,km F.ck has _ _ _ _ e]) (aE h3) (gT h8) ht
  ·exact kE h1
 ·refine fV h fun q hq h=>bF h fun a as ha has=>?_
  have e:f=(miA q es).nm:=by
   have e:=(show ∀ q ∈ ET,q.1=q.2.nm by decide) _ (pb hq);dsimp only at e;rw [e];cases q <;> first | rfl | (cases es <;> rfl)
  subst e;exact G4 F _ (R.E F ha) (ff R F has) (fun e=>by subst e;cases has;rfl) h3 h4' h5 h6
theorem Bp{a:Expr}{l h s:Option Expr}{p q:Pos}{m:Ex}(e:trSl r C a l h s p=some m):QE X (.Subscript a (.Slice l h s q) p) (ev ks m):=by
 cases s with
 |none =>
  unfold trSl at e;split at e
  ·exact ji e fun x y z hx hy hz=>DW (R.E F hx) (lW R F hy) (lW R F hz)
  exact ji e fun x y z hx hy hz=>gC (GE (R.E F hx) (lW R F hy) (lW R F hz))
 |some s =>
  exact aW e
theorem Dc{e:Expr}{m:Ex}(h:trE r C e=some m):QE X e (ev ks m):=by
 cases e with
 |Constant k a p=>cases k with
  |none=>cases h;exact pQ (w:=.non) rfl Ey fun _ _ _ h=>h
  |bool b=>cases h;exact pQ rfl GZ fun _ _ _ h=>h
  |int b=>cases h;exact pQ rfl Ez fun _ _ _ h=>h
  |str b=>cases h;exact pQ rfl Et fun _ _ _ h=>h
  |_=>exact aW h
 |Name x p=>exact C4 F h
 |BinOp a o b p =>
  unfold trE at h;split at h
  ·refine aM F.ck h fun h0 g=>?_
   cases of_decide_eq_true h0;exact bF g fun x y hx hy=>gC (DO (R.E F hx) (R.E F hy))
  ·split at h
   ·rename_i es hs
    obtain⟨q,rfl⟩:=E3 hs;refine aM F.ck h fun h0 g=>?_
    cases of_decide_eq_true h0;exact bF g fun x y hx hy=>gC (DK (ff R F hx) (R.E F hy))
   ·exact bF h fun x y hx hy=>Eb (R.E F hx) (R.E F hy)
 |Compare a os bs p =>
  have h:trCe r C a os bs=some m:=h;rcases os with _|⟨o,_|⟨o',_|_⟩⟩
  ·exact aW h
  ·rcases bs with _|⟨b,_|_⟩<;>first|exact aW h|exact aM F.ck h fun h0 h=>bF h fun x y hx hy=>Ea F.hu (R.E F hx) (R.E F hy) h0
  ·exact aW h
  ·exact aW h
 |UnaryOp o a p=>cases o with
  |Not=>exact bM h fun x hx=>DX (R.E F hx)
  |_=>exact bM h fun x hx=>GK (R.E F hx)
 |BoolOp o es p=>cases es with
  |nil=>exact aW h
  |cons x es=>exact nE R F h
 |IfExp t a b p=>exact ji h fun x y z hx hy hz=>GO (R.T F hx) (R.E F hy) (R.E F hz)
 |Subscript a i p=>cases i with
  |Slice l h' s q=>exact Bp R F h
  |_=>exact aM F.ck h fun h0 h=>bF h fun x y hx hy=>GN F.hu (R.E F hx) (R.E F hy) (Hg h0)
 |Tuple es k p=>exact bM h fun x hx=>DV (ff R F hx)
 |List es p=>exact bM h fun x hx=>gC (BO (ff R F hx))
 |ListComp elt gens sc p =>
  refine bM h fun x hx=>?_
  obtain⟨t,it,cs,i,g,c,y,N',rfl,rfl,T,a1,a2,a3,a4,a5,a6⟩:=vo R F hx;exact gC (Au F.calm T a1 a2 a3 a4 a5 a6)
 |Dict k v p =>
  refine aM F.ck h fun h0 g=>cX h0 fun h1 h2=>?_
  cases g;cases List.isEmpty_iff.mp h1;cases List.isEmpty_iff.mp h2;exact BW yf
 |Attribute o f p =>
  refine fV h fun c hc h=>aM F.ck h fun h0 h=>bM h fun x hx=>?_
  obtain⟨Ca,hC,cl,na⟩:=F.clb hc;exact DZ (R.E F hx) cl hC na (fc _ h0)
 |Call f es kws p=>cases f with
  |Name x q=>cases kws with
   |nil=>exact Db R F h
   |cons _ _=>exact C9 R F h
  |Attribute o f q =>
   refine aM F.ck h fun h0 g=>?_
   cases List.isEmpty_iff.mp h0;exact C7 R F g
  |_=>exact aW h
 |_=>exact aW h
theorem C5{e:Expr}{m:Tx}(h:trT r C e=some m):QT X e (tv ks m):=by
 cases e with
 |UnaryOp o a p=>cases o with
  |Not=>exact bM h fun x hx=>DF (R.T F hx)
  |_=>exact bM h fun x hx=>vD (R.E F hx) (rC rfl)
 |BoolOp o es p=>cases es with
  |nil=>exact aW h
  |cons x es=>exact PW.pt (nD R F h)
 |Compare a os bs p =>
  have h:trCt r C a os bs=some m:=h;rcases os with _|⟨o,_|⟨o',_|_⟩⟩
  ·exact aW h
  ·rcases bs with _|⟨b,_|_⟩<;>first|exact aW h|exact aM F.ck h fun h0 h=>bF h fun x y hx hy=>DG F.hu (R.E F hx) (R.E F hy) h0
  ·exact aW h
  ·exact aW h
 |_=>exact aM F.ck h fun h0 h=>bM h fun x hx=>vD (R.E F hx) (rC h0)
omit R in
theorem tY{x:Str}{m:Tg}(h:nB C x=some m):∃k,m=.nm k/\X.N[k]?=some x/\L2.Loc X.env.scope x/\(X.fn x=true\/X.env.scope.names.lookup x=some .local):=by
 refine fV h fun k hk h=>aM F.ck h fun h0 h=>cX h0 fun h1 _=>?_
 cases h;obtain⟨l1,l2⟩:=F.loc h1;exact⟨k,rfl,F.nmb hk,l1,l2⟩
theorem Da{e:Expr}{m:Tg}(h:trG r C e=some m):QG X e (bH ks m):=by
 have hN:X.N.Nodup:=by rw[F.N];exact F.nd
 cases e with
 |Name x p =>
  obtain⟨k,rfl,a,b,c⟩:=tY F h;exact BS hN a b c
 |Tuple es k p=>exact aM F.ck h fun h0 h=>bM h fun x hx=>DS F.calm (rD R F hx) zo (zp h0)
 |Subscript a b p=>exact aM F.ck h fun h0 h=>bF h fun x y hx hy=>DT F.hu (R.E F hx) (R.E F hy) (Dn h0)
 |_=>exact aW h
end
theorem vy{env:Env}{e o i:Expr}{p:Pos}{l:Nat}:swapsWithSole [.Subscript o i p] e l env=pure false:=by cases e<;>rfl
theorem vx{env:Env}{e:Expr}{es:List Expr}{k:Nat}{p:Pos}{l:Nat}:swapsWithSole [.Tuple es k p] e l env=pure false:=by cases e<;>rfl
section
variable[My]{ks:List Fn}{r:Tr}(R:Ab r ks){X:Cx}{C:SC}(F:Fit X C ks)
include R F
theorem Br{t v:Expr}{p:Pos}{m:Sx}(h:trAs r C t v=some m):QS X (.Assign [t] v p) (cA ks m):=by
 have hN:X.N.Nodup:=by rw[F.N];exact F.nd
 have nm:∀{x q v m},mj v=true->m2 Sx.as (r.E C v) (nB C x)=some m->QS X (.Assign [.Name x q] v p) (cA ks m):=fun h0 h=>bF h fun a g ha hg=>by
  obtain⟨k,rfl,a1,a2,a3⟩:=tY F hg;exact vF hN a1 a2 (R.E F ha) (rK h0) a3
 cases t with
 |Name x q=>cases v with
  |ListComp elt gens sc q2 =>
   refine bF h fun a g ha hg=>?_
   clear h;obtain⟨k,rfl,l0,l1,l2⟩:=tY F hg;refine bM ha fun y hy=>?_
   obtain⟨t,it,cs,i,g,c,y,N',rfl,rfl,T,a1,a2,a3,a4,a5,a6⟩:=vo R F hy;have hsw:=Dm (env:=X.env) (elt:=elt) (gens:=[⟨t,it,cs,0⟩]) (sc:=sc) (pos:=q2) (t:=x) (p:=q) (l:=p.line) F.kind;cases hsb:Ip X.env.scope.names x q.line sc q2.line with
   |false=>rw[hsb]at hsw;exact vF hN l0 l1 (gC (Au F.calm T a1 a2 a3 a4 a5 a6)) hsw l2
   |true=>rw[hsb]at hsw;exact vE hN l0 l1 hsw F.calm T a1 a2 a3 a4 a5 a6 l2
  |_=>exact aM F.ck h fun h0 h=>nm h0 h
 |Subscript a b q=>exact bF h fun x g hx hg=>vG (R.E F hx) (R.G F hg) vy xx (sM rfl)
 |Tuple ts k q=>cases v with
  |_=>exact aM F.ck h fun h0 h=>cX h0 fun h0 h1=>bF h fun x g hx hg=>vG (R.E F hx) (R.G F hg) vx (xw h0) (sM rfl)
 |Attribute o f q =>
  refine fV h fun c hc h=>bF h fun a b ha hb=>?_
  obtain⟨Ca,hC,cl,na⟩:=F.clb hc;exact DJ (R.E F ha) (R.E F hb) cl hC na xq
 |_=>exact aW h
theorem C6{s:Stmt}{m:Sx}(h:trS r C s=some m):QS X s (cA ks m):=by
 cases s with
 |Expr e p=>exact aM F.ck h fun h0 h=>bM h fun x hx=>BJ (R.E F hx) (rK h0)
 |Assign ts v p =>
  rcases ts with _|⟨t,_|_⟩
  ·exact aW h
  ·exact Br R F h
  ·exact aW h
 |AugAssign t o v p=>cases t with
  |Subscript a b q=>exact aM F.ck h fun h0 h=>ji h fun x y z hx hy hz=>BL F.hu (R.E F hx) (R.E F hy) (R.E F hz) (FX h0)
  |_=>exact aW h
 |Return e p=>cases e with
  | none=>first | exact aW h | (cases h;exact qs_retN)
  |some e=>exact bM h fun x hx=>DH (R.E F hx)
 |If t a b p=>exact ji h fun x y z hx hy hz=>GD (R.T F hx) (gR R F hy) (gR R F hz)
 |For t it b els p =>
  refine aM F.ck h fun h0 g=>cX h0 fun h1 h2=>?_
  cases List.isEmpty_iff.mp h1;split at g
  ·exact ji g fun x y z hx hy hz=>BI F.po F.calm (R.E F hx) (R.G F hy) (gR R F hz) (pJ h2)
  exact ji g fun x y z hx hy hz=>DI F.po F.calm (vp R F hx) (R.G F hy) (gR R F hz) (pJ h2)
 |While t b els p =>
  refine aM F.ck h fun h0 g=>?_
  cases List.isEmpty_iff.mp h0;exact bF g fun x y hx hy=>xO F.po (R.T F hx) (gR R F hy)
 |Raise=>cases h;exact BK
 |_=>exact aW h
end
theorem lV[My]{ks:List Fn}:∀n:Nat,Ab (tr n) ks
 |0=>⟨fun _ h=>aW h,fun _ h=>aW h,fun _ h=>aW h,fun _ h=>aW h⟩
 |n+1=>⟨fun F h=>Dc (lV n) F h,fun F h=>C5 (lV n) F h,fun F h=>Da (lV n) F h,fun F h=>C6 (lV n) F h⟩
section
variable(P:Program)(w:World)(K:Frag)(mg:Str->Option Value)(base:Heap)
def Lo[My](d:Nat)(x:Str)(n:Nat)(fn:Fn):Prop:=∃f fd ps,ps.length=n/\FnOk P w K mg base dY d f fd ps (cZ ⟨K,mg⟩ ps.length fn)/\mg x=some (.ref f)/\keepIn K (.ref f)=true/\Binds K fd ps []
def La[My](d:Nat)(c m:Str)(n:Nat)(fn:Fn):Prop:=∃f fd ps C,ps.length=n/\FnOk P w K mg base dY d f fd ps (cZ ⟨K,mg⟩ ps.length fn)/\mg c=some (.ref C)/\Cls K C/\jw K C m f/\Binds K fd ps []
def K9[My](d:Nat)(c:Str)(n:Nat)(fn:Fn):Prop:=∃f fd ps C,ps.length=n/\FnOk P w K mg base dY d f fd ps (cZ ⟨K,mg⟩ ps.length fn)/\mg c=some (.ref C)/\Mk K C f/\Binds K fd ps []
def KOk[My](d:Nat)(fn:Fn):Ke->Prop
 |.f x n=>Lo P w K mg base d x n fn
 |.m c m n=>La P w K mg base d c m n fn
 |.k c n=>K9 P w K mg base d c n fn
def KsOk[My](d:Nat):List Ke->List Fn->Prop
 |[],_=>True
 |k::ke,fn::ks=>KOk P w K mg base d fn k/\KsOk d ke ks
 |_::_,[]=>False
structure Ev(gs:List (Str×AV))(cl:List (Str×List Str)):Prop where
 bl:∀x∈bnames,mg x=none
 gs:∀p∈gs,∀w,ot p.2=some w->∃u,mg p.1=some u/\RelV w u
 cl:∀p∈cl,∃Ca,mg p.1=some (.ref Ca)/\Cls K Ca/\∀f∈p.2,NoAttr K Ca f
end
section
variable{P:Program}{w:World}{K:Frag}{mg:Str->Option Value}{base:Heap}{d d':Nat}{fn:Fn}
theorem KOk.mono[My](h:d<=d'):∀{k:Ke},KOk P w K mg base d fn k->KOk P w K mg base d' fn k
 |.f _ _,⟨f,fd,ps,e,F,r⟩=>⟨f,fd,ps,e,F.mono h,r⟩
 |.m _ _ _,⟨f,fd,ps,C,e,F,r⟩=>⟨f,fd,ps,C,e,F.mono h,r⟩
 |.k _ _,⟨f,fd,ps,C,e,F,r⟩=>⟨f,fd,ps,C,e,F.mono h,r⟩
theorem KsOk.at[My]:∀{ke:List Ke}{ks:List Fn}{j:Nat}{k:Ke},KsOk P w K mg base d ke ks->ke[j]?=some k->KOk P w K mg base d (kf ks j) k
 |[],_,_,_,_,e=>by simp at e
 |k::ke,[],_,_,h,_=>h.elim
 |k::ke,fn::ks,0,_,h,e=>by simp at e;subst e;exact h.1
 |k::ke,fn::ks,j+1,_,h,e=>by
  have:=KsOk.at (j:=j) h.2 (by simpa using e)
  exact this
theorem KOk.ok[My](hr:Room (d+1) A):∀{k:Ke},KOk P w K mg base d fn k->F8 P w K mg base A fn k
 |.f _ _,⟨f,fd,ps,e,F,m,kp,b⟩=>⟨d,f,fd,ps,e,F,hr.mono (Nat.le_succ d),m,kp,b⟩
 |.m _ _ _,⟨f,fd,ps,C,e,F,m,c,me,b⟩=>⟨d,f,fd,ps,C,e,F,hr.mono (Nat.le_succ d),m,c,me,b⟩
 |.k _ _,⟨f,fd,ps,C,e,F,m,mk,b⟩=>⟨d,f,fd,ps,C,e,F,hr,m,mk,b⟩
end
def eN(st:Stmt):List Str:=(c8 st).args.map (·.arg)
noncomputable def Fy(N ps:List Str)(sc:Scope):Bool:=(match sc.kind with|.function=>true|_=>false)&&!sc.isCoroutine&&!sc.isGenerator&&decide N.Nodup&&decide (N.take ps.length=ps) &&
 (ps.all fun x=>match sc.names.lookup x with|some .local=>true|some .cell=>true|_=>false)&&(sc.names.all fun p=>match p.2 with|.free=>false|_=>true)
theorem Fx(h:Fy N ps sc=true):kC N ps sc:=by
 unfold Fy at h;simp only[zE,yF]at h;obtain⟨⟨⟨⟨⟨⟨h1,h2⟩,h3⟩,h4⟩,h5⟩,h6⟩,h7⟩:=h;refine⟨?_,by simpa using h2,by simpa using h3,h4,h5,fun x hx=>?_,fun y hy e=>?_⟩
 ·split at h1
  ·rename_i e;exact e
  ·cases h1
 ·have:=yU.mp h6 x hx
  split at this
  ·rename_i e;exact .inl e
  ·rename_i e;exact .inr e
  ·cases this
 ·have:=yU.mp h7 y hy
  rw[e]at this;cases this
structure FH where
 ke:Ke
 qual:Str
 st:Stmt
 N:List Str
 cs:List Nat
 d:Nat
 la:List Pos
 cn:List Str
 hs:List Nat
def FH.tr(e:FH)(k:Bool)(ke:List Ke)(gs:List (Str×AV))(cl:List (Str×List Str)):Option MK :=
 gu k (Fy e.N (eN e.st) (cj e.st)&&plainA (c8 e.st)&&decide (eN e.st).Nodup) (lX (R.tr 60) ⟨e.N,rn k (cj e.st).names,e.N,ke,gs,cl,e.la,e.cn,e.hs,k⟩ (c7 e.st))
section
variable{P:Program}{w:World}{K:Frag}{mg:Str->Option Value}{base:Heap}{d:Nat}{x qual:Str}{st:Stmt}{f:Addr}{fd:FuncData}{N:List Str}{ke:List Ke}{ks:List Fn}{gs:List (Str×AV)}{cl:List (Str×List Str)}{la:List Pos}{b:MK}
theorem Hu[My]{N ps:List Str}{k:Nat}{b:SF}(F:Fun K x qual st f fd)(S:kC N ps (cj st))
  (hbody:∀(A:Around)(outer:List Env)(s:Shared)(H:Hp)(E:XK),Room k (A.deeper (envOfC qual (cj st) s.heap.objs.size f fd.code))->ld (nZ dY P w K mg base N qual (cj st) f fd.code A outer s H E).nox (c7 st) b) :
  FnOk P w K mg base dY (k+1) f fd ps (cZ ⟨K,mg⟩ ps.length (run N.length b)):=by
 obtain⟨oc,od,kV,doc,pm,an,cdv,ct,osl,rfl,lk,hcd⟩:=F.ex;refine Ht lk hcd S (fun vs H Q E h=>h.1) fun A outer s H vs Q E hr h=>?_
 obtain⟨hl,P,φ,args,st,r,sm,k⟩:=h;have hb:=hbody A outer s H E hr;refine⟨_,PSs.nox hb,?_⟩;obtain⟨v,st',e,q⟩:=k;obtain⟨o,e1,e2⟩:=zA e;refine⟨P,φ,_,st,By r,sm,o,e1,?_⟩;cases o with
 |nx sl st1=>cases e2;exact fun P' φ' H' σ' f' s' _=>q P' φ' H' .non f' s' (by simp only[RA])
 |rt v st1=>cases e2;exact fun P' φ' H' w f' s' r'=>q P' φ' H' w f' s' r'
 |bk sl st1=>cases e2
 |ct sl st1=>cases e2
def qX[My](mg:Str->Option Value)(base:Heap)(qual:Str)(cd:Value)(la:List Pos):Prop:=∀p∈la,∃c P,cd=.ref c/\CodeHd base c P/\iG mg base/\(P,p,qual++".<locals>."++"<lambda>")∈My.tb/\∀t∈My.tb,t.1=P->t=(P,p,qual++".<locals>."++"<lambda>")
theorem mL[My]{e:FH}(F:Fun K x qual e.st f fd)(E:Ev K mg gs cl)(hl:qX mg base qual fd.code e.la)(hk:KsOk P w K mg base d ke ks)(h:e.tr true ke gs cl=some b) :
  FnOk P w K mg base dY (d+3) f fd (eN e.st) (cZ ⟨K,mg⟩ (eN e.st).length (run e.N.length (aj ks b)))/\Binds K fd (eN e.st) []:=by
 refine aM rfl h fun h0 h4=>jC h0 fun h1 h2 h3=>?_
 have S:=Fx h1;refine⟨Hu F S fun A outer s H E' hr=>?_,F.binds fun kV doc pm an cdv ct us hl=>bind_plain h2 rfl (of_decide_eq_true h3) hl⟩;exact gR (lV _) ⟨rfl,rfl,rfl,S.nd,S.kind,rfl,fun _ _=>rfl,hr.units,hr.gd,E.bl,PassesOwn.never,fun j k e=>(hk.at e).ok (hr.mono oM),E.gs,E.cl,fun p hp=>⟨hr.mono oM,hl p hp⟩⟩ h4
end
structure FE extends FH where
 b:MK
def FE.fn(e:FE)(fs:List Fn):Fn:=run e.N.length (aj (e.cs.map (kf fs)) e.b)
def FE.ok[My](e:FE)(K:Frag)(mg:Str->Option Value)(base:Heap):Prop:=match e.ke with
 |.f x _=>∃f fd,mg x=some (.ref f)/\Fun K x e.qual e.st f fd/\qX mg base e.qual fd.code e.la
 |.m c m _=>∃f fd C,mg c=some (.ref C)/\Cls K C/\jw K C m f/\Fun K m e.qual e.st f fd/\qX mg base e.qual fd.code e.la
 |.k c _=>∃f fd C,mg c=some (.ref C)/\Mk K C f/\Fun K "__init__" e.qual e.st f fd/\qX mg base e.qual fd.code e.la
noncomputable def Ke.n:Ke->Nat
 |.f _ n=>n
 |.m _ _ n=>n
 |.k _ n=>n
noncomputable def qh(pre:List FE)(j:Nat):Ke:=match pre[j]? with
 |some e=>e.ke
 |none=>.f "" 0
def FE.chk(gs:List (Str×AV))(cl:List (Str×List Str))(pre:List FE)(e:FE):Option MK :=
 gu true (e.ke.n==(eN e.st).length&&e.cs.all (fun j=>match pre[j]? with|some g=>Nat.ble (g.d+3) e.d|none=>false)&&Nat.ble 3 e.d) (e.tr true (e.cs.map (qh pre)) gs cl)
def mT(gs:List (Str×AV))(cl:List (Str×List Str)):List FE->List FE->List (Option MK)
 |_,[]=>[]
 |pre,e::r=>e.chk gs cl pre::mT gs cl (pre++[e]) r
def ip:List Fn->List FE->List Fn
 |fs,[]=>fs
 |fs,e::r=>ip (fs++[e.fn fs]) r
section
variable{P:Program}{w:World}{K:Frag}{mg:Str->Option Value}{base:Heap}{gs:List (Str×AV)}{cl:List (Str×List Str)}
def pv[My](P:Program)(w:World)(K:Frag)(mg:Str->Option Value)(base:Heap)(pre:List FE)(fs:List Fn):Prop:=pre.length=fs.length/\∀(j:Nat) e,pre[j]?=some e->KOk P w K mg base e.d (kf fs j) e.ke
theorem ur[My]{d:Nat}(h:pv P w K mg base pre fs):∀cs:List Nat,(cs.all fun j=>match pre[j]? with|some g=>Nat.ble (g.d+3) (d+3)|none=>false)=true->KsOk P w K mg base d (cs.map (qh pre)) (cs.map (kf fs))
 |[],_=>trivial
 |j::cs,hc=>by
  rw[List.all_cons,zE]at hc;refine⟨?_,ur h cs hc.2⟩;have h1:=hc.1;split at h1
  ·rename_i g hg
   have:=h.2 j g hg
   unfold qh;rw[hg];exact this.mono (by have:=zV h1;lia)
  ·cases h1
theorem Hv[My]{pre:List FE}{fs:List Fn}{e:FE}(E:Ev K mg gs cl)(h:pv P w K mg base pre fs)(hf:e.ok K mg base)(hc:e.chk gs cl pre=some e.b):KOk P w K mg base e.d (e.fn fs) e.ke:=by
 obtain⟨h2,h3,h4,h1⟩:(e.ke.n==(eN e.st).length)=true/\(e.cs.all fun j=>match pre[j]? with|some g=>Nat.ble (g.d+3) e.d|none=>false)=true/\Nat.ble 3 e.d=true/\e.tr true (e.cs.map (qh pre)) gs cl=some e.b:=aM rfl hc fun h0 h=>jC h0 fun a b c=>⟨a,b,c,h⟩
 have hn:=yN h2;obtain⟨d,hd⟩:∃d,e.d=d+3:=⟨e.d-3,by have:=zV h4;lia⟩;rw[hd]at h3 ⊢;have hk:=ur h e.cs h3;unfold FE.fn;unfold FE.ok at hf;split at hf
 ·rename_i x n ek
  obtain⟨f,fd,m,F,L⟩:=hf;obtain⟨a1,a2⟩:=mL (e:=e.toFH) F E L hk h1;rw[ek]at hn ⊢;exact⟨f,fd,eN e.st,hn.symm,a1,m,F.kp,a2⟩
 ·rename_i c m n ek
  obtain⟨f,fd,C,hC,hc,hm,F,L⟩:=hf;obtain⟨a1,a2⟩:=mL (e:=e.toFH) F E L hk h1;rw[ek]at hn ⊢;exact⟨f,fd,eN e.st,C,hn.symm,a1,hC,hc,hm,a2⟩
 ·rename_i c n ek
  obtain⟨f,fd,C,hC,hm,F,L⟩:=hf;obtain⟨a1,a2⟩:=mL (e:=e.toFH) F E L hk h1;rw[ek]at hn ⊢;exact⟨f,fd,eN e.st,C,hn.symm,a1,hC,hm,a2⟩
theorem wn{j:Nat}(h:j<fs.length):kf (fs++[g]) j=kf fs j:=by
 unfold kf;rw[zF,zF,zQ h]
theorem Cz:kf (fs++[g]) fs.length=g:=by
 unfold kf;rw[zF];simp
theorem rW[My](E:Ev K mg gs cl):∀(rest pre:List FE)(fs:List Fn),pv P w K mg base pre fs->(∀e∈rest,e.ok K mg base)->mT gs cl pre rest=rest.map (fun e=>some e.b)->pv P w K mg base (pre++rest) (ip fs rest)
 |[],pre,fs,h,_,_=>by rw[List.append_nil];exact h
 |e::r,pre,fs,h,hf,hc=>by
  obtain⟨hc1,hc2⟩:=List.cons.inj hc;have h1:=Hv E h (hf e yB) hc1
  have:=rW E r (pre++[e]) (fs++[e.fn fs]) ⟨by simp[h.1],fun j g hg=>?_⟩ (fun g hg=>hf g (zT _ hg)) hc2
  ·rw[yQ]at this;exact this
  ·rcases yX j pre.length with hj|hj
   ·rw[zQ hj]at hg
    rw[wn (by rw[<- h.1];exact hj)];exact h.2 j g hg
   ·have ej:j=pre.length:=by
     have:=(zD.mp hg).1
     rw[zY]at this;simp at this;lia
    subst ej;simp at hg;subst hg;rw[h.1,Cz];exact h1
end
theorem Hc[My]{K:Frag}{mg:Str->Option Value}{H:Hp}{a:Addr}{ns:List Int}{fn:Fn}{E:XK}(hg:∃st,fn [.fz (ns.map .int)] []=some (.bl true,st))(hS:bw K H a (ns.map V.int))(tb:∀t∈My.tb,fe H t.1 t.2.1 t.2.2):cZ ⟨K,mg⟩ 1 fn [.ref a] H (fun v _=>v=.bl true) E:=by
 obtain ⟨st,e⟩:=hg;refine ⟨rfl,fun c=>∃ vs,Rd H c (.lst vs),[],[.fz (ns.map .int)],[],aS ?_ bh,Sim.nil (fun c h=>?_) (fun t ht=>⟨tb t ht,fun hq0=>by obtain ⟨vs,z⟩:=hq0;obtain ⟨ps,e,_⟩:=tb t ht;rcases z with z | ⟨o,z⟩ <;> (rw [e] at z;cases z)⟩),.bl true,st,e,fun P' φ' H' w f s r=>by simpa only [RA] using r⟩
 ·simp only[RA]
  refine⟨a,ns.map V.int,rfl,?_,MB.of_ints⟩;rcases hS with h|h
  ·exact .inl ⟨⟨_,h⟩,h⟩
  ·exact .inr fun H'=>.inr h
 ·obtain ⟨vs,h | ⟨o,h⟩⟩:=h <;> (rw [h];exact fun z=>nomatch z)
end R
namespace L2
open PySem PySem.Spec PyProof.Rows
theorem wl{P:Program}{w:World}{K:Frag}{mg mb:Str->Option Value}{CX:j5}{k:Nat}{fa a:Addr}{fd:FuncData}{x:Str}{sp:Sp}{s₁:Shared}{vs:List Value}{ns:List Int}{tabs:List (Addr×Addr)}
  (KX:K.In s₁.heap) (hns:s₁.heap.Ns mainGlobals mg) (hb:s₁.heap.Ns builtinsNs mb) (hbb:∀x:Str,x≠"__name__"->mb x=bootBuiltins x) (hlim:s₁.heap.NoLimit) (hg:s₁.gens=#[])
  (bm:∃bm ob,mg "__builtins__"=some (.ref bm)/\bm≠builtinsNs/\s₁.heap.get? bm=some ob/\ob.cls=.type "module"/\ob.dict=some builtinsNs/\ob.data=.plain)
  (hT:TabsAt tabs s₁.heap) (hK0:noTabs K=true)
  (ha:s₁.heap.get? a=some { cls:=.type "list",data:=.seq vs.toArray }) (hi:IntsAre vs ns) (hl:ns.length<=sizeLine) (hr:Room k callerA)
  (F:∀base:Heap,K.In base->base.Ns mainGlobals mg->iG mg base->FnOk P w K mg base CX k fa fd [x] sp) (hbind:∀(s:Shared)(u:Value),BindsTo s fd ⟨[u],[]⟩ [(x,u)])
  (hsp:∀H:Hp,(∀q∈tabs,H q.2=some (.tbl #[]))->bw K H a (ns.map V.int)->sp [.ref a] H (fun v _=>v=.bl true) fun _ _ _=>False)
  (hCX:∀H e s',CX [] H s₁ (fun _ _ _=>False) e s'->False) :
  codeAny (model P w) callerA (.call (.ref fa) ⟨[.ref a],[]⟩) (fun r s'=>r=.ok (.ret (.bool true))/\OldK s₁.heap s'.heap/\s'.os=s₁.os/\AllBare s'.gens) s₁:=by
 have rv:=u9 hi;have lenV:=hi.length;have core:∀H:Hp,bw K H a (ns.map V.int)->HOk P w H s₁.heap->(∀b,H b=none\/(b=a/\K.lookup a=none/\∃o xs,H b=some (.frz o (.lst xs)))\/(∃q∈tabs,b=q.2/\H b=some (.tbl #[])))->(∀q∈tabs,H q.2=some (.tbl #[])) ->
   codeAny (model P w) callerA (.call (.ref fa) ⟨[.ref a],[]⟩) (fun r s'=>r=.ok (.ret (.bool true))/\OldK s₁.heap s'.heap/\s'.os=s₁.os/\AllBare s'.gens) s₁:=by
  intro H hS MD hA hTb;have fc:∀{b:Addr}{o:Obj},s₁.heap.get? b=some o->H b=none->(iI s₁.heap H).get? b=some o:=fun e n=>zf e n
  have none_of:∀{b:Addr}{o:Obj},s₁.heap.get? b=some o->o.cls≠.type "list"->o≠tabObj #[]->H b=none:=fun {b o} e n1 n2=>by
   rcases hA b with z|⟨rfl,_⟩|⟨q,hq,rfl,_⟩
   ·exact z
   ·rw[ha]at e;cases e;exact absurd rfl n1
   ·rw[(hT q hq).2]at e;cases e;exact absurd rfl n2
  have dict_of:∀{b:Addr}{o:Obj}{es:Array DictEntry}{ep:Nat},s₁.heap.get? b=some o->o.data=.dict es ep->H b=none:=fun {b o es ep} e d=>by
   rcases hA b with z|⟨rfl,_⟩|⟨q,hq,rfl,_⟩
   ·exact z
   ·rw[ha]at e;cases e;cases d
   ·rw[(hT q hq).2]at e;cases e;cases d
  have nsK:∀{b:Addr}{m:Str->Option Value},s₁.heap.Ns b m->(iI s₁.heap H).Ns b m:=fun {b m} ⟨o,es,ep,e,d,r⟩=>⟨o,es,ep,fc e (dict_of e d),d,r⟩
  have hKb:K.In (iI s₁.heap H):=fun b o e=>fc (KX b o e) (by
   rcases hA b with z|⟨rfl,z,_⟩|⟨q,hq,rfl,_⟩
   ·exact z
   ·rw[z]at e;cases e
   ·have e1:=KX _ o e
    rw[(hT q hq).2]at e1;cases e1;have h2:=yU.mp hK0 _ (mem_of_lookupK e);exact absurd (show false=true from h2) Bool.false_ne_true)
  have hM:Mod K mg (iI s₁.heap H):=⟨hKb,nsK hns,⟨mb,nsK hb,hbb⟩,let⟨mc,h1,h2⟩:=hlim;⟨mc,nsK h1,h2⟩⟩;have hBM:iG mg (iI s₁.heap H):=by
   obtain⟨bm,ob,b1,b2,b3,b4,b5,b6⟩:=bm;refine⟨bm,ob,b1,b2,fun z=>?_,fc b3 (none_of b3 (by rw[b4];intro z;injection z with z;exact absurd z dC) (fun z=>by rw[z]at b4;cases b4)),b4,b5,b6⟩;obtain⟨o,es,ep,e,d,_⟩:=hns;rw[z,e]at b3;cases b3;rw[d]at b6;cases b6
  have e0:Env0 P w K mg (iI s₁.heap H) callerA [] s₁ H:=⟨rfl,hM,fun b o e=>Cm e,Nat.le_of_eq (wy _ _),trivial,fun b hb=>absurd (show b ∈ ([]:List Addr) from hb) (by simp),MD,.of_eq hg⟩;refine codeAny_mono ((F _ hKb (nsK hns) hBM).run callerA [] s₁ H ⟨[.ref a],[]⟩ [.ref a] [.ref a] _ _ hr e0 (hbind s₁ (.ref a)) (.cons rfl .nil) (hsp H hTb hS)) fun r s' h=>?_
  cases r with
  |error e=>exact(hCX H e s' h).elim
  |ok fl =>
   cases fl with
   |next=>exact False.elim h
   |brk=>exact False.elim h
   |cont=>exact False.elim h
   |ret u =>
    obtain⟨v,H',os,bare,un,hok',r',q⟩:=h;have q':v=.bl true:=q;subst q';obtain rfl:u=Value.bool true:=r';have old:∀b o,s₁.heap.get? b=some o->asItWas s₁.heap s'.heap b o:=fun b o e=>by
     rcases hA b with z|⟨rfl,_,ob,xs,z⟩|⟨q,hq,rfl,z⟩
     ·exact .inl (un.keep b o e z (by intro z;exact absurd (show b ∈ ([]:List Addr) from z) (by simp)) (by simp))
     ·have z2:=un.frzs b ob _ z
      obtain⟨e1,_⟩:=MD b _ z;obtain⟨e2,_⟩:=hok' b _ z2;rw[e]at e1;cases e1;exact .inl e2
     ·obtain⟨more,z2⟩:=un.tbls _ _ z
      have e2:=hok' _ _ z2;rw[(hT q hq).2]at e;cases e;exact .inr (.inl ⟨((hT q hq).1.tab (hT q hq).2).isCodeTable,rfl,#[],more,rfl,e2⟩)
    refine⟨rfl,⟨old,fun b o e=>?_⟩,os,bare⟩;exact un.there b o e (by simp)
 have natab:∀q∈tabs,q.2≠a:=fun q hq e=>by
  have:=(hT q hq).2
  rw[e,ha]at this;cases this
 cases hk:K.lookup a with
 |some o =>
  have e:=KX a o hk;rw[ha]at e;cases e;refine core (fun b=>if b∈tabs.map (·.2) then some (.tbl #[]) else none) (.inr ⟨_,vs.toArray,_,hk,rfl,rfl,rfl,by rw[zL,lenV];exact hl,by simpa using rv⟩) (fun b u z=>?_) (fun b=>?_) fun q hq=>yL (List.mem_map_of_mem hq)
  ·dsimp only at z
   by_cases hb:b∈tabs.map (·.2)
   ·rw[yL hb]at z;cases z
    obtain⟨q,hq,rfl⟩:=yG.mp hb;exact(hT q hq).2
   ·rw[yK hb]at z;cases z
  ·by_cases hb:b∈tabs.map (·.2)
   ·obtain⟨q,hq,rfl⟩:=yG.mp hb
    exact .inr (.inr ⟨q,hq,rfl,yL hb⟩)
   ·exact .inl (yK hb)
 |none =>
  refine core (fun b=>if b∈tabs.map (·.2) then some (.tbl #[]) else if b=a then some (.frz { cls:=.type "list",data:=.seq vs.toArray } (.lst (ns.map V.int))) else none) (.inl (.inr ⟨{ cls:=.type "list",data:=.seq vs.toArray },?_⟩)) (fun b u z=>?_) (fun b=>?_) fun q hq=>yL (List.mem_map_of_mem hq)
  ·dsimp only
   rw[yK (fun z=>by obtain⟨q,hq,e⟩:=yG.mp z;exact natab q hq e),yL rfl]
  ·dsimp only at z
   by_cases hb:b∈tabs.map (·.2)
   ·rw[yL hb]at z;cases z
    obtain⟨q,hq,rfl⟩:=yG.mp hb;exact(hT q hq).2
   ·rw[yK hb]at z
    by_cases hb':b=a
    ·rw[yL hb']at z;cases z
     subst hb';exact⟨ha,by rw[zK];exact hl,vs,_,rv,ha⟩
    ·rw[yK hb']at z;cases z
  ·by_cases hb:b∈tabs.map (·.2)
   ·obtain⟨q,hq,rfl⟩:=yG.mp hb
    exact .inr (.inr ⟨q,hq,rfl,yL hb⟩)
   ·by_cases hb':b=a
    ·exact .inr (.inl ⟨hb',hk,_,_,(yK hb).trans (yL hb')⟩)
    ·exact .inl ((yK hb).trans (yK hb'))
theorem CV{l:PySem.W.OpenLaw}{n k:Nat}{q:Program}{bD:List Str}{XP:(Str->Option Value)->Heap->Prop}{YP:World->Heap->Prop}{d:DefRec}{K:Params->Frag}{sp:World->Sp}{x:Str}{tabs:List (Addr×Addr)}
  (hn:l.most=some n) (hn2:n<=sizeLine) (hdf:d.params.defaults=[]) (hr:Room k callerA)
  (hY:∀(w:World)(h:Heap),YP w h->(K w.params).In h/\∀q∈tabs,h.get? q.2=some (tabObj #[])) (hc:∀(w:World),∀q∈tabs,codeHdIn (K w.params) q.1 q.2=true) (hK0:∀(w:World),noTabs (K w.params)=true)
  (F:∀(w:World)(mg:Str->Option Value)(fa:Addr)(h:Heap),(K w.params).In h->h.Ns mainGlobals mg->mg d.name=some (.ref fa) ->
   ∃fd:FuncData,(∀(s:Shared)(u:Value),BindsTo s fd ⟨[u],[]⟩ [(x,u)]) /\
    ∀base:Heap,(K w.params).In base->base.Ns mainGlobals mg->iG mg base->FnOk l.prog w (K w.params) mg base dY k fa fd [x] (sp w))
  (hsp:∀(w:World)(H:Hp)(a:Addr)(ns:List Int),ns.length<=n->(∀q∈tabs,H q.2=some (.tbl #[]))->bw (K w.params) H a (ns.map V.int)->sp w [.ref a] H (fun v _=>v=.bl true) fun _ _ _=>False) :
  PySem.W.WalkO q bD XP YP l.row.toRowW d [] (fun f vs=>PySem.call f vs):=by
 refine Att.attach_call hn hdf fun w s₀ s₁ mg mb fa o pm cd doc a vs ns G Y ho hd hcd hmg hobj hints hlen hg=>?_
 obtain⟨KX,hT0⟩:=hY w _ Y;obtain⟨fd,hb,hF⟩:=F w mg fa _ KX G.T.g hmg;exact wl (tabs:=tabs) KX G.T.g G.T.b G.T.builtins G.T.nolimit hg G.T.bmain (fun q hq=>⟨codeHd_of_K KX (hc w q hq),hT0 q hq⟩) (hK0 w) hobj hints (z9 hlen hn2) hr hF hb (fun H hO hS=>hsp w H a ns hlen hO hS) fun H e s' z=>z
end L2
namespace R
open PySem PySem.Spec PyProof.Rows L2
abbrev F7[My](K:Frag)(qual:Str)(cd:Value)(la:List Pos):Prop:=la=[]\/∃p c P,la=[p]/\cd=.ref c/\codeHdIn K c P=true/\My.tb=[(P,p,qual++".<locals>."++"<lambda>")]
abbrev FactF[My](K:Frag)(x:Str)(e:FE):Prop:=∃(f:Addr)(oc:Value)(od:Option Addr)(sl:Array (Option Value))(kV dc pm:Value)(an:Option Addr)(cd ct:Value),nsIn K mainGlobals x=some (some (.ref f)) /\
 K.lookup f=some ⟨oc,od,.func (fnOf x e.qual (c8 e.st) (c7 e.st) (cj e.st) .none kV dc pm an cd ct),sl⟩/\codeIn K cd e.qual=true/\keepIn K (.ref f)=true/\F7 K e.qual cd e.la
abbrev FactM[My](K:Frag)(c m:Str)(e:FE):Prop:=∃(C f:Addr)(oc:Value)(od:Option Addr)(sl:Array (Option Value))(kV dc pm:Value)(an:Option Addr)(cd ct:Value),nsIn K mainGlobals c=some (some (.ref C))/\findIn K (.ref C) m=some (some (.ref f)) /\
 K.lookup f=some ⟨oc,od,.func (fnOf m e.qual (c8 e.st) (c7 e.st) (cj e.st) .none kV dc pm an cd ct),sl⟩/\codeIn K cd e.qual=true/\keepIn K (.ref f)=true/\isFn K (.ref f)=true/\F7 K e.qual cd e.la
abbrev FactN(K:Frag)(c:Str):Prop:=∃C:Addr,nsIn K mainGlobals c=some (some (.ref C))/\makesIn K C=true/\keepIn K (.ref C)=true
abbrev nh(K:Frag)(c:Str):Prop:=∃C:Addr,nsIn K mainGlobals c=some (some (.ref C))/\plainGet K C Str.empty=true/\hasDictIn K C=true/\plainOver K C=true/\findIn K (.ref C) "__setattr__"=some (some (.builtin "object.__setattr__"))
abbrev u6(K:Frag)(c:Str)(fs:List Str):Prop:=∃C:Addr,nsIn K mainGlobals c=some (some (.ref C))/\(fs.all fun f=>match findIn K (.ref C) f with|some none=>true|_=>false)=true
abbrev A9(K:Frag):Prop:=(bnames.all fun x=>match nsIn K mainGlobals x with|some none=>true|_=>false)=true
section
variable[My]{K:Frag}{h base:Heap}{mg:Str->Option Value}
theorem pf(B:K.In base)(hb:iG mg base)(L:F7 K qual cd la):qX mg base qual cd la:=by
 intro p hp;rcases L with rfl|⟨q,c,P,rfl,e,hc,ht⟩
 ·cases hp
 ·rw[zP.mp hp]
  exact⟨c,P,e,codeHd_of_K B hc,hb,by rw[ht];simp,fun t h1 _=>by rw[ht]at h1;exact zP.mp h1⟩
theorem FactF.ok{n:Nat}(hk:e.ke=.f x n)(F:FactF K x e)(X:K.In h)(G:h.Ns mainGlobals mg)(B:K.In base)(hb:iG mg base):e.ok K mg base:=by
 obtain⟨f,oc,od,sl,kV,dc,pm,an,cd,ct,a,l,c,k,L⟩:=F;unfold FE.ok;rw[hk];exact⟨f,_,mg_of X G a,mM l c k,pf B hb L⟩
theorem wK(F:nh K c)(X:K.In h)(G:h.Ns mainGlobals mg)(hC:nsIn K mainGlobals c=some (some (.ref C))):mg c=some (.ref C)/\Cls K C:=by
 obtain⟨C',a,f1,f2,f3,f4⟩:=F;rw[hC]at a;cases a;exact⟨mg_of X G hC,⟨f1,f2,f3,f4⟩⟩
theorem FactM.ok{n:Nat}(hk:e.ke=.m c m n)(F:FactM K c m e)(C0:nh K c)(X:K.In h)(G:h.Ns mainGlobals mg)(B:K.In base)(hb:iG mg base):e.ok K mg base:=by
 obtain⟨C,f,oc,od,sl,kV,dc,pm,an,cd,ct,a,g,l,cc,k,i,L⟩:=F;unfold FE.ok;rw[hk];obtain⟨m1,m2⟩:=wK C0 X G a;exact⟨f,_,C,m1,m2,⟨g,i,k⟩,mM l cc k,pf B hb L⟩
theorem FactN.ok{n:Nat}(hk:e.ke=.k c n)(F:FactM K c "__init__" e)(N:FactN K c)(X:K.In h)(G:h.Ns mainGlobals mg)(B:K.In base)(hb:iG mg base):e.ok K mg base:=by
 obtain⟨C,f,oc,od,sl,kV,dc,pm,an,cd,ct,a,g,l,cc,k,i,L⟩:=F;obtain⟨C',a',m1,m2⟩:=N;rw[a]at a';cases a';unfold FE.ok;rw[hk];exact⟨f,_,C,mg_of X G a,⟨m1,g,i,m2⟩,mM l cc k,pf B hb L⟩
abbrev FactG(K:Frag)(p:Str×AV):Prop:=match p.2 with
 |.int i=>∃t,nsIn K mainGlobals p.1=some (some (.int i t))
 |.str x=>∃t,nsIn K mainGlobals p.1=some (some (.str x t))
 |_=>False
theorem FactG.ok(F:FactG K p)(X:K.In h)(G:h.Ns mainGlobals mg):∀w,ot p.2=some w->∃u,mg p.1=some u/\RelV w u:=by
 obtain⟨x,c⟩:=p;intro w hw;cases c with
 |int i=>obtain⟨t,e⟩:=F;cases hw;exact⟨_,mg_of X G e,t,rfl⟩
 |str y=>obtain⟨t,e⟩:=F;cases hw;exact⟨_,mg_of X G e,t,rfl⟩
 |_=>exact F.elim
theorem Hx(X:K.In h)(G:h.Ns mainGlobals mg)(hb:A9 K)(hg:∀p∈gs,FactG K p)(hc:∀p∈cl,nh K p.1/\u6 K p.1 p.2):Ev K mg gs cl:=by
 refine⟨fun x hx=>?_,fun p hp=>(hg p hp).ok X G,fun p hp=>?_⟩
 ·have:=yU.mp hb x hx
  split at this
  ·rename_i e;exact mg_none_of X G e
  ·cases this
 ·obtain⟨C0,C,a,fs⟩:=hc p hp
  obtain⟨m1,m2⟩:=wK C0 X G a;refine⟨C,m1,m2,fun f hf=>?_⟩
  have:=yU.mp fs f hf
  split at this
  ·rename_i e;exact e
  ·cases this
end
abbrev Bh[My](K:Frag)(e:FE):Prop:=match e.ke with
 |.f x _=>FactF K x e
 |.m c m _=>FactM K c m e
 |.k c _=>FactM K c "__init__" e/\FactN K c
def q0[My](K:Frag):List FE->Prop
 |[]=>True
 |e::r=>Bh K e/\q0 K r
noncomputable def zv(cl:List (Str×List Str))(e:FE):Bool:=match e.ke with
 |.m c _ _=>decide (c∈cl.map (·.1))
 |_=>true
theorem qC[My]{K:Frag}{h base:Heap}{mg:Str->Option Value}(X:K.In h)(G:h.Ns mainGlobals mg)(B:K.In base)(hb:iG mg base)(hc:∀p∈cl,nh K p.1/\u6 K p.1 p.2):∀{pre:List FE},pre.all (zv cl)=true->q0 K pre->∀e∈pre,e.ok K mg base
 |[],_,_,_,h=>nomatch h
 |a::r,hx,h,e,he=>by
  rw[List.all_cons,zE]at hx;rcases zW.mp he with rfl|he
  ·have h1:=h.1
   have h2:=hx.1;unfold Bh at h1;unfold zv at h2;split at h1
   ·rename_i ek;exact FactF.ok ek h1 X G B hb
   ·rename_i ek
    rw[ek]at h2;obtain⟨p,hp,e1⟩:=yG.mp (of_decide_eq_true h2);exact FactM.ok ek h1 (by rw[<- e1];exact(hc p hp).1) X G B hb
   ·rename_i ek;exact FactN.ok ek h1.1 h1.2 X G B hb
  ·exact qC X G B hb hc hx.2 h.2 e he
def Bg:List Fn->List FE->List Fn->Prop
 |_,[],[]=>True
 |fs,e::r,F::Fs=>e.fn fs=F/\Bg (fs++[F]) r Fs
 |_,_,_=>False
theorem wE:∀{pre:List FE}{fs Fs:List Fn},Bg fs pre Fs->ip fs pre=fs++Fs
 |[],fs,[],_=>(List.append_nil fs).symm
 |e::r,fs,F::Fs,h=>by
  show ip (fs++[e.fn fs]) r=_;rw[h.1,wE h.2];simp
 |[],_,_::_,h=>h.elim
 |_::_,_,[],h=>h.elim
theorem law_F[My]{P:Program}{w:World}{K:Frag}{h:Heap}{mg:Str->Option Value}{fa:Addr}{gs:List (Str×AV)}{cl:List (Str×List Str)}{pre:List FE}{e:FE}{fn:Fn}(X:K.In h)(G:h.Ns mainGlobals mg)(hfa:mg "law"=some (.ref fa))
  (hb:A9 K) (hg:∀p∈gs,FactG K p) (hc:∀p∈cl,nh K p.1/\u6 K p.1 p.2) (hchk:mT gs cl [] pre=pre.map fun e=>some e.b) (hce:e.chk gs cl pre=some e.b)
  (hx:pre.all (zv cl)=true) (facts:q0 K pre) (hF:FactF K "law" e) (hps:eN e.st=[("_law_script":Str)]) (hfn:e.fn (ip [] pre)=fn) :
  ∃fd:FuncData,(∀(s:Shared)(v:Value),BindsTo s fd ⟨[v],[]⟩ [("_law_script",v)])/\∀base:Heap,K.In base->base.Ns mainGlobals mg->iG mg base ->
   FnOk P w K mg base dY e.d fa fd ["_law_script"] (fun vs H Q E=>∀mg,cZ ⟨K,mg⟩ 1 fn vs H Q E):=by
 have E:=Hx X G hb hg hc;obtain⟨h2,h3,h4,h1⟩:(e.ke.n==(eN e.st).length)=true/\(e.cs.all fun j=>match pre[j]? with|some g=>Nat.ble (g.d+3) e.d|none=>false)=true/\Nat.ble 3 e.d=true/\e.tr true (e.cs.map (qh pre)) gs cl=some e.b:=aM rfl hce fun h0 h=>jC h0 fun a b c=>⟨a,b,c,h⟩
 obtain⟨d,hd⟩:∃d,e.d=d+3:=⟨e.d-3,by have:=zV h4;lia⟩;rw[hd]at h3 ⊢;obtain⟨f,oc,od,sl,kV,dc,pm,an,cd,ct,a,l,c,k,L⟩:=hF;have m:=mg_of X G a;rw[hfa]at m;cases m;have F:=mM l c k;refine⟨fnOf "law" e.qual (c8 e.st) (c7 e.st) (cj e.st) .none kV dc pm an cd ct,fun s v=>?_,fun base B _ hbm=>?_⟩
 ·have hp:plainA (c8 e.st)=true:=aM rfl h1 fun h0 _=>jC h0 fun _ h _=>h
  refine .of_eq ?_
  have:=bind_plain (fd:=fnOf "law" e.qual (c8 e.st) (c7 e.st) (cj e.st) .none kV dc pm an cd ct) (us:=[v]) hp rfl (by show(eN e.st).Nodup;rw[hps];simp) (by show _=(eN e.st).length;rw[hps];rfl)
  rw[this];show pure ((eN e.st).zip [v])=_;rw[hps];rfl
 ·have pk:=rW (P:=P) (w:=w) E pre [] [] ⟨rfl,fun j g hg=>by simp at hg⟩ (qC X G B hbm hc hx facts) hchk
  have hk:=ur (d:=d) pk e.cs h3
  have:=(mL (e:=e.toFH) F E (pf B hbm L) hk h1).1
  rw[hps]at this;have hfn':run e.N.length (aj (e.cs.map (kf (ip [] pre))) e.b)=fn:=hfn;rw[hfn']at this;exact this.imp fun vs H Q E q=>q mg
theorem walk_R[My]{l:PySem.W.OpenLaw}{k:Nat}{q:Program}{bD:List Str}{XP:(Str->Option Value)->Heap->Prop}{YP:World->Heap->Prop}{d:DefRec}{K:Params->Frag}{fn:Fn}{tabs:List (Addr×Addr)}
  (hn:l.most=some 63) (hdf:d.params.defaults=[]) (hr:Room k callerA)
  (hY:∀(w:World)(h:Heap),YP w h->(K w.params).In h/\∀q∈tabs,h.get? q.2=some (tabObj #[])) (hc:∀(w:World),∀q∈tabs,codeHdIn (K w.params) q.1 q.2=true) (hK0:∀(w:World),noTabs (K w.params)=true)
  (ht:∀t∈My.tb,t.1∈tabs.map (·.2)) (hg:∀ns:List Int,ns.length<=63->∃st,fn [.fz (ns.map .int)] []=some (.bl true,st))
  (F:∀(w:World)(mg:Str->Option Value)(fa:Addr)(h:Heap),(K w.params).In h->h.Ns mainGlobals mg->mg d.name=some (.ref fa) ->
   ∃fd:FuncData,(∀(s:Shared)(u:Value),BindsTo s fd ⟨[u],[]⟩ [("_law_script",u)]) /\
    ∀base:Heap,(K w.params).In base->base.Ns mainGlobals mg->iG mg base->FnOk l.prog w (K w.params) mg base dY k fa fd ["_law_script"] (fun vs H Q E=>∀mg,cZ ⟨K w.params,mg⟩ 1 fn vs H Q E)) :
  PySem.W.WalkO q bD XP YP l.row.toRowW d [] (fun f vs=>PySem.call f vs) :=
 CV (sp:=fun w vs H Q E=>∀mg,cZ ⟨K w.params,mg⟩ 1 fn vs H Q E) hn dC hdf hr hY hc hK0 F fun w H a ns hl hT hS mg=>Hc (hg ns hl) hS fun t h=>by
  obtain⟨q,hq,e⟩:=yG.mp (ht t h);exact⟨#[],by rw[<- e];exact hT q hq,trivial,.inl rfl⟩
end R
namespace SX
def MA:Nat->(Nat->Int)->Int
 |0,_=>0
 |n+1,f=>MA n f+f n
theorem sum_congr{n:Nat}{f g:Nat->Int}(h:∀i,i<n->f i=g i):MA n f=MA n g:=by
 induction n with
 |zero=>rfl
 |succ n ih=>simp only[MA];rw[ih fun i hi=>h i oM,h n oM]
theorem sum_zero{n:Nat}{f:Nat->Int}(h:∀i,i<n->f i=0):MA n f=0:=by
 induction n with
 |zero=>rfl
 |succ n ih=>simp only[MA];rw[ih fun i hi=>h i oM,h n oM];rfl
theorem sum_add(n:Nat)(f g:Nat->Int):MA n (fun i=>f i+g i)=MA n f+MA n g:=by
 induction n with
 |zero=>rfl
 |succ n ih=>simp only[MA];rw[ih];lia
theorem sum_mul(n:Nat)(c:Int)(f:Nat->Int):MA n (fun i=>c*f i)=c*MA n f:=by
 induction n with
 |zero=>simp[MA]
 |succ n ih=>simp only[MA];rw[ih,Int.mul_add]
theorem sum_one{n k:Nat}{f:Nat->Int}(hk:k<n)(h:∀i,i<n->i≠k->f i=0):MA n f=f k:=by
 induction n with
 |zero=>lia
 |succ n ih =>
  simp only[MA];rcases yX k n with hn|hn
  ·rw[ih hn fun i hi he=>h i oM he,h n oM oM];lia
  ·have:k=n:=by lia
   subst this;rw[sum_zero fun i hi=>h i oM oM];lia
theorem rL{n k l:Nat}{f:Nat->Int}(hk:k<n)(hl:l<n)(hne:k≠l)(h:∀i,i<n->i≠k->i≠l->f i=0):MA n f=f k+f l:=by
 have e:MA n f=MA n (fun i=>(if i=k then f i else 0)+if i=k then 0 else f i):=sum_congr fun i _=>by split<;>lia
 rw[e,sum_add,sum_one (k:=k) hk fun i _ he=>yK he,sum_one (k:=l) hl fun i hi he=>?_]
 ·rw[yL rfl,yK (fun z=>hne z.symm)]
 ·by_cases z:i=k
  ·exact yL z
  ·rw[yK z];exact h i hi z he
theorem xt(n m:Nat)(f:Nat->Nat->Int):MA n (fun i=>MA m (fun j=>f i j))=MA m (fun j=>MA n (fun i=>f i j)):=by
 induction n with
 |zero=>exact(sum_zero fun _ _=>rfl).symm
 |succ n ih=>simp only[MA];rw[ih,<- sum_add]
noncomputable def up(A:Nat->Nat->Int)(r:Nat)(u:Nat->Int):Nat->Nat->Int:=fun i=>if i=r then u else A i
theorem bC{A:Nat->Nat->Int}{r:Nat}{u:Nat->Int}:up A r u r=u:=yL rfl
theorem aU{A:Nat->Nat->Int}{r i:Nat}{u:Nat->Int}(h:i≠r):up A r u i=A i:=yK h
theorem eU{A:Nat->Nat->Int}{r:Nat}:up A r (A r)=A:=by
 funext i;by_cases h:i=r
 ·rw[h,bC]
 ·exact aU h
theorem gM{A:Nat->Nat->Int}{r q:Nat}{u v:Nat->Int}(h:r≠q):up (up A r u) q v=up (up A q v) r u:=by
 funext i;by_cases h1:i=q
 ·subst h1;rw[bC,aU (fun z=>h z.symm),bC]
 ·rw[aU h1]
  by_cases h2:i=r
  ·subst h2;rw[bC,bC]
  ·rw[aU h2,aU h2,aU h1]
noncomputable def skip(k i:Nat):Nat:=if i<k then i else i+1
noncomputable def iP(k r:Nat):Nat:=if r<k then r else r-1
noncomputable def sg(k:Nat):Int:=if k%2=0 then 1 else -1
theorem BB(k:Nat):sg (k+1)=- sg k:=by unfold sg;split<;>split<;>lia
theorem Dr(k:Nat):(sg k).natAbs=1:=by unfold sg;split<;>rfl
def fF(A:Nat->Nat->Int)(k:Nat):Nat->Nat->Int:=fun i j=>A (skip k i) (j+1)
def ba:Nat->(Nat->Nat->Int)->Int
 |0,_=>1
 |n+1,A=>MA (n+1) fun k=>sg k*A k 0*ba n (fF A k)
theorem lF{A:Nat->Nat->Int}{k:Nat}{u:Nat->Int}:fF (up A k u) k=fF A k:=by
 funext i j;unfold fF;rw[aU];unfold skip;split<;>lia
theorem pZ{A:Nat->Nat->Int}{k r:Nat}{u:Nat->Int}(h:r≠k):fF (up A r u) k=up (fF A k) (iP k r) (fun j=>u (j+1)):=by
 funext i j;unfold fF;by_cases hi:i=iP k r
 ·have:skip k i=r:=by unfold skip;unfold iP at hi;split at hi<;>split<;>lia
  rw[this,bC,hi,bC]
 ·have:skip k i≠r:=by unfold skip;unfold iP at hi;split at hi<;>split<;>lia
  rw[aU this,aU hi]
theorem cR:∀{n:Nat}{A B:Nat->Nat->Int},(∀i j,i<n->j<n->A i j=B i j)->ba n A=ba n B
 |0,_,_,_=>rfl
 |n+1,A,B,h=>sum_congr fun k hk=>by
  rw[h k 0 hk oM,cR (A:=fF A k) (B:=fF B k) fun i j hi hj=>h _ _ (by unfold skip;split<;>lia) oM]
theorem fQ:∀{n:Nat}{A:Nat->Nat->Int}{r:Nat}{a b:Int}{u v:Nat->Int},r<n->ba n (up A r fun j=>a*u j+b*v j)=a*ba n (up A r u)+b*ba n (up A r v)
 |0,_,_,_,_,_,_,h=>by lia
 |n+1,A,r,a,b,u,v,h=>by
  show MA (n+1) _=a*MA (n+1) _+b*MA (n+1) _;rw[<- sum_mul,<- sum_mul,<- sum_add];refine sum_congr fun k hk=>?_
  by_cases e:r=k
  ·subst e
   rw[lF,lF,lF,bC,bC,bC]
   grind
  ·rw[pZ e,pZ e,pZ e,aU (fun z=>e z.symm),aU (fun z=>e z.symm),aU (fun z=>e z.symm)]
   rw[fQ (A:=fF A k) (r:=iP k r) (u:=fun j=>u (j+1)) (v:=fun j=>v (j+1)) (by unfold iP;split<;>lia)]
   grind
theorem kr:∀{n:Nat}{A:Nat->Nat->Int}{r:Nat},r+1<n->(∀j,A r j=A (r+1) j)->ba n A=0
 |0,_,_,h,_=>by lia
 |n+1,A,r,h,e=>by
  show MA (n+1) _=0;have hm:ba n (fF A r)=ba n (fF A (r+1)):=by
   refine cR fun i j _ _=>?_
   unfold fF;by_cases hi:i=r
   ·subst hi
    have h1:skip i i=i+1:=by unfold skip;split<;>lia
    have h2:skip (i+1) i=i:=by unfold skip;split<;>lia
    rw[h1,h2,e]
   ·have:skip r i=skip (r+1) i:=by unfold skip;split<;>split<;>lia
    rw[this]
  rw[rL (k:=r) (l:=r+1) oM h oM fun k hk h1 h2=>?_]
  ·rw[hm,e 0,BB];grind
  ·have:ba n (fF A k)=0:=by
    rcases yX k r with hk'|hk'
    ·refine kr (r:=r-1) oM fun j=>?_
     unfold fF;have a1:skip k (r-1)=r:=by unfold skip;split<;>lia
     have a2:skip k (r-1+1)=r+1:=by unfold skip;split<;>lia
     rw[a1,a2,e]
    ·refine kr (r:=r) oM fun j=>?_
     unfold fF;have a1:skip k r=r:=by unfold skip;split<;>lia
     have a2:skip k (r+1)=r+1:=by unfold skip;split<;>lia
     rw[a1,a2,e]
   rw[this,yS]
theorem kW{n:Nat}{A:Nat->Nat->Int}{c j:Nat}(hc:c<n)(hj:j<n)(hne:c≠j)(alt:∀x:Nat->Int,ba n (up (up A c x) j x)=0)(u v:Nat->Int):ba n (up (up A c u) j v)=- ba n (up (up A c v) j u):=by
 have h:=alt (fun k=>1*u k+1*v k);rw[fQ hj,gM hne,fQ hc,gM hne (v:=v),fQ hc,<- gM hne,<- gM hne,<- gM hne,<- gM hne,alt u,alt v]at h;lia
theorem nY{n:Nat}:∀(k:Nat){A:Nat->Nat->Int}{i j:Nat},j=i+k+1->j<n->(∀x,A i x=A j x)->ba n A=0
 |0,A,i,j,e,hj,h=>kr (r:=i) oM (by subst e;exact h)
 |k+1,A,i,j,e,hj,h=>by
  have alt:∀x:Nat->Int,ba n (up (up A (j-1) x) j x)=0:=fun x=>kr (r:=j-1) oM fun y=>by
   rw[show j-1+1=j by lia,bC,aU oM,bC]
  have hs:=kW (A:=A) (c:=j-1) (j:=j) oM hj oM alt (A (j-1)) (A j);rw[eU,eU]at hs;rw[hs,nY k (A:=up (up A (j-1) (A j)) j (A (j-1))) (i:=i) (j:=j-1) oM oM fun x=>by
   rw[aU oM,aU oM,aU oM,bC,h]]
  rfl
theorem i6{n:Nat}{A:Nat->Nat->Int}{i j:Nat}(hi:i<n)(hj:j<n)(hne:i≠j)(h:∀x,A i x=A j x):ba n A=0:=by
 rcases yX i j with l|l
 ·exact nY (j-i-1) (i:=i) (j:=j) oM hj h
 ·exact nY (i-j-1) (i:=j) (j:=i) oM hi fun x=>(h x).symm
theorem zr{n:Nat}{A:Nat->Nat->Int}{c j:Nat}(hc:c<n)(hj:j<n)(hne:c≠j)(u v:Nat->Int):ba n (up (up A c u) j v)=- ba n (up (up A c v) j u) :=
 kW hc hj hne (fun x=>i6 hc hj hne fun y=>by rw[aU hne,bC,bC]) u v
theorem iY{n:Nat}{A:Nat->Nat->Int}{r:Nat}(hr:r<n){t:Nat->Int}{b:Nat->Nat->Int}:∀m:Nat,ba n (up A r fun x=>MA m fun k=>t k*b k x)=MA m fun k=>t k*ba n (up A r (b k))
 |0=>by
  have:=fQ (A:=A) (r:=r) (a:=0) (b:=0) (u:=fun _=>0) (v:=fun _=>0) hr
  simp only[yT,Int.add_zero]at this;exact this
 |m+1=>by
  have:=fQ (A:=A) (r:=r) (a:=1) (b:=t m) (u:=fun x=>MA m fun k=>t k*b k x) (v:=b m) hr
  rw[Int.one_mul,iY hr m]at this;simp only[Int.one_mul]at this;exact this
theorem nX{n:Nat}{A:Nat->Nat->Int}{r:Nat}(hr:r<n){d:Int}{u:Nat->Int}:ba n (up A r fun x=>d*u x)=d*ba n (up A r u):=by
 have:=fQ (A:=A) (r:=r) (a:=d) (b:=0) (u:=u) (v:=u) hr
 simp only[yT,Int.add_zero]at this;exact this
theorem g8{n:Nat}{A:Nat->Nat->Int}{r:Nat}{u v:Nat->Int}(h:∀x,x<n->u x=v x):ba n (up A r u)=ba n (up A r v):=cR fun i j _ hj=>by
 by_cases e:i=r
 ·subst e;rw[bC,bC];exact h j hj
 ·rw[aU e,aU e]
theorem HE{n:Nat}{B:Nat->Nat->Int}{j:Nat}{d:Int}{v:Nat->Int}{t:Nat->Int}(hj:j<n)(h:∀x,x<n->d*v x=MA n fun k=>t k*B k x):d*ba n (up B j v)=t j*ba n B:=by
 rw[<- nX hj,g8 h,iY hj,sum_one hj fun k hk hne=>?_,eU];rw[i6 (i:=k) (j:=j) hk hj hne fun x=>by rw[aU hne,bC],yS]
theorem HD{n:Nat}{B:Nat->Nat->Int}{c j:Nat}{d:Int}{u v:Nat->Int}{t:Nat->Int}(hc:c<n)(hj:j<n)(hne:c≠j)(h:∀x,x<n->d*v x=MA n fun k=>t k*B k x) :
  d*ba n (up (up B c u) j v)=t j*ba n (up B c u)-t c*ba n (up B j u):=by
 rw[<- nX hj,g8 h,iY hj,rL hj hc (fun z=>hne z.symm) fun k hk h1 h2=>?_]
 ·have e1:up (up B c u) j (B j)=up B c u:=by
   have:up B c u j=B j:=aU fun z=>hne z.symm
   rw[<- this,eU]
  rw[e1,zr hc hj hne u (B c),eU]
  grind
 ·rw[i6 (i:=k) (j:=j) hk hj h1 fun x=>by rw[aU h1,aU h2,bC],yS]
def fct:Nat->Nat
 |0=>1
 |n+1=>(n+1)*fct n
theorem abs_sum{n:Nat}{f:Nat->Int}{M:Nat}(h:∀i,i<n->(f i).natAbs<=M):(MA n f).natAbs<=n*M:=by
 induction n with
 |zero=>simp[MA]
 |succ n ih =>
  simp only[MA];have h1:=ih fun i hi=>h i oM
  have h2:=h n oM;rw[Nat.succ_mul]
  have:=Int.natAbs_add_le (MA n f) (f n)
  lia
theorem qF:∀{n:Nat}{A:Nat->Nat->Int}{M:Nat},(∀i j,i<n->j<n->(A i j).natAbs<=M)->(ba n A).natAbs<=fct n*M^n
 |0,_,_,_=>by simp[ba,fct]
 |n+1,A,M,h=>by
  show(MA (n+1) _).natAbs<=_;refine z9 (abs_sum (M:=M*(fct n*M^n)) fun k hk=>?_) ?_
  ·rw[xE,xE,Dr,Nat.one_mul]
   exact Nat.mul_le_mul (h k 0 hk oM) (qF fun i j hi hj=>h _ _ (by unfold skip;split<;>lia) oM)
  ·show(n+1)*(M*(fct n*M^n))<=(n+1)*fct n*M^(n+1)
   rw[Nat.pow_succ];generalize fct n=a;generalize M^n=b;exact Nat.le_of_eq (by grind)
noncomputable def eW(w:Nat):Nat->Int:=fun x=>if x=w then 1 else 0
def aI(w:Nat)(v:Nat->Nat->Int)(h:Nat->Nat):Nat->Nat->Int:=fun k=>if k=w then eW w else v (h k)
structure Lin(w m:Nat)(v:Nat->Nat->Int)(d:Int)(t:Nat->Nat->Int)(h s:Nat->Nat):Prop where
 pos:0<d
 lin:∀i,i<m->∀x,x<w+1->d*v (s i) x=MA (w+1) fun k=>t i k*aI w v h k x
 dt:∃g:Int,g*g=1/\ba (w+1) (aI w v h)=g*d
structure oU(w m r c:Nat)(e d:Int)(t:Nat->Nat->Int)(h s:Nat->Nat)(d':Int)(t':Nat->Nat->Int)(h' s':Nat->Nat):Prop where
 e1:e*e=1
 ep:0<e*t r c
 d':d'=e*t r c
 tc:∀i,i<m->i≠r->t' i c=e*t i c
 tj:∀i,i<m->i≠r->∀j,j<w+1->j≠c->t' i j=(t i j*(e*t r c)-t i c*(e*t r j))/d
 rc:t' r c=e*d
 rj:∀j,j<w+1->j≠c->t' r j=- (e*t r j)
 hc:h' c=s r
 hj:∀j,j<w->j≠c->h' j=h j
 sr:s' r=h c
 si:∀i,i<m->i≠r->s' i=s i
section
variable{w m r c:Nat}{e d d':Int}{v t t':Nat->Nat->Int}{h s h' s':Nat->Nat}
theorem Lin.one(L:Lin w m v d t h s){g:Int}(hg:ba (w+1) (aI w v h)=g*d){i j:Nat}(hi:i<m)(hj:j<w+1):ba (w+1) (up (aI w v h) j (v (s i)))=g*t i j:=by
 have h1:=HE (n:=w+1) (j:=j) hj (L.lin i hi);rw[hg]at h1;have h0:d≠0:=by have:=L.pos;lia
 refine Int.eq_of_mul_eq_mul_left h0 ?_;rw[h1];grind
theorem Lin.ex(L:Lin w m v d t h s){i j:Nat}(hi:i<m)(hr:r<m)(hc:c<w+1)(hj:j<w+1)(hne:c≠j):d ∣ t i j*t r c-t i c*t r j:=by
 obtain⟨g,g1,hg⟩:=L.dt;have h1:=HD (n:=w+1) (c:=c) (j:=j) (u:=v (s r)) hc hj hne (L.lin i hi);rw[L.one hg hr hc,L.one hg hr hj]at h1;refine⟨g*ba (w+1) (up (up (aI w v h) c (v (s r))) j (v (s i))),?_⟩;generalize ba (w+1) (up (up (aI w v h) c (v (s r))) j (v (s i)))=D at h1
 grind
theorem Lin.ex'(L:Lin w m v d t h s){i j:Nat}(hi:i<m)(hr:r<m)(hc:c<w+1)(hj:j<w+1)(hne:c≠j):d*((t i j*(e*t r c)-t i c*(e*t r j))/d)=t i j*(e*t r c)-t i c*(e*t r j):=by
 refine Int.mul_ediv_cancel' ?_;obtain⟨k,hk⟩:=L.ex hi hr hc hj hne;exact⟨e*k,by grind⟩
theorem qS(hc:c<w)(P1:h' c=s r)(P2:∀j,j<w->j≠c->h' j=h j):∀k,k<w+1->aI w v h' k=up (aI w v h) c (v (s r)) k:=by
 intro k hk;unfold aI;by_cases e:k=c
 ·subst e;rw[bC,yK oM,P1]
 ·rw[aU e]
  by_cases e2:k=w
  ·rw[yL e2,yL e2]
  ·rw[yK e2,yK e2,P2 k oM e]
theorem Lin.piv(L:Lin w m v d t h s)(P:oU w m r c e d t h s d' t' h' s')(hr:r<m)(hc:c<w):Lin w m v d' t' h' s':=by
 have h0:d≠0:=by have:=L.pos;lia
 have e1:=P.e1;refine⟨by rw[P.d'];exact P.ep,fun i hi x hx=>?_,?_⟩
 ·by_cases ir:i=r
  ·subst ir
   rw[P.sr,P.d'];have hk:MA (w+1) (fun k=>t' i k*aI w v h' k x)=MA (w+1) fun k=>(- e)*(t i k*aI w v h k x)+if k=c then e*t i c*aI w v h c x+e*d*v (s i) x else 0:=by
    refine sum_congr fun k hk=>?_
    rw[qS hc P.hc P.hj k hk];by_cases kc:k=c
    ·subst kc;rw[yL rfl,bC,P.rc];grind
    ·rw[yK kc,aU kc,P.rj k hk kc];grind
   rw[hk,sum_add,sum_mul,<- L.lin i hi x hx,sum_one (k:=c) oM fun k _ z=>yK z,yL rfl];have:aI w v h c x=v (h c) x:=by unfold aI;rw[yK oM]
   rw[this];grind
  ·refine Int.eq_of_mul_eq_mul_left h0 ?_
   rw[P.si i hi ir,<- sum_mul];have hk:MA (w+1) (fun k=>d*(t' i k*aI w v h' k x))=MA (w+1) fun k=>(e*t r c*(t i k*aI w v h k x)+(- (e*t i c))*(t r k*aI w v h k x))+if k=c then d*(e*t i c*v (s r) x) else 0:=by
    refine sum_congr fun k hk=>?_
    rw[qS hc P.hc P.hj k hk];by_cases kc:k=c
    ·subst kc;rw[yL rfl,bC,P.tc i hi ir];grind
    ·rw[yK kc,aU kc,P.tj i hi ir k hk kc,<- Int.mul_assoc,L.ex' hi hr oM hk fun z=>kc z.symm];grind
   rw[hk,sum_add,sum_add,sum_mul,sum_mul,<- L.lin i hi x hx,<- L.lin r hr x hx,sum_one (k:=c) oM fun k _ z=>yK z,yL rfl,P.d']
   grind
 ·obtain⟨g,g1,hg⟩:=L.dt
  refine⟨g*e,by grind,?_⟩;rw[cR (B:=up (aI w v h) c (v (s r))) fun i j hi hj=>by rw[qS hc P.hc P.hj i hi],L.one hg hr oM,P.d']
  grind
theorem Lin.func(L:Lin w m v d t h s)(hv:∀q,q<w->∀x,x<w+1->v q x=if x=q then 1 else 0)(hc:c<w+1){X:Nat->Int}(hs:∀i,i<m->s i<w->X (s i)=t i c)(hh:∀j,j<w->h j<w->X (h j)=if j=c then d else 0)
  (cov:∀q,q<w->(∃i,i<m/\s i=q)\/∃j,j<w/\h j=q) :
  (∀i,i<m->(MA w fun q=>v (s i) q*X q)+v (s i) w*(if c=w then d else 0)=t i c)/\∀j,j<w->(MA w fun q=>v (h j) q*X q)+v (h j) w*(if c=w then d else 0)=if j=c then d else 0:=by
 obtain⟨g,g1,hg⟩:=L.dt;have F:∀u:Nat->Int,(MA w fun q=>u q*X q)+u w*(if c=w then d else 0)=g*ba (w+1) (up (aI w v h) c u):=fun u=>by
  have e1:ba (w+1) (up (aI w v h) c u)=MA (w+1) fun q=>u q*ba (w+1) (up (aI w v h) c (eW q)):=by
   rw[<- iY hc];refine g8 fun x hx=>?_
   rw[sum_one hx fun k _ z=>by unfold eW;rw[yK fun y=>z y.symm,yS]];unfold eW;rw[yL rfl,Int.mul_one]
  have bb:∀k,k<w+1->g*ba (w+1) (up (aI w v h) c (aI w v h k))=if k=c then d else 0:=fun k hk=>by
   by_cases kc:k=c
   ·rw[yL kc,kc,eU,hg];grind
   ·rw[yK kc,i6 (i:=k) (j:=c) hk hc kc fun x=>by rw[aU kc,bC],yS]
  rw[e1,<- sum_mul];show _=MA w _+_;congr 1
  ·refine sum_congr fun q hq=>?_
   have:g*ba (w+1) (up (aI w v h) c (eW q))=X q:=by
    have ev:∀x,x<w+1->eW q x=v q x:=fun x hx=>(hv q hq x hx).symm
    rw[g8 ev];rcases cov q hq with⟨i,hi,rfl⟩|⟨j,hj,rfl⟩
    ·rw[L.one hg hi hc,hs i hi hq];grind
    ·have:=bb j oM
     rw[show aI w v h j=v (h j) by unfold aI;rw[yK oM]]at this;rw[this,hh j hj hq]
   rw[<- this];grind
  ·have:=bb w oM
   rw[show aI w v h w=eW w by unfold aI;rw[yL rfl]]at this;have e2:(if c=w then d else 0)=if w=c then d else 0:=by
    by_cases z:c=w
    ·rw[yL z,yL z.symm]
    ·rw[yK z,yK fun y=>z y.symm]
   rw[e2,<- this];grind
 refine⟨fun i hi=>?_,fun j hj=>?_⟩
 ·rw[F,L.one hg hi hc];grind
 ·rw[F]
  have e:v (h j)=aI w v h j:=by unfold aI;rw[yK oM]
  rw[e];by_cases jc:j=c
  ·rw[yL jc,jc,eU,hg];grind
  ·rw[yK jc,i6 (i:=j) (j:=c) oM hc jc fun x=>by rw[aU jc,bC],yS]
theorem Lin.bound(L:Lin w m v d t h s){M:Nat}(hM:1<=M)(hv:∀q x,x<w+1->(v q x).natAbs<=M):d.natAbs<=fct (w+1)*M^(w+1)/\∀i,i<m->∀j,j<w+1->(t i j).natAbs<=fct (w+1)*M^(w+1):=by
 obtain⟨g,g1,hg⟩:=L.dt;have ga:g.natAbs=1:=by
  have:g.natAbs*g.natAbs=1:=by rw[<- xE,g1];rfl
  exact Nat.eq_one_of_mul_eq_one_left this
 have hb:∀k x,x<w+1->(aI w v h k x).natAbs<=M:=fun k x hx=>by
  unfold aI;split
  ·unfold eW;split<;>simp<;>lia
  ·exact hv _ x hx
 refine⟨?_,fun i hi j hj=>?_⟩
 ·have:=qF (n:=w+1) (A:=aI w v h) (M:=M) fun i j _ hj=>hb i j hj
  rw[hg,xE,ga,Nat.one_mul]at this;exact this
 ·have:=qF (n:=w+1) (A:=up (aI w v h) j (v (s i))) (M:=M) fun k x _ hx=>by
   by_cases z:k=j
   ·subst z;rw[bC];exact hv _ x hx
   ·rw[aU z];exact hb k x hx
  rw[L.one hg hi hj,xE,ga,Nat.one_mul]at this;exact this
end
structure Pm(w m:Nat)(h s:Nat->Nat):Prop where
 hl:∀j,j<w->h j<w+m
 sl:∀i,i<m->s i<w+m
 hi:∀j k,j<w->k<w->h j=h k->j=k
 si:∀j k,j<m->k<m->s j=s k->j=k
 hs:∀j i,j<w->i<m->h j≠s i
 cov:∀q,q<w+m->(∃i,i<m/\s i=q)\/∃j,j<w/\h j=q
structure Fea(w m:Nat)(G N:Nat->Prop)(t:Nat->Nat->Int)(h s:Nat->Nat):Prop where
 g:∀i,i<m->G (s i)->0<=t i w
 n:∀i,i<m->N (s i)->t i w=0/\∀j,j<w->¬N (h j)->t i j=0
 f:∀j,j<w->G (h j)\/N (h j)
section
variable{w m r c:Nat}{e d d':Int}{v t t':Nat->Nat->Int}{h s h' s':Nat->Nat}{G N G' N':Nat->Prop}
theorem Pm.piv(Q:Pm w m h s)(P:oU w m r c e d t h s d' t' h' s')(hr:r<m)(hc:c<w):Pm w m h' s':=by
 have hh:∀j,j<w->(j=c/\h' j=s r)\/(j≠c/\h' j=h j):=fun j hj=>by
  by_cases z:j=c
  ·subst z;exact .inl ⟨rfl,P.hc⟩
  ·exact .inr ⟨z,P.hj j hj z⟩
 have ss:∀i,i<m->(i=r/\s' i=h c)\/(i≠r/\s' i=s i):=fun i hi=>by
  by_cases z:i=r
  ·subst z;exact .inl ⟨rfl,P.sr⟩
  ·exact .inr ⟨z,P.si i hi z⟩
 refine⟨fun j hj=>?_,fun i hi=>?_,fun j k hj hk e=>?_,fun j k hj hk e=>?_,fun j i hj hi e=>?_,fun q hq=>?_⟩
 ·rcases hh j hj with⟨_,z⟩|⟨_,z⟩<;>rw[z]
  ·exact Q.sl r hr
  ·exact Q.hl j hj
 ·rcases ss i hi with⟨_,z⟩|⟨_,z⟩<;>rw[z]
  ·exact Q.hl c hc
  ·exact Q.sl i hi
 ·rcases hh j hj with⟨a,z⟩|⟨a,z⟩<;>rcases hh k hk with⟨b,y⟩|⟨b,y⟩<;>rw[z,y]at e
  ·rw[a,b]
  ·exact absurd e.symm (Q.hs k r hk hr)
  ·exact absurd e (Q.hs j r hj hr)
  ·exact Q.hi j k hj hk e
 ·rcases ss j hj with⟨a,z⟩|⟨a,z⟩<;>rcases ss k hk with⟨b,y⟩|⟨b,y⟩<;>rw[z,y]at e
  ·rw[a,b]
  ·exact absurd e (Q.hs c k hc hk)
  ·exact absurd e.symm (Q.hs c j hc hj)
  ·exact Q.si j k hj hk e
 ·rcases hh j hj with⟨a,z⟩|⟨a,z⟩<;>rcases ss i hi with⟨b,y⟩|⟨b,y⟩<;>rw[z,y]at e
  ·exact Q.hs c r hc hr e.symm
  ·exact b (Q.si i r hi hr e.symm)
  ·exact a (Q.hi j c hj hc e)
  ·exact Q.hs j i hj hi e
 ·by_cases z:q=h c
  ·exact .inl ⟨r,hr,by rw[P.sr,z]⟩
  ·by_cases y:q=s r
   ·exact .inr ⟨c,hc,by rw[P.hc,y]⟩
   ·rcases Q.cov q hq with⟨i,hi,e⟩|⟨j,hj,e⟩
    ·exact .inl ⟨i,hi,by rw[P.si i hi (fun x=>y (by rw[<- e,x]))];exact e⟩
    ·exact .inr ⟨j,hj,by rw[P.hj j hj (fun x=>z (by rw[<- e,x]))];exact e⟩
theorem tX{d x:Int}(hd:0<d)(h:0<=d*x):0<=x:=by
 rcases yY x 0 with z|z
 ·have:=Int.mul_neg_of_pos_of_neg hd z;lia
 ·exact z
theorem xf{d x:Int}(hd:0<d)(h:d*x=0):x=0:=by
 rcases Int.mul_eq_zero.mp h with z|z
 ·lia
 ·exact z
theorem Fea.piv(L:Lin w m v d t h s)(Q:Pm w m h s)(F:Fea w m G N t h s)(P:oU w m r c e d t h s d' t' h' s')(hr:r<m)(hc:c<w)(nc:¬N (h c))
  (val:∀i,i<m->i≠r->G (s i)->0<=t i w*(e*t r c)-t i c*(e*t r w)) (new:G (h c)->0<=- (e*t r w))
  (hG:∀q,q≠s r->(G' q ↔ G q)) (hN:∀q,q≠s r->(N' q ↔ N q)) (hr':G' (s r)\/N' (s r)):Fea w m G' N' t' h' s':=by
 have old:∀i,i<m->i≠r->s i≠s r:=fun i hi z y=>z (Q.si i r hi hr y)
 refine⟨fun i hi hg=>?_,fun i hi hn=>?_,fun j hj=>?_⟩
 ·by_cases z:i=r
  ·subst z
   rw[P.rj w oM oM];rw[P.sr]at hg;exact new ((hG _ (Q.hs c i hc hr)).mp hg)
  ·rw[P.si i hi z]at hg
   have:=val i hi z ((hG _ (old i hi z)).mp hg)
   rw[P.tj i hi z w oM oM];exact tX L.pos (by rw[L.ex' hi hr oM oM oM];exact this)
 ·by_cases z:i=r
  ·subst z
   rw[P.sr]at hn;exact absurd ((hN _ (Q.hs c i hc hr)).mp hn) nc
  ·rw[P.si i hi z]at hn
   obtain⟨n1,n2⟩:=F.n i hi ((hN _ (old i hi z)).mp hn);have tc:=n2 c hc nc;refine⟨?_,fun j hj hn'=>?_⟩
   ·rw[P.tj i hi z w oM oM]
    exact xf L.pos (by rw[L.ex' hi hr oM oM oM,n1,tc];grind)
   ·by_cases y:j=c
    ·subst y;rw[P.tc i hi z,tc,yS]
    ·rw[P.hj j hj y]at hn'
     have:=n2 j hj fun x=>hn' ((hN _ (Q.hs j r hj hr)).mpr x)
     rw[P.tj i hi z j oM y];exact xf L.pos (by rw[L.ex' hi hr oM oM (fun x=>y x.symm),this,tc];grind)
 ·by_cases y:j=c
  ·subst y;rw[P.hc];exact hr'
  ·rw[P.hj j hj y]
   rcases F.f j hj with x|x
   ·exact .inl ((hG _ (Q.hs j r hj hr)).mpr x)
   ·exact .inr ((hN _ (Q.hs j r hj hr)).mpr x)
theorem Fea.tight(L:Lin w m v d t h s)(Q:Pm w m h s)(F:Fea w m G N t h s)(P:oU w m r c e d t h s d' t' h' s')(hr:r<m)(hc:c<w)(nc:¬N (h c))(gr:G (s r))(neg:t r c<0)
  (ti:∀i,i<m->G (s i)->t i c<0->t r w*- t i c<=t i w*- t r c):Fea w m G N t' h' s':=by
 have e0:e=-1:=by
  have h1:=P.ep;have h2:=P.e1;rcases yY e 0 with z|z
  ·have:e*e=1:=h2
   have:e=-1:=by
    rcases yY e (-1) with y|y
    ·have:1<e*e:=by
      have a:(-e)*1<(-e)*(-e):=Int.mul_lt_mul_of_pos_left oM oM;have b:(-e)*(-e)=e*e:=by grind
      lia
     lia
    ·lia
   exact this
  ·have:e*t r c<=0:=Int.mul_nonpos_of_nonneg_of_nonpos z oM
   lia
 have rw0:=F.g r hr gr;refine Fea.piv L Q F P hr hc nc (fun i hi ne hg=>?_) (fun _=>by rw[e0];lia) (fun _ _=>.rfl) (fun _ _=>.rfl) (.inl gr);have iw:=F.g i hi hg;rw[e0];rcases yY (t i c) 0 with z|z
 ·have:=ti i hi hg z
  have a:t i w*(-1*t r c)-t i c*(-1*t r w)=t i w*- t r c-t r w*- t i c:=by grind
  rw[a];lia
 ·have a:t i w*(-1*t r c)-t i c*(-1*t r w)=t i w*- t r c+t i c*t r w:=by grind
  rw [a];have b:=Int.mul_nonneg iw (show 0 <= - t r c by lia);have c:=Int.mul_nonneg z rw0;lia
theorem Fea.lift(L:Lin w m v d t h s)(Q:Pm w m h s)(F:Fea w m G N t h s)(P:oU w m r c e d t h s d' t' h' s')(hr:r<m)(hc:c<w)(nc:¬N (h c))(pos:0<t r c)(low:t r w<0)
  (ti:∀i,i<m->G (s i)->t i c<0->t r w*t i c<=t i w*t r c) (hG:∀q,q≠s r->(G' q ↔ G q)) (hN:∀q,q≠s r->(N' q ↔ N q)) (hr':G' (s r)\/N' (s r)):Fea w m G' N' t' h' s':=by
 have e0:e=1:=by
  have h1:=P.ep;have h2:=P.e1;have e0:0<e:=by
   rcases yY 0 e with z|z
   ·exact z
   ·have:e*t r c<=0:=Int.mul_nonpos_of_nonpos_of_nonneg z oM
    lia
  rcases yY 1 e with y|y
  ·have:e*1<e*e:=Int.mul_lt_mul_of_pos_left y e0
   lia
  ·lia
 refine Fea.piv L Q F P hr hc nc (fun i hi ne hg=>?_) (fun _=>by rw[e0];lia) hG hN hr';have iw:=F.g i hi hg;rw[e0];rcases yY (t i c) 0 with z|z
 ·have:=ti i hi hg z
  have a:t i w*(1*t r c)-t i c*(1*t r w)=t i w*t r c-t r w*t i c:=by grind
  rw[a];lia
 ·have a:t i w*(1*t r c)-t i c*(1*t r w)=t i w*t r c+t i c*- t r w:=by grind
  rw [a];have b:=Int.mul_nonneg iw (show 0 <= t r c by lia);have c:=Int.mul_nonneg z (show 0 <= - t r w by lia);lia
theorem Fea.move(L:Lin w m v d t h s)(Q:Pm w m h s)(F:Fea w m G N t h s)(P:oU w m r c e d t h s d' t' h' s')(hr:r<m)(hc:c<w)(nc:¬N (h c))(nought:t r w=0)
  (hG:∀q,q≠s r->(G' q ↔ G q)) (hN:∀q,q≠s r->(N' q ↔ N q)) (hr':G' (s r)\/N' (s r)):Fea w m G' N' t' h' s':=by
 refine Fea.piv L Q F P hr hc nc (fun i hi ne hg=>?_) (fun _=>by rw[nought];lia) hG hN hr';have iw:=F.g i hi hg
 have:=P.ep
 have b:=Int.mul_nonneg iw (show 0 <= e * t r c by lia);rw [nought];have a:t i w * (e * t r c) - t i c * (e * 0)=t i w * (e * t r c):=by grind
 rw[a];exact b
theorem Cv{a b x y u z:Int}(hb:b<0)(hx:x<0)(hu:0<u)(h1:z*b<=a*u)(h2:a*- x<=y*- b):z*x<=y*u:=by
 have h3:(z*b)*(-x)<=(a*u)*(-x):=Int.mul_le_mul_of_nonneg_right h1 oM;have h4:(a*- x)*u<=(y*- b)*u:=Int.mul_le_mul_of_nonneg_right h2 oM;have h5:(z*x)*(-b)<=(y*u)*(-b):=by
  have e1:(z*b)*(-x)=(z*x)*(-b):=by grind
  have e2:(a*u)*(-x)=(a*- x)*u:=by grind
  have e3:(y*- b)*u=(y*u)*(-b):=by grind
  rw[e1,e2]at h3;rw[e3]at h4;exact Int.le_trans h3 h4
 exact Int.le_of_mul_le_mul_right h5 oM
theorem Fea.guard{p:Nat}(F:Fea w m G N t h s)(Q:Pm w m h s)(hp:p<m)(h0:0<=t p w):Fea w m (fun q=>G q\/q=s p) N t h s :=
 ⟨fun i hi hg=>by
  rcases hg with hg|hg
  ·exact F.g i hi hg
  ·rw[Q.si i p hi hp hg];exact h0,F.n,fun j hj=>(F.f j hj).imp .inl id⟩
theorem Fea.nail{p:Nat}(F:Fea w m G N t h s)(Q:Pm w m h s)(hp:p<m)(h0:t p w=0)(hz:∀j,j<w->¬N (h j)->t p j=0):Fea w m G (fun q=>N q\/q=s p) t h s :=
 ⟨F.g,fun i hi hn=>by
  rcases hn with hn|hn
  ·obtain⟨a,b⟩:=F.n i hi hn
   exact⟨a,fun j hj z=>b j hj fun y=>z (.inl y)⟩
  ·rw[Q.si i p hi hp hn]
   exact⟨h0,fun j hj z=>hz j hj fun y=>z (.inl y)⟩,fun j hj=>(F.f j hj).imp id .inl⟩
noncomputable def tv(v:Nat->Nat->Int)(q:Nat):Nat->Nat->Int:=fun k x=>if k=q then-v k x else v k x
theorem Lin.turn{p:Nat}(L:Lin w m v d t h s)(Q:Pm w m h s)(hp:p<m)(h1:∀j,j<w+1->t' p j=- t p j)(h2:∀i,i<m->i≠p->∀j,j<w+1->t' i j=t i j):Lin w m (tv v (s p)) d t' h s:=by
 have hb:∀k,k<w+1->aI w (tv v (s p)) h k=aI w v h k:=fun k hk=>by
  unfold aI;by_cases z:k=w
  ·rw[yL z,yL z]
  ·rw[yK z,yK z];funext x;unfold tv;rw[yK (Q.hs k p oM hp)]
 refine⟨L.pos,fun i hi x hx=>?_,?_⟩
 ·by_cases z:i=p
  ·subst z
   have:=L.lin i hi x hx
   rw[sum_congr (g:=fun k=>(-1)*(t i k*aI w v h k x)) fun k hk=>by rw[hb k hk,h1 k hk];grind,sum_mul,<- this];unfold tv;rw[yL rfl];grind
  ·rw[sum_congr (g:=fun k=>t i k*aI w v h k x) fun k hk=>by rw[hb k hk,h2 i hi z k hk],<- L.lin i hi x hx]
   unfold tv;rw[yK fun y=>z (Q.si i p hi hp y)]
 ·obtain⟨g,g1,hg⟩:=L.dt
  exact⟨g,g1,by rw[cR (B:=aI w v h) fun i j hi _=>by rw[hb i hi]];exact hg⟩
theorem Fea.turn{p:Nat}(F:Fea w m G N t h s)(Q:Pm w m h s)(hp:p<m)(ng:¬G (s p))(nn:¬N (s p))(h2:∀i,i<m->i≠p->∀j,j<w+1->t' i j=t i j):Fea w m G N t' h s:=by
 refine⟨fun i hi hg=>?_,fun i hi hn=>?_,F.f⟩
 ·rw[h2 i hi (fun z=>ng (by rw[<- z];exact hg)) w oM];exact F.g i hi hg
 ·have ne:i≠p:=fun z=>nn (by rw[<- z];exact hn)
  obtain⟨a,b⟩:=F.n i hi hn;exact⟨by rw[h2 i hi ne w oM];exact a,fun j hj z=>by rw[h2 i hi ne j oM];exact b j hj z⟩
end
theorem vM:∀(M:Nat)(f:Nat->Nat),(∀n,f n<M)->∃i j,i<j/\f i=f j
 |0,f,h=>absurd (h 0) oM
 |M+1,f,h=>by
  by_cases c:∃n,∀k,n<=k->f k≠M
  ·obtain⟨n,hn⟩:=c
   obtain⟨i,j,hij,e⟩:=vM M (fun k=>f (n+k)) fun k=>by have:=h (n+k);have:=hn (n+k) oM;lia
   exact⟨n+i,n+j,by lia,e⟩
  ·have c':∀n,∃k,n<=k/\f k=M:=fun n=>Classical.byContradiction fun z=>c ⟨n,fun k hk e=>z ⟨k,hk,e⟩⟩
   obtain⟨i,_,hi⟩:=c' 0;obtain⟨j,hj,hj'⟩:=c' (i+1);exact⟨i,j,by lia,by rw[hi,hj']⟩
def iy(b:Nat)(h:Nat->Nat):Nat->Nat
 |0=>0
 |n+1=>iy b h n*b+h n
theorem wH{b:Nat}{h:Nat->Nat}:∀{n:Nat},(∀j,j<n->h j<b)->iy b h n<b^n
 |0,_=>by simp[iy]
 |n+1,H=>by
  have h1:=wH (n:=n) fun j hj=>H j oM
  have h2:=H n oM;show iy b h n*b+h n<b^(n+1);rw[Nat.pow_succ];have:(iy b h n+1)*b<=b^n*b:=Nat.mul_le_mul_right b h1;rw[Nat.succ_mul]at this;lia
theorem sL{b:Nat}{h g:Nat->Nat}:∀{n:Nat},(∀j,j<n->h j<b)->(∀j,j<n->g j<b)->iy b h n=iy b g n->∀j,j<n->h j=g j
 |0,_,_,_,j,hj=>by lia
 |n+1,H,K,e,j,hj=>by
  have h2:=H n oM;have k2:=K n oM;have e':iy b h n*b+h n=iy b g n*b+g n:=e;have e1:h n=g n:=by
   have:=congrArg (·%b) e'
   simp only[Nat.mul_add_mod_self_right]at this
   rwa [Nat.mod_eq_of_lt h2,Nat.mod_eq_of_lt k2]at this
  have e2:iy b h n=iy b g n:=by
   have:iy b h n*b=iy b g n*b:=by lia
   exact Nat.eq_of_mul_eq_mul_right oM this
  rcases yX j n with z|z
  ·exact sL (fun j hj=>H j oM) (fun j hj=>K j oM) e2 j z
  ·rw[show j=n by lia];exact e1
theorem vm(b:Nat->Prop){i:Nat}:∀(k:Nat),b i->¬b (i+k)->∃n,i<=n/\n<i+k/\b n/\¬b (n+1)
 |0,h,g=>absurd h g
 |k+1,h,g=>by
  by_cases z:b (i+k)
  ·exact⟨i+k,by lia,by lia,z,g⟩
  ·obtain⟨n,a,c,d⟩:=vm b k h z
   exact⟨n,a,by lia,d⟩
theorem vk(b:Nat->Prop){i j x y:Nat}(hx:i<=x/\x<=j)(hy:i<=y/\y<=j)(bx:b x)(by':¬b y)(e:b i ↔ b j):∃n,i<=n/\n<j/\b n/\¬b (n+1):=by
 have go:∀a c,i<=a->a<=c->c<=j->b a->¬b c->∃n,i<=n/\n<j/\b n/\¬b (n+1):=fun a c h1 h2 h3 p q=>by
  obtain⟨n,n1,n2,n3⟩:=vm b (c-a) p (by rwa [show a+(c-a)=c by lia]);exact⟨n,by lia,by lia,n3⟩
 rcases Nat.le_total x y with z|z
 ·exact go x y hx.1 z hy.2 bx by'
 ·by_cases q:b j
  ·exact go i y oM hy.1 hy.2 (e.mpr q) by'
  ·exact go x j hx.1 hx.2 (zS j) bx q
structure St where
 d:Int
 t:Nat->Nat->Int
 h:Nat->Nat
 s:Nat->Nat
structure Bl(w m p:Nat)(G N:Nat->Prop)(r c:Nat)(e:Int)(S S':St):Prop where
 hc:c<w
 nc:¬N (S.h c)
 up:0<S.t p c
 least:∀j,j<w->¬N (S.h j)->0<S.t p j->S.h c<=S.h j
 hr:r<m
 gr:G (S.s r)
 neg:S.t r c<0
 ti:∀i,i<m->G (S.s i)->S.t i c<0->S.t r w*- S.t i c<S.t i w*- S.t r c\/(S.t r w*- S.t i c=S.t i w*- S.t r c/\S.s r<=S.s i)
 piv:oU w m r c e S.d S.t S.h S.s S'.d S'.t S'.h S'.s
def ia(w:Nat)(S:St)(q:Nat):Prop:=∃k,k<w/\S.h k=q
def Zr(w m:Nat)(S:St)(q:Nat):Prop:=∀i,i<m->S.s i=q->S.t i w=0
theorem AM{a b c d e f:Int}(hb:0<b)(hd:0<d)(hf:0<f)(h1:a*d<=c*b)(h2:c*f<=e*d):a*f<=e*b:=by
 have h3:(a*d)*f<=(c*b)*f:=Int.mul_le_mul_of_nonneg_right h1 oM;have h4:(c*f)*b<=(e*d)*b:=Int.mul_le_mul_of_nonneg_right h2 oM;have e1:(c*b)*f=(c*f)*b:=by grind
 have h5:(a*f)*d<=(e*b)*d:=by
  have e2:(a*f)*d=(a*d)*f:=by grind
  have e3:(e*b)*d=(e*d)*b:=by grind
  rw[e2,e3];rw[e1]at h3;exact Int.le_trans h3 h4
 exact Int.le_of_mul_le_mul_right h5 hd
section
variable{w m p:Nat}{v:Nat->Nat->Int}{G N:Nat->Prop}{S:Nat->St}{r c:Nat->Nat}{e:Nat->Int}
structure Run(w m p:Nat)(v:Nat->Nat->Int)(G N:Nat->Prop)(S:Nat->St)(r c:Nat->Nat)(e:Nat->Int):Prop where
 L:∀n,Lin w m v (S n).d (S n).t (S n).h (S n).s
 Q:∀n,Pm w m (S n).h (S n).s
 F:∀n,Fea w m G N (S n).t (S n).h (S n).s
 B:∀n,Bl w m p G N (r n) (c n) (e n) (S n) (S (n+1))
 hp:p<m
 np:¬G ((S 0).s p)
theorem Run.sp(R:Run w m p v G N S r c e):∀n,(S n).s p=(S 0).s p
 |0=>rfl
 |n+1=>by
  have h:=R.sp n;have:p≠r n:=fun z=>R.np (by rw[<- h,z];exact(R.B n).gr)
  rw[(R.B n).piv.si p R.hp this];exact h
theorem Run.pr(R:Run w m p v G N S r c e)(n:Nat):p≠r n:=fun z=>R.np (by rw[<- R.sp n,z];exact(R.B n).gr)
theorem Cq{e a:Int}(h1:e*e=1)(h2:0<e*a)(h3:a<0):e=-1:=by
 have hz:e<0:=by
  rcases yY e 0 with z|z
  ·exact z
  ·have:e*a<=0:=Int.mul_nonpos_of_nonneg_of_nonpos z oM
   lia
 rcases yY e (-1) with y|y
 ·have a:(-e)*1<(-e)*(-e):=Int.mul_lt_mul_of_pos_left oM oM
  have b:(-e)*(-e)=e*e:=by grind
  lia
 ·lia
theorem Run.em(R:Run w m p v G N S r c e)(n:Nat):e n=-1:=Cq (R.B n).piv.e1 (R.B n).piv.ep (R.B n).neg
theorem Run.col(R:Run w m p v G N S r c e)(n:Nat){i:Nat}(hi:i<m)(ne:i≠r n):(S n).d*(S (n+1)).t i w=(S n).t i w*(S (n+1)).d+(S n).t i (c n)*(S n).t (r n) w:=by
 have B:=R.B n;rw[B.piv.tj i hi ne w oM (by have:=B.hc;lia),(R.L n).ex' hi B.hr (by have:=B.hc;lia) oM (by have:=B.hc;lia),B.piv.d',R.em n]
 grind
theorem Run.mono(R:Run w m p v G N S r c e)(n:Nat):(S n).t p w*(S (n+1)).d<=(S (n+1)).t p w*(S n).d:=by
 have B:=R.B n
 have:=R.col n R.hp (R.pr n)
 have h1:=Int.mul_nonneg (show 0 <= (S n).t p (c n) by have:=B.up;lia) ((R.F n).g (r n) B.hr B.gr);rw [Int.mul_comm ((S (n + 1)).t p w)];lia
theorem Run.monos(R:Run w m p v G N S r c e)(i:Nat):∀k,(S i).t p w*(S (i+k)).d<=(S (i+k)).t p w*(S i).d
 |0=>Int.le_refl _
 |k+1=>AM (R.L i).pos (R.L (i+k)).pos (R.L (i+k+1)).pos (R.monos i k) (R.mono (i+k))
theorem Run.same(R:Run w m p v G N S r c e){i j:Nat}(h:∀k,k<w->(S i).h k=(S j).h k):(S i).d=(S j).d/\(S i).t p w=(S j).t p w:=by
 have hb:∀k,k<w+1->aI w v (S i).h k=aI w v (S j).h k:=fun k hk=>by
  unfold aI;by_cases z:k=w
  ·rw[yL z,yL z]
  ·rw[yK z,yK z,h k oM]
 obtain⟨g,g1,hg⟩:=(R.L i).dt;obtain⟨g',g1',hg'⟩:=(R.L j).dt;have e1:ba (w+1) (aI w v (S i).h)=ba (w+1) (aI w v (S j).h):=cR fun a b ha _=>by rw[hb a ha]
 have e2:=(R.L i).one hg R.hp (j:=w) oM;have e3:=(R.L j).one hg' R.hp (j:=w) oM;rw[R.sp i]at e2;rw[R.sp j]at e3;have e4:ba (w+1) (up (aI w v (S i).h) w (v ((S 0).s p)))=ba (w+1) (up (aI w v (S j).h) w (v ((S 0).s p))):=cR fun a b ha _=>by
  by_cases z:a=w
  ·subst z;rw[bC,bC]
  ·rw[aU z,aU z,hb a ha]
 rw[hg,hg']at e1;rw[e2,e3]at e4;have p1:=(R.L i).pos;have p2:=(R.L j).pos;have gd:∀x:Int,x*x=1->x=1\/x=-1:=fun x hx=>by
  have:x.natAbs*x.natAbs=1:=by rw[<- xE,hx];rfl
  have:=Nat.eq_one_of_mul_eq_one_left this
  lia
 rcases gd g g1 with rfl|rfl<;>rcases gd g' g1' with rfl|rfl<;>constructor<;>lia
theorem Run.flat(R:Run w m p v G N S r c e){i j n:Nat}(h:∀k,k<w->(S i).h k=(S j).h k)(h1:i<=n)(h2:n<j):(S n).t (r n) w=0:=by
 have B:=R.B n;have a:=R.monos i (n-i);have b:=R.monos (n+1) (j-(n+1));rw[show i+(n-i)=n by lia]at a;rw[show n+1+(j-(n+1))=j by lia]at b;obtain⟨e1,e2⟩:=R.same h;rw[<- e1,<- e2]at b;have c1:=AM (R.L (n+1)).pos (R.L i).pos (R.L n).pos b a;have c2:=R.col n R.hp (R.pr n);have g0:=(R.F n).g (r n) B.hr B.gr;rcases yY 0 ((S n).t (r n) w) with z|z
 ·have:=Int.mul_pos B.up z
  rw[Int.mul_comm ((S (n+1)).t p w)]at c1;lia
 ·lia
theorem Run.zero(R:Run w m p v G N S r c e){n q:Nat}(f:(S n).t (r n) w=0):Zr w m (S n) q ↔ Zr w m (S (n+1)) q:=by
 have B:=R.B n;have P:=B.piv;have nw:w≠c n:=by have:=B.hc;lia
 have hr':(S (n+1)).t (r n) w=0:=by rw[P.rj w oM nw,f];lia
 have iff:∀i,i<m->i≠r n->((S n).t i w=0 ↔ (S (n+1)).t i w=0):=fun i hi ne=>by
  have:=R.col n hi ne
  rw[f,yS,Int.add_zero]at this;constructor
  ·intro z;rw[z,yT]at this;exact xf (R.L n).pos this
  ·intro z;rw[z,yS]at this
   rcases Int.mul_eq_zero.mp this.symm with y|y
   ·exact y
   ·have:=(R.L (n+1)).pos;lia
 constructor
 ·intro h i hi e
  by_cases z:i=r n
  ·rw[z];exact hr'
  ·rw[P.si i hi z]at e;exact(iff i hi z).mp (h i hi e)
 ·intro h i hi e
  by_cases z:i=r n
  ·rw[z];exact f
  ·exact(iff i hi z).mpr (h i hi (by rw[P.si i hi z];exact e))
theorem Run.zeros(R:Run w m p v G N S r c e){i j q:Nat}(h:∀k,k<w->(S i).h k=(S j).h k){a:Nat}(ha:i<=a):∀k,a+k<=j->(Zr w m (S a) q ↔ Zr w m (S (a+k)) q)
 |0,_=>.rfl
 |k+1,hk=>(R.zeros h ha k oM).trans (R.zero (R.flat h oM oM))
theorem Run.zall(R:Run w m p v G N S r c e){i j q:Nat}(h:∀k,k<w->(S i).h k=(S j).h k){a b:Nat}(ha:i<=a)(ha':a<=j)(hb:i<=b)(hb':b<=j)(z:Zr w m (S a) q):Zr w m (S b) q:=by
 rcases Nat.le_total a b with l|l
 ·have:=(R.zeros (q:=q) h ha (b-a) oM).mp;rw[show a+(b-a)=b by lia]at this;exact this z
 ·have:=(R.zeros (q:=q) h hb (a-b) oM).mpr;rw[show b+(a-b)=a by lia]at this;exact this z
theorem Run.out(R:Run w m p v G N S r c e){n q:Nat}(h:ia w (S n) q)(g:¬ia w (S (n+1)) q):q=(S n).h (c n):=by
 obtain⟨k,hk,rfl⟩:=h;by_cases z:k=c n
 ·rw[z]
 ·exact absurd ⟨k,hk,(R.B n).piv.hj k hk z⟩ g
theorem Run.inn(R:Run w m p v G N S r c e){n q:Nat}(h:¬ia w (S n) q)(g:ia w (S (n+1)) q):q=(S n).s (r n):=by
 obtain⟨k,hk,rfl⟩:=g;by_cases z:k=c n
 ·rw[z];exact(R.B n).piv.hc
 ·exact absurd ⟨k,hk,((R.B n).piv.hj k hk z).symm⟩ h
theorem Run.hz(R:Run w m p v G N S r c e){n q:Nat}(h:ia w (S n) q):Zr w m (S n) q:=fun i hi e=>by
 obtain⟨k,hk,rfl⟩:=h;exact absurd e.symm ((R.Q n).hs k i hk hi)
theorem xW{n:Nat}{f:Nat->Int}(h:0<MA n f):∃k,k<n/\0<f k:=by
 induction n with
 |zero=>exact absurd h (by simp[MA])
 |succ n ih =>
  by_cases z:0<f n
  ·exact⟨n,by lia,z⟩
  ·obtain⟨k,hk,e⟩:=ih (by simp only[MA]at h;lia)
   exact⟨k,by lia,e⟩
theorem Run.ends(R:Run w m p v G N S r c e):False:=by
 obtain⟨i,j,hij,eq⟩:=vM ((w+m)^w) (fun n=>iy (w+m) (S n).h w) fun n=>wH (R.Q n).hl
 have hh:=sL (R.Q i).hl (R.Q j).hl eq
 -- the greatest quantity that is now free,now not
 let Fk:Nat->Prop:=fun q=>∃a b,i<=a/\a<=j/\i<=b/\b<=j/\ia w (S a) q/\¬ia w (S b) q
 have f0:Fk ((S i).h (c i)):=⟨i,i+1,by lia,by lia,by lia,by lia,⟨c i,(R.B i).hc,rfl⟩,fun⟨k,hk,e⟩=>(R.Q (i+1)).hs k (r i) hk (R.B i).hr (by rw[e,(R.B i).piv.sr])⟩;have bd:∀q,Fk q->q<w+m:=fun q hq0=>by obtain⟨a,b,_,_,_,_,⟨k,hk,e⟩,_⟩:=hq0;rw[<- e];exact(R.Q a).hl k hk
 obtain⟨q,hq,mx⟩:∃q,Fk q/\∀x,Fk x->x<=q:=by
  have go:∀k,(∃q,Fk q/\w+m<=q+k)->∃q,Fk q/\∀x,Fk x->x<=q:=fun k=>by
   induction k with
   |zero=>intro⟨q,h1,h2⟩;have:=bd q h1;lia
   |succ k ih =>
    rintro⟨q,h1,h2⟩;by_cases z:∃x,Fk x/\q<x
    ·obtain⟨x,x1,x2⟩:=z;exact ih ⟨x,x1,by lia⟩
    ·exact⟨q,h1,fun x hx=>by
      rcases yX q x with y|y
      ·exact absurd ⟨x,hx,y⟩ z
      ·exact y⟩
  exact go (w+m) ⟨_,f0,by lia⟩
 have hij':ia w (S i) q ↔ ia w (S j) q:=⟨fun⟨k,hk,e⟩=>⟨k,hk,by rw[<- hh k hk];exact e⟩,fun⟨k,hk,e⟩=>⟨k,hk,by rw[hh k hk];exact e⟩⟩;obtain⟨a,b,a1,a2,b1,b2,ha,hb⟩:=id hq;obtain⟨t1,u1,u2,u3,u4⟩:=vk (fun n=>ia w (S n) q) ⟨a1,a2⟩ ⟨b1,b2⟩ ha hb hij';obtain⟨t2,v1,v2,v3,v4⟩:=vk (fun n=>¬ia w (S n) q) ⟨b1,b2⟩ ⟨a1,a2⟩ hb (fun z=>z ha) (not_congr hij');have v4:ia w (S (t2+1)) q:=Classical.byContradiction v4;have q1:=R.out u3 u4;have q2:=R.inn v3 v4;have B1:=R.B t1;have B2:=R.B t2
 -- the way along the column at t2
 obtain⟨g,g1,hg⟩:=(R.L t2).dt
 let W:(Nat->Int)->Int:=fun u=>g*ba (w+1) (up (aI w v (S t2).h) (c t2) u)
 have hcw:c t2<w+1:=by have:=B2.hc;lia
 have Ws:∀k,k<m->W (v ((S t2).s k))=(S t2).t k (c t2):=fun k hk=>by
  show g*_=_;rw[(R.L t2).one hg hk hcw];grind
 have Wb:∀k,k<w+1->W (aI w v (S t2).h k)=if k=c t2 then(S t2).d else 0:=fun k hk=>by
  show g*_=_;by_cases z:k=c t2
  ·rw[yL z,z,eU,hg];grind
  ·rw[yK z,i6 (i:=k) (j:=c t2) hk hcw z fun x=>by rw[aU z,bC],yS]
 have key:(S t1).d*(S t2).t p (c t2)=MA w fun k=>(S t1).t p k*W (v ((S t1).h k)):=by
  have h1:(S t1).d*W (v ((S 0).s p))=MA (w+1) fun k=>(S t1).t p k*W (aI w v (S t1).h k):=by
   show(S t1).d*(g*ba (w+1) (up (aI w v (S t2).h) (c t2) (v ((S 0).s p))))=MA (w+1) fun k=>(S t1).t p k*(g*ba (w+1) (up (aI w v (S t2).h) (c t2) (aI w v (S t1).h k)))
   have h2:(S t1).d*ba (w+1) (up (aI w v (S t2).h) (c t2) (v ((S 0).s p)))=MA (w+1) fun k=>(S t1).t p k*ba (w+1) (up (aI w v (S t2).h) (c t2) (aI w v (S t1).h k)):=by
    rw[<- nX hcw,<- iY hcw];exact g8 fun x hx=>by rw[<- R.sp t1];exact(R.L t1).lin p R.hp x hx
   rw[sum_congr (g:=fun k=>g*((S t1).t p k*ba (w+1) (up (aI w v (S t2).h) (c t2) (aI w v (S t1).h k)))) fun k _=>by grind,sum_mul,<- h2];grind
  rw[<- Ws p R.hp,R.sp t2,h1];show MA w _+_=_;have hw:W (aI w v (S t1).h w)=0:=by
   have:aI w v (S t1).h w=aI w v (S t2).h w:=by unfold aI;rw[yL rfl,yL rfl]
   rw[this,Wb w oM,yK (by have:=B2.hc;lia)]
  show MA w _+(S t1).t p w*W (aI w v (S t1).h w)=_;rw[hw,yS,Int.add_zero];exact sum_congr fun k hk=>by rw[show aI w v (S t1).h k=v ((S t1).h k) by unfold aI;rw[yK oM]]
 obtain⟨k,hk,kp⟩:=xW (by rw[<- key];exact Int.mul_pos (R.L t1).pos B2.up);have kH:ia w (S t1) ((S t1).h k):=⟨k,hk,rfl⟩;rcases(R.Q t2).cov ((S t1).h k) ((R.Q t1).hl k hk) with⟨l,hl,el⟩|⟨l,hl,el⟩
 ·-- a line at t2
  rw[<- el,Ws l hl]at kp;have nH:¬ia w (S t2) ((S t1).h k):=fun⟨x,hx,ex⟩=>(R.Q t2).hs x l hx hl (by rw[ex,el])
  have le:=mx _ ⟨t1,t2,by lia,by lia,by lia,by lia,kH,nH⟩;have nt:(S t2).t l (c t2)≠0:=fun z=>by rw[z,yS]at kp;lia
  have nN:¬N ((S t1).h k):=fun z=>nt (((R.F t2).n l hl (by rw[el];exact z)).2 (c t2) B2.hc B2.nc)
  by_cases kq:(S t1).h k=q
  ·have kc:k=c t1:=(R.Q t1).hi k (c t1) hk B1.hc (by rw[kq];exact q1)
   have lr:l=r t2:=(R.Q t2).si l (r t2) hl B2.hr (by rw[el,kq];exact q2);rw[kc,lr]at kp
   have:=Int.mul_neg_of_pos_of_neg B1.up B2.neg
   lia
  ·have np:¬0<(S t1).t p k:=fun z=>by
    have:=B1.least k hk nN z
    rw[<- q1]at this;lia
   have n0:(S t1).t p k<0:=by
    rcases yY ((S t1).t p k) 0 with z|z
    ·exact z
    ·rw[show(S t1).t p k=0 by lia,yT]at kp;lia
   have tl:(S t2).t l (c t2)<0:=by
    rcases yY ((S t2).t l (c t2)) 0 with z|z
    ·exact z
    ·have:=Int.mul_nonpos_of_nonpos_of_nonneg (Int.le_of_lt n0) z;lia
   have gl:G ((S t2).s l):=by
    rcases(R.F t1).f k hk with z|z
    ·rw[el];exact z
    ·exact absurd z nN
   have lz:(S t2).t l w=0:=R.zall hh oM oM oM oM (R.hz kH) l hl el;have rz:=R.flat hh (n:=t2) oM oM;rcases B2.ti l hl gl tl with z|⟨_,z⟩
   ·rw[lz,rz]at z;lia
   ·rw[<- q2,el]at z;lia
 ·-- free at t2
  have e1:v ((S t1).h k)=aI w v (S t2).h l:=by unfold aI;rw[yK oM,el]
  rw[e1,Wb l oM]at kp;by_cases z:l=c t2
  ·rw[yL z]at kp
   have tp:0<(S t1).t p k:=by
    rcases yY 0 ((S t1).t p k) with y|y
    ·exact y
    ·have:=Int.mul_nonpos_of_nonpos_of_nonneg y (Int.le_of_lt (R.L t2).pos);lia
   have nN:¬N ((S t1).h k):=by rw[<- el,z];exact B2.nc
   have l1:=B1.least k hk nN tp;rw[<- q1]at l1;have nH:¬ia w (S (t2+1)) ((S t1).h k):=fun⟨x,hx,ex⟩=>(R.Q (t2+1)).hs x (r t2) hx B2.hr (by rw[ex,B2.piv.sr,<- el,z])
   have l2:=mx _ ⟨t1,t2+1,by lia,by lia,by lia,by lia,kH,nH⟩;have:q=(S t1).h k:=by lia
   exact(R.Q t2).hs l (r t2) hl B2.hr (by rw[el,<- q2,this])
  ·rw[yK z,yS]at kp;lia
end
structure Sh where
 d:Int
 ls:List (List Int)
 hd:List Nat
 sd:List Nat
 gd:List Nat
 nl:List Nat
 tn:List Nat
noncomputable def gI(xs:List Int)(j:Nat):Int:=xs.getD j 0
noncomputable def row(S:Sh)(i:Nat):List Int:=S.ls.getD i []
def Sh.t(S:Sh)(i j:Nat):Int:=gI (row S i) j
noncomputable def Sh.h(S:Sh)(j:Nat):Nat:=S.hd.getD j 0
noncomputable def Sh.s(S:Sh)(i:Nat):Nat:=S.sd.getD i 0
noncomputable def fdvS(a b:Int):Int:=if 0<b then a/b else a.fdiv b
def chLine(l P:List Int)(c:Nat)(sg d:Int):List Int :=
 if gI l c=0 then(if gI P c=d then l else l.map fun x=>fdvS (x*gI P c) d) else((l.zip P).map fun z=>fdvS (z.1*gI P c-gI l c*z.2) d).set c (sg*gI l c)
noncomputable def sgn(x:Int):Int:=if x<0 then -1 else 1
def pvl(S:Sh)(r c:Nat):List Int:=(row S r).map fun x=>sgn (S.t r c)*x
def ME(S:Sh)(r c:Nat):Sh:={ S with
 d:=gI (pvl S r c) c
 ls:=(S.ls.map fun l=>chLine l (pvl S r c) c (sgn (S.t r c)) S.d).set r (((pvl S r c).map fun x=>- x).set c (sgn (S.t r c)*S.d))
 hd:=S.hd.set c (S.s r)
 sd:=S.sd.set r (S.h c) }
structure MJ(w m:Nat)(S:Sh):Prop where
 ls:S.ls.length=m
 row:∀l∈S.ls,l.length=w+1
 hd:S.hd.length=w
 sd:S.sd.length=m
theorem fu{f:Int->Int}{xs:List Int}{j:Nat}(h:j<xs.length):gI (xs.map f) j=f (gI xs j):=by
 unfold gI;simp[zF,h]
theorem gI_set_at{xs:List Int}{j:Nat}{x:Int}(h:j<xs.length):gI (xs.set j x) j=x:=by
 unfold gI;simp[zF,h]
theorem gI_set_ne{j k:Nat}{x:Int}(h:k≠j):gI (xs.set j x) k=gI xs k:=by
 unfold gI;simp[zF,xA,h.symm]
theorem Fq{xs ys:List Int}{f:Int×Int->Int}{j:Nat}(h:j<xs.length)(h':j<ys.length):gI ((xs.zip ys).map f) j=f (gI xs j,gI ys j):=by
 unfold gI;have hz:j<(xs.zip ys).length:=by rw[List.length_zip];lia
 simp only[zF,zU,zI h,zI h',zI hz,map_some,Option.getD_some,List.getElem_zip]
theorem getD_mem{α:Type}{xs:List α}{i:Nat}{a:α}(h:i<xs.length):xs.getD i a∈xs:=by
 simp[zF,zI h]
theorem MJ.rl{w m:Nat}(P:MJ w m S){i:Nat}(h:i<m):(SX.row S i).length=w+1:=P.row _ (getD_mem (by rw[P.ls];exact h))
theorem sJ{a b:Int}(h:0<b):fdvS a b=a/b:=yL h
theorem uB{c:Nat}{sg d:Int}(h:l.length=P.length):(chLine l P c sg d).length=l.length:=by
 unfold chLine;split
 ·split
  ·rfl
  ·simp
 ·simp[h]
theorem qD{r c i:Nat}(hi:i<S.ls.length)(hr:r<S.ls.length):SX.row (ME S r c) i=if i=r then((pvl S r c).map fun x=>- x).set c (sgn (S.t r c)*S.d) else chLine (SX.row S i) (pvl S r c) c (sgn (S.t r c)) S.d:=by
 unfold SX.row ME;simp only[zF,xA,zK];by_cases e:i=r
 ·subst e;simp[hi]
 ·rw[yK fun z=>e z.symm,yK e];simp[zI hi]
theorem exch_shp{w m:Nat}{r c:Nat}(P:MJ w m S)(hr:r<m):MJ w m (ME S r c):=by
 have hp:(pvl S r c).length=w+1:=by unfold pvl;rw[zK];exact P.rl hr
 refine⟨by simp[ME,P.ls],fun l hl=>?_,by simp[ME,P.hd],by simp[ME,P.sd]⟩;rcases List.mem_or_eq_of_mem_set hl with h|h
 ·obtain⟨l',h1,rfl⟩:=yG.mp h
  rw[uB (by rw[P.row _ h1,hp])];exact P.row _ h1
 ·rw[h];simp[hp]
theorem Dq(x:Int):sgn x*sgn x=1:=by unfold sgn;split<;>rfl
theorem BA{x:Int}(h:x≠0):0<sgn x*x:=by unfold sgn;split<;>lia
theorem jo{w m:Nat}{r c:Nat}(P:MJ w m S)(hr:r<m)(hc:c<w)(hd:0<S.d)(hp:S.t r c≠0):oU w m r c (sgn (S.t r c)) S.d S.t S.h S.s (ME S r c).d (ME S r c).t (ME S r c).h (ME S r c).s:=by
 have lr:=P.rl hr;have lp:(pvl S r c).length=w+1:=by unfold pvl;rw[zK];exact lr
 have gp:∀j,j<w+1->gI (pvl S r c) j=sgn (S.t r c)*S.t r j:=fun j hj=>by
  unfold pvl;rw[fu (by rw[lr];exact hj)];rfl
 have other:∀i,i<m->i≠r->∀j,j<w+1->(ME S r c).t i j=if j=c then sgn (S.t r c)*S.t i c else(S.t i j*(sgn (S.t r c)*S.t r c)-S.t i c*(sgn (S.t r c)*S.t r j))/S.d:=fun i hi ne j hj=>by
  have li:=P.rl hi;show gI (SX.row (ME S r c) i) j=_;rw[qD (by rw[P.ls];exact hi) (by rw[P.ls];exact hr),yK ne];have tc:gI (SX.row S i) c=S.t i c:=rfl;have tj:gI (SX.row S i) j=S.t i j:=rfl;unfold chLine;by_cases z:gI (SX.row S i) c=0
  ·rw[yL z]
   rw[tc]at z;rw[z];have e0:∀x:Int,x-0*(sgn (S.t r c)*S.t r j)=x:=fun x=>by rw[yT,Int.sub_zero]
   rw[e0];by_cases y:gI (pvl S r c) c=S.d
   ·rw[yL y,tj]
    rw[gp c oM]at y;rw[y,Int.mul_ediv_cancel _ oM];by_cases x:j=c
    ·rw[yL x,x,z,yS]
    ·rw[yK x]
   ·rw[yK y,fu (by rw[li];exact hj),tj,sJ hd,gp c oM]
    by_cases x:j=c
    ·rw[yL x,x,z,yS,yT,Int.zero_ediv]
    ·rw[yK x]
  ·rw[yK z]
   by_cases x:j=c
   ·rw[yL x,x,gI_set_at (by simp[li,lp];lia),tc]
   ·rw[yK x,gI_set_ne x,Fq (by rw[li];exact hj) (by rw[lp];exact hj),sJ hd,tj,tc,gp c oM,gp j hj]
 have rr:∀j,j<w+1->(ME S r c).t r j=if j=c then sgn (S.t r c)*S.d else-(sgn (S.t r c)*S.t r j):=fun j hj=>by
  show gI (SX.row (ME S r c) r) j=_;rw[qD (by rw[P.ls];exact hr) (by rw[P.ls];exact hr),yL rfl];by_cases x:j=c
  ·rw[yL x,x,gI_set_at (by simp[lp];lia)]
  ·rw[yK x,gI_set_ne x,fu (by rw[lp];exact hj),gp j hj]
 refine⟨Dq _,BA hp,gp c oM,fun i hi ne=>by rw[other i hi ne c oM,yL rfl],fun i hi ne j hj x=>by rw[other i hi ne j hj,yK x],by rw[rr c oM,yL rfl],fun j hj x=>by rw[rr j hj,yK x],?_,fun j hj x=>?_,?_,fun i hi x=>?_⟩
 ·show((S.hd.set c (S.s r)).getD c 0)=_
  simp[zF,P.hd,hc]
 ·show((S.hd.set c (S.s r)).getD j 0)=S.hd.getD j 0
  simp[zF,xA,x.symm]
 ·show((S.sd.set r (S.h c)).getD r 0)=_
  simp[zF,P.sd,hr]
 ·show((S.sd.set r (S.h c)).getD i 0)=S.sd.getD i 0
  simp[zF,xA,x.symm]
def trn(S:Sh)(p:Nat):Sh:={ S with ls:=S.ls.set p ((row S p).map fun x=>- x),tn:=if S.s p∈S.tn then S.tn else S.tn++[S.s p] }
theorem trn_shp{w m p:Nat}(P:MJ w m S)(hp:p<m):MJ w m (trn S p):=by
 refine⟨by simp[trn,P.ls],fun l hl=>?_,P.hd,P.sd⟩;rcases List.mem_or_eq_of_mem_set hl with h|h
 ·exact P.row _ h
 ·rw[h,zK];exact P.rl hp
theorem trn_t{w m p:Nat}(P:MJ w m S)(hp:p<m):(∀j,j<w+1->(trn S p).t p j=- S.t p j)/\∀i,i<m->i≠p->∀j,j<w+1->(trn S p).t i j=S.t i j:=by
 have hr:∀i,i<m->row (trn S p) i=if i=p then(row S p).map (fun x=>- x) else row S i:=fun i hi=>by
  show(S.ls.set p _).getD i []=_;simp only[zF,xA];by_cases e:i=p
  ·subst e;rw[yL rfl,yL (by rw[P.ls];exact hi),yL rfl];rfl
  ·rw[yK fun z=>e z.symm,yK e];unfold row;rw[zF]
 refine⟨fun j hj=>?_,fun i hi ne j hj=>?_⟩
 ·show gI (row (trn S p) p) j=_
  rw[hr p hp,yL rfl,fu (by rw[P.rl hp];exact hj)];rfl
 ·show gI (row (trn S p) i) j=_
  rw[hr i hi,yK ne];rfl
def Ja(S:Sh)(w q r i:Nat):Prop:=S.t r w*- S.t i q<S.t i w*- S.t r q\/(S.t r w*- S.t i q=S.t i w*- S.t r q/\S.s r<=S.s i)
def MC(S:Sh)(w q k:Nat)(o:Option Nat):Prop:=(o=none->∀i,i<k->S.s i∈S.gd->¬S.t i q<0)/\∀r,o=some r->r<k/\S.s r∈S.gd/\S.t r q<0/\∀i,i<k->S.s i∈S.gd->S.t i q<0->Ja S w q r i
theorem Kw{A B C x y z:Int}{a b c:Nat}(hx:0<x)(hy:0<y)(hz:0<z)(h1:A*y<B*x\/(A*y=B*x/\a<=b))(h2:B*z<C*y\/(B*z=C*y/\b<=c)):A*z<C*x\/(A*z=C*x/\a<=c):=by
 have l1:A*y<=B*x:=by lia
 have l2:B*z<=C*y:=by lia
 have l3:(A*y)*z<=(B*x)*z:=Int.mul_le_mul_of_nonneg_right l1 oM;have l4:(B*z)*x<=(C*y)*x:=Int.mul_le_mul_of_nonneg_right l2 oM;have e1:(B*x)*z=(B*z)*x:=by grind
 have e2:(A*y)*z=(A*z)*y:=by grind
 have e3:(C*y)*x=(C*x)*y:=by grind
 have l5:(A*z)*y<=(C*x)*y:=by lia
 have l6:A*z<=C*x:=Int.le_of_mul_le_mul_right l5 hy;by_cases e:A*z=C*x
 ·right
  refine⟨e,?_⟩;have e4:(A*z)*y=(C*x)*y:=by rw[e]
  have q1:A*y=B*x:=by
   have:(A*y)*z=(B*x)*z:=by(omega)
   exact Int.eq_of_mul_eq_mul_right oM this
  have q2:B*z=C*y:=by
   have:(B*z)*x=(C*y)*x:=by lia
   exact Int.eq_of_mul_eq_mul_right oM this
  rcases h1 with h1|h1
  ·lia
  ·rcases h2 with h2|h2
   ·lia
   ·lia
 ·left;(omega)
section
variable{S:Sh}{w q k r:Nat}{o:Option Nat}
theorem tt_zero:MC S w q 0 none:=⟨fun _ i h=>by lia,fun r h=>nomatch h⟩
theorem tt_skip(h:¬(S.t k q<0/\S.s k∈S.gd))(T:MC S w q k o):MC S w q (k+1) o:=by
 refine⟨fun e i hi hg ht=>?_,fun r e=>?_⟩
 ·by_cases z:i=k
  ·subst z;exact h ⟨ht,hg⟩
  ·exact T.1 e i oM hg ht
 ·obtain⟨a,b,c,d⟩:=T.2 r e
  refine⟨by lia,b,c,fun i hi hg ht=>?_⟩;by_cases z:i=k
  ·subst z;exact absurd ⟨ht,hg⟩ h
  ·exact d i oM hg ht
theorem tt_first(h:S.t k q<0)(hg:S.s k∈S.gd)(T:MC S w q k none):MC S w q (k+1) (some k):=by
 refine⟨(fun e=>nomatch e),fun r e=>?_⟩;cases e;refine⟨by lia,hg,h,fun i hi hg ht=>?_⟩;by_cases z:i=k
 ·subst z;exact .inr ⟨rfl,zS _⟩
 ·exact absurd ht (T.1 rfl i oM hg)
theorem tt_new(h:S.t k q<0)(hg:S.s k∈S.gd)(ht:S.t k w*- S.t r q<S.t r w*- S.t k q\/(S.t k w*- S.t r q=S.t r w*- S.t k q/\S.s k<S.s r))(T:MC S w q k (some r)):MC S w q (k+1) (some k):=by
 refine⟨(fun e=>nomatch e),fun r' e=>?_⟩;cases e;obtain⟨a,b,c,d⟩:=T.2 r rfl;refine⟨by lia,hg,h,fun i hi hg' ht'=>?_⟩;by_cases z:i=k
 ·subst z;exact .inr ⟨rfl,zS _⟩
 ·exact Kw (x:=- S.t k q) (y:=- S.t r q) (z:=- S.t i q) oM oM oM (ht.imp id fun x=>⟨x.1,by lia⟩) (d i oM hg' ht')
theorem tt_old(h:S.t k q<0)(ht:¬(S.t k w*- S.t r q<S.t r w*- S.t k q\/(S.t k w*- S.t r q=S.t r w*- S.t k q/\S.s k<S.s r)))(T:MC S w q k (some r)):MC S w q (k+1) (some r):=by
 refine⟨(fun e=>nomatch e),fun r' e=>?_⟩;cases e;obtain⟨a,b,c,d⟩:=T.2 r rfl;refine⟨by lia,b,c,fun i hi hg' ht'=>?_⟩;by_cases z:i=k
 ·subst z
  unfold Ja;have h1:¬(S.t i w*- S.t r q<S.t r w*- S.t i q):=fun x=>ht (.inl x)
  by_cases e:S.t i w*- S.t r q=S.t r w*- S.t i q
  ·exact .inr ⟨e.symm,Nat.le_of_not_lt fun x=>ht (.inr ⟨e,x⟩)⟩
  ·left;(omega)
 ·exact d i oM hg' ht'
end
noncomputable def vt(v:Nat->Nat->Int)(tn:List Nat):Nat->Nat->Int:=fun q x=>if q∈tn then-v q x else v q x
structure MI(w m:Nat)(v:Nat->Nat->Int)(S:Sh):Prop where
 shp:MJ w m S
 lin:Lin w m (vt v S.tn) S.d S.t S.h S.s
 pm:Pm w m S.h S.s
 fea:Fea w m (·∈S.gd) (·∈S.nl) S.t S.h S.s
def toSt(S:Sh):St:=⟨S.d,S.t,S.h,S.s⟩
def Rais(w:Nat)(S:Sh)(p:Nat)(o:Option Nat):Prop:=(o=none->∀j,j<w->S.h j∉S.nl->¬0<S.t p j)/\∀q,o=some q->q<w/\S.h q∉S.nl/\0<S.t p q/\∀j,j<w->S.h j∉S.nl->0<S.t p j->S.h q<=S.h j
structure Kept(m p:Nat)(S T:Sh):Prop where
 gd:T.gd=S.gd
 nl:T.nl=S.nl
 tn:T.tn=S.tn
 si:∀i,i<m->i≠p->S.s i∉S.gd->T.s i=S.s i
section
variable{w m p q r:Nat}{v:Nat->Nat->Int}{S T:Sh}
theorem Kept.refl:Kept m p S S:=⟨rfl,rfl,rfl,fun _ _ _ _=>rfl⟩
theorem Kept.trans(a:Kept m p S T)(b:Kept m p T U):Kept m p S U :=
 ⟨b.gd.trans a.gd,b.nl.trans a.nl,b.tn.trans a.tn,fun i hi ne h=>by
  have h1:=a.si i hi ne h;rw[b.si i hi ne (by rw[h1,a.gd];exact h),h1]⟩
theorem MI.step(I:MI w m v S)(hp:p<m)(np:S.s p∉S.gd)(hq:Rais w S p (some q))(hr:MC S w q m (some r)):MI w m v (ME S r q)/\Bl w m p (·∈S.gd) (·∈S.nl) r q (sgn (S.t r q)) (toSt S) (toSt (ME S r q))/\Kept m p S (ME S r q)/\(ME S r q).s p=S.s p:=by
 obtain ⟨h1,h2,h3,h4⟩:=hq.2 q rfl;obtain ⟨r1,r2,r3,r4⟩:=hr.2 r rfl;have hpv:=jo I.shp r1 h1 I.lin.pos (show S.t r q ≠ 0 by lia);refine ⟨⟨exch_shp I.shp r1,I.lin.piv hpv r1 h1,I.pm.piv hpv r1 h1,?_⟩,⟨h1,h2,h3,h4,r1,r2,r3,r4,hpv⟩,⟨rfl,rfl,rfl,fun i hi _ hg=>?_⟩,?_⟩
 ·exact Fea.tight I.lin I.pm I.fea hpv r1 h1 h2 r2 r3 fun i hi hg ht=>by
   rcases r4 i hi hg ht with z|z
   ·lia
   ·exact Int.le_of_eq z.1
 ·exact hpv.si i hi fun z=>hg (by rw[z];exact r2)
 ·exact hpv.si p hp fun z=>np (by rw[z];exact r2)
theorem MI.low(I:MI w m v S)(hp:p<m)(np:S.s p∉S.gd)(hq:Rais w S p (some q))(hr:MC S w q m (some r))(hu:¬S.t p w*S.t r q<=S.t r w*S.t p q):(ME S r q).t p w<0:=by
 obtain ⟨h1,h2,h3,h4⟩:=hq.2 q rfl;obtain ⟨r1,r2,r3,r4⟩:=hr.2 r rfl;have hpv:=jo I.shp r1 h1 I.lin.pos (show S.t r q ≠ 0 by lia);have ne:p ≠ r:=fun z=>np (by rw [z];exact r2)
 have e1:=I.lin.ex' (e:=sgn (S.t r q)) hp r1 (show q < w + 1 by lia) (show w < w + 1 by lia) (show q ≠ w by lia);rw [<- hpv.tj p hp ne w oM oM] at e1;have e2:sgn (S.t r q)=-1:=by unfold sgn;rw [yL r3]
 rw[e2]at e1;have e3:S.t p w*(-1*S.t r q)-S.t p q*(-1*S.t r w)=S.t r w*S.t p q-S.t p w*S.t r q:=by grind
 rw[e3]at e1;rcases yY ((ME S r q).t p w) 0 with z|z
 ·exact z
 ·have:=Int.mul_nonneg (Int.le_of_lt I.lin.pos) z;lia
theorem MI.up(I:MI w m v S)(hp:p<m)(ng:S.s p∉S.gd)(nn:S.s p∉S.nl)(low:S.t p w<0)(hq:Rais w S p (some q))(ht:MC S w q m none\/∃r,MC S w q m (some r)/\S.t p w*S.t r q<=S.t r w*S.t p q) :
  MI w m v { ME S p q with gd:=S.gd++[S.s p] }/\MI w m v { ME S p q with nl:=S.nl++[S.s p] }/\Kept m p S (ME S p q):=by
 obtain ⟨h1,h2,h3,h4⟩:=hq.2 q rfl;have hpv:=jo I.shp hp h1 I.lin.pos (show S.t p q ≠ 0 by lia);have sh:=exch_shp (c:=q) I.shp hp;have ti:∀ i,i < m->S.s i ∈ S.gd->S.t i q < 0->S.t p w * S.t i q <= S.t i w * S.t p q:=fun i hi hg hn=>by
  rcases ht with ht|⟨r,ht,hu⟩
  ·exact absurd hn (ht.1 rfl i hi hg)
  ·obtain⟨r1,r2,r3,r4⟩:=ht.2 r rfl
   refine Cv (a:=S.t r w) (b:=S.t r q) r3 hn h3 hu ?_;rcases r4 i hi hg hn with z|z
   ·lia
   ·exact Int.le_of_eq z.1
 refine⟨⟨⟨sh.ls,sh.row,sh.hd,sh.sd⟩,I.lin.piv hpv hp h1,I.pm.piv hpv hp h1,?_⟩,⟨⟨sh.ls,sh.row,sh.hd,sh.sd⟩,I.lin.piv hpv hp h1,I.pm.piv hpv hp h1,?_⟩,⟨rfl,rfl,rfl,fun i hi ne _=>hpv.si i hi ne⟩⟩
 ·exact Fea.lift (G':=(·∈S.gd++[S.s p])) I.lin I.pm I.fea hpv hp h1 h2 h3 low ti (fun x hx=>by simp[hx]) (fun x hx=>.rfl) (.inl (by simp))
 ·exact Fea.lift (N':=(·∈S.nl++[S.s p])) I.lin I.pm I.fea hpv hp h1 h2 h3 low ti (fun x hx=>.rfl) (fun x hx=>by simp[hx]) (.inr (by simp))
theorem MI.move(I:MI w m v S)(hp:p<m)(hq:q<w)(hn:S.h q∉S.nl)(h0:S.t p w=0)(hz:S.t p q≠0):MI w m v { ME S p q with nl:=S.nl++[S.s p] }/\Kept m p S (ME S p q):=by
 have hpv:=jo I.shp hp hq I.lin.pos hz;have sh:=exch_shp (c:=q) I.shp hp;refine⟨⟨⟨sh.ls,sh.row,sh.hd,sh.sd⟩,I.lin.piv hpv hp hq,I.pm.piv hpv hp hq,?_⟩,⟨rfl,rfl,rfl,fun i hi ne _=>hpv.si i hi ne⟩⟩;exact Fea.move (N':=(·∈S.nl++[S.s p])) I.lin I.pm I.fea hpv hp hq hn h0 (fun x hx=>.rfl) (fun x hx=>by simp[hx]) (.inr (by simp))
theorem MI.guard(I:MI w m v S)(hp:p<m)(h0:0<=S.t p w):MI w m v { S with gd:=S.gd++[S.s p] }:=by
 refine⟨⟨I.shp.ls,I.shp.row,I.shp.hd,I.shp.sd⟩,I.lin,I.pm,?_⟩;have e:(fun x=>x∈S.gd++[S.s p])=fun x=>x∈S.gd\/x=S.s p:=by funext x;simp
 show Fea w m (fun x=>x∈S.gd++[S.s p]) _ _ _ _;rw[e];exact Fea.guard I.fea I.pm hp h0
theorem MI.nail(I:MI w m v S)(hp:p<m)(h0:S.t p w=0)(hz:∀j,j<w->S.h j∉S.nl->S.t p j=0):MI w m v { S with nl:=S.nl++[S.s p] }:=by
 refine⟨⟨I.shp.ls,I.shp.row,I.shp.hd,I.shp.sd⟩,I.lin,I.pm,?_⟩;have e:(fun x=>x∈S.nl++[S.s p])=fun x=>x∈S.nl\/x=S.s p:=by funext x;simp
 show Fea w m _ (fun x=>x∈S.nl++[S.s p]) _ _ _;rw[e];exact Fea.nail I.fea I.pm hp h0 hz
theorem MI.turn(I:MI w m v S)(hp:p<m)(ng:S.s p∉S.gd)(nn:S.s p∉S.nl)(nt:S.s p∉S.tn):MI w m v (trn S p):=by
 obtain⟨t1,t2⟩:=trn_t I.shp hp;refine⟨trn_shp I.shp hp,?_,I.pm,Fea.turn I.fea I.pm hp ng nn t2⟩;have e:vt v (trn S p).tn=tv (vt v S.tn) (S.s p):=by
  have:(trn S p).tn=S.tn++[S.s p]:=by show(if _ then _ else _)=_;rw[yK nt]
  rw[this];funext q x;unfold vt tv;by_cases h:q=S.s p
  ·subst h;simp[nt]
  ·simp[h]
 rw[e];exact Lin.turn I.lin I.pm hp t1 t2
theorem no_chain(hp:p<m)(f:Nat->Sh)(h:∀n,MI w m v (f n)/\(∃r q e,Bl w m p (·∈(f n).gd) (·∈(f n).nl) r q e (toSt (f n)) (toSt (f (n+1))))/\Kept m p (f n) (f (n+1)))(np:(f 0).s p∉(f 0).gd):False:=by
 have hk:∀n,Kept m p (f 0) (f n):=fun n=>by
  induction n with
  |zero=>exact Kept.refl
  |succ n ih=>exact ih.trans (h n).2.2
 have hb:∀n,∃r q e,Bl w m p (·∈(f 0).gd) (·∈(f 0).nl) r q e (toSt (f n)) (toSt (f (n+1))):=fun n=>by
  have:=(h n).2.1;rw[(hk n).gd,(hk n).nl]at this;exact this
 let r:=fun n=>Classical.choose (hb n)
 have hr:=fun n=>Classical.choose_spec (hb n)
 let q:=fun n=>Classical.choose (hr n)
 have hq:=fun n=>Classical.choose_spec (hr n)
 let e:=fun n=>Classical.choose (hq n)
 have he:=fun n=>Classical.choose_spec (hq n)
 refine Run.ends (w:=w) (m:=m) (p:=p) (v:=vt v (f 0).tn) (G:=(·∈(f 0).gd)) (N:=(·∈(f 0).nl)) (S:=fun n=>toSt (f n)) (r:=r) (c:=q) (e:=e) ⟨fun n=>?_,fun n=>(h n).1.pm,fun n=>?_,fun n=>?_,hp,np⟩
 ·have:=(h n).1.lin;rw[(hk n).tn]at this;exact this
 ·have:=(h n).1.fea;rw[(hk n).gd,(hk n).nl]at this;exact this
 ·exact he n
theorem MI.bound(I:MI w m v S){M B:Nat}(hM:1<=M)(hv:∀q x,x<w+1->(v q x).natAbs<=M)(hb:fct (w+1)*M^(w+1)<B):S.d.natAbs<B/\∀i,i<m->∀j,j<w+1->(S.t i j).natAbs<B:=by
 have:=I.lin.bound hM (M:=M) fun q x hx=>by
  unfold vt;split
  ·rw[Int.natAbs_neg];exact hv q x hx
  ·exact hv q x hx
 exact⟨yP this.1 hb,fun i hi j hj=>yP (this.2 i hi j hj) hb⟩
end
theorem sN:∀n:Nat,ba n (fun i j=>if j=i then 1 else 0)=1
 |0=>rfl
 |n+1=>by
  show MA (n+1) _=1;rw[sum_one (k:=0) oM fun k hk ne=>by
   show sg k*(if 0=k then 1 else 0)*_=0;rw[yK fun z=>ne z.symm,yS,yT]]
  have:ba n (fF (fun i j=>if j=i then(1:Int) else 0) 0)=1:=by
   rw[cR (B:=fun i j=>if j=i then(1:Int) else 0) fun i j _ _=>?_]
   ·exact sN n
   ·unfold fF skip;simp
  rw[this];rfl
def v0(w:Nat)(L:List (List Int)):Nat->Nat->Int:=fun q x=>if q<w then(if x=q then 1 else 0) else gI (L.getD (q-w) []) x
noncomputable def openS(w:Nat)(L:List (List Int))(k:Nat):Sh:=⟨1,L,List.range w,(List.range L.length).map (w+·),List.range k,[],[]⟩
theorem open_MI{w nr:Nat}(hL:∀l∈L,l.length=w+1)(hz:∀i,i<nr->gI (L.getD i []) w=0):MI w L.length (v0 w L) (openS w L (w+nr)):=by
 have hh:∀j,j<w->(openS w L (w+nr)).h j=j:=fun j hj=>by show(List.range w).getD j 0=j;simp[zF,hj]
 have hs:∀i,i<L.length->(openS w L (w+nr)).s i=w+i:=fun i hi=>by show((List.range L.length).map (w+·)).getD i 0=w+i;simp[zF,hi]
 have hv:vt (v0 w L) (openS w L (w+nr)).tn=v0 w L:=by funext q x;unfold vt;exact yK (by show q∉[];simp)
 have hb:∀k,k<w+1->∀x,x<w+1->aI w (v0 w L) (openS w L (w+nr)).h k x=if x=k then 1 else 0:=fun k hk x hx=>by
  unfold aI;by_cases e:k=w
  ·rw[yL e,e];rfl
  ·rw[yK e,hh k oM];unfold v0;rw[yL oM]
 refine⟨⟨rfl,hL,by simp[openS],by simp[openS]⟩,?_,?_,?_⟩
 ·rw[hv]
  refine⟨Int.one_pos,fun i hi x hx=>?_,1,rfl,?_⟩
  ·rw[hs i hi,sum_one (k:=x) hx fun k hk ne=>by rw[hb k hk x hx,yK fun z=>ne z.symm,yS],hb x hx x hx,yL rfl]
   unfold v0;rw[yK oM,show w+i-w=i by lia];show 1*gI (L.getD i []) x=gI (L.getD i []) x*1;lia
  ·rw[cR (B:=fun i j=>if j=i then 1 else 0) fun i j hi hj=>hb i hi j hj,sN];rfl
 ·refine⟨fun j hj=>by rw[hh j hj];lia,fun i hi=>by rw[hs i hi];lia,fun j k hj hk e=>by rw[hh j hj,hh k hk]at e;exact e,fun j k hj hk e=>by rw[hs j hj,hs k hk]at e;lia,fun j i hj hi e=>by rw[hh j hj,hs i hi]at e;lia,fun q hq=>?_⟩
  by_cases h:q<w
  ·exact .inr ⟨q,h,hh q h⟩
  ·exact .inl ⟨q-w,by lia,by rw[hs _ oM];lia⟩
 ·refine⟨fun i hi hg=>?_,fun i hi hn=>?_,fun j hj=>.inl ?_⟩
  ·rw[hs i hi]at hg
   have:w+i<w+nr:=List.mem_range.mp hg;show 0<=gI (L.getD i []) w;rw[hz i oM];decide
  ·exact absurd (show _ ∈ ([]:List Nat) from hn) (by simp)
  ·rw[hh j hj];exact List.mem_range.mpr oM
theorem open_s{w k i:Nat}(hi:i<L.length):(openS w L k).s i=w+i:=by show((List.range L.length).map (w+·)).getD i 0=w+i;simp[zF,hi]
def Qt(w:Nat)(v:Nat->Nat->Int)(Y:Nat->Int)(e:Int)(q:Nat):Int:=(MA w fun x=>v q x*Y x)+v q w*e
section
variable{w m p:Nat}{v:Nat->Nat->Int}{S:Sh}
theorem m6{Y:Nat->Int}{e:Int}{q:Nat}:Qt w (vt v S.tn) Y e q=if q∈S.tn then-Qt w v Y e q else Qt w v Y e q:=by
 unfold Qt vt;by_cases h:q∈S.tn
 ·simp only[yL h]
  rw[sum_congr (g:=fun x=>(-1)*(v q x*Y x)) fun x _=>by grind,sum_mul];grind
 ·simp only[yK h]
theorem MI.line(I:MI w m v S)(hp:p<m)(Y:Nat->Int)(e:Int):S.d*Qt w (vt v S.tn) Y e (S.s p)=(MA w fun j=>S.t p j*Qt w (vt v S.tn) Y e (S.h j))+S.t p w*e:=by
 have h:=I.lin.lin p hp;have hb:∀x,x<w+1->S.d*vt v S.tn (S.s p) x=(MA w fun k=>S.t p k*vt v S.tn (S.h k) x)+S.t p w*(if x=w then 1 else 0):=fun x hx=>by
  rw[h x hx];show MA w _+S.t p w*aI w (vt v S.tn) S.h w x=_;have e1:aI w (vt v S.tn) S.h w x=if x=w then 1 else 0:=by unfold aI;rw[yL rfl];rfl
  rw[e1];congr 1;exact sum_congr fun k hk=>by unfold aI;rw[yK oM]
 unfold Qt;rw[Int.mul_add,<- sum_mul];have e1:(MA w fun x=>S.d*(vt v S.tn (S.s p) x*Y x))=MA w fun j=>S.t p j*MA w fun x=>vt v S.tn (S.h j) x*Y x:=by
  rw[sum_congr (g:=fun x=>MA w fun k=>S.t p k*(vt v S.tn (S.h k) x*Y x)) fun x hx=>by
   rw[<- Int.mul_assoc,hb x oM,yK oM,yS,Int.add_zero,Int.mul_comm,<- sum_mul];exact sum_congr fun k _=>by grind,xt]
  exact sum_congr fun j _=>by rw[sum_mul]
 have e2:S.d*(vt v S.tn (S.s p) w*e)=(MA w fun j=>S.t p j*(vt v S.tn (S.h j) w*e))+S.t p w*e:=by
  rw[<- Int.mul_assoc,hb w oM,yL rfl,Int.mul_one,Int.add_mul];congr 1;rw[Int.mul_comm,<- sum_mul];exact sum_congr fun k _=>by grind
 rw[e1,e2,sum_congr (f:=fun j=>S.t p j*((MA w fun x=>vt v S.tn (S.h j) x*Y x)+vt v S.tn (S.h j) w*e)) (g:=fun j=>S.t p j*(MA w fun x=>vt v S.tn (S.h j) x*Y x)+S.t p j*(vt v S.tn (S.h j) w*e)) fun j _=>by rw[Int.mul_add],sum_add];lia
theorem tK{n:Nat}{f:Nat->Int}(h:∀i,i<n->f i<=0):MA n f<=0:=by
 induction n with
 |zero=>exact Int.le_refl 0
 |succ n ih=>have:=ih fun i hi=>h i oM;have:=h n oM;simp only[MA];lia
theorem MI.dual(I:MI w m v S)(hp:p<m)(hr:∀j,j<w->S.h j∉S.nl->¬0<S.t p j)(tn:∀q∈S.tn,q∈S.nl\/q=S.s p){Y:Nat->Int}{e:Int}(hg:∀j,j<w->S.h j∉S.nl->0<=Qt w v Y e (S.h j))(hn:∀j,j<w->S.h j∈S.nl->Qt w v Y e (S.h j)=0) :
  S.d*(if S.s p∈S.tn then-Qt w v Y e (S.s p) else Qt w v Y e (S.s p))<=S.t p w*e:=by
 rw[<- m6,I.line hp Y e];have:(MA w fun j=>S.t p j*Qt w (vt v S.tn) Y e (S.h j))<=0:=tK fun j hj=>by
  by_cases h:S.h j∈S.nl
  ·rw[m6,hn j hj h];split<;>lia
  ·have ht:S.h j∉S.tn:=fun z=>by
    rcases tn _ z with y|y
    ·exact h y
    ·exact I.pm.hs j p hj hp y
   rw[m6,yK ht];have a:=hr j hj h;have b:=hg j hj h;exact Int.mul_nonpos_of_nonpos_of_nonneg oM b
 lia
theorem MI.vert(I:MI w m v S)(hv:∀q,q<w->∀x,x<w+1->v q x=if x=q then 1 else 0)(tw:∀q∈S.tn,w<=q){c:Nat}(hc:c<w+1){X:Nat->Int}(h1:∀i,i<m->S.s i<w->X (S.s i)=S.t i c)(h2:∀j,j<w->S.h j<w->X (S.h j)=if j=c then S.d else 0) :
  (∀i,i<m->Qt w v X (if c=w then S.d else 0) (S.s i)=if S.s i∈S.tn then-S.t i c else S.t i c)/\∀j,j<w->Qt w v X (if c=w then S.d else 0) (S.h j)=if j=c then(if S.h j∈S.tn then-S.d else S.d) else 0:=by
 have hv':∀q,q<w->∀x,x<w+1->vt v S.tn q x=if x=q then 1 else 0:=fun q hq x hx=>by
  unfold vt;rw[yK fun z=>by have:=tw q z;lia];exact hv q hq x hx
 obtain⟨a,b⟩:=I.lin.func hv' hc h1 h2 fun q hq=>I.pm.cov q oM
 refine⟨fun i hi=>?_,fun j hj=>?_⟩
 ·have e:Qt w (vt v S.tn) X (if c=w then S.d else 0) (S.s i)=S.t i c:=a i hi
  rw[m6]at e;split at e
  ·rename_i h;rw[yL h];lia
  ·rename_i h;rw[yK h];exact e
 ·have e:Qt w (vt v S.tn) X (if c=w then S.d else 0) (S.h j)=if j=c then S.d else 0:=b j hj
  rw[m6]at e;by_cases h:j=c
  ·rw[yL h]at e ⊢
   split at e
   ·rename_i h;rw[yL h];lia
   ·rename_i h;rw[yK h];exact e
  ·rw[yK h]at e ⊢
   split at e
   ·lia
   ·exact e
end
end SX
namespace R
open PySem PySem.Spec L2
open DD (pyOk)
section
variable{ks:List Fn}{sl:Sl}{st:aa}
@[simp] theorem Mq:ev ks .n sl st=some (.non,st):=rfl
@[simp] theorem Ms{x:Bool}:ev ks (.b x) sl st=some (.bl x,st):=rfl
@[simp] theorem vd{x:Int}:ev ks (.i x) sl st=some (.int x,st):=rfl
@[simp] theorem Ig{x:Str}:ev ks (.s x) sl st=some (.str x,st):=rfl
@[simp] theorem Mr{x:Str}{c:AV}:ev ks (.g x c) sl st=some (c,st):=rfl
@[simp] theorem rq{k:Nat}:ev ks (.v k) sl st=aV k sl st:=rfl
@[simp] theorem og{v:AV}:aV 0 (some v::sl) st=some (v,st):=rfl
@[simp] theorem oe{k:Nat}{x:Option AV}:aV (k+1) (x::sl) st=aV k sl st:=rfl
@[simp] theorem Gi{o:Operator}{a b:Ex}:ev ks (.bin o a b) sl st=(ev ks a sl st).bind fun p=>(ev ks b sl p.2).bind fun q=>(bG o q.2 p.1 q.1).map fun z=>(z,q.2):=rfl
@[simp] theorem Lu{o:CmpOp}{a b:Ex}:ev ks (.cmp o a b) sl st=(ev ks a sl st).bind fun p=>(ev ks b sl p.2).bind fun q=>(lM o q.2 p.1 q.1).map fun z=>(z,q.2):=rfl
@[simp] theorem LJ{o:UnaryOp}{a:Ex}:ev ks (.un o a) sl st=(ev ks a sl st).bind fun p=>(lU o p.2 p.1).map fun z=>(z,p.2):=rfl
def KK(x:AV)(st:aa):Option (AV×aa):=match x with
 |.bl b=>some (.bl !b,st)
 |_=>none
def F0(x:AV)(st:aa)(r:Option (AV×aa)):Option (AV×aa):=match x with
 |.bl b=>if b=true then r else some (.bl false,st)
 |_=>none
def ED(x:AV)(st:aa)(r:Option (AV×aa)):Option (AV×aa):=match x with
 |.bl b=>if b=true then some (.bl true,st) else r
 |_=>none
@[simp] theorem LA{b:Bool}:KK (.bl b) st=some (.bl !b,st):=rfl
@[simp] theorem LI{b:Bool}{r:Option (AV×aa)}:F0 (.bl b) st r=if b=true then r else some (.bl false,st):=rfl
@[simp] theorem Lz{b:Bool}{r:Option (AV×aa)}:ED (.bl b) st r=if b=true then some (.bl true,st) else r:=rfl
@[simp] theorem LR{a b:Ex}:ev ks (.an a b) sl st=(ev ks a sl st).bind fun p=>F0 p.1 p.2 (ev ks b sl p.2):=by
 show A5 (ev ks a) (ev ks b) sl st=_;unfold A5 F0;congr 1;funext p;cases p.1<;>first|rfl|skip
 rename_i x;cases x<;>rfl
@[simp] theorem LL{a b:Ex}:ev ks (.or a b) sl st=(ev ks a sl st).bind fun p=>ED p.1 p.2 (ev ks b sl p.2):=by
 show AW (ev ks a) (ev ks b) sl st=_;unfold AW ED;congr 1;funext p;cases p.1<;>first|rfl|skip
 rename_i x;cases x<;>rfl
@[simp] theorem Ag{t:Tx}{a b:Ex}:ev ks (.ife t a b) sl st=(tv ks t sl st).bind fun p=>if p.1=true then ev ks a sl p.2 else ev ks b sl p.2:=rfl
@[simp] theorem xh{a b:Ex}:ev ks (.ix a b) sl st=(ev ks a sl st).bind fun p=>(ev ks b sl p.2).bind fun q=>(bN q.2 p.1 q.1).map fun z=>(z,q.2):=rfl
@[simp] theorem pB{p:Bool}{j:Nat}{es:Exs}:ev ks (.ca p j es) sl st=(dG ks es sl st).bind fun q=>dW p (kf ks j) q.1 q.2:=rfl
@[simp] theorem Av{f:Fn}:dW true f=pm f:=rfl
@[simp] theorem tR{f:Fn}:dW false f=f:=rfl
@[simp] theorem qg{f:Fn}:kf (f::ks) 0=f:=rfl
@[simp] theorem qf{f:Fn}{j:Nat}:kf (f::ks) (j+1)=kf ks j:=rfl
@[simp] theorem iO:dG ks .nil sl st=some ([],st):=rfl
@[simp] theorem gK{e:Ex}{es:Exs}:dG ks (.cons e es) sl st=(ev ks e sl st).bind fun p=>(dG ks es sl p.2).bind fun q=>some (p.1::q.1,q.2):=rfl
@[simp] theorem LK{es:Exs}:ev ks (.tu es) sl st=(dG ks es sl st).bind fun p=>if Nat.ble p.1.length 1000=true then some (.tup p.1,p.2) else none:=rfl
@[simp] theorem je{x:Nx}:ev ks (.nw false x) sl st=(iq ks x sl st).bind fun p=>if rfs p.1=true then some (.fz p.1,p.2) else none:=rfl
@[simp] theorem CY{x:Nx}:ev ks (.nw true x) sl st=(iq ks x sl st).bind fun p=>some (.ref p.2.length,p.2++[.lst p.1]):=rfl
@[simp] theorem LO{c m:Str}{j:Nat}{o:Ex}{es:Exs}:ev ks (.me c m j o es) sl st=(ev ks o sl st).bind fun p=>(iH p.2 c p.1).bind fun fs=>if(fs.lookup m).isNone=true then(dG ks es sl p.2).bind fun q=>kf ks j (p.1::q.1) q.2 else none:=rfl
@[simp] theorem LM{c:Str}{j:Nat}{es:Exs}:ev ks (.ne c j es) sl st=wT c (kf ks j) (dG ks es) sl st:=rfl
@[simp] theorem LP{c f:Str}{o:Ex}:ev ks (.fd c f o) sl st=(ev ks o sl st).bind fun p=>(iH p.2 c p.1).bind fun fs=>(fs.lookup f).map fun v=>(v,p.2):=rfl
@[simp] theorem Ji{b:Bi}{es:Exs}:ev ks (.bi b es) sl st=(dG ks es sl st).bind fun p=>mV b p.1 p.2:=rfl
@[simp] theorem K4:mV .len=bW d4:=rfl
@[simp] theorem FV:mV .sum=bW pE:=rfl
@[simp] theorem K6:mV .abs=bW qT:=rfl
@[simp] theorem K2:mV .min=bW p4:=rfl
@[simp] theorem K3:mV .max=bW ue:=rfl
@[simp] theorem K5:mV .int=bW lI:=rfl
@[simp] theorem LN{m:Mi}{o:Ex}{es:Exs}:ev ks (.mt m o es) sl st=k9 (p7 m) (p6 m) (ev ks o) (dG ks es) sl st:=rfl
@[simp] theorem LQ:ev ks .dn sl st=some (.ref st.length,st++[.dK []]):=rfl
@[simp] theorem Lr{a:Ex}:ev ks (.mnd a) sl st=(ev ks a sl st).bind fun p=>bW mo [p.1] p.2:=by
 show(eI (ev ks a) d8 sl st).bind _=_;unfold eI d8;cases ev ks a sl st<;>rfl
@[simp] theorem Lq{a k:Ex}:ev ks (.mnk a k) sl st=pq (ev ks a) (ev ks k) sl st:=rfl
@[simp] theorem Gh{a:Ex}{l h:Ox}:ev ks (.slt a l h) sl st=uW (ev ks a) (jV ks l) (jV ks h) sl st:=rfl
@[simp] theorem Ma{es:Exs}:iq ks (.li es) sl st=(dG ks es sl st).bind fun p=>if b8 p.1.length=true then some p else none:=rfl
@[simp] theorem t0{a b:Ex}:iq ks (.cat a b) sl st=pY (ev ks a) (ev ks b) sl st:=rfl
@[simp] theorem G1{es:Exs}{b:Ex}:iq ks (.rep es b) sl st=t8 (dG ks es) (ev ks b) sl st:=rfl
@[simp] theorem L9{a:Ex}{l h:Ox}:iq ks (.sl a l h) sl st=oy (ev ks a) (jV ks l) (jV ks h) sl st:=rfl
@[simp] theorem LD{a:Ex}:iq ks (.lof a) sl st=nQ (ev ks a) sl st:=rfl
@[simp] theorem LC{a:Ex}:iq ks (.lr1 a) sl st=uc (ev ks a) sl st:=rfl
@[simp] theorem LB{a b:Ex}:iq ks (.lr2 a b) sl st=t9 (ev ks a) (ev ks b) sl st:=rfl
@[simp] theorem EO{k:Nat}{it:Ix}{t:Tg}{c:Cx'}{e:Ex}:iq ks (.lc k it t c e) sl st=(dk ks it sl st).bind fun p=>if b8 p.1.Mz.length=true then f8 p.1.gd (bH ks t) (iu ks c) (ev ks e) (sl++List.replicate k none) p.1.Mz p.2 else none:=rfl
@[simp] theorem L8:jV ks .no sl st=some (none,st):=rfl
@[simp] theorem L7{e:Ex}:jV ks (.so e) sl st=ow (ev ks e) sl st:=rfl
@[simp] theorem Mj:iu ks .no sl st=some (true,st):=rfl
@[simp] theorem Mh{t:Tx}:iu ks (.so t) sl st=tv ks t sl st:=rfl
@[simp] theorem Mt{a:Ex}:dk ks (.e a) sl st=(ev ks a sl st).bind fun p=>(mw p.2 p.1).map fun iv=>(iv,p.2):=rfl
@[simp] theorem Md{a:Ex}:dk ks (.r1 a) sl st=ww (ev ks a) sl st:=rfl
@[simp] theorem Mc{a b:Ex}:dk ks (.r2 a b) sl st=AB (ev ks a) (ev ks b) sl st:=rfl
@[simp] theorem Mb{a b:Ex}:dk ks (.zi a b) sl st=iZ (ev ks a) (ev ks b) sl st:=rfl
@[simp] theorem JV{a:Ex}:dk ks (.en a) sl st=(ev ks a sl st).bind fun p=>(gU p.2 p.1).map fun iv=>(⟨dX 0 iv.Mz,iv.gd⟩,p.2):=rfl
@[simp] theorem Me{a b:Ex}:dk ks (.es a b) sl st=uw (ev ks a) (ev ks b) sl st:=rfl
@[simp] theorem zk{k:Nat}{x:AV}:bH ks (.nm k) x sl st=some (sl.set k (some x),st):=rfl
@[simp] theorem Mf{n:Nat}{ts:Tgs}{x:AV}:bH ks (.tu n ts) x sl st=wA n (iJ ks ts) x sl st:=rfl
@[simp] theorem Mg{a b:Ex}{x:AV}:bH ks (.su a b) x sl st=(ev ks a sl st).bind fun p=>(ev ks b sl p.2).bind fun q=>(jf q.2 p.1 q.1 x).map fun st'=>(sl,st'):=rfl
@[simp] theorem KQ{xs:List AV}:iJ ks .nil xs sl st=Fo xs sl st:=rfl
@[simp] theorem Kh{t:Tg}{ts:Tgs}{xs:List AV}:iJ ks (.cons t ts) xs sl st=Ft (bH ks t) (iJ ks ts) xs sl st:=rfl
@[simp] theorem LS{e:Ex}:tv ks (.va e) sl st=(ev ks e sl st).bind fun p=>(eJ p.2 p.1).map fun b=>(b,p.2):=rfl
@[simp] theorem tF{o:CmpOp}{a b:Ex}:tv ks (.cmp o a b) sl st=(ev ks a sl st).bind fun p=>(ev ks b sl p.2).bind fun q=>(b9 o q.2 p.1 q.1).map fun b=>(b,q.2):=rfl
@[simp] theorem LV{t:Tx}:tv ks (.no t) sl st=(tv ks t sl st).bind fun p=>some (!p.1,p.2):=rfl
@[simp] theorem LX{t u:Tx}:tv ks (.an t u) sl st=(tv ks t sl st).bind fun p=>if p.1=true then tv ks u sl p.2 else some (false,p.2):=rfl
@[simp] theorem LU{t u:Tx}:tv ks (.or t u) sl st=(tv ks t sl st).bind fun p=>if p.1=true then some (true,p.2) else tv ks u sl p.2:=rfl
@[simp] theorem Lp:aj ks .nil sl st=some (.nx sl st):=rfl
def ox(o:Out)(k:Sl->aa->Option Out):Option Out:=match o with
 |.nx sl st=>k sl st
 |o=>some o
@[simp] theorem vY{k:Sl->aa->Option Out}:ox (.nx sl st) k=k sl st:=rfl
@[simp] theorem vW{v:AV}{k:Sl->aa->Option Out}:ox (.rt v st) k=some (.rt v st):=rfl
@[simp] theorem KJ{k:Sl->aa->Option Out}:ox (.bk sl st) k=some (.bk sl st):=rfl
@[simp] theorem KI{k:Sl->aa->Option Out}:ox (.ct sl st) k=some (.ct sl st):=rfl
@[simp] theorem jD{s:Sx}{ss:MK}:aj ks (.cons s ss) sl st=(cA ks s sl st).bind fun o=>ox o (aj ks ss):=by
 show(cA ks s sl st).bind _=(cA ks s sl st).bind _;congr 1
@[simp] theorem xI{e:Ex}:cA ks (.ex e) sl st=(ev ks e sl st).bind fun p=>some (.nx sl p.2):=rfl
@[simp] theorem fg{e:Ex}{t:Tg}:cA ks (.as e t) sl st=(ev ks e sl st).bind fun p=>(bH ks t p.1 sl p.2).bind fun q=>some (.nx q.1 q.2):=rfl
@[simp] theorem Gw{o:Operator}{a b e:Ex}:cA ks (.aus o a b e) sl st=tN o (ev ks a) (ev ks b) (ev ks e) sl st:=rfl
@[simp] theorem LY{c f:Str}{o e:Ex}:cA ks (.fl c f o e) sl st=vA c f (ev ks o) (ev ks e) sl st:=rfl
@[simp] theorem xH{e:Ex}:cA ks (.rt e) sl st=(ev ks e sl st).bind fun p=>some (.rt p.1 p.2):=rfl
@[simp] theorem j8{t:Tx}{a b:MK}:cA ks (.iff t a b) sl st=(tv ks t sl st).bind fun p=>if p.1=true then aj ks a sl p.2 else aj ks b sl p.2:=rfl
@[simp] theorem nG{it:Ix}{t:Tg}{b:MK}:cA ks (.fo it t b) sl st=(dk ks it sl st).bind fun p=>cT p.1.gd (bH ks t) (aj ks b) p.1.Mz sl p.2:=rfl
@[simp] theorem Lw{a:Ex}{t:Tg}{b:MK}:cA ks (.fd a t b) sl st=tM (ev ks a) (bH ks t) (aj ks b) sl st:=rfl
@[simp] theorem JB{t:Tx}{b:MK}:cA ks (.wh t b) sl st=kD (tv ks t) (aj ks b) sl st:=rfl
@[simp] theorem KB:cA ks .dead sl st=none:=rfl
def ay(o:Out):Option (AV×aa):=match o with
 |.rt v st=>some (v,st)
 |.nx _ st=>some (.non,st)
 |_=>none
@[simp] theorem KU{v:AV}:ay (.rt v st)=some (v,st):=rfl
@[simp] theorem KY:ay (.nx sl st)=some (.non,st):=rfl
theorem aF{n:Nat}{b:MK}{args:List AV}:R.run n (aj ks b) args st=(aj ks b (args.map some++List.replicate (n-args.length) none) st).bind ay:=by
 unfold R.run;congr 1
end
@[simp] theorem Lx:rfs []=true:=rfl
@[simp] theorem Ly{x:AV}{xs:List AV}:rfs (x::xs)=(rf x&&rfs xs):=by simp only[rfs]
@[simp] theorem L4{i:Int}:rf (.int i)=true:=rfl
@[simp] theorem L6{i:Bool}:rf (.bl i)=true:=rfl
@[simp] theorem L1{i:Str}:rf (.str i)=true:=rfl
@[simp] theorem L3:rf .non=true:=rfl
@[simp] theorem L5{xs:List AV}:rf (.fz xs)=true:=rfl
@[simp] theorem LZ{xs:List AV}:rf (.tup xs)=rfs xs:=by simp only[rf]
section
variable{st:aa}{a b:Int}
theorem AG:kT st (.int a) (.int b)=some (decide (a=b)):=by
 show(if pyOk (.int a) (.int b)=true then some (PyData.eqv (.int a) (.int b)) else none)=_;rw[yL (by simp[pyOk,PyData.canLay0,PyData.depth])];congr 1
@[simp] theorem Mp:b9 .Eq st (.int a) (.int b)=some (decide (a=b)):=AG
@[simp] theorem J7:b9 .NotEq st (.int a) (.int b)=some (!decide (a=b)):=by show((kT st (.int a) (.int b)).map fun x=>!x)=_;rw[AG];rfl
@[simp] theorem Ml:b9 .Lt st (.int a) (.int b)=some (decide (a<b)):=rfl
@[simp] theorem Mm:b9 .LtE st (.int a) (.int b)=some (decide (a<=b)):=rfl
@[simp] theorem Mn:b9 .Gt st (.int a) (.int b)=some (decide (b<a)):=rfl
@[simp] theorem Mo:b9 .GtE st (.int a) (.int b)=some (decide (b<=a)):=rfl
@[simp] theorem Mu{o:CmpOp}{x y:AV}:lM o st x y=(b9 o st x y).map .bl:=rfl
@[simp] theorem LF:b9 .Is st .non .non=some true:=rfl
@[simp] theorem LG:b9 .Is st (.int a) .non=some false:=rfl
@[simp] theorem K0:b9 .IsNot st .non .non=some false:=rfl
@[simp] theorem K1:b9 .IsNot st (.int a) .non=some true:=rfl
@[simp] theorem LH:bG .Add st (.int a) (.int b)=some (.int (a+b)):=rfl
@[simp] theorem HS:bG .Sub st (.int a) (.int b)=some (.int (a-b)):=rfl
theorem bI(h:cG a b=true):bG .Mult st (.int a) (.int b)=some (.int (a*b)):=by
 show(if cG a b=true then _ else _:Option Int).map _=_;rw[yL h];rfl
theorem kx(h:dB b=true):bG .FloorDiv st (.int a) (.int b)=some (.int (sK a b)):=by
 show(if dB b=true then _ else _:Option Int).map _=_;rw[yL h];rfl
theorem gG(h:b≠0):bG .Mod st (.int a) (.int b)=some (.int (oF a b)):=by
 show(if b=0 then _ else _:Option Int).map _=_;rw[yK h];rfl
@[simp] theorem Lv:lU .USub st (.int a)=some (.int (-a)):=rfl
theorem dy{x y:Int}(h1:x.natAbs<2^9000)(h2:y.natAbs<2^9000):cG x y=true:=by
 have lg:∀z:Nat,z<2^9000->Nat.ble z.log2 1000000=true:=fun z hz=>by
  by_cases h0:z=0
  ·subst h0;rfl
  ·exact yO (z9 (xD ((Nat.log2_lt h0).mpr hz)) oM)
 unfold cG;rw[lg _ h1,lg _ h2,Bool.and_true,Bool.or_true]
theorem wI{y:Int}(h0:y≠0)(h2:y.natAbs<2^9000):dB y=true:=by
 unfold dB;have:Nat.ble y.natAbs.log2 8999=true:=yO (by have:=(Nat.log2_lt (n:=y.natAbs) oM).mpr h2;lia);rw[this];simp[h0]
end
open SX (Sh gI)
noncomputable def iL(l:List Int):List AV:=l.map .int
abbrev Is(x:Int):Option AV:=some (.int x)
abbrev Rs(x:Nat):Option AV:=some (.ref x)
abbrev Zs(x:List AV):Option AV:=some (.fz x)
abbrev Ls(x:List Int):Option AV:=some (.fz (iL x))
noncomputable def nL(l:List Nat):List AV:=l.map fun q=>.int ((q:Nat):Int)
def kL(l:List Nat):List (aR×AV):=l.map fun q=>(.inl ((q:Nat):Int),.bl true)
def cD(d:Int)(a b c g n u:Nat):List (Str×AV):=[("below",.int d),("lines",.ref a),("heads",.ref b),("sides",.ref c),("guarded",.ref g),("nailed",.ref n),("turned",.ref u)]
section
variable{d:Int}{a b c g n u:Nat}
@[simp] theorem JR:(cD d a b c g n u).lookup ("below":Str)=some (AV.int d):=rfl
@[simp] theorem JP:(cD d a b c g n u).lookup ("lines":Str)=some (AV.ref a):=rfl
@[simp] theorem JQ:(cD d a b c g n u).lookup ("heads":Str)=some (AV.ref b):=rfl
@[simp] theorem JO:(cD d a b c g n u).lookup ("sides":Str)=some (AV.ref c):=rfl
@[simp] theorem G8:(cD d a b c g n u).lookup ("guarded":Str)=some (AV.ref g):=rfl
@[simp] theorem IG:(cD d a b c g n u).lookup ("nailed":Str)=some (AV.ref n):=rfl
@[simp] theorem IE:(cD d a b c g n u).lookup ("turned":Str)=some (AV.ref u):=rfl
@[simp] theorem yw:(cD d a b c g n u).lookup ("loose_columns":Str)=none:=rfl
@[simp] theorem xb:(cD d a b c g n u).lookup ("raising_column":Str)=none:=rfl
@[simp] theorem xa:(cD d a b c g n u).lookup ("tightest_place":Str)=none:=rfl
@[simp] theorem CS:(cD d a b c g n u).lookup ("is_tighter":Str)=none:=rfl
@[simp] theorem Cu:(cD d a b c g n u).lookup ("is_up_first":Str)=none:=rfl
@[simp] theorem Ga:(cD d a b c g n u).lookup ("exchange":Str)=none:=rfl
@[simp] theorem Kg:(cD d a b c g n u).lookup ("lift":Str)=none:=rfl
@[simp] theorem Gb:(cD d a b c g n u).lookup ("drive_up":Str)=none:=rfl
@[simp] theorem yu:(cD d a b c g n u).lookup ("moving_column":Str)=none:=rfl
@[simp] theorem JN:(cD d a b c g n u).lookup ("guard":Str)=none:=rfl
@[simp] theorem Kf:(cD d a b c g n u).lookup ("nail":Str)=none:=rfl
@[simp] theorem E5:(cD d a b c g n u).lookup ("turn_line":Str)=none:=rfl
end
def RowR(st:aa)(x:AV)(l:List Int):Prop:=x=.fz (iL l)\/∃r,x=.ref r/\(st[r]?=some (.lst (iL l))\/st[r]?=some (.al (.fz (iL l))))
structure Rep(st:aa)(k a b c g n u:Nat)(rows:List AV)(S:Sh):Prop where
 hk:st[k]?=some (.ins "Sheet" (cD S.d a b c g n u))
 ha:st[a]?=some (.lst rows)
 hb:st[b]?=some (.lst (nL S.hd))
 hc:st[c]?=some (.lst (nL S.sd))
 hg:st[g]?=some (.dK (kL S.gd))
 hn:st[n]?=some (.dK (kL S.nl))
 hu:st[u]?=some (.dK (kL S.tn))
 len:rows.length=S.ls.length
 row:∀i x,rows[i]?=some x->RowR st x (SX.row S i)
 ab:a≠b
 ac:a≠c
 bc:b≠c
 gn:g≠n
 gu:g≠u
 nu:n≠u
 ra:∀(i r:Nat),rows[i]?=some (.ref r)->r≠a/\r≠b/\r≠c
section
variable{st:aa}{x:AV}{xs:List AV}{l:List Int}{i:Int}
theorem RowR.ls(h:RowR st x l):bu st x=some (iL l):=by
 rcases h with rfl|⟨r,rfl,h|h⟩
 ·rfl
 ·unfold bu dr;simp only[h]
 ·unfold bu dr;simp only[h]
theorem cz(h:bu st x=some xs):bN st x (.int i)=fC xs i:=by
 have hd:lK st x (.int i)=none:=by
  unfold lK;have h1:iz st x=none:=by
   cases x<;>first|rfl|skip
   rename_i k;unfold bu dr at h;unfold iz;dsimp only at h ⊢;cases e:st[k]? with
   |none=>rfl
   | some c=>cases c <;> first | rfl | (rw [e] at h;simp only [e] at h;cases h)
  have h2:kU st x=none:=by
   cases x<;>first|rfl|skip
   rename_i k;unfold bu dr at h;unfold kU;dsimp only at h ⊢;cases e:st[k]? with
   |none=>rfl
   | some c=>cases c <;> first | rfl | (rw [e] at h;simp only [e] at h;cases h)
  rw[h1,h2]
 unfold bN;rw[hd];dsimp only;rw[h]
theorem ci{α:Type}{xs:List α}{j:Nat}:fC xs ((j:Nat):Int)=xs[j]?:=by
 unfold fC kJ;rw[yL oM];by_cases h:j<xs.length
 ·rw[yL oM];simp
 ·rw[yK oM,List.getElem?_eq_none oM];rfl
theorem n8{α:Type}{xs:List α}{n:Nat}(h:xs.length=n+1):fC xs (-1)=xs[n]?:=by
 unfold fC kJ;rw[yK oM,yL oM,h,bind_some];congr 1;lia
theorem bK{j:Nat}(h:j<l.length):(iL l)[j]?=some (.int (gI l j)):=by
 unfold iL gI;simp[h,zF]
theorem fL{l:List Nat}{j:Nat}(h:j<l.length):(nL l)[j]?=some (.int ((l.getD j 0:Nat):Int)):=by
 unfold nL;simp[h,zF]
theorem bv{k:Nat}(h:st[k]?=some (.lst xs)):bu st (.ref k)=some xs:=by unfold bu dr;simp only[h]
theorem sB{g:Nat}{l:List Nat}{q:Nat}(h:st[g]?=some (.dK (kL l))):qr st (.int q) (.ref g)=some (decide (q∈l)):=by
 unfold qr lK iz;simp only[h,jl,map_some];congr 1;unfold lv kL;rw[Option.isSome_map,List.find?_map,Option.isSome_map,Bool.eq_iff_iff,List.isSome_find?,List.any_eq_true];simp[Int.ofNat_inj]
end
noncomputable def jF(rows:List AV)(i:Nat):AV:=rows.getD i .non
section
variable{st:aa}{k a b c g n u w m:Nat}{rows:List AV}{S:Sh}{i j:Nat}
theorem Rep.ins(R:Rep st k a b c g n u rows S):iH st "Sheet" (.ref k)=some (cD S.d a b c g n u):=by
 unfold iH;simp only[R.hk];rfl
theorem Rep.rx(R:Rep st k a b c g n u rows S)(P:SX.MJ w m S)(hi:i<m):rows[i]?=some (jF rows i):=by
 have:i<rows.length:=by rw[R.len,P.ls];exact hi
 unfold jF;rw[zF,zI this];rfl
theorem Rep.line(R:Rep st k a b c g n u rows S)(P:SX.MJ w m S)(hi:i<m):bN st (.ref a) (.int (i:Int))=some (jF rows i):=by
 rw[cz (bv R.ha),ci];exact R.rx P hi
theorem Rep.rowl(R:Rep st k a b c g n u rows S)(P:SX.MJ w m S)(hi:i<m):bu st (jF rows i)=some (iL (SX.row S i)):=(R.row i _ (R.rx P hi)).ls
theorem Rep.cell(R:Rep st k a b c g n u rows S)(P:SX.MJ w m S)(hi:i<m)(hj:j<w+1):bN st (jF rows i) (.int (j:Int))=some (.int (S.t i j)):=by
 rw[cz (R.rowl P hi),ci,bK (by rw[P.rl hi];exact hj)];rfl
theorem Rep.last(R:Rep st k a b c g n u rows S)(P:SX.MJ w m S)(hi:i<m):bN st (jF rows i) (.int (-1))=some (.int (S.t i w)):=by
 rw[cz (R.rowl P hi),n8 (n:=w) (by unfold iL;rw[zK];exact P.rl hi),bK (by rw[P.rl hi];lia)];rfl
theorem Rep.side(R:Rep st k a b c g n u rows S)(P:SX.MJ w m S)(hi:i<m):bN st (.ref c) (.int (i:Int))=some (.int (S.s i:Int)):=by
 rw[cz (bv R.hc),ci,fL (by rw[P.sd];exact hi)];rfl
theorem Rep.head(R:Rep st k a b c g n u rows S)(P:SX.MJ w m S)(hj:j<w):bN st (.ref b) (.int (j:Int))=some (.int (S.h j:Int)):=by
 rw[cz (bv R.hb),ci,fL (by rw[P.hd];exact hj)];rfl
theorem Rep.ing(R:Rep st k a b c g n u rows S){q:Nat}:b9 .In st (.int q) (.ref g)=some (decide (q∈S.gd)):=sB R.hg
theorem Rep.nin(R:Rep st k a b c g n u rows S){q:Nat}:b9 .NotIn st (.int q) (.ref n)=some (!decide (q∈S.nl)):=by show(qr st _ _).map _=_;rw[sB R.hn];rfl
end
theorem fO{α:Type}{em:α->AV}{B:α->Bool}{F:α->AV}(hg:bQ gd st=true):∀{xs:List α},(∀x∈xs,∃sl1,g (em x) sl st=some (sl1,st)/\t sl1 st=some (B x,st)/\(B x=true->f sl1 st=some (F x,st)))->f8 gd g t f sl (xs.map em) st=some ((xs.filter B).map F,st)
 |[],_=>by show(if bQ gd st=true then _ else _)=_;rw[yL hg];rfl
 |x::xs,h=>by
  obtain⟨sl1,h1,h2,h3⟩:=h x yB;have ih:=fO hg (xs:=xs) fun y hy=>h y (zT _ hy)
  show(if bQ gd st=true then(g (em x) sl st).bind _ else none)=_;rw[yL hg,h1,bind_some];dsimp only;rw[h2,bind_some];cases hB:B x with
  |true=>rw[yL rfl];dsimp only;rw[h3 hB,bind_some];dsimp only;rw[ih,List.filter_cons,hB];rfl
  |false=>rw[yK (by simp)];dsimp only;rw[ih,List.filter_cons,hB];rfl
theorem gN:∀{xs:List AV},(∀x∈xs,rf x=true)->rfs xs=true
 |[],_=>rfl
 |x::xs,h=>by simp only[rfs,zE];exact⟨h x yB,gN fun y hy=>h y (zT _ hy)⟩
theorem xM:rfs (iL l)=true:=gN fun x hx=>by obtain⟨i,_,rfl⟩:=yG.mp hx;rfl
theorem lA:rfs (nL l)=true:=gN fun x hx=>by obtain⟨i,_,rfl⟩:=yG.mp hx;rfl
mutual
theorem wS:∀(x:AV),cC x x=true
 |.non=>rfl
 |.bl _=>by simp[cC]
 |.int _=>by simp[cC]
 |.str _=>by simp[cC]
 |.ref _=>by simp[cC]
 |.tup a=>by simp only[cC];exact iB a
 |.fz a=>by simp only[cC];exact iB a
theorem iB:∀(xs:List AV),fx xs xs=true
 |[]=>rfl
 |x::xs=>by simp only[fx,wS x,iB xs,Bool.and_self]
end
theorem fP{k:Nat}(h:st[k]?=some (.lst xs)):bQ [(k,.lst xs)] st=true:=by
 simp only[bQ,h,uJ,iB,Bool.and_self]
theorem HB:dX 0 (nL l)=l.zipIdx.map fun z=>.tup [.int ((z.2:Nat):Int),.int ((z.1:Nat):Int)]:=by
 unfold dX nL;rw[List.zipIdx_map,List.map_map];rfl
@[simp] theorem Kx:ib st (.tup xs)=some xs:=rfl
@[simp] theorem KN:mw st (.fz xs)=some ⟨xs,[]⟩:=rfl
@[simp] theorem Fe:gU st (.fz xs)=some ⟨xs,[]⟩:=rfl
@[simp] theorem fj:bu st (.fz xs)=some xs:=rfl
theorem iS{k:Nat}(h:st[k]?=some (.lst xs)):gU st (.ref k)=some ⟨xs,[(k,.lst xs)]⟩:=by
 unfold gU dr;simp only[h]
theorem nT{k:Nat}(h:st[k]?=some (.lst xs)):mw st (.ref k)=some ⟨xs,[(k,.lst xs)]⟩:=by
 have:ib st (.ref k)=none:=by unfold ib dr;simp only[h]
 unfold mw;dsimp only;rw[this];exact iS h
@[simp] theorem fb:bQ [] st=true:=rfl
theorem sA:kh (nL l)=some (l.map fun q=>((q:Nat):Int)):=by
 unfold kh nL;exact fN (f:=fun x=>match x with|.int i=>some i|_=>none) (i:=fun q:Nat=>AV.int q) (g:=fun q=>((q:Nat):Int)) (fun _=>rfl) l
noncomputable def oN:Option Nat->AV
 |none=>.non
 |some c=>.int (c:Int)
noncomputable def bD(S:Sh):List Nat:=(S.hd.zipIdx.filter fun z=>!decide (z.1∈S.nl)).map (·.2)
theorem ie{w m:Nat}(P:SX.MJ w m S){j:Nat}:j∈bD S ↔ j<w/\S.h j∉S.nl:=by
 unfold bD;simp only[yG,List.mem_filter,Prod.exists];constructor
 ·rintro⟨q,i,⟨h1,h2⟩,rfl⟩
  have h3:=List.mem_zipIdx' h1;have hi:i<S.hd.length:=h3.1;refine⟨by rw[<- P.hd];exact hi,?_⟩;have:S.h i=q:=by
   show S.hd.getD i 0=q;rw[zF,zI hi,h3.2];rfl
  rw[this];simpa using h2
 ·rintro⟨h1,h2⟩
  have hi:j<S.hd.length:=by rw[P.hd];exact h1
  refine⟨S.h j,j,⟨?_,by simpa using h2⟩,rfl⟩;have e:S.h j=S.hd[j]:=by
   show S.hd.getD j 0=_;rw[zF,zI hi];rfl
  rw[e,List.mem_zipIdx_iff_getElem?];exact zI hi
theorem bL{n:Nat}(h:n<=1000):b8 n=true:=yO oM
theorem FZ{key:Nat->Nat}:∃o:Option Nat,oa ((l.map fun q=>((q:Nat):Int)).zip (l.map fun q=>((key q:Nat):Int)))=oN o/\(o=none->l=[])/\∀c,o=some c->c∈l/\∀j∈l,key c<=key j:=by
 cases l with
 |nil=>exact⟨none,rfl,fun _=>rfl,fun c h=>nomatch h⟩
 |cons x l =>
  have hz:((x::l).map fun q=>((q:Nat):Int)).zip ((x::l).map fun q=>((key q:Nat):Int))=(x::l).map fun q=>(((q:Nat):Int),((key q:Nat):Int)):=by
   generalize x::l=ys
   induction ys with
   |nil=>rfl
   |cons y ys ih=>simp only[zR,List.zip_cons_cons,ih]
  rw[hz];obtain⟨i,κ,h1,h2⟩:=kA (l.map fun q=>(((q:Nat):Int),((key q:Nat):Int))) (x:Int) (key x:Int);rw[<- zR (f:=fun q:Nat=>(((q:Nat):Int),((key q:Nat):Int)))]at h1 h2;rw[zU]at h1;obtain⟨c,hc,e⟩:=zH.mp h1;injection e with e1 e2;refine⟨some c,?_,(fun h=>nomatch h),fun c' h=>?_⟩
  ·show AV.int _=AV.int _
   rw[e1]
  ·cases h
   refine⟨zZ hc,fun j hj=>?_⟩;obtain⟨t,ht⟩:=yC hj
   have:=(h2 t ((j:Int),(key j:Int)) (by rw[zU,ht];rfl)).1
   rw[<- e2]at this;have:((key c:Nat):Int)<=((key j:Nat):Int):=this;lia
theorem EZ{l:List Nat}{key:EF}{sl:Sl}{st:aa}{f:Nat->Nat}(h:∀q∈l,key (sl++[Is ((q:Nat):Int)]) st=some (.int ((f q:Nat):Int),st)):bE (wm key sl st) (l.map fun q=>((q:Nat):Int))=some (l.map fun q=>((f q:Nat):Int)):=by
 induction l with
 |nil=>rfl
 |cons x l ih =>
  have h1:wm key sl st (x:Int)=some ((f x:Nat):Int):=by unfold wm;rw[h x yB]
  simp only[zR,bE,h1,ih fun q hq=>h q (zT _ hq),bind_some,map_some]
def fk(gd:Gd)(g:GF)(s:SF)(xs:List AV):Out->Option Out
 |.nx sl st=>cT gd g s xs sl st
 |.ct sl st=>cT gd g s xs sl st
 |.bk sl st=>some (.nx sl st)
 |.rt v st=>some (.rt v st)
theorem wD(hg:bQ gd st=true)(h1:g x sl st=some p)(h2:s p.1 p.2=some o):cT gd g s (x::xs) sl st=fk gd g s xs o:=by
 show(if bQ gd st=true then(g x sl st).bind _ else none)=_;rw[yL hg,h1,bind_some,h2,bind_some];cases o<;>rfl
theorem nW{gd:Gd}{g:GF}{s:SF}{I:Nat->Sl->aa->Prop}{Post:AV->aa->Prop}{xs:List AV}(hg:∀i sl st,i<=xs.length->I i sl st->bQ gd st=true)
  (h:∀i x sl st,xs[i]?=some x->I i sl st->∃p o,g x sl st=some p/\s p.1 p.2=some o/\((∃sl2 st2,o=.nx sl2 st2/\I (i+1) sl2 st2)\/∃v st2,o=.rt v st2/\Post v st2)) :
  ∀{sl:Sl}{st:aa},I 0 sl st->(∃sl' st',cT gd g s xs sl st=some (.nx sl' st')/\I xs.length sl' st')\/∃v st',cT gd g s xs sl st=some (.rt v st')/\Post v st':=by
 have go:∀(r:Nat)(j:Nat){sl:Sl}{st:aa},j+r=xs.length->I j sl st->(∃sl' st',cT gd g s (xs.drop j) sl st=some (.nx sl' st')/\I xs.length sl' st')\/∃v st',cT gd g s (xs.drop j) sl st=some (.rt v st')/\Post v st':=fun r=>by
  induction r with
  |zero =>
   intro j sl st hj hI;left;rw[List.drop_of_length_le oM];refine⟨sl,st,?_,by rw[show xs.length=j by lia];exact hI⟩;show(if bQ gd st=true then _ else _)=_;rw[yL (hg j sl st oM hI)]
  |succ r ih =>
   intro j sl st hj hI;have hl:j<xs.length:=by lia
   obtain⟨p,o,h1,h2,h3⟩:=h j xs[j] sl st (zI hl) hI;rw[List.drop_eq_getElem_cons hl];have e:=wD (xs:=xs.drop (j+1)) (hg j sl st oM hI) h1 h2;rw[e];rcases h3 with⟨sl2,st2,rfl,h3⟩|⟨v,st2,rfl,h3⟩
   ·exact ih (j+1) oM h3
   ·exact .inr ⟨v,st2,rfl,h3⟩
 intro sl st h0
 have:=go xs.length 0 oM h0
 rw[List.drop_zero]at this;exact this
theorem dQ{gd:Gd}{g:GF}{s:SF}{I:Nat->Sl->aa->Prop}{xs:List AV}(hg:∀i sl st,i<=xs.length->I i sl st->bQ gd st=true)
  (h:∀i x sl st,xs[i]?=some x->I i sl st->∃p sl2 st2,g x sl st=some p/\s p.1 p.2=some (.nx sl2 st2)/\I (i+1) sl2 st2) {sl:Sl}{st:aa} (h0:I 0 sl st):∃sl' st',cT gd g s xs sl st=some (.nx sl' st')/\I xs.length sl' st':=by
 rcases nW (Post:=fun _ _=>False) hg (fun i x sl st hx hI=>by
  obtain⟨p,sl2,st2,a,b,c⟩:=h i x sl st hx hI;exact⟨p,_,a,b,.inl ⟨sl2,st2,rfl,c⟩⟩) h0 with h|⟨_,_,_,h⟩
 ·exact h
 ·exact h.elim
theorem mQ{i:Nat}(h:(dX 0 xs)[i]?=some y):∃x,xs[i]?=some x/\y=.tup [.int ((i:Nat):Int),x]:=by
 unfold dX at h;rw[zU]at h;obtain⟨z,h1,rfl⟩:=zH.mp h;rw[List.getElem?_zipIdx]at h1;obtain⟨x,h2,rfl⟩:=zH.mp h1;exact⟨x,h2,by simp⟩
theorem kn:(dX 0 xs).length=xs.length:=by unfold dX;simp
section
variable{st:aa}{k a b c g n u w m:Nat}{rows:List AV}{S:Sh}{i j q:Nat}{x:AV}{l:List Int}{e e':Mw}
theorem ao(h:q≠j):(st.set q e')[j]?=st[j]?:=by rw[xA];simp[h]
theorem fq(h:st[q]?=some e):(st.set q e')[q]?=some e':=by
 rw[xA];simp[(zD.mp h).1]
theorem ga(h:st[j]?=some e):(st++ys)[j]?=some e:=by
 rw[zQ (zD.mp h).1];exact h
theorem gl:(st++[e])[st.length]?=some e:=by simp
theorem aY(h1:st[i]?=some e)(h2:st[j]?=some e')(h:e≠e'):i≠j:=fun z=>h (by rw[z,h2]at h1;injection h1 with h1;exact h1.symm)
theorem RowR.set(h:RowR st x l)(hq:∀r,x=.ref r->q≠r):RowR (st.set q e') x l:=by
 rcases h with h|⟨r,h1,h2⟩
 ·exact .inl h
 ·exact .inr ⟨r,h1,by rw[ao (hq r h1)];exact h2⟩
theorem RowR.app(h:RowR st x l):RowR (st++ys) x l:=by
 rcases h with h|⟨r,h1,h2|h2⟩
 ·exact .inl h
 ·exact .inr ⟨r,h1,.inl (ga h2)⟩
 ·exact .inr ⟨r,h1,.inr (ga h2)⟩
theorem Rep.app(R:Rep st k a b c g n u rows S):Rep (st++ys) k a b c g n u rows S :=
 ⟨ga R.hk,ga R.ha,ga R.hb,ga R.hc,ga R.hg,ga R.hn,ga R.hu,R.len,fun i x h=>(R.row i x h).app,R.ab,R.ac,R.bc,R.gn,R.gu,R.nu,R.ra⟩
theorem Rep.rowk(R:Rep st k a b c g n u rows S){r:Nat}(h:rows[i]?=some (.ref r)):r≠k/\r≠g/\r≠n/\r≠u:=by
 have hr:=R.row i _ h;rcases hr with h|⟨r',h1,h2⟩
 ·cases h
 ·cases h1
  rcases h2 with h2|h2
  ·exact⟨aY h2 R.hk (fun z=>nomatch z),aY h2 R.hg (fun z=>nomatch z),aY h2 R.hn (fun z=>nomatch z),aY h2 R.hu (fun z=>nomatch z)⟩
  ·exact⟨aY h2 R.hk (fun z=>nomatch z),aY h2 R.hg (fun z=>nomatch z),aY h2 R.hn (fun z=>nomatch z),aY h2 R.hu (fun z=>nomatch z)⟩
theorem Rep.fields{a':Nat}(R:Rep st k a b c g n u rows S)(ha:st[a']?=some (.lst rows'))(hb:S'.hd=S.hd)(hc:S'.sd=S.sd)(hg:S'.gd=S.gd)(hn:S'.nl=S.nl)(hu:S'.tn=S.tn)(len:rows'.length=S'.ls.length)
  (row:∀i x,rows'[i]?=some x->RowR st x (SX.row S' i)) (ab:a'≠b) (ac:a'≠c) (ra:∀(i r:Nat),rows'[i]?=some (.ref r)->r≠a'/\r≠b/\r≠c):Rep (st.set k (.ins "Sheet" (cD S'.d a' b c g n u))) k a' b c g n u rows' S':=by
 have na:k≠a':=aY R.hk ha (fun z=>nomatch z);refine⟨fq R.hk,by rw[ao na];exact ha,?_,?_,?_,?_,?_,len,fun i x h=>(row i x h).set fun r e=>?_,ab,ac,R.bc,R.gn,R.gu,R.nu,ra⟩
 ·rw[ao (aY R.hk R.hb (fun z=>nomatch z)),hb];exact R.hb
 ·rw[ao (aY R.hk R.hc (fun z=>nomatch z)),hc];exact R.hc
 ·rw[ao (aY R.hk R.hg (fun z=>nomatch z)),hg];exact R.hg
 ·rw[ao (aY R.hk R.hn (fun z=>nomatch z)),hn];exact R.hn
 ·rw[ao (aY R.hk R.hu (fun z=>nomatch z)),hu];exact R.hu
 ·subst e
  rcases row i _ h with z|⟨r',h1,h2⟩
  ·cases z
  ·cases h1
   rcases h2 with h2|h2
   ·exact aY R.hk h2 (fun z=>nomatch z)
   ·exact aY R.hk h2 (fun z=>nomatch z)
theorem Rep.heads(R:Rep st k a b c g n u rows S):Rep (st.set b (.lst (nL hd'))) k a b c g n u rows { S with hd:=hd' } :=
 ⟨by rw[ao (aY R.hb R.hk (fun z=>nomatch z))];exact R.hk,by rw[ao (Ne.symm R.ab)];exact R.ha,fq R.hb,by rw[ao R.bc];exact R.hc,by rw[ao (aY R.hb R.hg (fun z=>nomatch z))];exact R.hg,by rw[ao (aY R.hb R.hn (fun z=>nomatch z))];exact R.hn,
  by rw[ao (aY R.hb R.hu (fun z=>nomatch z))];exact R.hu,R.len,fun i x h=>(R.row i x h).set fun r e=>Ne.symm (R.ra i r (by rw[<- e];exact h)).2.1,R.ab,R.ac,R.bc,R.gn,R.gu,R.nu,R.ra⟩
theorem Rep.sides(R:Rep st k a b c g n u rows S):Rep (st.set c (.lst (nL sd'))) k a b c g n u rows { S with sd:=sd' } :=
 ⟨by rw[ao (aY R.hc R.hk (fun z=>nomatch z))];exact R.hk,by rw[ao (Ne.symm R.ac)];exact R.ha,by rw[ao (Ne.symm R.bc)];exact R.hb,fq R.hc,by rw[ao (aY R.hc R.hg (fun z=>nomatch z))];exact R.hg,by rw[ao (aY R.hc R.hn (fun z=>nomatch z))];exact R.hn,
  by rw[ao (aY R.hc R.hu (fun z=>nomatch z))];exact R.hu,R.len,fun i x h=>(R.row i x h).set fun r e=>Ne.symm (R.ra i r (by rw[<- e];exact h)).2.2,R.ab,R.ac,R.bc,R.gn,R.gu,R.nu,R.ra⟩
theorem Rep.guard(R:Rep st k a b c g n u rows S):Rep (st.set g (.dK (kL gd'))) k a b c g n u rows { S with gd:=gd' } :=
 ⟨by rw[ao (aY R.hg R.hk (fun z=>nomatch z))];exact R.hk,by rw[ao (aY R.hg R.ha (fun z=>nomatch z))];exact R.ha,by rw[ao (aY R.hg R.hb (fun z=>nomatch z))];exact R.hb,by rw[ao (aY R.hg R.hc (fun z=>nomatch z))];exact R.hc,fq R.hg,by rw[ao R.gn];exact R.hn,by rw[ao R.gu];exact R.hu,
  R.len,fun i x h=>(R.row i x h).set fun r e=>Ne.symm (R.rowk (i:=i) (by rw[<- e];exact h)).2.1,R.ab,R.ac,R.bc,R.gn,R.gu,R.nu,R.ra⟩
theorem Rep.nail(R:Rep st k a b c g n u rows S):Rep (st.set n (.dK (kL nl'))) k a b c g n u rows { S with nl:=nl' } :=
 ⟨by rw[ao (aY R.hn R.hk (fun z=>nomatch z))];exact R.hk,by rw[ao (aY R.hn R.ha (fun z=>nomatch z))];exact R.ha,by rw[ao (aY R.hn R.hb (fun z=>nomatch z))];exact R.hb,by rw[ao (aY R.hn R.hc (fun z=>nomatch z))];exact R.hc,by rw[ao (Ne.symm R.gn)];exact R.hg,fq R.hn,by rw[ao R.nu];exact R.hu,
  R.len,fun i x h=>(R.row i x h).set fun r e=>Ne.symm (R.rowk (i:=i) (by rw[<- e];exact h)).2.2.1,R.ab,R.ac,R.bc,R.gn,R.gu,R.nu,R.ra⟩
theorem Rep.turned(R:Rep st k a b c g n u rows S):Rep (st.set u (.dK (kL tn'))) k a b c g n u rows { S with tn:=tn' } :=
 ⟨by rw[ao (aY R.hu R.hk (fun z=>nomatch z))];exact R.hk,by rw[ao (aY R.hu R.ha (fun z=>nomatch z))];exact R.ha,by rw[ao (aY R.hu R.hb (fun z=>nomatch z))];exact R.hb,by rw[ao (aY R.hu R.hc (fun z=>nomatch z))];exact R.hc,by rw[ao (Ne.symm R.gu)];exact R.hg,by rw[ao (Ne.symm R.nu)];exact R.hn,fq R.hu,
  R.len,fun i x h=>(R.row i x h).set fun r e=>Ne.symm (R.rowk (i:=i) (by rw[<- e];exact h)).2.2.2,R.ab,R.ac,R.bc,R.gn,R.gu,R.nu,R.ra⟩
theorem rR{p i:Nat}:SX.row { S with ls:=S.ls.set p l } i=if i=p/\p<S.ls.length then l else SX.row S i:=by
 unfold SX.row;simp only[zF,xA];by_cases h:i=p
 ·subst h
  by_cases h2:i<S.ls.length
  ·simp[h2]
  ·simp[h2]
 ·rw[yK fun z=>h z.symm,yK fun z=>h z.1]
theorem Rep.rowset{p:Nat}(R:Rep st k a b c g n u rows S)(hx:RowR st x l)(hr:∀r,x=.ref r->r≠a/\r≠b/\r≠c):Rep (st.set a (.lst (rows.set p x))) k a b c g n u (rows.set p x) { S with ls:=S.ls.set p l }:=by
 have hs:∀i y,(rows.set p x)[i]?=some y->(i=p/\p<rows.length/\y=x)\/(i≠p/\rows[i]?=some y):=fun i y h=>by
  rw[xA]at h;by_cases e:p=i
  ·rw[yL e]at h
   split at h
   ·cases h;exact .inl ⟨e.symm,by assumption,rfl⟩
   ·cases h
  ·rw[yK e]at h;exact .inr ⟨fun z=>e z.symm,h⟩
 refine⟨by rw[ao (aY R.ha R.hk (fun z=>nomatch z))];exact R.hk,fq R.ha,by rw[ao R.ab];exact R.hb,by rw[ao R.ac];exact R.hc,by rw[ao (aY R.ha R.hg (fun z=>nomatch z))];exact R.hg,by rw[ao (aY R.ha R.hn (fun z=>nomatch z))];exact R.hn,
  by rw[ao (aY R.ha R.hu (fun z=>nomatch z))];exact R.hu,by simp[R.len],fun i y h=>?_,R.ab,R.ac,R.bc,R.gn,R.gu,R.nu,fun i r h=>?_⟩
 ·rw[rR]
  rcases hs i y h with⟨h1,h2,rfl⟩|⟨h1,h2⟩
  ·rw[yL ⟨h1,by rw[<- R.len];exact h2⟩];exact hx.set fun r e=>Ne.symm (hr r e).1
  ·rw[yK fun z=>h1 z.1];exact(R.row i y h2).set fun r e=>Ne.symm (R.ra i r (by rw[<- e];exact h2)).1
 ·rcases hs i _ h with⟨h1,h2,h3⟩|⟨h1,h2⟩
  ·exact hr r h3.symm
  ·exact R.ra i r h2
theorem Rep.cellset{p r:Nat}(R:Rep st k a b c g n u rows S)(hp:rows[p]?=some (.ref r))(ho:∀i,i≠p->rows[i]?≠some (.ref r)):Rep (st.set r (.lst (iL l))) k a b c g n u rows { S with ls:=S.ls.set p l }:=by
 obtain⟨n1,n2,n3⟩:=R.ra p r hp;obtain⟨n4,n5,n6,n7⟩:=R.rowk hp;have hlt:p<S.ls.length:=by rw[<- R.len];exact(zD.mp hp).1
 refine⟨by rw[ao n4];exact R.hk,by rw[ao n1];exact R.ha,by rw[ao n2];exact R.hb,by rw[ao n3];exact R.hc,by rw[ao n5];exact R.hg,by rw[ao n6];exact R.hn,by rw[ao n7];exact R.hu,by simp[R.len],fun i y h=>?_,R.ab,R.ac,R.bc,R.gn,R.gu,R.nu,R.ra⟩;rw[rR];by_cases e:i=p
 ·subst e
  rw[yL ⟨rfl,hlt⟩];rw[hp]at h;cases h;rcases R.row i _ hp with z|⟨r',h1,h2⟩
  ·cases z
  ·cases h1
   rcases h2 with h2|h2
   ·exact .inr ⟨r,rfl,.inl (fq h2)⟩
   ·exact .inr ⟨r,rfl,.inl (fq h2)⟩
 ·rw[yK fun z=>e z.1]
  exact(R.row i y h).set fun r' e' z=>ho i e (by rw[z,<- e'];exact h)
theorem Rep.freeze{r:Nat}(R:Rep st k a b c g n u rows S)(hp:rows[i]?=some (.ref r))(hr:st[r]?=some (.lst (iL l))):Rep (st.set r (.al (.fz (iL l)))) k a b c g n u rows S:=by
 obtain⟨n1,n2,n3⟩:=R.ra i r hp;obtain⟨n4,n5,n6,n7⟩:=R.rowk hp;refine⟨by rw[ao n4];exact R.hk,by rw[ao n1];exact R.ha,by rw[ao n2];exact R.hb,by rw[ao n3];exact R.hc,by rw[ao n5];exact R.hg,by rw[ao n6];exact R.hn,by rw[ao n7];exact R.hu,R.len,fun j y h=>?_,R.ab,R.ac,R.bc,R.gn,R.gu,R.nu,R.ra⟩;rcases R.row j y h with z|⟨r',h1,h2⟩
 ·exact .inl z
 ·by_cases e:r=r'
  ·subst e
   refine .inr ⟨r,h1,.inr ?_⟩;rw[fq hr];rcases h2 with h2|h2
   ·rw[hr]at h2;injection h2 with h2;injection h2 with h2;rw[h2]
   ·rw[hr]at h2;cases h2
  ·exact .inr ⟨r',h1,by rw[ao e];exact h2⟩
theorem RowR.it(h:RowR st x l):∃gd,mw st x=some ⟨iL l,gd⟩/\bQ gd st=true:=by
 rcases h with rfl|⟨r,rfl,h|h⟩
 ·exact⟨[],rfl,rfl⟩
 ·exact⟨_,nT h,fP h⟩
 ·refine⟨[],?_,rfl⟩
  have:ib st (.ref r)=none:=by unfold ib dr;simp only[h]
  unfold mw;dsimp only;rw[this];unfold gU dr;simp only[h]
end
theorem we{gd:Gd}{g:GF}{t:TF}{f:EF}{sl:Sl}{J:Nat->aa->Prop}{F:Nat->AV}{xs:List AV}(hg:∀i st,i<=xs.length->J i st->bQ gd st=true)
  (h:∀i x st,xs[i]?=some x->J i st->∃sl1 st1,g x sl st=some (sl1,st)/\t sl1 st=some (true,st)/\f sl1 st=some (F i,st1)/\J (i+1) st1) {st:aa} (h0:J 0 st):∃st',f8 gd g t f sl xs st=some ((List.range xs.length).map F,st')/\J xs.length st':=by
 have go:∀(r j:Nat){st:aa},j+r=xs.length->J j st->∃st',f8 gd g t f sl (xs.drop j) st=some ((List.range' j r).map F,st')/\J xs.length st':=fun r=>by
  induction r with
  |zero =>
   intro j st hj hJ;rw[List.drop_of_length_le oM];refine⟨st,?_,by rw[show xs.length=j by lia];exact hJ⟩;show(if bQ gd st=true then _ else _)=_;rw[yL (hg j st oM hJ)];rfl
  |succ r ih =>
   intro j st hj hJ;have hl:j<xs.length:=by lia
   obtain⟨sl1,st1,h1,h2,h3,h4⟩:=h j xs[j] st (zI hl) hJ;obtain⟨st',e,hJ'⟩:=ih (j+1) oM h4;refine⟨st',?_,hJ'⟩;rw[List.drop_eq_getElem_cons hl];show(if bQ gd st=true then(g xs[j] sl st).bind _ else none)=_;rw[yL (hg j st oM hJ),h1,bind_some];dsimp only;rw[h2,bind_some,yL rfl];dsimp only;rw[h3,bind_some];dsimp only;rw[e];rfl
 obtain⟨st',e,hJ⟩:=go xs.length 0 oM h0;rw[List.drop_zero]at e;rw[<- List.range_eq_range']at e;exact⟨st',e,hJ⟩
@[simp] theorem f9:(iL l).length=l.length:=by unfold iL;simp
@[simp] theorem pX:(nL l).length=l.length:=by unfold nL;simp
@[simp] theorem ig:rfs (iL l)=true:=xM
theorem eC{q:Nat}{x:Int}:(iL l).set q (.int x)=iL (l.set q x):=by unfold iL;rw[List.map_set]
theorem v7{q x:Nat}:(nL l).set q (.int (x:Int))=nL (l.set q x):=by unfold nL;rw[List.map_set]
theorem wg{α:Type}{em:α->AV}{F:α->Int}{xs:List α}(hg:bQ gd st=true)(h:∀x∈xs,∃sl1,g (em x) sl st=some (sl1,st)/\t sl1 st=some (true,st)/\f sl1 st=some (.int (F x),st)):f8 gd g t f sl (xs.map em) st=some (iL (xs.map F),st):=by
 rw[fO (B:=fun _=>true) (F:=fun x=>.int (F x)) hg fun x hx=>by obtain⟨s,a,b,c⟩:=h x hx;exact⟨s,a,b,fun _=>c⟩];unfold iL;rw[List.map_map,List.filter_eq_self.mpr fun _ _=>rfl];rfl
theorem jk(hg:bQ gd st=true)(h:∀x∈l,∃sl1,g (.int x) sl st=some (sl1,st)/\t sl1 st=some (true,st)/\f sl1 st=some (.int (F x),st)):f8 gd g t f sl (iL l) st=some (iL (l.map F),st):=wg hg h
theorem cQ{k q:Nat}(h:st[k]?=some (.lst xs))(hq:q<xs.length):jf st (.ref k) (.int (q:Int)) x=some (st.set k (.lst (xs.set q x))):=by
 unfold jf;simp only[h];have:kJ xs.length (q:Int)=some q:=by unfold kJ;rw[yL oM,yL oM];simp
 rw[this];rfl
theorem nR{k q:Nat}(h:st[k]?=some (.dK (kL l)))(hl:l.length<=1000):jf st (.ref k) (.int (q:Int)) (.bl true)=some (st.set k (.dK (kL (if q∈l then l else l++[q])))):=by
 unfold jf;simp only[h,jl,bind_some];rw[yL (bL (by unfold kL;rw[zK];exact hl))];congr 2;unfold lD kL;by_cases hq:q∈l
 ·rw[yL hq,yL (by simp only[List.any_map,List.any_eq_true];exact⟨q,hq,by simp⟩),List.map_map]
  congr 1;refine List.map_congr_left fun x hx=>?_
  show(if _ then _ else _)=_;split
  ·rfl
  ·rfl
 ·rw[yK hq,yK (by
   simp only[List.any_map,List.any_eq_true,Function.comp];rintro⟨x,hx,e⟩;have:x=q:=by have:((x:Nat):Int)=((q:Nat):Int):=(by simpa using e);lia
   exact hq (this▸hx)),List.map_append]
  rfl
theorem ak(h:cA ks s sl st=some (.nx sl' st'))(h2:(aj ks ss sl' st').bind ay=r):(aj ks (.cons s ss) sl st).bind ay=r:=by
 rw[jD,h,bind_some,vY];exact h2
theorem au(h:cA ks s sl st=some (.nx sl' st'))(h2:aj ks ss sl' st'=r):aj ks (.cons s ss) sl st=r:=by
 rw[jD,h,bind_some,vY];exact h2
theorem nJ(h:cA ks s sl st=some (.rt v st')):(aj ks (.cons s ss) sl st).bind ay=some (v,st'):=by
 rw[jD,h,bind_some,vW];rfl
theorem dP(h:rfs args=true)(h1:fn args []=some (v,st'))(h2:dE st' v=some t):pm fn args st=some (t,st):=by
 unfold pm;rw[yL h,h1,bind_some];dsimp only;rw[h2];rfl
section
variable{d:Int}{a b c g n u:Nat}
theorem yb{d':Int}:ic "below" (.int d') (cD d a b c g n u)=cD d' a b c g n u:=rfl
theorem ya{a':Nat}:ic "lines" (.ref a') (cD d a b c g n u)=cD d a' b c g n u:=rfl
theorem gB{k:Nat}(h1:ev ks e sl st=some (v,st'))(h2:ev ks o sl st'=some (.ref k,st'))(h3:iH st' cn (.ref k)=some fs)(h4:Nat.ble fs.length 900=true):cA ks (.fl cn f o e) sl st=some (.nx sl (st'.set k (.ins cn (ic f v fs)))):=by
 show vA cn f (ev ks o) (ev ks e) sl st=_;unfold vA;rw[h1,bind_some];dsimp only;rw[h2,bind_some];dsimp only;rw[h3,bind_some,yL h4]
end
theorem rp{α:Type}{t:TF}{s:SF}{I:α->Sl->aa->Prop}{Q:α->α->Prop}{Post:Out->Prop}{a0:α}(hno:∀f:Nat->α,f 0=a0->(∀n,Q (f n) (f (n+1)))->False)
  (h:∀x sl st,I x sl st->(∃o,cO t s 1 sl st=some o/\Post o)\/∃x' sl' st',Q x x'/\I x' sl' st'/\∀n o,cO t s n sl' st'=some o->cO t s (n+1) sl st=some o) {sl:Sl}{st:aa} (h0:I a0 sl st):∃o,kD t s sl st=some o/\Post o:=by
 apply Classical.byContradiction;intro hc
 let Bad:α×Sl×aa->Prop:=fun z=>I z.1 z.2.1 z.2.2/\¬∃n o,cO t s n z.2.1 z.2.2=some o/\Post o
 have hb0:Bad (a0,sl,st):=⟨h0,fun⟨n,o,h1,h2⟩=>hc ⟨o,lZ h1,h2⟩⟩;have nx:∀z:{ z // Bad z },∃z':{ z // Bad z },Q z.1.1 z'.1.1:=fun hq0=>by
  obtain⟨z,hz⟩:=hq0;rcases h z.1 z.2.1 z.2.2 hz.1 with⟨o,h1,h2⟩|⟨x',sl',st',h1,h2,h3⟩
  ·exact absurd ⟨1,o,h1,h2⟩ hz.2
  ·exact⟨⟨(x',sl',st'),h2,fun⟨n,o,h4,h5⟩=>hz.2 ⟨n+1,o,h3 n o h4,h5⟩⟩,h1⟩
 let f:Nat->{ z // Bad z }:=fun n=>Nat.rec ⟨_,hb0⟩ (fun _ z=>Classical.choose (nx z)) n
 exact hno (fun n=>(f n).1.1) rfl fun n=>Classical.choose_spec (nx (f n))
theorem j6(h:t sl st=some (false,st')):cO t s 1 sl st=some (.nx sl st'):=by
 show(t sl st).bind _=_;rw[h,bind_some,yK (by simp)]
theorem pw(h:t sl st=some (true,st'))(h2:s sl st'=some (.rt v st2)):cO t s 1 sl st=some (.rt v st2):=by
 show(t sl st).bind _=_;rw[h,bind_some,yL rfl];dsimp only;rw[h2];rfl
theorem nv{n:Nat}(h:t sl st=some (true,st'))(h2:s sl st'=some (.nx sl2 st2))(h3:cO t s n sl2 st2=some o):cO t s (n+1) sl st=some o:=by
 show(t sl st).bind _=_;rw[h,bind_some,yL rfl];dsimp only;rw[h2];exact h3
theorem u8(h:cA ks s sl st=some (.rt v st')):aj ks (.cons s ss) sl st=some (.rt v st'):=by
 rw[jD,h,bind_some,vW]
theorem Dv{ks:List Fn}{T:Tx}{B rest:MK}{sl:Sl}{st:aa}{Post:Out->Prop}{Q:AV×aa->Prop}(h:∃o,kD (tv ks T) (aj ks B) sl st=some o/\Post o)(h2:∀o,Post o->∃r,(ox o (aj ks rest)).bind ay=some r/\Q r):∃r,(aj ks (.cons (.wh T B) rest) sl st).bind ay=some r/\Q r:=by
 obtain⟨o,e,hp⟩:=h;obtain⟨r,e2,hq⟩:=h2 o hp;refine⟨r,?_,hq⟩;rw[jD,JB,e,bind_some];exact e2
theorem ai{ks:List Fn}{s:Sx}{ss:MK}{sl sl':Sl}{st st':aa}{Q:AV×aa->Prop}(h:cA ks s sl st=some (.nx sl' st'))(h2:∃r,(aj ks ss sl' st').bind ay=some r/\Q r):∃r,(aj ks (.cons s ss) sl st).bind ay=some r/\Q r:=by
 obtain⟨r,e,q⟩:=h2;exact⟨r,ak h e,q⟩
def aw(L:List (List Int)):List AV:=L.map fun l=>.fz (iL l)
@[simp] theorem Ki:(aw L).length=L.length:=by unfold aw;simp
@[simp] theorem KR:rfs (aw L)=true:=gN fun x hx=>by obtain⟨l,_,rfl⟩:=yG.mp hx;rfl
theorem wx:iL a++iL b=iL (a++b):=by unfold iL;rw[List.map_append]
theorem Fj{x:Int}:[AV.int x]=iL [x]:=rfl
theorem um{α:Type}{em:α->AV}{F:α->List Int}{xs:List α}(hg:bQ gd st=true)(h:∀x∈xs,∃sl1,g (em x) sl st=some (sl1,st)/\t sl1 st=some (true,st)/\f sl1 st=some (.fz (iL (F x)),st)):f8 gd g t f sl (xs.map em) st=some (aw (xs.map F),st):=by
 rw[fO (B:=fun _=>true) (F:=fun x=>.fz (iL (F x))) hg fun x hx=>by obtain⟨s,a,b,c⟩:=h x hx;exact⟨s,a,b,fun _=>c⟩];unfold aw;rw[List.map_map,List.filter_eq_self.mpr fun _ _=>rfl];rfl
theorem i7(h1:ev ks a sl st=some (x,s1))(h2:ev ks b sl s1=some (y,s2))(h3:bu s2 x=some (iL l))(h4:bu s2 y=some (iL l'))(hl:l.length+l'.length<=1000):iq ks (.cat a b) sl st=some (iL (l++l'),s2):=by
 rw[t0];unfold pY;rw[h1,bind_some];dsimp only;rw[h2,bind_some];dsimp only;rw[h3,bind_some,h4,bind_some,yL (bL (by simpa using hl)),wx]
theorem ma{n:Nat}:cF 0 n=nL (List.range n):=by unfold cF nL;simp
theorem Gx{w n:Nat}:cF (w:Int) n=nL ((List.range n).map (w+·)):=by unfold cF nL;simp[List.map_map,Function.comp_def]
theorem BD{n:Nat}:bE (c4 n st) (iL l)=some (iL l):=fN (f:=c4 n st) (i:=AV.int) (g:=AV.int) (fun x=>by cases n<;>rfl) l
theorem nK{k:Nat}(h:st[k]?=some (.lst (iL l))):dE st (.ref k)=some (.fz (iL l)):=by
 show c4 6 st (.ref k)=_;unfold c4;simp only[h,BD,map_some]
theorem Dw{k:Nat}(h:st[k]?=some (.al t)):dE st (.ref k)=some t:=by
 show c4 6 st (.ref k)=_;unfold c4;simp only[h]
theorem jH{fn:Fn}{rest:List AV}{st st':aa}{x v t:AV}{l:List Int}(hx:RowR st x l)(h0:rfs rest=true)(hm:bE (dE st) rest=some rest)(hf:∀s,kS s rest=some (rest,s))(e1:fn (.fz (iL l)::rest) []=some (v,st'))(e2:dE st' v=some t)(ht:flat t=false) :
  ∃st1,pm fn (x::rest) st=some (t,st1)/\(st1=st\/∃r,x=.ref r/\st[r]?=some (.lst (iL l))/\st1=st.set r (.al (.fz (iL l)))):=by
 have ay:∀r st1,x=.ref r->dE st (.ref r)=some (.fz (iL l))->io st (.ref r)=some (.fz (iL l),st1)->pm fn (x::rest) st=some (t,st1):=fun r st1 ex h1 h2=>by
  subst ex;have m:bE (dE st) (.ref r::rest)=some (.fz (iL l)::rest):=by simp only[bE,h1,hm];rfl
  have f:kS st (.ref r::rest)=some (.fz (iL l)::rest,st1):=by simp only[kS,h2,bind_some,hf];rfl
  unfold pm;rw[yK (by simp[rf]),m,bind_some,e1,bind_some];dsimp only;rw[e2,bind_some,yK (by rw[ht];simp),f,bind_some];dsimp only;rw[e1,bind_some];dsimp only;rw[e2];rfl
 rcases hx with rfl|⟨r,rfl,h|h⟩
 ·exact⟨st,dP (by simp[h0]) e1 e2,.inl rfl⟩
 ·exact⟨_,ay r (st.set r (.al (.fz (iL l)))) rfl (nK h) (by unfold io;simp[rf,h]),.inr ⟨r,rfl,h,rfl⟩⟩
 ·exact⟨_,ay r st rfl (Dw h) (by unfold io;simp[rf,h]),.inl rfl⟩
theorem eK:(st++[x]).set st.length y=st++[y]:=by simp
end R
namespace LW
open PySem L2 R
noncomputable def top(i:Nat):Stmt:=PySem.Challenge.pw_telltight_k08_whole_kinds_of_answers.main.body.getD i (.Pass ⟨0,0,0,0⟩)
def HG(s:Stmt):List Stmt:=match s with
 |.ClassDef _ _ _ b _ _ _ _ _ _ _=>b
 |_=>[]
def fM(i j:Nat):Stmt:=(HG (top i)).getD j (.Pass ⟨0,0,0,0⟩)
noncomputable def gs:List (Str×AV):=[]
noncomputable def cl:List (Str×List Str):=[("Sheet",["below","guarded","heads","lines","nailed","sides","turned"])]
noncomputable abbrev B(_:FH):Type:=MK
local macro_rules | `(tactic| walk_at "tr")=>`(tactic| (refine (?f:FH.tr ?h false [] gs cl=some ?m->B ?h) ?p;(case p=>unfold FH.tr;rw [Fm];(conv in c7 _=>whnf);simp [-Option.map_map,↓Fm,gs,cl,rn,lX,Jk,Jm,Jj,Jl,uS,uE,uT,uG,Kt,Ku,nB,jz,uO,uC,tB,Aj,uI,Kn,uR,uZ,Kq,uL,Ak,Ko,xn,xo,Km,Kl,uK,C8,Kk,tE,tD,Ks,Kr,IU,IT,uX,m2,m3,at_,lk,qK,EJ,hB,yp,uM,uN,uP,FU,ET,Kv,dH,yi,qo,Fl];rfl);exact fun _=>?m))
@[simp] def mG:FH:=⟨.f "_law_mix" 2,"_law_mix",top 34,["_law_cell","_law_turn","_law_number"],[],3,[],[],[]⟩
noncomputable def ju:B mG:=by walk_at "tr"
@[simp] def jS:FH:=⟨.f "_law_draws" 3,"_law_draws",top 35,["_law_script","_law_turn","_law_many","_law_cells","_law_lefts","_law_found","_law_k","_law_at","_law_number"],[0],6,[],["_law_mix"],[1936136377,1944136528,1952136152,2024088264]⟩
noncomputable def hU:B jS:=by walk_at "tr"
@[simp] def mF:FH:=⟨.f "_law_pop" 1,"_law_pop",top 36,["_law_draws_here"],[],3,[],[],[]⟩
noncomputable def jt:B mF:=by walk_at "tr"
@[simp] def kR:FH:=⟨.f "_law_bits" 1,"_law_bits",top 40,["_law_group"],[],3,[],[],[]⟩
noncomputable def k8:B kR:=by walk_at "tr"
@[simp] def jR:FH:=⟨.f "_law_table" 2,"_law_table",top 41,["_law_n","_law_draws_here","_law_table_here","_law_k","_law_number","_law_mask","_law_most","_law_times","_law_pair","_law_four"],[2,3],6,[],["_law_pop","_law_bits"],[2256192398,2264176382,2304144350]⟩
noncomputable def fB:B jR:=by walk_at "tr"
@[simp] def jQ:FH:=⟨.f "_law_terms" 2,"_law_terms",top 42,["_law_n","_law_draws_here","_law_whole","_law_number","_law_a","_law_b","_law_c"],[2],6,[],["_law_pop"],[2368144350]⟩
noncomputable def fA:B jQ:=by walk_at "tr"
@[simp] def jA:FH:=⟨.f "_law_row_of" 2,"_law_row_of",top 37,["_law_n","_law_terms_here","_law_row_here","_law_group","_law_number"],[],3,[],[],[2072160528]⟩
noncomputable def eF:B jA:=by walk_at "tr"
@[simp] def mE:FH:=⟨.f "_law_row" 2,"_law_row",top 43,["_law_n","_law_draws_here","_law_number","_law_row_here","_law_k","_law_more","_law_times"],[2,5,6],9,[],["_law_pop","_law_terms","_law_row_of"],[2448144350,2464128334,2480128334,2504320606,2512336542]⟩
noncomputable def gH:B mE:=by walk_at "tr"
@[simp] def jP:FH:=⟨.f "_law_value" 2,"_law_value",top 39,["_law_row_here","_law_table_here"],[],3,[],[],[]⟩
noncomputable def g9:B jP:=by walk_at "tr"
@[simp] def kQ:FH:=⟨.f "all_names" 1,"all_names",top 1,["n"],[],3,[],[],[]⟩
noncomputable def k7:B kQ:=by walk_at "tr"
@[simp] def gf:FH:=⟨.f "pairs_with_known" 3,"pairs_with_known",top 6,["n","i","j","both"],[9],6,[],["all_names"],[]⟩
noncomputable def gi:B gf:=by walk_at "tr"
@[simp] def sG:FH:=⟨.f "rules" 1,"rules",top 7,["n","found","i","j"],[10],9,[],["pairs_with_known"],[152096344]⟩
noncomputable def sS:B sG:=by walk_at "tr"
@[simp] def iT:FH:=⟨.f "row_of_terms" 2,"row_of_terms",top 2,["n","terms","row","group","number"],[9],6,[],["all_names"],[40080224]⟩
noncomputable def i8:B iT:=by walk_at "tr"
@[simp] def mC:FH:=⟨.f "rest_row" 3,"rest_row",top 3,["n","a","b"],[12],9,[],["row_of_terms"],[]⟩
noncomputable def mX:B mC:=by walk_at "tr"
@[simp] def jO:FH:=⟨.f "shared_row" 4,"shared_row",top 4,["n","a","b","c"],[12],9,[],["row_of_terms"],[]⟩
noncomputable def jY:B jO:=by walk_at "tr"
@[simp] def mB:FH:=⟨.f "rule_row" 2,"rule_row",top 8,["n","rule","one"],[9,13,14],12,[],["all_names","rest_row","shared_row"],[]⟩
noncomputable def mW:B mB:=by walk_at "tr"
@[simp] def kM:FH:=⟨.f "rule_rows" 1,"rule_rows",top 9,["n"],[11,15],15,[],["rules","rule_row"],[]⟩
noncomputable def kZ:B kM:=by walk_at "tr"
@[simp] def g7:FH:=⟨.k "Sheet" 3,"Sheet.__init__",fM 12 0,["self","width","lines"],[],3,[],[],[352168408,360168312,368168472]⟩
noncomputable def eT:B g7:=by walk_at "tr"
@[simp] def jB:FH:=⟨.m "Sheet" "guard" 2,"Sheet.guard",fM 12 1,["self","quantity"],[],3,[],[],[]⟩
noncomputable def gq:B jB:=by walk_at "tr"
@[simp] def il:FH:=⟨.f "opening_sheet" 3,"opening_sheet",top 24,["n","givens","goal","lines","guarded","sheet","quantity"],[16,9,17,18],18,[],["rule_rows","all_names","Sheet","guard"],[1344096376,1344104177,1360144313,1368136409]⟩
noncomputable def fy:B il:=by walk_at "tr"
@[simp] def gz:FH:=⟨.m "Sheet" "turn_line" 2,"Sheet.turn_line",fM 12 3,["self","place"],[],3,[],[],[]⟩
noncomputable def d7:B gz:=by walk_at "tr"
@[simp] def eZ:FH:=⟨.m "Sheet" "loose_columns" 1,"Sheet.loose_columns",fM 12 5,["self"],[],3,[],[],[]⟩
noncomputable def de:B eZ:=by walk_at "tr"
@[simp] def eE:FH:=⟨.m "Sheet" "raising_column" 2,"Sheet.raising_column",fM 12 6,["self","place","line","found"],[21],6,[⟨79,30,79,63⟩],["loose_columns"],[]⟩
noncomputable def cV:B eE:=by walk_at "tr"
@[simp] def gh:FH:=⟨.m "Sheet" "is_tighter" 4,"Sheet.is_tighter",fM 12 8,["self","one","other","column","ahead","behind"],[],3,[],[],[]⟩
noncomputable def dL:B gh:=by walk_at "tr"
@[simp] def eD:FH:=⟨.m "Sheet" "tightest_place" 2,"Sheet.tightest_place",fM 12 9,["self","column","best","place","line"],[23],6,[],["is_tighter"],[]⟩
noncomputable def cU:B eD:=by walk_at "tr"
@[simp] def fG:FH:=⟨.m "Sheet" "is_up_first" 4,"Sheet.is_up_first",fM 12 10,["self","place","tight","column","up"],[],3,[],[],[]⟩
noncomputable def dD:B fG:=by walk_at "tr"
@[simp] def iW:FH:=⟨.f "changed_line" 5,"changed_line",top 11,["line","pivot_line","column","sign","below","pivot","factor","changed"],[],3,[],[],[296112808]⟩
noncomputable def c9:B iW:=by walk_at "tr"
@[simp] def gZ:FH:=⟨.m "Sheet" "exchange" 3,"Sheet.exchange",fM 12 4,["self","place","column","sign","pivot_line","below","freed"],[26],6,[],["changed_line"],[520168776,528224496]⟩
noncomputable def eR:B gZ:=by walk_at "tr"
@[simp] def jU:FH:=⟨.m "Sheet" "lift" 2,"Sheet.lift",fM 12 11,["self","place","column","tight"],[22,24,25,27],9,[],["raising_column","tightest_place","is_up_first","exchange"],[]⟩
noncomputable def dJ:B jU:=by walk_at "tr"
@[simp] def eY:FH:=⟨.m "Sheet" "moving_column" 2,"Sheet.moving_column",fM 12 7,["self","place","line"],[21],6,[],["loose_columns"],[]⟩
noncomputable def db:B eY:=by walk_at "tr"
@[simp] def jT:FH:=⟨.m "Sheet" "nail" 2,"Sheet.nail",fM 12 2,["self","quantity"],[],3,[],[],[]⟩
noncomputable def hV:B jT:=by walk_at "tr"
@[simp] def kO:FH:=⟨.f "keep_just" 2,"keep_just",top 25,["sheet","place","quantity","column"],[20,28,29,27,30],12,[],["turn_line","lift","moving_column","exchange","nail"],[]⟩
noncomputable def iK:B kO:=by walk_at "tr"
@[simp] def iV:FH:=⟨.f "keep_no_less" 2,"keep_no_less",top 26,["sheet","place","quantity"],[28,18],12,[],["lift","guard"],[]⟩
noncomputable def dR:B iV:=by walk_at "tr"
@[simp] def mD:FH:=⟨.f "names_in" 2,"names_in",top 14,["n","group"],[],3,[],[],[]⟩
noncomputable def mY:B mD:=by walk_at "tr"
@[simp] def kN:FH:=⟨.f "pair_rule" 3,"pair_rule",top 15,["one","other","known"],[],3,[],[],[]⟩
noncomputable def k4:B kN:=by walk_at "tr"
@[simp] def ik:FH:=⟨.f "rules_of_name" 3,"rules_of_name",top 16,["n","k","known","used","j"],[33,34],6,[],["names_in","pair_rule"],[1032088104]⟩
noncomputable def iD:B ik:=by walk_at "tr"
@[simp] def ii:FH:=⟨.f "rules_of_rest" 3,"rules_of_rest",top 17,["n","a","b","used","known","k"],[33,35],9,[],["names_in","rules_of_name"],[1088088104]⟩
noncomputable def iC:B ii:=by walk_at "tr"
@[simp] def kP:FH:=⟨.f "how_often" 2,"how_often",top 18,["n","used"],[11],12,[],["rules"],[]⟩
noncomputable def k6:B kP:=by walk_at "tr"
@[simp] def gw:FH:=⟨.f "weights_by_line" 3,"weights_by_line",top 27,["n","sheet","place","taken","column","quantity","weights","group","often","rule","count"],[9,36,37],15,[],["all_names","rules_of_rest","how_often"],[1568096440,1600032340,1616112288]⟩
noncomputable def d5:B gw:=by walk_at "tr"
@[simp] def gY:FH:=⟨.f "common_divisor" 1,"common_divisor",top 20,["numbers","divisor","number","other","left"],[],3,[],[],[]⟩
noncomputable def dw:B gY:=by walk_at "tr"
@[simp] def gy:FH:=⟨.f "in_lowest_terms" 1,"in_lowest_terms",top 21,["numbers","divisor"],[39],6,[],["common_divisor"],[]⟩
noncomputable def cY:B gy:=by walk_at "tr"
@[simp] def g6:FH:=⟨.m "Sheet" "drive_up" 2,"Sheet.drive_up",fM 12 12,["self","place","column","tight"],[22,24,27],9,[],["raising_column","tightest_place","exchange"],[]⟩
noncomputable def eS:B g6:=by walk_at "tr"
@[simp] def gx:FH:=⟨.f "lowest_fraction" 2,"lowest_fraction",top 22,["top","bottom","numbers"],[40],9,[],["in_lowest_terms"],[]⟩
noncomputable def d6:B gx:=by walk_at "tr"
@[simp] def gg:FH:=⟨.f "groups_in_column" 3,"groups_in_column",top 28,["n","sheet","column","found","place","quantity"],[9],6,[],["all_names"],[1680096240]⟩
noncomputable def dI:B gg:=by walk_at "tr"
@[simp] def iU:FH:=⟨.f "lowest_table" 2,"lowest_table",top 23,["numbers","below","found"],[40],9,[],["in_lowest_terms"],[1320224361]⟩
noncomputable def fR:B iU:=by walk_at "tr"
@[simp] def gV:FH:=⟨.f "table_of_sheet" 2,"table_of_sheet",top 29,["n","sheet"],[43,44],12,[],["groups_in_column","lowest_table"],[1728192438]⟩
noncomputable def eO:B gV:=by walk_at "tr"
@[simp] def gX:FH:=⟨.f "least_of_sheet" 3,"least_of_sheet",top 31,["n","sheet","place","least","weights"],[42,38,40,45],18,[],["lowest_fraction","weights_by_line","in_lowest_terms","table_of_sheet"],[1792240502,1792240625,1800224422]⟩
noncomputable def eP:B gX:=by walk_at "tr"
@[simp] def kK:FH:=⟨.f "way_along" 3,"way_along",top 30,["n","sheet","column","way"],[43,40],9,[],["groups_in_column","in_lowest_terms"],[1744080358]⟩
noncomputable def fW:B kK:=by walk_at "tr"
@[simp] def qt:FH:=⟨.f "answer" 3,"answer",top 32,["n","givens","goal","sheet","last","place","given","kept","column"],[19,31,32,38,40,41,46,45,47],21,[],["opening_sheet","keep_just","keep_no_less","weights_by_line","in_lowest_terms","drive_up","least_of_sheet","table_of_sheet","way_along"],[1816096342,1840120310,1840504718,1856360622,1880120366,1888184382,1888392614]⟩
noncomputable def lR:B qt:=by walk_at "tr"
@[simp] def AC:FH:=⟨.f "law" 1,"law",top 46,["_law_script","_law_draws_here","_law_n","_law_table_here","_law_givens_here","_law_k","_law_row_here","_law_number","_law_less","_law_goal","_law_found","_law_plain","_law_other"],[1,2,4,7,8,48,5,6],24,[],["_law_draws","_law_pop","_law_table","_law_row","_law_value","answer","_law_terms","_law_row_of"],[2712176430,2720256462,2728176462,2736184200,2744192398,2752192462,2760176382,2784128398,2816296582,2832176505,2848056330]⟩
noncomputable def pi:B AC:=by walk_at "tr"
def e_law:FE:=⟨AC,pi⟩
def pre:List FE:=[⟨mG,ju⟩,⟨jS,hU⟩,⟨mF,jt⟩,⟨kR,k8⟩,⟨jR,fB⟩,⟨jQ,fA⟩,⟨jA,eF⟩,⟨mE,gH⟩,⟨jP,g9⟩,⟨kQ,k7⟩,⟨gf,gi⟩,⟨sG,sS⟩,⟨iT,i8⟩,⟨mC,mX⟩,⟨jO,jY⟩,⟨mB,mW⟩,⟨kM,kZ⟩,⟨g7,eT⟩,⟨jB,gq⟩,⟨il,fy⟩,⟨gz,d7⟩,⟨eZ,de⟩,⟨eE,cV⟩,⟨gh,dL⟩,⟨eD,cU⟩,⟨fG,dD⟩,⟨iW,c9⟩,⟨gZ,eR⟩,⟨jU,dJ⟩,⟨eY,db⟩,⟨jT,hV⟩,⟨kO,iK⟩,⟨iV,dR⟩,⟨mD,mY⟩,⟨kN,k4⟩,⟨ik,iD⟩,⟨ii,iC⟩,⟨kP,k6⟩,⟨gw,d5⟩,⟨gY,dw⟩,⟨gy,cY⟩,⟨g6,eS⟩,⟨gx,d6⟩,⟨gg,dI⟩,⟨iU,fR⟩,⟨gV,eO⟩,⟨gX,eP⟩,⟨kK,fW⟩,⟨qt,lR⟩]
theorem CM:mT gs cl [] pre=pre.map fun e=>some e.b:=by kernel_rfl
theorem CN:e_law.chk gs cl pre=some e_law.b:=by kernel_rfl
instance:My:=⟨[(112,⟨79,30,79,63⟩,("Sheet.raising_column":Str)++".<locals>."++"<lambda>")]⟩
def cJ:Fn:=run 3 (aj [] ju)
def dN:Fn:=run 9 (aj [cJ] hU)
def ar:Fn:=run 1 (aj [] jt)
def aX:Fn:=run 1 (aj [] k8)
def di:Fn:=run 10 (aj [ar,aX] fB)
def aP:Fn:=run 7 (aj [ar] fA)
def aK:Fn:=run 5 (aj [] eF)
def dU:Fn:=run 7 (aj [ar,aP,aK] gH)
def dh:Fn:=run 2 (aj [] g9)
def ah:Fn:=run 1 (aj [] k7)
def gk:Fn:=run 4 (aj [ah] gi)
def oi:Fn:=run 4 (aj [gk] sS)
def fT:Fn:=run 5 (aj [ah] i8)
def nj:Fn:=run 3 (aj [fT] mX)
def j4:Fn:=run 4 (aj [fT] jY)
def ni:Fn:=run 3 (aj [ah,nj,j4] mW)
def aN:Fn:=run 1 (aj [oi,ni] kZ)
def aA:Fn:=run 3 (aj [] eT)
def aL:Fn:=run 2 (aj [] gq)
def bA:Fn:=run 7 (aj [aN,ah,aA,aL] fy)
def cg:Fn:=run 2 (aj [] d7)
def bR:Fn:=run 1 (aj [] de)
def aD:Fn:=run 4 (aj [bR] cV)
def bS:Fn:=run 6 (aj [] dL)
def aB:Fn:=run 5 (aj [bS] cU)
def aQ:Fn:=run 5 (aj [] dD)
def bt:Fn:=run 8 (aj [] c9)
def aH:Fn:=run 7 (aj [bt] eR)
def ce:Fn:=run 4 (aj [aD,aB,aQ,aH] dJ)
def bB:Fn:=run 3 (aj [bR] db)
def dj:Fn:=run 2 (aj [] hV)
def bZ:Fn:=run 4 (aj [cg,ce,bB,aH,dj] iK)
def bo:Fn:=run 3 (aj [ce,aL] dR)
def jx:Fn:=run 2 (aj [] mY)
def lm:Fn:=run 3 (aj [] k4)
def iF:Fn:=run 5 (aj [jx,lm] iD)
def cB:Fn:=run 6 (aj [jx,iF] iC)
def dz:Fn:=run 2 (aj [oi] k6)
def aJ:Fn:=run 11 (aj [ah,cB,dz] d5)
def cm:Fn:=run 5 (aj [] dw)
def af:Fn:=run 2 (aj [cm] cY)
def bn:Fn:=run 4 (aj [aD,aB,aH] eS)
def cE:Fn:=run 3 (aj [af] d6)
def cx:Fn:=run 6 (aj [ah] dI)
def dg:Fn:=run 3 (aj [af] fR)
def aO:Fn:=run 2 (aj [cx,dg] eO)
def bj:Fn:=run 5 (aj [cE,aJ,af,aO] eP)
def bY:Fn:=run 4 (aj [cx,af] fW)
def dM:Fn:=run 9 (aj [bA,bZ,bo,aJ,af,bn,bj,aO,bY] lR)
def nk:Fn:=run 13 (aj [dN,ar,di,dU,dh,dM,aP,aK] pi)
def Fs:List Fn:=[cJ,dN,ar,aX,di,aP,aK,dU,dh,ah,gk,oi,fT,nj,j4,ni,aN,aA,aL,bA,cg,bR,aD,bS,aB,aQ,bt,aH,ce,bB,dj,bZ,bo,jx,lm,iF,cB,dz,aJ,cm,af,bn,cE,cx,dg,aO,bj,bY,dM]
theorem Hs:ip [] pre=Fs:=wE (by(repeat refine⟨rfl,?_⟩);trivial)
theorem Ha:e_law.fn (ip [] pre)=nk:=by rw[Hs];rfl
def IQ:Fn:=nk
open PySem.Spec
open SX (Sh MJ)
def Bd(w m:Nat)(S:Sh):Prop:=S.d.natAbs<2^9000/\∀i,i<m->∀j,j<w+1->(S.t i j).natAbs<2^9000
section
variable{st:aa}{k a b c g n u w m:Nat}{rows:List AV}{S:Sh}
theorem Hh(R:Rep st k a b c g n u rows S)(P:MJ w m S)(B:Bd w m S){i r q:Nat}(hi:i<m)(hr:r<m)(hq:q<w) :
  bS [.ref k,.int i,.int r,.int q] st=some (.bl (decide (S.t i w*- S.t r q<S.t r w*- S.t i q)||(decide (S.t i w*- S.t r q=S.t r w*- S.t i q)&&decide (S.s i<S.s r))),st):=by
 have m1:cG (S.t i w) (- S.t r q)=true:=dy (B.2 i hi w oM) (by rw [Int.natAbs_neg];exact B.2 r hr q oM);have m2:cG (S.t r w) (- S.t i q)=true:=dy (B.2 r hr w oM) (by rw [Int.natAbs_neg];exact B.2 i hi q oM);simp [bS,aF,dL,R.ins,R.line P hi,R.line P hr,R.last P hi,R.last P hr,R.cell P hi (show q < w + 1 by lia),R.cell P hr (show q < w + 1 by lia),bI m1,bI m2,R.side P hi,R.side P hr];by_cases h1:S.t i w * -S.t r q < S.t r w * -S.t i q <;> by_cases h2:S.t i w * -S.t r q=S.t r w * -S.t i q <;> simp [h1,h2]
theorem Ah(R:Rep st k a b c g n u rows S)(P:MJ w m S)(B:Bd w m S){i r q:Nat}(hi:i<m)(hr:r<m)(hq:q<w) :
  aQ [.ref k,.int i,.int r,.int q] st=some (.bl (decide (S.t i w*S.t r q<=S.t r w*S.t i q)),st):=by
 have m1:cG (S.t i w) (S.t r q)=true:=dy (B.2 i hi w oM) (B.2 r hr q oM);have m2:cG (S.t r w) (S.t i q)=true:=dy (B.2 r hr w oM) (B.2 i hi q oM);simp [aQ,aF,dD,R.ins,R.line P hi,R.line P hr,R.last P hi,R.last P hr,R.cell P hi (show q < w + 1 by lia),R.cell P hr (show q < w + 1 by lia),bI m1,bI m2]
theorem sj(R:Rep st k a b c g n u rows S)(P:MJ w m S)(hw:w<=100):bR [.ref k] st=some (.fz (nL (bD S)),st):=by
 have he:nL (bD S)=(S.hd.zipIdx.filter fun z=>!decide (z.1∈S.nl)).map fun z=>(AV.int ((z.2:Nat):Int)):=by unfold nL bD;rw[List.map_map];rfl
 have hf:=lA (l:=bD S);rw [he] at hf ⊢;simp [bR,aF,de,R.ins,iS R.hb,HB,bL (show S.hd.length <= 1000 by rw [P.hd];lia)];rw [fO (B:=fun z=>!decide (z.1 ∈ S.nl)) (F:=fun z=>.int ((z.2:Nat):Int)) (fP R.hb) fun z _=>⟨_,rfl,by simp [R.ins,R.nin],fun _=>rfl⟩];simp [hf]
theorem pP(R:Rep st k a b c g n u rows S)(P:MJ w m S)(hw:w<=100){p:Nat}(hp:p<m):∃o,aD [.ref k,.int p] st=some (oN o,st)/\SX.Rais w S p o:=by
 have ll:(bD S).length<=1000:=by
  unfold bD;rw[zK]
  have:=List.length_filter_le (fun z:Nat×Nat=>!decide (z.1∈S.nl)) S.hd.zipIdx
  rw[List.length_zipIdx,P.hd]at this;lia
 obtain⟨o,ho,h1,h2⟩:=FZ (l:=(bD S).filter fun j=>decide (0<S.t p j)) (key:=S.h);have inl:∀j,j∈(bD S).filter (fun j=>decide (0<S.t p j)) ↔ (j<w/\S.h j∉S.nl)/\0<S.t p j:=fun j=>by rw[List.mem_filter,ie P];simp
 refine⟨o,?_,fun e j hj hn ht=>?_,fun q e=>?_⟩
 ·simp[aD,aF,cV,R.ins,R.line P hp,sj R P hw,nL,bL ll]
  rw [fO (B:=fun j=>decide (0 < S.t p j)) (F:=fun j:Nat=>.int (j:Int)) fb fun j hj=>⟨_,rfl,by simp [R.cell P hp (show j < w + 1 by have:=(ie P).mp hj;lia)],fun _=>rfl⟩];have hf:rfs (((bD S).filter fun j=>decide (0 < S.t p j)).map fun j:Nat=>(AV.int (j:Int)))=true:=lA;have hi:=sA (l:=(bD S).filter fun j=>decide (0 < S.t p j));unfold nL at hi;simp [hf,pq,lsI,hi];rw [EZ (f:=S.h) fun q hq=>by simp [R.ins,R.head P ((inl q).mp hq).1.1]];simp [ho]
 ·have:=h1 e
  have hm:=(inl j).mpr ⟨⟨hj,hn⟩,ht⟩;rw[this]at hm;cases hm
 ·obtain⟨m1,m2⟩:=h2 q e
  have:=(inl q).mp m1
  exact⟨this.1.1,this.1.2,this.2,fun j hj hn ht=>m2 j ((inl j).mpr ⟨⟨hj,hn⟩,ht⟩)⟩
theorem rF(R:Rep st k a b c g n u rows S)(P:MJ w m S)(B:Bd w m S){q:Nat}(hq:q<w):∃o,aB [.ref k,.int q] st=some (oN o,st)/\SX.MC S w q m o:=by
 have rl:rows.length=m:=by rw[R.len,P.ls]
 obtain⟨sl',st',e,rfl,o,x,y,rfl,T⟩:=dQ (gd:=[(a,.lst rows)]) (g:=bH [bS] (.tu 2 (.cons (.nm 3) (.cons (.nm 4) .nil)))) (s:=aj [bS] (.cons (.iff (.an (.cmp .Lt (.ix (.v 4) (.v 1)) (.i 0)) (.cmp .In (.ix (.fd "Sheet" "sides" (.v 0)) (.v 3)) (.fd "Sheet" "guarded" (.v 0))))
   (.cons (.iff (.or (.cmp .Is (.v 2) .n) (.va (.me "Sheet" "is_tighter" 0 (.v 0) (.cons (.v 3) (.cons (.v 2) (.cons (.v 1) .nil)))))) (.cons (.as (.v 3) (.nm 2)) .nil) .nil) .nil) .nil) .nil))
  (I:=fun i sl s=>s=st/\∃o x y,sl=[Rs k,Is q,some (oN o),x,y]/\SX.MC S w q i o) (xs:=dX 0 rows) (fun i sl s _ hI=>by rw[hI.1];exact fP R.ha)
  (fun i y sl s hy hI=>by
   obtain⟨rfl,o,x1,x2,rfl,T⟩:=hI;obtain⟨x,hx,rfl⟩:=mQ hy;have hi:i<m:=by rw[<- rl];exact(zD.mp hx).1
   have ex:x=jF rows i:=by have:=R.rx P hi;rw[hx]at this;injection this
   subst ex;refine⟨_,[Rs k,Is q,some (oN (if S.t i q<0/\S.s i∈S.gd then(match o with|none=>some i|some r=>if S.t i w*- S.t r q<S.t r w*- S.t i q\/(S.t i w*- S.t r q=S.t r w*- S.t i q/\S.s i<S.s r) then some i else some r) else o)),Is i,some (jF rows i)],s,rfl,?_,rfl,_,_,_,rfl,?_⟩
   ·by_cases h1:S.t i q<0
    ·by_cases h2:S.s i∈S.gd
     ·cases o with
      | none=>simp [R.cell P hi (show q < w + 1 by lia),h1,R.side P hi,R.ins,R.ing,h2,oN]
      |some r =>
       have hr:=(T.2 r rfl).1
       have:=Hh R P B hi (show r < m by lia) hq
       simp [R.cell P hi (show q < w + 1 by lia),h1,R.side P hi,R.ins,R.ing,h2,oN,this,eJ,bu,dr];split <;> rfl
     ·simp [R.cell P hi (show q < w + 1 by lia),h1,R.side P hi,R.ins,R.ing,h2]
    ·simp [R.cell P hi (show q < w + 1 by lia),h1]
   ·by_cases h1:S.t i q<0/\S.s i∈S.gd
    ·rw[yL h1]
     cases o with
     |none=>exact SX.tt_first h1.1 h1.2 T
     |some r =>
      dsimp only;split
      ·rename_i h2;exact SX.tt_new h1.1 h1.2 h2 T
      ·rename_i h2;exact SX.tt_old h1.1 h2 T
    ·rw[yK h1];exact SX.tt_skip h1 T) (sl:=[Rs k,Is q,some .non,none,none]) (st:=st) ⟨rfl,none,none,none,rfl,SX.tt_zero⟩
 rw[kn,rl]at T;refine⟨o,?_,T⟩;simp[aB,aF,cU,R.ins,iS R.ha];rw[e];simp
end
open SX (gI chLine pvl sgn)
theorem CT:((iL l).zip (iL P)).map (fun z=>AV.tup [z.1,z.2])=(l.zip P).map fun z=>.tup [.int z.1,.int z.2]:=by
 unfold iL;rw[List.zip_map,List.map_map];rfl
section
variable{l P:List Int}{q w:Nat}{sg d:Int}
theorem mK{M:Nat}(h:∀x∈l,x.natAbs<M)(hM:0<M)(j:Nat):(gI l j).natAbs<M:=by
 unfold gI;rw[zF];cases e:l[j]? with
 |none=>exact hM
 |some x=>exact h x (zZ e)
theorem J4(hl:l.length=w+1)(hP:P.length=w+1)(hq:q<w+1)(hw:w<=100)(bl:∀x∈l,x.natAbs<2^9000)(bP:∀x∈P,x.natAbs<2^9000)(hd:d≠0)(bd:d.natAbs<2^9000)(bs:sg.natAbs<2^9000) :
  ∃v st',bt [.fz (iL l),.fz (iL P),.int q,.int sg,.int d] []=some (v,st')/\dE st' v=some (.fz (iL (chLine l P q sg d))):=by
 have hM:(0:Nat)<2^9000:=Nat.two_pow_pos _;have x1:∀st:aa,bN st (.fz (iL P)) (.int (q:Int))=some (.int (gI P q)):=fun st=>by rw[cz fj,ci,bK oM]
 have x2:∀st:aa,bN st (.fz (iL l)) (.int (q:Int))=some (.int (gI l q)):=fun st=>by rw[cz fj,ci,bK oM]
 have bp:=mK bP hM q;have bf:=mK bl hM q;have dv:=wI hd bd;unfold chLine;by_cases h1:gI l q=0
 ·by_cases h2:gI P q=d
  ·refine⟨.fz (iL l),[],?_,by rw[yL h1,yL h2];rfl⟩
   simp[bt,aF,c9,x1,x2,h1,h2]
  ·refine⟨.fz (iL (l.map fun x=>SX.fdvS (x*gI P q) d)),[],?_,by rw[yL h1,yK h2];rfl⟩
   simp [bt,aF,c9,x1,x2,h1,h2,bL (show l.length <= 1000 by lia)];rw [jk (F:=fun x=>SX.fdvS (x * gI P q) d) fb fun x hx=>⟨_,rfl,rfl,by simp [bI (dy (bl x hx) bp),kx dv];rfl⟩];simp
 ·refine⟨.ref 0,[.lst (iL (((l.zip P).map fun z=>SX.fdvS (z.1*gI P q-gI l q*z.2) d).set q (sg*gI l q)))],?_,by rw[yK h1];exact nK rfl⟩
  have ml:=dy bs bf;have hz:((l.zip P).length)<=1000:=by rw[List.length_zip];lia
  simp[bt,aF,c9,x1,x2,h1,iZ,CT];rw[yL (bL oM),wg (F:=fun z=>SX.fdvS (z.1*gI P q-gI l q*z.2) d) fb fun z hz=>⟨_,rfl,rfl,by
   have:=List.of_mem_zip hz
   simp[bI (dy (bl _ this.1) bp),bI (dy bf (bP _ this.2)),kx dv];rfl⟩]
  simp[bI ml];rw[cQ (xs:=iL ((l.zip P).map fun z=>SX.fdvS (z.1*gI P q-gI l q*z.2) d)) rfl (by simp;lia),eC];simp
theorem HF(hx:RowR st x l)(hl:l.length=w+1)(hP:P.length=w+1)(hq:q<w+1)(hw:w<=100)(bl:∀x∈l,x.natAbs<2^9000)(bP:∀x∈P,x.natAbs<2^9000)(hd:d≠0)(bd:d.natAbs<2^9000)(bs:sg.natAbs<2^9000) :
  ∃st1,pm bt [x,.fz (iL P),.int q,.int sg,.int d] st=some (.fz (iL (chLine l P q sg d)),st1)/\(st1=st\/∃r,x=.ref r/\st[r]?=some (.lst (iL l))/\st1=st.set r (.al (.fz (iL l)))):=by
 obtain⟨v,st',e1,e2⟩:=J4 hl hP hq hw bl bP hd bd bs;exact jH (rest:=[.fz (iL P),.int q,.int sg,.int d]) hx (by simp) rfl (fun s=>by simp[kS,io,rf]) e1 e2 (by simp[flat])
end
section
variable{st:aa}{k a b c g n u w m:Nat}{rows:List AV}{S:Sh}
theorem Bd.row(B:Bd w m S)(P:MJ w m S){i:Nat}(hi:i<m):∀x∈SX.row S i,x.natAbs<2^9000:=fun x hx=>by
 obtain⟨j,hj⟩:=yC hx;have hl:=(zD.mp hj).1;rw[P.rl hi]at hl
 have:=B.2 i hi j hl
 have e:S.t i j=x:=by show(SX.row S i).getD j 0=x;rw[zF,hj];rfl
 rw[e]at this;exact this
theorem mP(R:Rep st k a b c g n u rows S)(P:MJ w m S)(B:Bd w m S)(hd:S.d≠0)(hw:w<=100)(hm:m<=1000){p q:Nat}(hp:p<m)(hq:q<w) :
  ∃st' a' rows',aH [.ref k,.int p,.int q] st=some (.non,st')/\Rep st' k a' b c g n u rows' (SX.ME S p q):=by
 have rl:rows.length=m:=by rw[R.len,P.ls]
 obtain⟨sg,hsg⟩:∃x,x=sgn (S.t p q):=⟨_,rfl⟩;obtain⟨pl,hpl⟩:∃x,x=pvl S p q:=⟨_,rfl⟩;have hpl':pl=(SX.row S p).map fun x=>sg*x:=by rw[hpl,hsg];rfl
 have lp:pl.length=w+1:=by rw[hpl',zK];exact P.rl hp
 have sa:sg.natAbs=1:=by rw[hsg];unfold sgn;split<;>rfl
 have bs:sg.natAbs<2^9000:=by rw[sa];exact Nat.one_lt_two_pow oM
 have bP:∀x∈pl,x.natAbs<2^9000:=fun x hx=>by
  rw[hpl']at hx;obtain⟨y,hy,rfl⟩:=yG.mp hx;rw[xE,sa,Nat.one_mul];exact B.row P hp y hy
 have s1:∃st1,f8 [(a,.lst rows)] (bH [bt] (.nm 7)) (iu [bt] .no) (ev [bt] (.ca true 0 (.cons (.v 7) (.cons (.v 4) (.cons (.v 2) (.cons (.v 3) (.cons (.v 5) .nil))))))) [Rs k,Is p,Is q,Is sg,Ls pl,Is S.d,none,none] rows st
   = some ((List.range rows.length).map fun i=>.fz (iL (chLine (SX.row S i) pl q sg S.d)),st1)/\Rep st1 k a b c g n u rows S:=by
  refine we (J:=fun _ s=>Rep s k a b c g n u rows S) (fun _ s _ R'=>fP R'.ha) (fun i x s hx R'=>?_) R;have hi:i<m:=by rw[<- rl];exact(zD.mp hx).1
  obtain ⟨s1,e1,h1⟩:=HF (R'.row i x hx) (P.rl hi) lp (show q < w + 1 by lia) hw (B.row P hi) bP hd B.1 bs;refine ⟨_,s1,rfl,rfl,by simp [e1],?_⟩;rcases h1 with rfl | ⟨r,rfl,h2,rfl⟩
  ·exact R'
  ·exact R'.freeze hx h2
 obtain⟨st1,e1,R1⟩:=s1;obtain⟨rows2,hr2⟩:∃x,x=(List.range rows.length).map fun i=>AV.fz (iL (chLine (SX.row S i) pl q sg S.d)):=⟨_,rfl⟩
 rw[<- hr2]at e1;have fz2:∀i x,rows2[i]?=some x->i<m/\x=.fz (iL (chLine (SX.row S i) pl q sg S.d)):=fun i x h=>by
  rw[hr2,zU]at h;obtain⟨j,h1,rfl⟩:=zH.mp h;have hl:=(zD.mp h1).1;rw[List.length_range]at hl;rw[List.getElem?_range hl]at h1;cases h1;exact⟨by lia,rfl⟩
 have l2:rows2.length=m:=by rw[hr2,zK,List.length_range,rl]
 have lt:∀{s:aa}{i:Nat}{x:Mw},s[i]?=some x->i<s.length:=fun h=>(zD.mp h).1
 -- the new lines
 have R2:Rep ((st1++[Mw.lst rows2]).set k (.ins "Sheet" (cD S.d st1.length b c g n u))) k st1.length b c g n u rows2 { S with ls:=S.ls.map fun l=>chLine l pl q sg S.d }:=by
  refine Rep.fields (S':={ S with ls:=S.ls.map fun l=>chLine l pl q sg S.d }) (R1.app (ys:=[Mw.lst rows2])) gl rfl rfl rfl rfl rfl (by simp[l2,P.ls]) (fun i x h=>?_) (Nat.ne_of_gt (lt R1.hb)) (Nat.ne_of_gt (lt R1.hc)) fun i r h=>?_
  ·obtain⟨hi,rfl⟩:=fz2 i x h
   left;unfold SX.row;simp [zF,zI (show i < S.ls.length by rw [P.ls];exact hi)]
  ·have:=(fz2 i _ h).2;cases this
 obtain⟨t2,ht2⟩:∃x,x=(st1++[Mw.lst rows2]).set k (.ins "Sheet" (cD S.d st1.length b c g n u)):=⟨_,rfl⟩;rw[<- ht2]at R2;obtain⟨a',ha'⟩:∃x,x=st1.length:=⟨_,rfl⟩;rw[<- ha']at R2 ht2;have R3:=Rep.rowset (p:=p) (x:=.ref t2.length) (l:=pl.map fun x=>- x) (R2.app (ys:=[Mw.lst (iL (pl.map fun x=>- x))])) (.inr ⟨t2.length,rfl,.inl gl⟩) fun r e=>by cases e;exact⟨Nat.ne_of_gt (lt R2.ha),Nat.ne_of_gt (lt R2.hb),Nat.ne_of_gt (lt R2.hc)⟩
 obtain⟨t3,ht3⟩:∃x,x=(t2++[Mw.lst (iL (pl.map fun x=>- x))]).set a' (.lst (rows2.set p (.ref t2.length))):=⟨_,rfl⟩;rw[<- ht3]at R3;have g3:t3[t2.length]?=some (.lst (iL (pl.map fun x=>- x))):=by rw[ht3,ao (zX (lt R2.ha))];exact gl
 have p3:(rows2.set p (.ref t2.length))[p]?=some (.ref t2.length):=by simp[l2,hp]
 have R4:=Rep.cellset (l:=(pl.map fun x=>- x).set q (sg*S.d)) R3 p3 fun i ne h=>by
  rw[xA,yK (fun z=>ne z.symm)]at h
  have:=(fz2 i _ h).2;cases this
 obtain⟨t4,ht4⟩:∃x,x=t3.set t2.length (.lst (iL ((pl.map fun x=>- x).set q (sg*S.d)))):=⟨_,rfl⟩;rw[<- ht4]at R4;have R5:=Rep.fields (S':={ d:=gI pl q,ls:=_,hd:=S.hd,sd:=S.sd,gd:=S.gd,nl:=S.nl,tn:=S.tn }) R4 R4.ha rfl rfl rfl rfl rfl R4.len R4.row R4.ab R4.ac R4.ra;obtain⟨t5,ht5⟩:∃x,x=t4.set k (.ins "Sheet" (cD (gI pl q) a' b c g n u)):=⟨_,rfl⟩;have R5:=ht5▸R5;have R6:=Rep.sides (sd':=S.sd.set p (S.h q)) R5;obtain⟨t6,ht6⟩:∃x,x=t5.set c (.lst (nL (S.sd.set p (S.h q)))):=⟨_,rfl⟩;rw[<- ht6]at R6;have R7:=Rep.heads (hd':=S.hd.set q (S.s p)) R6;obtain⟨t7,ht7⟩:∃x,x=t6.set b (.lst (nL (S.hd.set q (S.s p)))):=⟨_,rfl⟩;rw[<- ht7]at R7;refine⟨t7,a',rows2.set p (.ref t2.length),?_,?_⟩
 rotate_left
 ·have e:SX.ME S p q={ d:=gI pl q,ls:=((S.ls.map fun l=>chLine l pl q sg S.d).set p (pl.map fun x=>- x)).set p ((pl.map fun x=>- x).set q (sg*S.d)),hd:=S.hd.set q (S.s p),sd:=S.sd.set p (S.h q),gd:=S.gd,nl:=S.nl,tn:=S.tn }:=by
   unfold SX.ME;rw[List.set_set,hpl,hsg]
  rw[e];exact R7
 rw[aH,aF];unfold eR;refine ak (sl':=[Rs k,Is p,Is q,Is sg,none,none,none]) (st':=st) ?_ ?_
 ·by_cases h:S.t p q<0
  ·simp [R.ins,R.line P hp,R.cell P hp (show q < w + 1 by lia),h,hsg,sgn]
  ·simp [R.ins,R.line P hp,R.cell P hp (show q < w + 1 by lia),h,hsg,sgn]
 refine ak (sl':=[Rs k,Is p,Is q,Is sg,Ls pl,none,none]) (st':=st) ?_ ?_
 ·obtain⟨gd,i1,i2⟩:=(R.row p _ (R.rx P hp)).it
  simp [R.ins,R.line P hp,i1,bL (show (SX.row S p).length <= 1000 by rw [P.rl hp];lia)];rw [jk (F:=fun x=>sg * x) i2 fun x hx=>⟨_,rfl,rfl,by simp [bI (dy bs (B.row P hp x hx))]⟩];simp [hpl']
 refine ak (sl':=[Rs k,Is p,Is q,Is sg,Ls pl,Is S.d,none]) (st':=st) (by simp[R.ins]) ?_;refine ak (sl':=[Rs k,Is p,Is q,Is sg,Ls pl,Is S.d,none]) (st':=t2) ?_ ?_
 ·rw[gB (v:=.ref a') (st':=st1++[.lst rows2]) (k:=k) (by simp[R.ins,nT R.ha,rl,bL hm,e1,ha']) (by simp) R1.app.ins rfl,ya,ht2]
 refine ak (sl':=[Rs k,Is p,Is q,Is sg,Ls pl,Is S.d,none]) (st':=t3) ?_ ?_
 ·simp [bL (show pl.length <= 1000 by lia)]
  rw [jk (F:=fun x=>- x) fb fun x hx=>⟨_,rfl,rfl,by simp⟩];simp [R2.app.ins,cQ (R2.app (ys:=[Mw.lst (iL (pl.map fun x=>- x))])).ha (show p < rows2.length by lia),ht3]
 have P4:MJ w m { S with ls:=((S.ls.map fun l=>chLine l pl q sg S.d).set p (pl.map fun x=>- x)).set p ((pl.map fun x=>- x).set q (sg*S.d)) }:=by
  have:=SX.exch_shp (c:=q) P hp
  refine⟨by simp[P.ls],fun l hl=>this.row l ?_,P.hd,P.sd⟩;show l∈(S.ls.map fun l=>chLine l (pvl S p q) q (sgn (S.t p q)) S.d).set p _;rw[<- hpl,<- hsg];rw[List.set_set]at hl;exact hl
 have rx:jF (rows2.set p (.ref t2.length)) p=.ref t2.length:=by unfold jF;rw[zF,p3];rfl
 refine ak (sl':=[Rs k,Is p,Is q,Is sg,Ls pl,Is S.d,none]) (st':=t4) ?_ ?_
 ·have li:bN t3 (.ref a') (.int (p:Int))=some (.ref t2.length):=by rw[cz (bv R3.ha),ci];exact p3
  simp [bI (dy bs B.1),R3.ins,li,cQ g3 (show q < (iL (pl.map fun x=>- x)).length by simp;lia),eC,ht4]
 refine ak (sl':=[Rs k,Is p,Is q,Is sg,Ls pl,Is S.d,none]) (st':=t5) ?_ ?_
 ·have xi:bN t4 (.fz (iL pl)) (.int (q:Int))=some (.int (gI pl q)):=by rw[cz fj,ci,bK oM]
  rw[gB (v:=.int (gI pl q)) (st':=t4) (k:=k) (by simp[xi]) (by simp) R4.ins rfl,yb,ht5]
 have P5:MJ w m { S with d:=gI pl q,ls:=((S.ls.map fun l=>chLine l pl q sg S.d).set p (pl.map fun x=>- x)).set p ((pl.map fun x=>- x).set q (sg*S.d)) }:=⟨P4.ls,P4.row,P4.hd,P4.sd⟩;refine ak (sl':=[Rs k,Is p,Is q,Is sg,Ls pl,Is S.d,Is (S.s p:Int)]) (st':=t5) ?_ ?_
 ·have:=R5.side P5 hp
  simp[R5.ins,this];rfl
 refine ak (sl':=[Rs k,Is p,Is q,Is sg,Ls pl,Is S.d,Is (S.s p:Int)]) (st':=t6) ?_ ?_
 ·have:=R5.head P5 hq
  simp [R5.ins,this,cQ R5.hc (show p < (nL S.sd).length by simp [P.sd,hp]),ht6];rw [<- v7];rfl
 refine ak (sl':=[Rs k,Is p,Is q,Is sg,Ls pl,Is S.d,Is (S.s p:Int)]) (st':=t7) ?_ rfl;simp [R6.ins,cQ R6.hb (show q < (nL S.hd).length by simp [P.hd,hq]),ht7,v7]
end
open SX (MI Rais MC Kept ME)
noncomputable def ins(l:List Nat)(q:Nat):List Nat:=if q∈l then l else l++[q]
section
variable{st:aa}{k a b c g n u w m:Nat}{rows:List AV}{S:Sh}{p q:Nat}
theorem sH(R:Rep st k a b c g n u rows S)(hl:S.gd.length<=1000):∃st',aL [.ref k,.int q] st=some (.non,st')/\Rep st' k a b c g n u rows { S with gd:=ins S.gd q }:=by
 refine⟨_,?_,R.guard⟩;simp[aL,aF,gq,R.ins,nR R.hg hl,ins]
theorem pV(R:Rep st k a b c g n u rows S)(hl:S.nl.length<=1000):∃st',dj [.ref k,.int q] st=some (.non,st')/\Rep st' k a b c g n u rows { S with nl:=ins S.nl q }:=by
 refine⟨_,?_,R.nail⟩;simp[dj,aF,hV,R.ins,nR R.hn hl,ins]
theorem C2(R:Rep st k a b c g n u rows S)(P:MJ w m S)(hw:w<=100)(hp:p<m)(hl:S.tn.length<=1000):∃st' rows',cg [.ref k,.int p] st=some (.non,st')/\Rep st' k a b c g n u rows' (SX.trn S p):=by
 have R1:=Rep.rowset (p:=p) (x:=.fz (iL ((SX.row S p).map fun x=>- x))) (l:=(SX.row S p).map fun x=>- x) R (.inl rfl) fun r e=>nomatch e
 have R2:=Rep.turned (tn':=if S.s p∈S.tn then S.tn else S.tn++[S.s p]) R1;refine⟨_,_,?_,R2⟩;obtain⟨gd,i1,i2⟩:=(R.row p _ (R.rx P hp)).it;have P1:MJ w m { S with ls:=S.ls.set p ((SX.row S p).map fun x=>- x) }:=⟨(SX.trn_shp P hp).ls,(SX.trn_shp P hp).row,P.hd,P.sd⟩;rw[cg,aF];unfold d7;refine ak (sl':=[Rs k,Is p]) (st':=st.set a (.lst (rows.set p (.fz (iL ((SX.row S p).map fun x=>- x)))))) ?_ ?_
 ·simp [R.ins,R.line P hp,i1,bL (show (SX.row S p).length <= 1000 by rw [P.rl hp];lia)]
  rw [jk (F:=fun x=>- x) i2 fun x hx=>⟨_,rfl,rfl,by simp⟩];simp [R.ins,cQ R.ha (show p < rows.length by rw [R.len,P.ls];exact hp)]
 ·have:=R1.side P1 hp
  simp[R1.ins,this];rw[nR R1.hu hl];rfl
theorem G2(R:Rep st k a b c g n u rows S)(P:MJ w m S)(hw:w<=100)(hp:p<m):∃o:Option Nat,bB [.ref k,.int p] st=some (oN o,st)/\(o=none->∀j,j<w->S.h j∉S.nl->S.t p j=0)/\∀q,o=some q->q<w/\S.h q∉S.nl/\S.t p q≠0:=by
 have ll:(bD S).length<=1000:=by
  unfold bD;rw[zK]
  have:=List.length_filter_le (fun z:Nat×Nat=>!decide (z.1∈S.nl)) S.hd.zipIdx
  rw[List.length_zipIdx,P.hd]at this;lia
 have inl:∀j,j∈(bD S).filter (fun j=>!decide (S.t p j=0)) ↔ (j<w/\S.h j∉S.nl)/\S.t p j≠0:=fun j=>by rw[List.mem_filter,ie P];simp
 have hm:∃o:Option Nat,yo (((bD S).filter fun j=>!decide (S.t p j=0)).map fun j=>((j:Nat):Int))=oN o/\(o=none->(bD S).filter (fun j=>!decide (S.t p j=0))=[])/\∀q,o=some q->q∈(bD S).filter fun j=>!decide (S.t p j=0):=by
  generalize (bD S).filter (fun j=>!decide (S.t p j=0))=l;cases l with
  |nil=>exact⟨none,rfl,fun _=>rfl,fun q h=>nomatch h⟩
  |cons x l =>
   have h:=(DD.minF (l.map fun j=>((j:Nat):Int)) (x:Int)).1;rw[<- zR (f:=fun j:Nat=>((j:Nat):Int))]at h;obtain⟨y,hy,e⟩:=yG.mp h;refine⟨some y,?_,(fun z=>nomatch z),fun q z=>by cases z;exact hy⟩;show AV.int _=AV.int _;rw[e]
 obtain⟨o,ho,h1,h2⟩:=hm;refine⟨o,?_,fun e j hj hn=>Classical.byContradiction fun ht=>?_,fun q e=>?_⟩
 ·simp[bB,aF,db,R.ins,R.line P hp,sj R P hw,nL,bL ll]
  rw [fO (B:=fun j=>!decide (S.t p j=0)) (F:=fun j:Nat=>.int (j:Int)) fb fun j hj=>⟨_,rfl,by simp [R.cell P hp (show j < w + 1 by have:=(ie P).mp hj;lia)],fun _=>rfl⟩];have hf:rfs (((bD S).filter fun j=>!decide (S.t p j=0)).map fun j:Nat=>(AV.int (j:Int)))=true:=lA;have hi:=sA (l:=(bD S).filter fun j=>!decide (S.t p j=0));unfold nL at hi;simp [hf,bW,mo,lsI,hi,ho]
 ·have hm:=(inl j).mpr ⟨⟨hj,hn⟩,ht⟩
  rw[h1 e]at hm;cases hm
 ·have:=(inl q).mp (h2 q e)
  exact⟨this.1.1,this.1.2,this.2⟩
end
section
variable{st:aa}{k a b c g n u w m:Nat}{rows:List AV}{S:Sh}{p:Nat}{v:Nat->Nat->Int}
structure Bnd(w m:Nat)(v:Nat->Nat->Int):Prop where
 ex:∃M:Nat,1<=M/\(∀q x,x<w+1->(v q x).natAbs<=M)/\SX.fct (w+1)*M^(w+1)<2^8900
 hw:w<=100
 hm:m<=1000
theorem Bnd.bd(H:Bnd w m v)(I:MI w m v S):Bd w m S:=by
 obtain⟨M,h1,h2,h3⟩:=H.ex;exact I.bound h1 h2 (Nat.lt_trans h3 (Nat.pow_lt_pow_right dC dC))
theorem Bnd.bd8(H:Bnd w m v)(I:MI w m v S):S.d.natAbs<2^8900/\∀i,i<m->∀j,j<w+1->(S.t i j).natAbs<2^8900:=by
 obtain⟨M,h1,h2,h3⟩:=H.ex;exact I.bound h1 h2 h3
def sY(w m:Nat)(v:Nat->Nat->Int)(k b c g n u p:Nat)(S0:Sh)(o:Out):Prop:=∃(S:Sh)(st':aa)(a':Nat)(rows':List AV),Rep st' k a' b c g n u rows' S/\Kept m p S0 S /\
 ((o=.rt (.bl true) st'/\MI w m v { S with gd:=S.gd++[S0.s p] }/\MI w m v { S with nl:=S.nl++[S0.s p] }) \/
  (o=.rt (.bl false) st'/\MI w m v S/\S.s p=S0.s p/\S.t p w<0/\∀j,j<w->S.h j∉S.nl->¬0<S.t p j) \/
  ∃sl,o=.nx sl st'/\MI w m v S/\S.s p=S0.s p/\0<=S0.t p w)
theorem wd(H:Bnd w m v)(R:Rep st k a b c g n u rows S0)(I:MI w m v S0)(hp:p<m)(ng:S0.s p∉S0.gd)(nn:S0.s p∉S0.nl) :
  ∃o,kD (tv [aD,aB,aQ,aH] (.cmp .Lt (.ix (.ix (.fd "Sheet" "lines" (.v 0)) (.v 1)) (.un .USub (.i 1))) (.i 0)))
   (aj [aD,aB,aQ,aH] (.cons (.as (.me "Sheet" "raising_column" 0 (.v 0) (.cons (.v 1) .nil)) (.nm 2))
    (.cons (.iff (.cmp .Is (.v 2) .n) (.cons (.rt (.b false)) .nil) .nil)
    (.cons (.as (.me "Sheet" "tightest_place" 1 (.v 0) (.cons (.v 2) .nil)) (.nm 3))
    (.cons (.iff (.or (.cmp .Is (.v 3) .n) (.va (.me "Sheet" "is_up_first" 2 (.v 0) (.cons (.v 1) (.cons (.v 3) (.cons (.v 2) .nil)))))) (.cons (.ex (.me "Sheet" "exchange" 3 (.v 0) (.cons (.v 1) (.cons (.v 2) .nil)))) (.cons (.rt (.b true)) .nil)) .nil)
    (.cons (.ex (.me "Sheet" "exchange" 3 (.v 0) (.cons (.v 3) (.cons (.v 2) .nil)))) .nil)))))) [Rs k,Is p,x,y] st=some o/\sY w m v k b c g n u p S0 o:=by
 refine rp (α:=Sh) (a0:=S0) (I:=fun S sl s=>(∃a' rows' x y,sl=[Rs k,Is p,x,y]/\Rep s k a' b c g n u rows' S)/\MI w m v S/\Kept m p S0 S/\S.s p=S0.s p/\(S0.t p w<0->S.t p w<0))
  (Q:=fun S T=>MI w m v S/\(∃r q e,SX.Bl w m p (·∈S.gd) (·∈S.nl) r q e (SX.toSt S) (SX.toSt T))/\Kept m p S T) (fun f h0 hf=>SX.no_chain hp f hf (by rw[h0];exact ng)) (fun S sl s hI=>?_) ⟨⟨a,rows,x,y,rfl,R⟩,I,Kept.refl,rfl,id⟩
 obtain⟨⟨a',rows',x,y,rfl,R⟩,I,K,sp,lw⟩:=hI;have B:=H.bd I;have P:=I.shp;have ng':S.s p∉S.gd:=by rw[sp,K.gd];exact ng
 have nn':S.s p∉S.nl:=by rw[sp,K.nl];exact nn
 have ht:tv [aD,aB,aQ,aH] (.cmp .Lt (.ix (.ix (.fd "Sheet" "lines" (.v 0)) (.v 1)) (.un .USub (.i 1))) (.i 0)) [Rs k,Is p,x,y] s=some (decide (S.t p w<0),s):=by
  simp[R.ins,R.line P hp,R.last P hp]
 by_cases low:S.t p w<0
 ·rw[yZ low]at ht
  obtain⟨o,e1,h1⟩:=pP R P H.hw hp;cases o with
  |none =>
   left;refine⟨_,pw (v:=.bl false) (st2:=s) ht ?_,S,s,a',rows',R,K,.inr (.inl ⟨rfl,I,sp,low,h1.1 rfl⟩)⟩;simp[R.ins,e1,oN]
  |some q =>
   obtain⟨q1,_,q3,_⟩:=h1.2 q rfl;obtain⟨o,e2,h2⟩:=rF R P B q1;have d0:S.d≠0:=by have:=I.lin.pos;lia
   have ay:(MC S w q m none\/∃r,MC S w q m (some r)/\S.t p w*S.t r q<=S.t r w*S.t p q)->o=none\/(∃r,o=some r/\S.t p w*S.t r q<=S.t r w*S.t p q)->∃o,cO (tv [aD,aB,aQ,aH] (.cmp .Lt (.ix (.ix (.fd "Sheet" "lines" (.v 0)) (.v 1)) (.un .USub (.i 1))) (.i 0)))
     (aj [aD,aB,aQ,aH] (.cons (.as (.me "Sheet" "raising_column" 0 (.v 0) (.cons (.v 1) .nil)) (.nm 2))
    (.cons (.iff (.cmp .Is (.v 2) .n) (.cons (.rt (.b false)) .nil) .nil)
    (.cons (.as (.me "Sheet" "tightest_place" 1 (.v 0) (.cons (.v 2) .nil)) (.nm 3))
    (.cons (.iff (.or (.cmp .Is (.v 3) .n) (.va (.me "Sheet" "is_up_first" 2 (.v 0) (.cons (.v 1) (.cons (.v 3) (.cons (.v 2) .nil)))))) (.cons (.ex (.me "Sheet" "exchange" 3 (.v 0) (.cons (.v 1) (.cons (.v 2) .nil)))) (.cons (.rt (.b true)) .nil)) .nil)
    (.cons (.ex (.me "Sheet" "exchange" 3 (.v 0) (.cons (.v 3) (.cons (.v 2) .nil)))) .nil)))))) 1 [Rs k,Is p,x,y] s=some o/\sY w m v k b c g n u p S0 o:=fun hT ho=>by
    obtain⟨st',a2,rows2,e3,R2⟩:=mP R P B d0 H.hw H.hm hp q1;obtain⟨m1,m2,m3⟩:=I.up hp ng' nn' low h1 hT;refine⟨_,pw (v:=.bl true) (st2:=st') ht ?_,ME S p q,st',a2,rows2,R2,K.trans m3,.inl ⟨rfl,by rw[<- sp];exact m1,by rw[<- sp];exact m2⟩⟩;rcases ho with rfl|⟨r,rfl,hu⟩
    ·simp[R.ins,e1,oN,e2,e3]
    ·have:=Ah R P B hp (h2.2 r rfl).1 q1
     simp[R.ins,e1,oN,e2,e3,this,eJ,bu,dr,hu]
   cases o with
   |none=>exact .inl (ay (.inl h2) (.inl rfl))
   |some r =>
    by_cases hu:S.t p w*S.t r q<=S.t r w*S.t p q
    ·exact .inl (ay (.inr ⟨r,h2,hu⟩) (.inr ⟨r,rfl,hu⟩))
    ·right
     have r1:=(h2.2 r rfl).1;obtain⟨st',a2,rows2,e3,R2⟩:=mP R P B d0 H.hw H.hm r1 q1;obtain⟨m1,m2,m3,m4⟩:=I.step hp ng' h1 h2;refine⟨ME S r q,[Rs k,Is p,Is q,Is r],st',⟨I,⟨r,q,_,m2⟩,m3⟩,⟨⟨a2,rows2,_,_,rfl,R2⟩,m1,K.trans m3,m4.trans sp,fun _=>I.low hp ng' h1 h2 hu⟩,fun n o h=>nv ht ?_ h⟩
     have:=Ah R P B hp r1 q1
     simp[R.ins,e1,oN,e2,e3,this,eJ,bu,dr,hu]
 ·rw[yD low]at ht
  left;exact⟨_,j6 ht,S,s,a',rows',R,K,.inr (.inr ⟨_,rfl,I,sp,by
   rcases yY (S0.t p w) 0 with z|z
   ·exact absurd (lw z) low
   ·exact z⟩)⟩
end
section
variable{st:aa}{k a b c g n u w m:Nat}{rows:List AV}{S:Sh}{p:Nat}{v:Nat->Nat->Int}
theorem wc(H:Bnd w m v)(R:Rep st k a b c g n u rows S0)(I:MI w m v S0)(hp:p<m)(ng:S0.s p∉S0.gd)(nn:S0.s p∉S0.nl) :
  ∃(S:Sh)(st':aa)(a':Nat)(rows':List AV)(bb:Bool),ce [.ref k,.int p] st=some (.bl bb,st')/\Rep st' k a' b c g n u rows' S/\Kept m p S0 S /\
   ((bb=true/\MI w m v { S with gd:=S.gd++[S0.s p] }/\(S0.t p w<0->MI w m v { S with nl:=S.nl++[S0.s p] })) \/
    (bb=false/\MI w m v S/\S.s p=S0.s p/\S.t p w<0/\∀j,j<w->S.h j∉S.nl->¬0<S.t p j)):=by
 by_cases low:S0.t p w<0
 ·obtain⟨o,e,S,st',a',rows',R',K,h⟩:=wd H R I hp ng nn (x:=none) (y:=none)
  rcases h with⟨rfl,h1,h2⟩|⟨rfl,h1,h2,h3,h4⟩|⟨sl,rfl,h1,h2,h3⟩
  ·refine⟨S,st',a',rows',true,?_,R',K,.inl ⟨rfl,h1,fun _=>h2⟩⟩
   simp[ce,aF,dJ,e]
  ·refine⟨S,st',a',rows',false,?_,R',K,.inr ⟨rfl,h1,h2,h3,h4⟩⟩
   simp[ce,aF,dJ,e]
  ·lia
 ·refine⟨S0,st,a,rows,true,?_,R,Kept.refl,.inl ⟨rfl,I.guard hp oM,fun z=>absurd z low⟩⟩
  have P:=I.shp;rw[ce,aF];unfold dJ;refine ak (sl':=[Rs k,Is p,none,none]) (st':=st) (lZ (n:=1) (j6 (by simp[R.ins,R.line P hp,R.last P hp,low]))) ?_;simp
theorem CH(H:Bnd w m v)(R:Rep st k a b c g n u rows S0)(I:MI w m v S0)(hp:p<m)(ng:S0.s p∉S0.gd) :
  ∃r,bn [.ref k,.int p] st=some r/\∃(S:Sh)(a':Nat)(rows':List AV),Rep r.2 k a' b c g n u rows' S/\Kept m p S0 S/\MI w m v S/\S.s p=S0.s p /\
   ((r.1=.non/\Rais w S p none)\/∃q,r.1=.int ((q:Nat):Int)/\Rais w S p (some q)/\MC S w q m none):=by
 rw[bn];simp only[aF];unfold eS;obtain⟨o,e1,h1⟩:=pP R I.shp H.hw hp;refine ai (sl':=[Rs k,Is p,some (oN o),none]) (st':=st) (by simp[R.ins,e1]) ?_;refine Dv (Post:=fun out=>∃(S:Sh)(a':Nat)(rows':List AV)(st':aa),Rep st' k a' b c g n u rows' S/\Kept m p S0 S/\MI w m v S/\S.s p=S0.s p /\
   ((∃sl,out=.nx sl st'/\Rais w S p none)\/∃q,out=.rt (.int ((q:Nat):Int)) st'/\Rais w S p (some q)/\MC S w q m none))
  (rp (α:=Sh) (a0:=S0) (I:=fun S sl s=>(∃a' rows' x o,sl=[Rs k,Is p,some (oN o),x]/\Rep s k a' b c g n u rows' S/\Rais w S p o)/\MI w m v S/\Kept m p S0 S/\S.s p=S0.s p)
   (Q:=fun S T=>MI w m v S/\(∃r q e,SX.Bl w m p (·∈S.gd) (·∈S.nl) r q e (SX.toSt S) (SX.toSt T))/\Kept m p S T) (fun f h0 hf=>SX.no_chain hp f hf (by rw[h0];exact ng)) (fun S sl s hI=>?_) ⟨⟨a,rows,none,o,rfl,R,h1⟩,I,Kept.refl,rfl⟩) ?_
 ·obtain⟨⟨a',rows',x,o,rfl,R,h1⟩,I,K,sp⟩:=hI
  have B:=H.bd I;have P:=I.shp;have ng':S.s p∉S.gd:=by rw[sp,K.gd];exact ng
  cases o with
  |none =>
   left;exact⟨_,j6 (st':=s) (by simp[oN]),S,a',rows',s,R,K,I,sp,.inl ⟨_,rfl,h1⟩⟩
  |some q =>
   obtain⟨q1,_,q3,_⟩:=h1.2 q rfl;obtain⟨o,e2,h2⟩:=rF R P B q1;cases o with
   |none =>
    left;refine⟨_,pw (v:=.int q) (st':=s) (st2:=s) (by simp[oN]) ?_,S,a',rows',s,R,K,I,sp,.inr ⟨q,rfl,h1,h2⟩⟩;simp[R.ins,oN,e2]
   |some r =>
    right;have d0:S.d≠0:=by have:=I.lin.pos;lia
    have r1:=(h2.2 r rfl).1;obtain⟨st',a2,rows2,e3,R2⟩:=mP R P B d0 H.hw H.hm r1 q1;obtain⟨m1,m2,m3,m4⟩:=I.step hp ng' h1 h2;obtain⟨o,e4,h4⟩:=pP R2 m1.shp H.hw hp;refine⟨ME S r q,[Rs k,Is p,some (oN o),Is r],st',⟨I,⟨r,q,_,m2⟩,m3⟩,⟨⟨a2,rows2,_,o,rfl,R2,h4⟩,m1,K.trans m3,m4.trans sp⟩,fun n o' h=>nv (st':=s) (by simp[oN]) ?_ h⟩;simp[R.ins,oN,e2,e3,R2.ins,e4]
 ·rintro out ⟨S,a',rows',st',R',K,I',sp,⟨sl,rfl,h⟩|⟨q,rfl,h⟩⟩
  ·exact⟨(.non,st'),by simp,S,a',rows',R',K,I',sp,.inl ⟨rfl,h⟩⟩
  ·exact⟨(.int q,st'),by simp,S,a',rows',R',K,I',sp,.inr ⟨q,rfl,h⟩⟩
end
structure Kj(m p:Nat)(S T:Sh):Prop where
 tn:T.tn=S.tn\/T.tn=S.tn++[S.s p]
 si:∀i,i<m->i≠p->S.s i∉S.gd->T.s i=S.s i
section
variable{st:aa}{k a b c g n u w m:Nat}{rows:List AV}{S:Sh}{p:Nat}{v:Nat->Nat->Int}
theorem He(H:Bnd w m v)(R:Rep st k a b c g n u rows S0)(I:MI w m v S0)(hp:p<m)(ng:S0.s p∉S0.gd)(nn:S0.s p∉S0.nl)(hl:S0.gd.length<=1000) :
  ∃(S:Sh)(st':aa)(a':Nat)(rows':List AV)(bb:Bool),bo [.ref k,.int p] st=some (.bl bb,st')/\Rep st' k a' b c g n u rows' S/\Kj m p S0 S/\S.tn=S0.tn/\S.nl=S0.nl/\MI w m v S /\
   ((bb=true/\S.gd=S0.gd++[S0.s p])\/(bb=false/\S.gd=S0.gd/\S.s p=S0.s p/\S.t p w<0/\∀j,j<w->S.h j∉S.nl->¬0<S.t p j)):=by
 have P:=I.shp;obtain⟨S,st1,a1,rows1,bb,e1,R1,K,h⟩:=wc H R I hp ng nn;rcases h with⟨rfl,h1,_⟩|⟨rfl,h1,h2⟩
 ·obtain⟨st2,e2,R2⟩:=sH (q:=S0.s p) R1 (by rw[K.gd];exact hl)
  have ei:ins S.gd (S0.s p)=S.gd++[S0.s p]:=yK (by rw[K.gd];exact ng);rw[ei]at R2;refine⟨{ S with gd:=S.gd++[S0.s p] },st2,a1,rows1,true,?_,R2,⟨.inl K.tn,K.si⟩,K.tn,K.nl,h1,.inl ⟨rfl,by rw[K.gd]⟩⟩;simp[bo,aF,dR,R.ins,R.side P hp,e1,eJ,bu,dr,R1.ins,e2]
 ·refine⟨S,st1,a1,rows1,false,?_,R1,⟨.inl K.tn,K.si⟩,K.tn,K.nl,h1,.inr ⟨rfl,K.gd,h2⟩⟩
  simp[bo,aF,dR,R.ins,R.side P hp,e1,eJ,bu,dr]
theorem Hf(H:Bnd w m v)(R:Rep st k a b c g n u rows S0)(I:MI w m v S0)(hp:p<m)(ng:S0.s p∉S0.gd)(nn:S0.s p∉S0.nl)(nt:S0.s p∉S0.tn)(hl:S0.nl.length<=1000)(hl2:S0.tn.length<=1000) :
  ∃(S:Sh)(st':aa)(a':Nat)(rows':List AV)(bb:Bool),bZ [.ref k,.int p] st=some (.bl bb,st')/\Rep st' k a' b c g n u rows' S/\Kj m p S0 S/\S.gd=S0.gd/\MI w m v S /\
   ((bb=true/\S.nl=S0.nl++[S0.s p])\/(bb=false/\S.nl=S0.nl/\S.s p=S0.s p/\S.t p w<0/\∀j,j<w->S.h j∉S.nl->¬0<S.t p j)):=by
 have P:=I.shp
 -- turned about,if need be
 have s1:∃(S1:Sh)(st1:aa)(rows1:List AV),cA [cg,ce,bB,aH,dj] (.iff (.cmp .Gt (.ix (.ix (.fd "Sheet" "lines" (.v 0)) (.v 1)) (.un .USub (.i 1))) (.i 0)) (.cons (.ex (.me "Sheet" "turn_line" 0 (.v 0) (.cons (.v 1) .nil))) .nil) .nil) [Rs k,Is p,Is (S0.s p:Int),none] st=some (.nx [Rs k,Is p,Is (S0.s p:Int),none] st1) /\
   Rep st1 k a b c g n u rows1 S1/\MI w m v S1/\S1.gd=S0.gd/\S1.nl=S0.nl/\(S1.tn=S0.tn\/S1.tn=S0.tn++[S0.s p])/\S1.sd=S0.sd/\S1.t p w<=0:=by
  by_cases h:0<S0.t p w
  ·obtain⟨st1,rows1,e1,R1⟩:=C2 R P H.hw hp hl2
   refine⟨SX.trn S0 p,st1,rows1,?_,R1,I.turn hp ng nn nt,rfl,rfl,.inr (yK nt),rfl,?_⟩
   ·simp[R.ins,R.line P hp,R.last P hp,h,e1]
   ·rw[(SX.trn_t P hp).1 w oM];lia
  ·refine⟨S0,st,rows,?_,R,I,rfl,rfl,.inl rfl,rfl,by lia⟩
   simp[R.ins,R.line P hp,R.last P hp,h]
 obtain⟨S1,st1,rows1,e1,R1,I1,g1,n1,t1,d1,low1⟩:=s1;have ss:∀i,S1.s i=S0.s i:=fun i=>by show S1.sd.getD i 0=S0.sd.getD i 0;rw[d1]
 have P1:=I1.shp;have nn1:S1.s p∉S1.nl:=by rw[ss,n1];exact nn
 have ng1:S1.s p∉S1.gd:=by rw[ss,g1];exact ng
 have kj:∀T:Sh,Kept m p S1 T->Kj m p S0 T:=fun T K=>⟨by rw[K.tn];exact t1,fun i hi ne h=>by rw[K.si i hi ne (by rw[ss,g1];exact h),ss]⟩
 have hd:∀{r:AV×aa},(aj [cg,ce,bB,aH,dj] (.cons (.iff (.cmp .Lt (.ix (.ix (.fd "Sheet" "lines" (.v 0)) (.v 1)) (.un .USub (.i 1))) (.i 0)) (.cons (.iff (.no (.va (.me "Sheet" "lift" 1 (.v 0) (.cons (.v 1) .nil)))) (.cons (.rt (.b false)) .nil) .nil) .nil)
   (.cons (.as (.me "Sheet" "moving_column" 2 (.v 0) (.cons (.v 1) .nil)) (.nm 3)) (.cons (.iff (.cmp .IsNot (.v 3) .n) (.cons (.ex (.me "Sheet" "exchange" 3 (.v 0) (.cons (.v 1) (.cons (.v 3) .nil)))) .nil) .nil) .nil)))
   (.cons (.ex (.me "Sheet" "nail" 4 (.v 0) (.cons (.v 2) .nil))) (.cons (.rt (.b true)) .nil))) [Rs k,Is p,Is (S0.s p:Int),none] st1).bind ay=some r->bZ [.ref k,.int p] st=some r:=fun h=>by
  rw[bZ,aF];unfold iK;exact ak (sl':=[Rs k,Is p,Is (S0.s p:Int),none]) (st':=st) (by simp[R.ins,R.side P hp]) (ak e1 h)
 by_cases low:S1.t p w<0
 ·obtain⟨S,st2,a2,rows2,bb,e2,R2,K,h⟩:=wc H R1 I1 hp ng1 nn1
  rcases h with⟨rfl,h1,h2⟩|⟨rfl,h1,h2⟩
  ·obtain⟨st3,e3,R3⟩:=pV (q:=S0.s p) R2 (by rw[K.nl,n1];exact hl)
   have ei:ins S.nl (S0.s p)=S.nl++[S0.s p]:=yK (by rw[K.nl,n1];exact nn);rw[ei]at R3;have h2:=h2 low;rw[ss]at h2;refine⟨{ S with nl:=S.nl++[S0.s p] },st3,a2,rows2,true,hd ?_,R3,⟨(kj S K).tn,(kj S K).si⟩,K.gd.trans g1,h2,.inl ⟨rfl,by rw[K.nl,n1]⟩⟩;simp[R1.ins,R1.line P1 hp,R1.last P1 hp,low,e2,eJ,bu,dr,R2.ins,e3]
  ·refine⟨S,st2,a2,rows2,false,hd ?_,R2,kj S K,K.gd.trans g1,h1,.inr ⟨rfl,K.nl.trans n1,h2.1.trans (ss p),h2.2⟩⟩
   simp[R1.ins,R1.line P1 hp,R1.last P1 hp,low,e2,eJ,bu,dr]
 ·have z0:S1.t p w=0:=by lia
  obtain⟨o,e2,h1,h2⟩:=G2 R1 P1 H.hw hp;cases o with
  |none =>
   obtain⟨st3,e3,R3⟩:=pV (q:=S0.s p) R1 (by rw[n1];exact hl);have ei:ins S1.nl (S0.s p)=S1.nl++[S0.s p]:=yK (by rw[n1];exact nn);rw[ei]at R3;have m1:=I1.nail hp z0 (h1 rfl);rw[ss]at m1;refine⟨{ S1 with nl:=S1.nl++[S0.s p] },st3,a,rows1,true,hd ?_,R3,⟨(kj S1 Kept.refl).tn,(kj S1 Kept.refl).si⟩,g1,m1,.inl ⟨rfl,by rw[n1]⟩⟩;simp[R1.ins,R1.line P1 hp,R1.last P1 hp,z0,e2,oN,e3]
  |some q =>
   obtain⟨q1,q2,q3⟩:=h2 q rfl;have d0:S1.d≠0:=by have:=I1.lin.pos;lia
   obtain⟨st2,a2,rows2,e4,R2⟩:=mP R1 P1 (H.bd I1) d0 H.hw H.hm hp q1;obtain⟨st3,e3,R3⟩:=pV (q:=S0.s p) R2 (by show S1.nl.length<=1000;rw[n1];exact hl);have ei:ins (ME S1 p q).nl (S0.s p)=S1.nl++[S0.s p]:=yK (by show S0.s p∉S1.nl;rw[n1];exact nn);rw[ei]at R3;obtain⟨m1,K⟩:=I1.move hp q1 q2 z0 q3;rw[ss]at m1;refine⟨{ ME S1 p q with nl:=S1.nl++[S0.s p] },st3,a2,rows2,true,hd ?_,R3,⟨(kj _ K).tn,(kj _ K).si⟩,g1,m1,.inl ⟨rfl,by rw[n1]⟩⟩;simp[R1.ins,R1.line P1 hp,R1.last P1 hp,z0,e2,oN,e4,R2.ins,e3]
end
open SX (openS)
structure Gv where
 row:List Int
 eq:Bool
 num:Int
def Gv.av(x:Gv):AV:=.tup [.fz (iL x.row),.str (if x.eq then "=" else ">"),.int x.num]
def ag(RR:List (List Int))(gv:List Gv)(goal:List Int):List (List Int):=RR.map (·++[0])++gv.map (fun x=>x.row++[-x.num])++[goal.map (fun x=>- x)++[0]]
section
variable{w:Nat}{L RR:List (List Int)}{gv:List Gv}{goal:List Int}
abbrev oG:List (Str×AV):=[("below",.int 1)]
abbrev FN:List (Str×AV):=[("below",.int 1),("lines",.ref 2)]
abbrev FM:List (Str×AV):=[("below",.int 1),("lines",.ref 2),("heads",.ref 3)]
abbrev FK:List (Str×AV):=[("below",.int 1),("lines",.ref 2),("heads",.ref 3),("sides",.ref 4)]
abbrev FJ:List (Str×AV):=[("below",.int 1),("lines",.ref 2),("heads",.ref 3),("sides",.ref 4),("guarded",.ref 5)]
abbrev FI:List (Str×AV):=[("below",.int 1),("lines",.ref 2),("heads",.ref 3),("sides",.ref 4),("guarded",.ref 5),("nailed",.ref 6)]
abbrev KA(w:Nat)(L:List (List Int)):aa:=[.lst (aw L),.ins "Sheet" (cD 1 2 3 4 5 6 7),.lst (aw L),.lst (nL (List.range w)),.lst (nL ((List.range L.length).map (w+·))),.dK [],.dK [],.dK []]
theorem Fi(hw:w<=100)(hL:L.length<=400):aA [.ref 1,.int w,.ref 0] [.lst (aw L),.ins "Sheet" []]=some (.non,[.lst (aw L),.ins "Sheet" (cD 1 2 3 4 5 6 7),.lst (aw L),.lst (nL (List.range w)),.lst (nL ((List.range L.length).map (w+·))),.dK [],.dK [],.dK []]):=by
 have sm:oq (w:Int)=true:=by unfold oq;simp;lia
 have sm2:oq ((w:Int)+(L.length:Int))=true:=by unfold oq;simp;lia
 have l0:∀X:aa,bu (.lst (aw L)::X) (.ref 0)=some (aw L):=fun X=>bv rfl
 rw[aA,aF];unfold eT;refine ak (st':=[.lst (aw L),.ins "Sheet" oG]) (gB (v:=.int 1) (st':=[.lst (aw L),.ins "Sheet" []]) (k:=1) (fs:=[]) rfl rfl rfl rfl) ?_;refine ak (st':=[.lst (aw L),.ins "Sheet" FN,.lst (aw L)]) (gB (v:=.ref 2) (st':=[.lst (aw L),.ins "Sheet" oG,.lst (aw L)]) (k:=1) (fs:=oG) ?_ rfl rfl rfl) ?_
 ·have e:=um (gd:=[(0,.lst (aw L))]) (g:=bH [] (.nm 3)) (t:=iu [] .no) (f:=ev [] (.nw false (.lof (.v 3)))) (sl:=[Rs 1,Is w,Rs 0,none]) (st:=[.lst (aw L),.ins "Sheet" oG]) (em:=fun l=>.fz (iL l)) (F:=fun l=>l) (xs:=L) (fP rfl) fun l hl=>⟨_,rfl,rfl,by simp[nQ]⟩
  rw [List.map_id'] at e;have e':f8 [(0,.lst (aw L))] (bH [] (.nm 3)) (iu [] .no) (ev [] (.nw false (.lof (.v 3)))) [Rs 1,Is w,Rs 0,none] (aw L) [.lst (aw L),.ins "Sheet" oG]=some (aw L,[.lst (aw L),.ins "Sheet" oG]):=e;have i0:mw [.lst (aw L),.ins "Sheet" oG] (.ref 0)=some ⟨aw L,[(0,.lst (aw L))]⟩:=nT rfl;show ev [] (.nw true (.lc 1 (.e (.v 2)) (.nm 3) .no (.nw false (.lof (.v 3))))) [Rs 1,Is w,Rs 0] [.lst (aw L),.ins "Sheet" oG]=_;simp [-aw,i0,bL (show L.length <= 1000 by lia),e']
 refine ak (st':=[.lst (aw L),.ins "Sheet" FM,.lst (aw L),.lst (nL (List.range w))]) (gB (v:=.ref 3) (st':=[.lst (aw L),.ins "Sheet" FN,.lst (aw L),.lst (nL (List.range w))]) (k:=1) (fs:=FN) ?_ rfl rfl rfl) ?_
 ·simp[uc,sm,ma]
 refine ak (st':=[.lst (aw L),.ins "Sheet" FK,.lst (aw L),.lst (nL (List.range w)),.lst (nL ((List.range L.length).map (w+·)))]) (gB (v:=.ref 4) (st':=[.lst (aw L),.ins "Sheet" FM,.lst (aw L),.lst (nL (List.range w)),.lst (nL ((List.range L.length).map (w+·)))]) (k:=1) (fs:=FM) ?_ rfl rfl rfl) ?_
 ·simp[t9,sm,sm2,bW,d4,l0]
  have e:((w:Int)+(L.length:Int)).toNat-w=L.length:=by lia
  rw[e,Gx,yL oM];simp
 refine ak (st':=[.lst (aw L),.ins "Sheet" FJ,.lst (aw L),.lst (nL (List.range w)),.lst (nL ((List.range L.length).map (w+·))),.dK []]) (gB (v:=.ref 5) (st':=[.lst (aw L),.ins "Sheet" FK,.lst (aw L),.lst (nL (List.range w)),.lst (nL ((List.range L.length).map (w+·))),.dK []]) (k:=1) (fs:=FK) rfl rfl rfl rfl) ?_;refine ak (st':=[.lst (aw L),.ins "Sheet" FI,.lst (aw L),.lst (nL (List.range w)),.lst (nL ((List.range L.length).map (w+·))),.dK [],.dK []]) (gB (v:=.ref 6) (st':=[.lst (aw L),.ins "Sheet" FJ,.lst (aw L),.lst (nL (List.range w)),.lst (nL ((List.range L.length).map (w+·))),.dK [],.dK []]) (k:=1) (fs:=FJ) rfl rfl rfl rfl) ?_;refine ak (st':=[.lst (aw L),.ins "Sheet" (cD 1 2 3 4 5 6 7),.lst (aw L),.lst (nL (List.range w)),.lst (nL ((List.range L.length).map (w+·))),.dK [],.dK [],.dK []]) (gB (v:=.ref 7) (st':=[.lst (aw L),.ins "Sheet" FI,.lst (aw L),.lst (nL (List.range w)),.lst (nL ((List.range L.length).map (w+·))),.dK [],.dK [],.dK []]) (k:=1) (fs:=FI) rfl rfl rfl rfl) ?_;rfl
theorem Hw{k:Nat}(h1:ev ks a sl st=some (.ref k,st))(h2:ev ks e sl st=some (y,st))(h3:st[k]?=some (.lst xs))(h4:bu st y=some ys)(hl:xs.length+ys.length<=1000):ev ks (.mt .ext a (.cons e .nil)) sl st=some (.non,st.set k (.lst (xs++ys))):=by
 simp[k9,p7,p6,h1,pD,bv h3,h2,uj,gF,h3,h4,bL hl]
theorem AT{k:Nat}(h1:ev ks a sl st=some (.ref k,st))(h2:ev ks e sl st=some (y,st))(h3:st[k]?=some (.lst xs))(hl:xs.length<=1000):ev ks (.mt .app a (.cons e .nil)) sl st=some (.non,st.set k (.lst (xs++[y]))):=by
 simp[k9,p7,p6,h1,pD,bv h3,h2,qa,gF,h3,bL hl]
theorem EE{n:Int}(HR:∀st,pm aN [.int n] st=some (.fz (aw RR),st))(HA:∀st,pm ah [.int n] st=some (.int w,st))(hw:w<=15)(hR:RR.length<=100)(hr:∀l∈RR,l.length=w)(hg:gv.length<=100)(hgr:∀x∈gv,x.row.length=w)(hgo:goal.length=w) :
  ∃st',bA [.int n,.fz (gv.map Gv.av),.fz (iL goal)] []=some (.ref 1,st')/\Rep st' 1 2 3 4 5 6 7 (aw (ag RR gv goal)) (openS w (ag RR gv goal) (w+RR.length)):=by
 have hL:(ag RR gv goal).length=RR.length+gv.length+1:=by simp[ag];lia
 -- the loop that guards
 have R0:Rep [.lst (aw (ag RR gv goal)),.ins "Sheet" (cD 1 2 3 4 5 6 7),.lst (aw (ag RR gv goal)),.lst (nL (List.range w)),.lst (nL ((List.range (ag RR gv goal).length).map (w+·))),.dK [],.dK [],.dK []] 1 2 3 4 5 6 7 (aw (ag RR gv goal)) (openS w (ag RR gv goal) 0):=by
  refine⟨rfl,rfl,rfl,rfl,rfl,rfl,rfl,by simp[openS],fun i x h=>.inl ?_,by decide,by decide,by decide,by decide,by decide,by decide,fun i r h=>?_⟩
  ·unfold aw at h
   rw[zU]at h;obtain⟨l,h1,rfl⟩:=zH.mp h;show _=AV.fz (iL ((ag RR gv goal).getD i []));rw[zF,h1];rfl
  ·unfold aw at h
   rw[zU]at h;obtain⟨l,h1,h2⟩:=zH.mp h;cases h2
 obtain⟨sl',st',e,x,rfl,R'⟩:=dQ (gd:=[]) (g:=bH [aN,ah,aA,aL] (.nm 6)) (s:=aj [aN,ah,aA,aL] (.cons (.ex (.me "Sheet" "guard" 3 (.v 5) (.cons (.v 6) .nil))) .nil))
  (I:=fun i sl s=>∃x,sl=[Is n,Zs (gv.map Gv.av),Ls goal,Rs 0,Is ((w:Int)+(RR.length:Int)),Rs 1,x]/\Rep s 1 2 3 4 5 6 7 (aw (ag RR gv goal)) (openS w (ag RR gv goal) i)) (xs:=cF 0 (w+RR.length)) (fun _ _ _ _ _=>rfl)
  (fun i y sl s hy hI=>by
   obtain⟨x,rfl,R⟩:=hI;rw[ma]at hy;have hi:i<w+RR.length:=by have:=(zD.mp hy).1;simpa using this
   have ey:y=.int ((i:Nat):Int):=by
    rw[fL (by simpa using hi)]at hy;injection hy with hy;rw[<- hy];simp[zF,hi]
   subst ey;obtain⟨s',e1,R1⟩:=sH (q:=i) R (by simp[openS];lia);refine⟨_,[Is n,Zs (gv.map Gv.av),Ls goal,Rs 0,Is ((w:Int)+(RR.length:Int)),Rs 1,Is ((i:Nat):Int)],s',rfl,?_,_,rfl,?_⟩
   ·simp[R.ins,e1]
   ·have:ins (List.range i) i=List.range (i+1):=by unfold ins;rw[yK (by simp),List.range_succ]
    have h2:{ openS w (ag RR gv goal) i with gd:=ins (openS w (ag RR gv goal) i).gd i }=openS w (ag RR gv goal) (i+1):=by show Sh.mk _ _ _ _ (ins (List.range i) i) _ _=_;rw[this];rfl
    rw[h2]at R1;exact R1) (sl:=[Is n,Zs (gv.map Gv.av),Ls goal,Rs 0,Is ((w:Int)+(RR.length:Int)),Rs 1,none]) (st:=_) ⟨none,rfl,R0⟩
 have ll:(cF 0 (w+RR.length)).length=w+RR.length:=by rw[ma];simp
 rw[ll]at R';refine⟨st',?_,R'⟩;rw[bA,aF];unfold fy;refine ak (sl':=[Is n,Zs (gv.map Gv.av),Ls goal,Rs 0,none,none,none]) (st':=[.lst (aw (RR.map (·++[0])))]) ?_ ?_
 ·have lc:=um (gd:=[]) (g:=bH [aN,ah,aA,aL] (.nm 7)) (t:=iu [aN,ah,aA,aL] .no) (f:=ev [aN,ah,aA,aL] (.nw false (.cat (.v 7) (.nw false (.li (.cons (.i 0) .nil))))))
   (sl:=[Is n,Zs (gv.map Gv.av),Ls goal,none,none,none,none,none]) (st:=[]) (em:=fun l=>.fz (iL l)) (F:=fun l=>l++[0]) (xs:=RR) rfl fun l hl=>⟨_,rfl,rfl,by
    rw[je,i7 (l:=l) (l':=[0]) (s1:=[]) (s2:=[]) (y:=.fz (iL [0])) rfl (by simp[b8,iL]) rfl rfl (by rw[hr l hl];simp;lia)];simp⟩
  have lc':f8 [] (bH [aN,ah,aA,aL] (.nm 7)) (iu [aN,ah,aA,aL] .no) (ev [aN,ah,aA,aL] (.nw false (.cat (.v 7) (.nw false (.li (.cons (.i 0) .nil)))))) [Is n,Zs (gv.map Gv.av),Ls goal,none,none,none,none,none] (aw RR) []=some (aw (RR.map (·++[0])),[]):=lc;simp [HR,bL (show RR.length <= 1000 by lia),lc']
 have l0:∀(x:List AV)(X:aa),bu (.lst x::X) (.ref 0)=some x:=fun x X=>bv rfl
 refine ak (sl':=[Is n,Zs (gv.map Gv.av),Ls goal,Rs 0,Is ((w:Int)+(RR.length:Int)),none,none]) (st':=[.lst (aw (RR.map (·++[0])))]) (by simp[HA,bW,d4,l0]) ?_;refine ak (sl':=[Is n,Zs (gv.map Gv.av),Ls goal,Rs 0,Is ((w:Int)+(RR.length:Int)),none,none]) (st':=[.lst (aw (RR.map (·++[0]))++aw (gv.map fun x=>x.row++[-x.num]))]) ?_ ?_
 ·rw[xI,Hw (k:=0) (xs:=aw (RR.map (·++[0]))) (ys:=aw (gv.map fun x=>x.row++[-x.num])) (y:=.fz (aw (gv.map fun x=>x.row++[-x.num]))) rfl ?_ rfl rfl (by simp;lia)]
  ·rfl
  ·have lc:=um (gd:=[]) (g:=bH [aN,ah,aA,aL] (.tu 3 (.cons (.nm 7) (.cons (.nm 8) (.cons (.nm 9) .nil))))) (t:=iu [aN,ah,aA,aL] .no) (f:=ev [aN,ah,aA,aL] (.nw false (.cat (.nw false (.lof (.v 7))) (.nw false (.li (.cons (.un .USub (.v 9)) .nil))))))
    (sl:=[Is n,Zs (gv.map Gv.av),Ls goal,Rs 0,Is ((w:Int)+(RR.length:Int)),none,none,none,none,none]) (st:=[.lst (aw (RR.map (·++[0])))]) (em:=Gv.av) (F:=fun x=>x.row++[-x.num]) (xs:=gv) rfl fun x hx=>⟨_,rfl,rfl,by
     rw[je,i7 (l:=x.row) (l':=[-x.num]) (s1:=[.lst (aw (RR.map (·++[0])))]) (s2:=[.lst (aw (RR.map (·++[0])))]) (x:=.fz (iL x.row)) (y:=.fz (iL [-x.num])) (by simp[nQ]) (by simp[b8,iL]) rfl rfl (by rw[hgr x hx];simp;lia)];simp⟩
   simp [bL (show gv.length <= 1000 by lia),lc]
 refine ak (sl':=[Is n,Zs (gv.map Gv.av),Ls goal,Rs 0,Is ((w:Int)+(RR.length:Int)),none,none]) (st':=[.lst (aw (ag RR gv goal))]) ?_ ?_
 ·rw[xI,AT (k:=0) (xs:=aw (RR.map (·++[0]))++aw (gv.map fun x=>x.row++[-x.num])) (y:=.fz (iL (goal.map (fun x=>- x)++[0]))) rfl ?_ rfl (by simp;lia)]
  ·rw[bind_some]
   have:aw (RR.map (·++[0]))++aw (gv.map fun x=>x.row++[-x.num])++[AV.fz (iL (goal.map (fun x=>- x)++[0]))]=aw (ag RR gv goal):=by
    simp[ag,aw]
   show some (Out.nx _ [.lst (_++[_])])=_;rw[this]
  ·rw[je,i7 (l:=goal.map fun x=>- x) (l':=[0]) (s1:=[.lst (aw (RR.map (·++[0]))++aw (gv.map fun x=>x.row++[-x.num]))]) (s2:=[.lst (aw (RR.map (·++[0]))++aw (gv.map fun x=>x.row++[-x.num]))]) (x:=.fz (iL (goal.map fun x=>- x))) (y:=.fz (iL [0])) ?_ (by simp[b8,iL]) rfl rfl (by simp[hgo];lia)]
   ·simp
   ·simp [bL (show goal.length <= 1000 by lia)]
    rw[jk (F:=fun x=>- x) fb fun x hx=>⟨_,rfl,rfl,by simp⟩];simp
 refine ak (sl':=[Is n,Zs (gv.map Gv.av),Ls goal,Rs 0,Is ((w:Int)+(RR.length:Int)),Rs 1,none]) (st':=KA w (ag RR gv goal)) ?_ ?_
 ·have:=Fi (w:=w) (L:=ag RR gv goal) oM oM
  simp[wT,HA,this]
 ·refine ak (sl':=[Is n,Zs (gv.map Gv.av),Ls goal,Rs 0,Is ((w:Int)+(RR.length:Int)),Rs 1,x]) (st':=st') ?_ (by simp)
  have rb:eM ((w:Int)+(RR.length:Int))=true:=by
   unfold eM;refine yO ?_;have:((w:Int)+(RR.length:Int)).natAbs=w+RR.length:=by lia
   rw[this];by_cases h0:w+RR.length=0
   ·rw[h0];decide
   ·exact xD ((Nat.log2_lt h0).mpr oM)
  simp[ww,rb];rw[show((w:Int)+(RR.length:Int)).toNat=w+RR.length by lia];exact e
end
noncomputable def gL(l:List Int):Nat:=l.foldl (fun g x=>Nat.gcd g x.natAbs) 0
def aG(l:List Int):List Int:=if gL l=0 then l else l.map fun x=>x/(gL l:Int)
theorem zj{d o:Nat}:Nat.gcd o (d%o)=Nat.gcd d o:=by rw[Nat.gcd_comm,<- Nat.gcd_rec,Nat.gcd_comm]
theorem KZ:∀(o d:Nat)(y:Option AV),∃y',cA [] (.wh (.cmp .NotEq (.v 3) (.i 0)) (.cons (.as (.bin .Mod (.v 1) (.v 3)) (.nm 4)) (.cons (.as (.v 3) (.nm 1)) (.cons (.as (.v 4) (.nm 3)) .nil)))) [l,Is d,x,Is o,y] st=some (.nx [l,Is (Nat.gcd d o:Nat),x,Is 0,y'] st):=by
 intro o
 induction o using Nat.strongRecOn with
 |_ o ih =>
  intro d y;by_cases h:o=0
  ·subst h
   refine⟨y,?_⟩;rw[Nat.gcd_zero_right];exact lZ (n:=1) (j6 (by simp))
  ·obtain⟨y',e⟩:=ih (d%o) (Nat.mod_lt _ oM) o (some (.int ((d%o:Nat):Int)))
   obtain⟨n,e'⟩:=vT e;refine⟨y',?_⟩;rw[zj]at e';refine lZ (n:=n+1) (nv (st':=st) (by simp;lia) ?_ e');have h0:(o:Int)≠0:=by lia
   have hm:oF (d:Int) (o:Int)=((d%o:Nat):Int):=by unfold oF;rw[yL oM];simp
   simp[gG h0,hm]
theorem wC:gL (a++b)=b.foldl (fun g x=>Nat.gcd g x.natAbs) (gL a):=by unfold gL;rw[List.foldl_append]
theorem qB:∀b:List Int,b.foldl (fun g x=>Nat.gcd g x.natAbs) 1=1
 |[]=>rfl
 |x::b=>by rw[List.foldl_cons,Nat.gcd_one_left];exact qB b
theorem J5:∃r,cm [.fz (iL l)] st=some (r,st)/\r=.int (gL l:Int):=by
 have hl:=nW (gd:=[]) (g:=bH [] (.nm 2)) (s:=aj [] (.cons (.as (.bi .abs (.cons (.v 2) .nil)) (.nm 3)) (.cons (.wh (.cmp .NotEq (.v 3) (.i 0)) (.cons (.as (.bin .Mod (.v 1) (.v 3)) (.nm 4)) (.cons (.as (.v 3) (.nm 1)) (.cons (.as (.v 4) (.nm 3)) .nil)))) (.cons (.iff (.cmp .Eq (.v 1) (.i 1)) (.cons (.rt (.i 1)) .nil) .nil) .nil))))
  (I:=fun i sl s=>s=st/\∃x y z,sl=[Ls l,Is (gL (l.take i):Nat),x,y,z]) (Post:=fun v s=>s=st/\v=.int (gL l:Nat)) (xs:=iL l) (fun _ _ _ _ _=>rfl)
  (fun i x sl s hx hI=>by
   obtain⟨rfl,x1,x2,x3,rfl⟩:=hI;have hi:i<l.length:=by have:=(zD.mp hx).1;simpa using this
   rw[bK hi]at hx;injection hx with hx;subst hx;have ht:l.take (i+1)=l.take i++[gI l i]:=by
    rw[List.take_succ,zI hi];unfold gI;rw[zF,zI hi];rfl
   have hg:gL (l.take (i+1))=Nat.gcd (gL (l.take i)) (gI l i).natAbs:=by rw[ht,wC];rfl
   obtain⟨y',e⟩:=KZ (l:=some (.fz (iL l))) (x:=some (.int (gI l i))) (st:=s) (gI l i).natAbs (gL (l.take i)) x3;rw[<- hg]at e;have ea:qT s [.int (gI l i)]=some (.int ((gI l i).natAbs:Nat)):=by
    show some (AV.int (if gI l i<0 then-gI l i else gI l i))=_;congr 2;split<;>lia
   have st1:cA [] (.as (.bi .abs (.cons (.v 2) .nil)) (.nm 3)) [Ls l,Is (gL (l.take i):Nat),Is (gI l i),x2,x3] s=some (.nx [Ls l,Is (gL (l.take i):Nat),Is (gI l i),Is ((gI l i).natAbs:Nat),x3] s):=by
    simp[bW,ea]
   by_cases h1:gL (l.take (i+1))=1
   ·refine⟨_,.rt (.int 1) s,rfl,au st1 (au e ?_),.inr ⟨_,s,rfl,rfl,?_⟩⟩
    ·simp[h1]
    ·have:gL l=1:=by
      have:l=l.take (i+1)++l.drop (i+1):=(List.take_append_drop _ _).symm;rw[this,wC,h1,qB]
     rw[this];rfl
   ·refine⟨_,.nx [Ls l,Is (gL (l.take (i+1)):Nat),Is (gI l i),Is 0,y'] s,rfl,au st1 (au e ?_),.inl ⟨_,s,rfl,rfl,_,_,_,rfl⟩⟩
    have:¬((gL (l.take (i+1)):Nat):Int)=1:=by lia
    simp[this]) (sl:=[Ls l,Is 0,none,none,none]) (st:=st) ⟨rfl,none,none,none,rfl⟩
 rcases hl with⟨sl',st',e,rfl,x,y,z,rfl⟩|⟨v,st',e,rfl,rfl⟩
 ·refine⟨_,?_,rfl⟩
  rw[f9,List.take_length]at e;simp[cm,aF,dw,e]
 ·refine⟨_,?_,rfl⟩
  simp[cm,aF,dw,e]
theorem Fp:∀x∈l,gL l ∣ x.natAbs:=by
 have go:∀(b:List Int)(g:Nat),(b.foldl (fun g x=>Nat.gcd g x.natAbs) g) ∣ g/\∀x∈b,(b.foldl (fun g x=>Nat.gcd g x.natAbs) g) ∣ x.natAbs:=fun b=>by
  induction b with
  |nil=>intro g;exact⟨Nat.dvd_refl g,fun x hx=>by cases hx⟩
  |cons y b ih =>
   intro g;obtain⟨h1,h2⟩:=ih (Nat.gcd g y.natAbs);refine⟨Nat.dvd_trans h1 (Nat.gcd_dvd_left _ _),fun x hx=>?_⟩;rcases zW.mp hx with rfl|hx
   ·exact Nat.dvd_trans h1 (Nat.gcd_dvd_right _ _)
   ·exact h2 x hx
 exact(go l 0).2
theorem Hq{B:Nat}(hB:0<B)(h:∀x∈l,x.natAbs<B):gL l<B:=by
 by_cases hz:∃x∈l,x≠0
 ·obtain⟨x,hx,h0⟩:=hz
  exact yP (Nat.le_of_dvd oM (Fp x hx)) (h x hx)
 ·have:∀(b:List Int),(∀x∈b,x=0)->b.foldl (fun g x=>Nat.gcd g x.natAbs) 0=0:=fun b=>by
   induction b with
   |nil=>intro _;rfl
   |cons y b ih=>intro hb;rw[List.foldl_cons,hb y yB];exact ih fun x hx=>hb x (zT _ hx)
  have e:gL l=0:=this l fun x hx=>Classical.byContradiction fun z=>hz ⟨x,hx,z⟩
  lia
theorem o9(hl:l.length<=1000)(hb:∀x∈l,x.natAbs<2^9000):af [.fz (iL l)] []=some (.fz (iL (aG l)),[]):=by
 obtain⟨r,e,rfl⟩:=J5 (l:=l) (st:=[]);have ep:∀st,pm cm [.fz (iL l)] st=some (.int (gL l:Int),st):=fun st=>dP rfl e rfl
 unfold aG;by_cases h:gL l=0
 ·rw[yL h]
  simp[af,aF,cY,ep,h,nQ]
 ·rw[yK h]
  have h':¬((gL l:Nat):Int)=0:=by lia
  have dv:dB ((gL l:Nat):Int)=true:=wI h' (by rw[Int.natAbs_natCast];exact Hq (Nat.two_pow_pos _) hb);simp[af,aF,cY,ep,h,bL hl];rw[jk (F:=fun x=>x/(gL l:Int)) fb fun x hx=>⟨_,rfl,rfl,by
   simp[kx dv];unfold sK;rw[yL oM]⟩]
  simp
theorem qb(hl:l.length<=1000)(hb:∀x∈l,x.natAbs<2^9000):pm af [.fz (iL l)] st=some (.fz (iL (aG l)),st):=dP rfl (o9 hl hb) rfl
theorem lG:(aG l).length=l.length:=by unfold aG;split<;>simp
theorem Fz{a b:Int}(ha:a.natAbs<2^9000)(hb:b.natAbs<2^9000):pm cE [.int a,.int b] st=some (.tup [.int (gI (aG [a,b]) 0),.int (gI (aG [a,b]) 1)],st):=by
 have e:=qb (l:=[a,b]) (st:=[]) (by simp) (fun x hx=>by simp at hx;rcases hx with rfl|rfl<;>assumption);have h2:(aG [a,b]).length=2:=lG;have x0:bN [] (.fz (iL (aG [a,b]))) (.int 0)=some (.int (gI (aG [a,b]) 0)):=by
  have:=cz (st:=[]) (x:=.fz (iL (aG [a,b]))) (i:=((0:Nat):Int)) fj;rw[ci,bK oM]at this;exact this
 have x1:bN [] (.fz (iL (aG [a,b]))) (.int 1)=some (.int (gI (aG [a,b]) 1)):=by
  have:=cz (st:=[]) (x:=.fz (iL (aG [a,b]))) (i:=((1:Nat):Int)) fj;rw[ci,bK oM]at this;exact this
 refine dP rfl (v:=.tup [.int (gI (aG [a,b]) 0),.int (gI (aG [a,b]) 1)]) (st':=[]) ?_ rfl;have e':pm af [.fz [.int a,.int b]] []=some (.fz (iL (aG [a,b])),[]):=e;simp[cE,aF,d6,b8,e',x0,x1]
structure GX(S:Sh)(w cc k:Nat)(X:List Int):Prop where
 len:X.length=w
 at_:∀i,i<k->S.s i<w->gI X (S.s i)=S.t i cc
 no:∀q,q<w->(∀i,i<k->S.s i≠q)->gI X q=0
section
variable{st:aa}{k a b c g n u w m:Nat}{rows:List AV}{S:Sh}{v:Nat->Nat->Int}{nn:Int}
theorem Ar{j:Nat}(h:ev ks e sl st=some (.int (j:Int),st))(hj:j<=1000):iq ks (.rep (.cons (.i 0) .nil) e) sl st=some (iL (List.replicate j 0),st):=by
 rw[G1];unfold t8;have h1:dG ks (.cons (.i 0) .nil) sl st=some ([.int 0],st):=rfl;rw[h1,bind_some];dsimp only;rw[h,bind_some];dsimp only;have rb:eM (j:Int)=true:=by
  unfold eM;refine yO ?_;rw[Int.natAbs_natCast];by_cases h0:j=0
  ·rw[h0];decide
  ·exact xD ((Nat.log2_lt h0).mpr (yP hj dC))
 rw[rb,bL (n:=[AV.int 0].length*((j:Int)).toNat) (by simp;lia),bL (n:=[AV.int 0].length) (by simp)];show some _=some _;congr 2;show(List.replicate j [AV.int 0]).flatten=iL (List.replicate j 0);unfold iL
 induction j with
 |zero=>rfl
 |succ j ih=>rw[List.replicate_succ,List.flatten_cons,List.replicate_succ,zR];simp
theorem qw{j q:Nat}:gI (List.replicate j 0) q=0:=by
 unfold gI;rw[zF,List.getElem?_replicate];split<;>rfl
theorem AD(R:Rep st k a b c g n u rows S)(P:MJ w m S)(Q:SX.Pm w m S.h S.s)(HA:∀st,pm ah [.int nn] st=some (.int w,st))(hw:w<=100)(hm:m<=1000){cI:Int}{cc:Nat}
  (hx:∀{s:aa}{a:Nat}{rows:List AV},Rep s k a b c g n u rows S->∀i,i<m->bN s (jF rows i) (.int cI)=some (.int (S.t i cc))) :
  ∃X,cx [.int nn,.ref k,.int cI] st=some (.ref st.length,st++[.lst (iL X)])/\GX S w cc m X:=by
 have sl:S.sd.length=m:=P.sd;obtain⟨sl',st',e,X,x1,x2,rfl,rfl,hX⟩:=dQ (gd:=[(c,.lst (nL S.sd))]) (g:=bH [ah] (.tu 2 (.cons (.nm 4) (.cons (.nm 5) .nil)))) (s:=aj [ah] (.cons (.iff (.cmp .Lt (.v 5) (.bi .len (.cons (.v 3) .nil))) (.cons (.as (.ix (.ix (.fd "Sheet" "lines" (.v 1)) (.v 4)) (.v 2)) (.su (.v 3) (.v 5))) .nil) .nil) .nil))
  (I:=fun i sl s=>∃X x1 x2,s=st++[.lst (iL X)]/\sl=[Is nn,Rs k,Is cI,Rs st.length,x1,x2]/\GX S w cc i X) (xs:=dX 0 (nL S.sd)) (fun i sl s _ hI=>by obtain⟨X,_,_,rfl,_⟩:=hI;exact fP (R.app (ys:=[_])).hc)
  (fun i y sl s hy hI=>by
   obtain⟨X,x1,x2,rfl,rfl,hX⟩:=hI;obtain⟨x,hx',rfl⟩:=mQ hy;have hi:i<m:=by have:=(zD.mp hx').1;simpa [sl] using this
   have hs0:(nL S.sd)[i]?=some (.int ((S.s i:Nat):Int)):=fL oM;rw[hs0]at hx';injection hx' with hx';subst hx';have Ra:=R.app (ys:=[Mw.lst (iL X)]);have ll:bu (st++[Mw.lst (iL X)]) (.ref st.length)=some (iL X):=bv gl;by_cases h:S.s i<w
   ·refine⟨_,[Is nn,Rs k,Is cI,Rs st.length,Is i,Is (S.s i:Int)],st++[.lst (iL (X.set (S.s i) (S.t i cc)))],rfl,?_,X.set (S.s i) (S.t i cc),_,_,rfl,rfl,?_⟩
    ·have hs:=cQ (x:=.int (S.t i cc)) (gl (st:=st) (e:=Mw.lst (iL X))) (show S.s i < (iL X).length by simp [hX.len,h])
     rw[eC,eK]at hs;have lt':S.s i<X.length:=by rw[hX.len];exact h
     simp[bW,d4,ll,lt',Ra.ins,Ra.line P hi,hx Ra i hi,hs]
    ·refine⟨by simp[hX.len],fun j hj hs=>?_,fun q hq hn=>?_⟩
     ·by_cases e:j=i
      ·subst e;rw[SX.gI_set_at (by rw[hX.len];exact h)]
      ·rw[SX.gI_set_ne (fun z=>e (Q.si j i oM hi z))];exact hX.at_ j oM hs
     ·rw[SX.gI_set_ne (fun z=>hn i oM z.symm)];exact hX.no q hq fun j hj=>hn j oM
   ·refine⟨_,[Is nn,Rs k,Is cI,Rs st.length,Is i,Is (S.s i:Int)],st++[.lst (iL X)],rfl,?_,X,_,_,rfl,rfl,?_⟩
    ·have lt':¬S.s i<X.length:=by rw[hX.len];exact h
     simp[bW,d4,ll,lt']
    ·refine⟨hX.len,fun j hj hs=>?_,fun q hq hn=>hX.no q hq fun j hj=>hn j oM⟩
     by_cases e:j=i
     ·subst e;exact absurd hs h
     ·exact hX.at_ j oM hs) (sl:=[Is nn,Rs k,Is cI,Rs st.length,none,none]) (st:=st++[.lst (iL (List.replicate w 0))]) ⟨_,none,none,rfl,rfl,by simp,fun i hi=>by lia,fun q _ _=>qw⟩
 rw[kn,pX,sl]at hX;refine⟨X,?_,hX⟩;rw[cx,aF];unfold dI;refine ak (sl':=[Is nn,Rs k,Is cI,Rs st.length,none,none]) (st':=st++[.lst (iL (List.replicate w 0))]) ?_ ?_
 ·rw[fg,CY,Ar (j:=w) (by simp[HA]) oM];rfl
 refine ak (sl':=[Is nn,Rs k,Is cI,Rs st.length,x1,x2]) (st':=st++[.lst (iL X)]) ?_ (by simp);have Ra:=R.app (ys:=[Mw.lst (iL (List.replicate w 0))]);simp[Ra.ins,iS Ra.hc];exact e
theorem sD{n:Nat}:(iL l).take n=iL (l.take n):=by unfold iL;rw[List.map_take]
theorem sE{n:Nat}:(iL l).drop n=iL (l.drop n):=by unfold iL;rw[List.map_drop]
theorem qI{n:Nat}(hl:l.length=n+1):cut (iL l) none (some (-1))=iL (l.take n):=by
 unfold cut;rw[f9,hl,HT.sIx_none,List.drop_zero];have:HT.MG (n+1) (n+1) (some (-1))=n:=by
  show(if(-1:Int)<0 then((-1:Int)+((n+1:Nat):Int)).toNat else min (-1:Int).toNat (n+1))=n;rw[yL dC];lia
 rw[this,Nat.sub_zero,sD]
theorem CL{w m:Nat}(hl:l.length=w+(m+1)):cut (iL l) (some (w:Int)) (some (-1))=iL ((l.drop w).take m):=by
 unfold cut;rw[f9,hl,HT.sIx_nat];have:HT.MG (w+(m+1)) (w+(m+1)) (some (-1))=w+m:=by
  show(if(-1:Int)<0 then((-1:Int)+((w+(m+1):Nat):Int)).toNat else min (-1:Int).toNat (w+(m+1)))=w+m;rw[yL dC];lia
 rw[this,Nat.min_eq_left oM,sE,sD,show w+m-w=m by lia]
theorem E2{d:Int}(hl:X.length<=100)(hb:∀x∈X,x.natAbs<2^9000)(hd:d.natAbs<2^9000):dg [.fz (iL X),.int d] []=some (.tup [.fz (iL ((aG (X++[d])).take X.length)),.int (gI (aG (X++[d])) X.length)],[]):=by
 have ll:(aG (X++[d])).length=X.length+1:=by rw[lG];simp
 have e:=qb (l:=X++[d]) (st:=[]) (by simp;lia) fun x hx=>by
  rcases z7.mp hx with h|h
  ·exact hb x h
  ·rw[zP.mp h];exact hd
 have xl:bN [] (.fz (iL (aG (X++[d])))) (.int (-1))=some (.int (gI (aG (X++[d])) X.length)):=by
  rw[cz fj,n8 (n:=X.length) (by simp[ll]),bK oM]
 rw[dg,aF];unfold fR;refine ak (sl':=[Ls X,Is d,Ls (aG (X++[d]))]) (st':=[]) ?_ ?_
 ·have c:=i7 (ks:=[af]) (a:=.v 0) (b:=.nw false (.li (.cons (.v 1) .nil))) (sl:=[Ls X,Is d,none]) (st:=[]) (s1:=[]) (s2:=[]) (x:=.fz (iL X)) (y:=.fz (iL [d])) (l:=X) (l':=[d]) rfl (by simp[b8,iL]) rfl rfl (by simp;lia)
  simp[-t0,c,e]
 ·simp[oy,ow,qI ll,xl]
theorem Am(R:Rep st k a b c g n u rows S)(P:MJ w m S)(Q:SX.Pm w m S.h S.s)(B:Bd w m S)(HA:∀st,pm ah [.int nn] st=some (.int w,st))(hw:w<=100)(hm:m<=1000) :
  ∃X T st1,aO [.int nn,.ref k] st=some (.tup [.fz (iL T),.int (gI (aG (X++[S.d])) w)],st1)/\T=(aG (X++[S.d])).take w/\GX S w w m X/\Rep st1 k a b c g n u rows S:=by
 obtain⟨X,e,hX⟩:=AD (cI:=-1) (cc:=w) R P Q HA hw hm fun R' i hi=>R'.last P hi
 have hb:∀x∈X,x.natAbs<2^9000:=fun x hx=>by
  obtain⟨q,hq⟩:=yC hx;have hl:=(zD.mp hq).1;rw[hX.len]at hl;have eg:gI X q=x:=by unfold gI;rw[zF,hq];rfl
  by_cases h:∃i,i<m/\S.s i=q
  ·obtain⟨i,hi,rfl⟩:=h
   rw[<- eg,hX.at_ i hi hl];exact B.2 i hi w oM
  ·rw[<- eg,hX.no q hl fun i hi z=>h ⟨i,hi,z⟩];exact Nat.two_pow_pos _
 obtain⟨st1,e1,h1⟩:=jH (fn:=dg) (rest:=[.int S.d]) (x:=.ref st.length) (l:=X) (.inr ⟨_,rfl,.inl (gl (st:=st) (e:=.lst (iL X)))⟩) rfl rfl (fun s=>by simp[kS,io]) (E2 (by rw[hX.len];lia) hb B.1) rfl (by simp[flat,mN]);refine⟨X,_,st1,?_,rfl,hX,?_⟩
 ·have Ra:=R.app (ys:=[Mw.lst (iL X)])
  rw[hX.len]at e1;simp[aO,aF,eO,e,Ra.ins,e1]
 ·rcases h1 with rfl|⟨r,hr,_,rfl⟩
  ·exact R.app
  ·cases hr;rw[eK];exact R.app
theorem Gg(R:Rep st k a b c g n u rows S)(P:MJ w m S)(Q:SX.Pm w m S.h S.s)(B:Bd w m S)(HA:∀st,pm ah [.int nn] st=some (.int w,st))(hw:w<=100)(hm:m<=1000){q:Nat}(hq:q<w) :
  ∃X st1,bY [.int nn,.ref k,.int q] st=some (.fz (iL (aG (if S.h q<w then X.set (S.h q) S.d else X))),st1)/\GX S w q m X:=by
 obtain⟨X,e,hX⟩:=AD (cI:=q) (cc:=q) R P Q HA hw hm fun R' i hi=>R'.cell P hi oM
 have hb:∀x∈X,x.natAbs<2^9000:=fun x hx=>by
  obtain⟨j,hj⟩:=yC hx;have hl:=(zD.mp hj).1;rw[hX.len]at hl;have eg:gI X j=x:=by unfold gI;rw[zF,hj];rfl
  by_cases h:∃i,i<m/\S.s i=j
  ·obtain⟨i,hi,rfl⟩:=h
   rw[<- eg,hX.at_ i hi hl];exact B.2 i hi q oM
  ·rw[<- eg,hX.no j hl fun i hi z=>h ⟨i,hi,z⟩];exact Nat.two_pow_pos _
 have Ra:=R.app (ys:=[Mw.lst (iL X)]);have ll:bu (st++[Mw.lst (iL X)]) (.ref st.length)=some (iL X):=bv gl;by_cases h:S.h q<w
 ·have hb2:∀x∈X.set (S.h q) S.d,x.natAbs<2^9000:=fun x hx=>by
   rcases List.mem_or_eq_of_mem_set hx with h|h
   ·exact hb x h
   ·rw[h];exact B.1
  obtain ⟨st1,e1,h1⟩:=jH (fn:=af) (rest:=[]) (st:=st++[.lst (iL (X.set (S.h q) S.d))]) (x:=.ref st.length) (l:=X.set (S.h q) S.d) (.inr ⟨_,rfl,.inl gl⟩) rfl rfl (fun s=>rfl) (o9 (by simp [hX.len];lia) hb2) rfl (by simp [flat]);refine ⟨X,st1,?_,hX⟩;rw [yL h];have hs:=cQ (x:=.int S.d) (gl (st:=st) (e:=Mw.lst (iL X))) (show S.h q < (iL X).length by simp [hX.len,h]);rw [eC,eK] at hs;have lt':S.h q < X.length:=by rw [hX.len];exact h
  simp[bY,aF,fW,e,Ra.ins,Ra.head P hq,bW,d4,ll,lt',hs,e1]
 ·obtain⟨st1,e1,h1⟩:=jH (fn:=af) (rest:=[]) (st:=st++[.lst (iL X)]) (x:=.ref st.length) (l:=X) (.inr ⟨_,rfl,.inl gl⟩) rfl rfl (fun s=>rfl) (o9 (by simp[hX.len];lia) hb) rfl (by simp[flat])
  refine⟨X,st1,?_,hX⟩;rw[yK h];have lt':¬S.h q<X.length:=by rw[hX.len];exact h
  simp[bY,aF,fW,e,Ra.ins,Ra.head P hq,bW,d4,ll,lt',e1]
end
open SX (MA)
structure TK(S:Sh)(w m p:Nat)(T:List Int):Prop where
 len:T.length=w+m
 hd:∀j,j<w->gI T (S.h j)=if S.h j∈S.tn then S.t p j else-S.t p j
 sd:gI T (S.s p)=if S.s p∈S.tn then-S.d else S.d
 no:∀q,q<w+m->(∀j,j<w->S.h j≠q)->q≠S.s p->gI T q=0
def wt(T:List Int)(HO:Nat->List Int)(w j k:Nat):Int:=gI T (w+k)+MA j fun x=>gI T x*gI (HO (x+1)) k
section
variable{st:aa}{k a b c g n u w m p:Nat}{rows:List AV}{S:Sh}{nn:Int}{HO:Nat->List Int}
abbrev KW:List Fn:=[ah,cB,dz]
theorem qu{q x:Nat}{y:Int}(h:q<T.length):gI (T.set q y) x=if x=q then y else gI T x:=by
 by_cases e:x=q
 ·subst e;rw[yL rfl,SX.gI_set_at h]
 ·rw[yK e,SX.gI_set_ne e]
theorem Bs(R:Rep st k a b c g n u rows S)(P:MJ w m S)(Q:SX.Pm w m S.h S.s)(hp:p<m)(nt:S.tn.Nodup)(ht:∀q∈S.tn,q<w+m)(hw:w<=100)(hm:m<=800){ss:MK}{r:AV×aa->Prop}
  (h:∀T x1 x2,TK S w m p T->∃z,(aj KW ss [Is nn,Rs k,Is p,Rs st.length,x1,x2,none,none,none,none,none] (st++[Mw.lst (iL T)])).bind ay=some z/\r z) :
  ∃z,(aj KW (.cons (.as (.nw true (.rep (.cons (.i 0) .nil) (.bin .Add (.bi .len (.cons (.fd "Sheet" "heads" (.v 1)) .nil)) (.bi .len (.cons (.fd "Sheet" "sides" (.v 1)) .nil))))) (.nm 3))
   (.cons (.fo (.en (.fd "Sheet" "heads" (.v 1))) (.tu 2 (.cons (.nm 4) (.cons (.nm 5) .nil))) (.cons (.as (.un .USub (.ix (.ix (.fd "Sheet" "lines" (.v 1)) (.v 2)) (.v 4))) (.su (.v 3) (.v 5))) .nil))
   (.cons (.as (.fd "Sheet" "below" (.v 1)) (.su (.v 3) (.ix (.fd "Sheet" "sides" (.v 1)) (.v 2))))
   (.cons (.fd (.fd "Sheet" "turned" (.v 1)) (.nm 5) (.cons (.as (.un .USub (.ix (.v 3) (.v 5))) (.su (.v 3) (.v 5))) .nil)) ss)))) [Is nn,Rs k,Is p,none,none,none,none,none,none,none,none] st).bind ay=some z/\r z:=by
 have lh:bu st (.ref b)=some (nL S.hd):=bv R.hb;have lsd:bu st (.ref c)=some (nL S.sd):=bv R.hc;refine ai (sl':=[Is nn,Rs k,Is p,Rs st.length,none,none,none,none,none,none,none]) (st':=st++[Mw.lst (iL (List.replicate (w+m) 0))]) ?_ ?_
 ·rw[fg,CY,Ar (j:=w+m) ?_ oM]
  ·rfl
  ·simp[R.ins,bW,d4,lh,lsd,P.hd,P.sd]
 -- the heads
 obtain⟨sl',st',e,T,x1,x2,rfl,rfl,hl,h1,h2⟩:=dQ (gd:=[(b,.lst (nL S.hd))]) (g:=bH KW (.tu 2 (.cons (.nm 4) (.cons (.nm 5) .nil)))) (s:=aj KW (.cons (.as (.un .USub (.ix (.ix (.fd "Sheet" "lines" (.v 1)) (.v 2)) (.v 4))) (.su (.v 3) (.v 5))) .nil))
  (I:=fun i sl s=>∃T x1 x2,s=st++[Mw.lst (iL T)]/\sl=[Is nn,Rs k,Is p,Rs st.length,x1,x2,none,none,none,none,none]/\T.length=w+m/\(∀j,j<i->gI T (S.h j)=- S.t p j)/\∀q,(∀j,j<i->S.h j≠q)->gI T q=0) (xs:=dX 0 (nL S.hd)) (fun i sl s _ hI=>by obtain⟨X,_,_,rfl,_⟩:=hI;exact fP (R.app (ys:=[_])).hb)
  (fun i y sl s hy hI=>by
   obtain⟨T,x1,x2,rfl,rfl,hl,h1,h2⟩:=hI;obtain⟨x,hx',rfl⟩:=mQ hy;have hi:i<w:=by have:=(zD.mp hx').1;simpa [P.hd] using this
   have hs0:(nL S.hd)[i]?=some (.int ((S.h i:Nat):Int)):=fL (by rw [P.hd];exact hi);rw [hs0] at hx';injection hx' with hx';subst hx';have Ra:=R.app (ys:=[Mw.lst (iL T)]);have hb:=Q.hl i hi;have hs:=cQ (x:=.int (- S.t p i)) (gl (st:=st) (e:=Mw.lst (iL T))) (show S.h i < (iL T).length by simp [hl,hb]);rw [eC,eK] at hs;refine ⟨_,[Is nn,Rs k,Is p,Rs st.length,Is i,Is (S.h i:Int),none,none,none,none,none],st++[Mw.lst (iL (T.set (S.h i) (- S.t p i)))],rfl,?_,T.set (S.h i) (- S.t p i),_,_,rfl,rfl,by simp [hl],fun j hj=>?_,fun q hq=>?_⟩
   ·simp [Ra.ins,Ra.line P hp,Ra.cell P hp (show i < w + 1 by lia),hs]
   ·rw[qu (by rw[hl];exact hb)]
    by_cases e:j=i
    ·subst e;rw[yL rfl]
    ·rw[yK fun z=>e (Q.hi j i oM hi z)];exact h1 j oM
   ·rw[qu (by rw[hl];exact hb),yK fun z=>hq i oM z.symm];exact h2 q fun j hj=>hq j oM) (sl:=[Is nn,Rs k,Is p,Rs st.length,none,none,none,none,none,none,none]) (st:=st++[Mw.lst (iL (List.replicate (w+m) 0))]) ⟨_,none,none,rfl,rfl,by simp,fun j hj=>by lia,fun q _=>qw⟩
 rw[kn,pX,P.hd]at h1 h2;refine ai (sl':=[Is nn,Rs k,Is p,Rs st.length,x1,x2,none,none,none,none,none]) (st':=st++[Mw.lst (iL T)]) ?_ ?_
 ·have Ra:=R.app (ys:=[Mw.lst (iL (List.replicate (w+m) 0))])
  simp[Ra.ins,iS Ra.hb];exact e
 have Ra:=R.app (ys:=[Mw.lst (iL T)]);have sb:=Q.sl p hp;have hs:=cQ (x:=.int S.d) (gl (st:=st) (e:=Mw.lst (iL T))) (show S.s p < (iL T).length by simp [hl,sb]);rw [eC,eK] at hs;refine ai (sl':=[Is nn,Rs k,Is p,Rs st.length,x1,x2,none,none,none,none,none]) (st':=st++[Mw.lst (iL (T.set (S.s p) S.d))]) (by simp [Ra.ins,Ra.side P hp,hs]) ?_;have l2:(T.set (S.s p) S.d).length=w + m:=by simp [hl]
 obtain⟨T2,hT2⟩:∃x,x=T.set (S.s p) S.d:=⟨_,rfl⟩;rw[<- hT2]at l2 ⊢
 -- the turned
 have Ru:=(R.app (ys:=[Mw.lst (iL T2)])).hu;have ult:u<st.length:=(zD.mp R.hu).1;obtain⟨sl',st',e,T3,x2,rfl,rfl,l3,h3⟩:=dQ (gd:=[]) (g:=bH KW (.nm 5)) (s:=aj KW (.cons (.as (.un .USub (.ix (.v 3) (.v 5))) (.su (.v 3) (.v 5))) .nil))
  (I:=fun i sl s=>∃T3 x2,s=(st++[Mw.lst (iL T3)]).set u (.wk (kL S.tn))/\sl=[Is nn,Rs k,Is p,Rs st.length,x1,x2,none,none,none,none,none]/\T3.length=w+m/\∀q,gI T3 q=if q∈S.tn.take i then-gI T2 q else gI T2 q) (xs:=nL S.tn) (fun _ _ _ _ _=>rfl)
  (fun i y sl s hy hI=>by
   obtain⟨T3,x2,rfl,rfl,l3,h3⟩:=hI;have hi:i<S.tn.length:=by have:=(zD.mp hy).1;simpa using this
   rw[fL hi]at hy;injection hy with hy;subst hy;obtain⟨q,hq⟩:∃q,q=S.tn.getD i 0:=⟨_,rfl⟩;rw[<- hq];have qi:S.tn[i]=q:=by rw[hq,zF,zI hi];rfl
   have qm:q∈S.tn:=by rw[<- qi];exact List.getElem_mem hi
   have ql:=ht q qm;have tk:S.tn.take (i+1)=S.tn.take i++[q]:=by rw[List.take_succ,zI hi,qi];rfl
   have qn:q∉S.tn.take i:=fun z=>by
    have:=nt.sublist (List.take_sublist (i+1) S.tn)
    rw[tk,List.nodup_append]at this;exact this.2.2 q z q (by simp) rfl
   have gc:((st++[Mw.lst (iL T3)]).set u (.wk (kL S.tn)))[st.length]?=some (.lst (iL T3)):=by rw[ao (zX ult)];exact gl
   have hs:=cQ (x:=.int (- gI T3 q)) gc (show q < (iL T3).length by simp [l3,ql]);have sc:((st++[Mw.lst (iL T3)]).set u (.wk (kL S.tn))).set st.length (.lst (iL (T3.set q (- gI T3 q))))=(st++[Mw.lst (iL (T3.set q (- gI T3 q)))]).set u (.wk (kL S.tn)):=by
    rw[List.set_comm _ _ (zX ult),eK]
   rw[eC,sc]at hs;have xi:bN ((st++[Mw.lst (iL T3)]).set u (.wk (kL S.tn))) (.ref st.length) (.int (q:Int))=some (.int (gI T3 q)):=by rw[cz (bv gc),ci,bK oM]
   refine⟨_,[Is nn,Rs k,Is p,Rs st.length,x1,Is q,none,none,none,none,none],(st++[Mw.lst (iL (T3.set q (- gI T3 q)))]).set u (.wk (kL S.tn)),rfl,?_,_,_,rfl,rfl,by simp[l3],fun x=>?_⟩
   ·simp[xi,hs]
   ·rw[qu oM,tk]
    by_cases e:x=q
    ·subst e;rw[yL rfl,yL (by simp),h3 x,yK qn]
    ·rw[yK e,h3 x];simp[e]) (sl:=[Is nn,Rs k,Is p,Rs st.length,x1,x2,none,none,none,none,none]) (st:=(st++[Mw.lst (iL T2)]).set u (.wk (kL S.tn))) ⟨T2,x2,rfl,rfl,l2,fun q=>by simp⟩
 rw[pX,List.take_length]at h3;refine ai (sl':=[Is nn,Rs k,Is p,Rs st.length,x1,x2,none,none,none,none,none]) (st':=st++[Mw.lst (iL T3)]) ?_ (h T3 x1 x2 ?_)
 ·have Rb:=R.app (ys:=[Mw.lst (iL T2)])
  have ky:(kL S.tn).map (fun q=>ms q.1)=nL S.tn:=by unfold kL nL;rw[List.map_map];rfl
  have f1:(((st++[Mw.lst (iL T3)]).set u (.wk (kL S.tn))))[u]?=some (.wk (kL S.tn)):=fq (R.app (ys:=[Mw.lst (iL T3)])).hu;have f2:((st++[Mw.lst (iL T3)]).set u (.wk (kL S.tn))).set u (.dK (kL S.tn))=st++[Mw.lst (iL T3)]:=by
   rw[List.set_set]
   have:=(R.app (ys:=[Mw.lst (iL T3)])).hu
   obtain⟨hlt,hget⟩:=zD.mp this;rw[<- hget,List.set_getElem_self]
  simp[tM,Rb.ins,Rb.hu];rw[show(kL S.tn).map ((fun q=>ms q.1))=nL S.tn from ky]at *;rw[e];simp[Al,f1,f2]
 ·have e2:∀q,gI T2 q=if q=S.s p then S.d else gI T q:=fun q=>by rw[hT2,qu (by rw[hl];exact sb)]
  refine⟨l3,fun j hj=>?_,?_,fun q hq hn hns=>?_⟩
  ·rw[h3,e2,yK (Q.hs j p hj hp),h1 j hj];split<;>lia
  ·rw[h3,e2,yL rfl]
  ·rw[h3,e2,yK hns,h2 q hn];split<;>rfl
end
structure HOk(nn:Int)(w nr:Nat)(HO:Nat->List Int):Prop where
 ex:∀grp:Nat,1<=grp->grp<=w->∃rr,(∀st,pm cB [.int nn,.int grp,.int 0] st=some (rr,st))/\∀st,pm dz [.int nn,rr] st=some (.fz (iL (HO grp)),st)
 len:∀grp:Nat,1<=grp->grp<=w->(HO grp).length=nr
 bd:∀(grp:Nat),1<=grp->grp<=w->∀x∈HO grp,x.natAbs<=15
section
variable{st:aa}{k a b c g n u w m p nr:Nat}{rows:List AV}{S:Sh}{nn:Int}{HO:Nat->List Int}
theorem HZ{r q:Nat}{x:Int}(h1:ev ks ea sl s=some (.ref r,s))(h2:ev ks eb sl s=some (.int (q:Int),s))(h3:ev ks ec sl s=some (.int x,s))(hr:s[r]?=some (.lst (iL l)))(hq:q<l.length):cA ks (.aus .Add ea eb ec) sl s=some (.nx sl (s.set r (.lst (iL (l.set q (gI l q+x)))))):=by
 rw[Gw];unfold tN;rw[h1,bind_some];dsimp only;rw[h2,bind_some];dsimp only;rw[bv hr,bind_some,ci,bK hq,bind_some,h3,bind_some];dsimp only;have:uQ .Add s (.int (gI l q)) (.int x)=some (.int (gI l q+x)):=rfl;rw[this,bind_some,cQ hr (by simp[hq]),eC,bind_some]
theorem Ad(R:Rep st k a b c g n u rows S)(P:MJ w (m+1) S)(Q:SX.Pm w (m+1) S.h S.s)(hp:p<m+1)(nt:S.tn.Nodup)(ht:∀q∈S.tn,q<w+(m+1))(hw:w<=100)(hm:m+1<=800)(HA:∀st,pm ah [.int nn] st=some (.int w,st))(H:HOk nn w nr HO)(hnr:nr<=m) :
  ∃z,aJ [.int nn,.ref k,.int p] st=some z/\∃T W,TK S w (m+1) p T/\W.length=m/\(∀x,x<m->gI W x=wt T HO w w x)/\z.1=.ref (st.length+1)/\z.2=st++[Mw.lst (iL T)]++[Mw.lst (iL W)]:=by
 rw[aJ];simp only[aF];unfold d5;refine Bs R P Q hp nt ht hw hm fun T x1 x2 hT=>?_
 have sT:(st++[Mw.lst (iL T)])[st.length]?=some (.lst (iL T)):=gl;refine ai (sl':=[Is nn,Rs k,Is p,Rs st.length,x1,x2,Rs (st.length+1),none,none,none,none]) (st':=st++[Mw.lst (iL T)]++[Mw.lst (iL ((T.drop w).take m))]) ?_ ?_
 ·simp[oy,ow,HA,bv sT,CL hT.len]
 have ll:(st++[Mw.lst (iL T)]).length=st.length+1:=by simp
 have sT2:∀W:List Int,(st++[Mw.lst (iL T)]++[Mw.lst (iL W)])[st.length]?=some (.lst (iL T)):=fun W=>ga sT
 have sW:∀W:List Int,(st++[Mw.lst (iL T)]++[Mw.lst (iL W)])[st.length+1]?=some (.lst (iL W)):=fun W=>by rw[<- ll];exact gl
 have sSet:∀W W':List Int,(st++[Mw.lst (iL T)]++[Mw.lst (iL W)]).set (st.length+1) (.lst (iL W'))=st++[Mw.lst (iL T)]++[Mw.lst (iL W')]:=fun W W'=>by rw[<- ll];exact eK
 have hW0:∀x,x<m->gI ((T.drop w).take m) x=wt T HO w 0 x:=fun x hx=>by
  unfold wt gI;rw[zF,List.getElem?_take_of_lt hx,List.getElem?_drop,zF];simp[MA]
 obtain⟨sl',st',e,W,y1,y2,y3,y4,rfl,rfl,hl,hW⟩:=dQ (gd:=[]) (g:=bH KW (.nm 7)) (s:=aj KW (.cons (.as (.ix (.v 3) (.bin .Sub (.v 7) (.i 1))) (.nm 8)) (.cons (.iff (.cmp .NotEq (.v 8) (.i 0))
   (.cons (.fo (.en (.ca true 2 (.cons (.v 0) (.cons (.ca true 1 (.cons (.v 0) (.cons (.v 7) (.cons (.i 0) .nil)))) .nil)))) (.tu 2 (.cons (.nm 9) (.cons (.nm 10) .nil))) (.cons (.aus .Add (.v 6) (.v 9) (.bin .Mult (.v 8) (.v 10))) .nil)) .nil) .nil) .nil)))
  (I:=fun i sl s=>∃W y1 y2 y3 y4,s=st++[Mw.lst (iL T)]++[Mw.lst (iL W)]/\sl=[Is nn,Rs k,Is p,Rs st.length,x1,x2,Rs (st.length+1),y1,y2,y3,y4]/\W.length=m/\∀x,x<m->gI W x=wt T HO w i x) (xs:=cF 1 w) (fun _ _ _ _ _=>rfl)
  (fun i y sl s hy hI=>by
   obtain⟨W,y1,y2,y3,y4,rfl,rfl,hl,hW⟩:=hI;have hi:i<w:=by have:=(zD.mp hy).1;unfold cF at this;simpa using this
   have ey:y=.int (((i+1:Nat)):Int):=by
    unfold cF at hy;rw[zU,List.getElem?_range hi]at hy;injection hy with hy;rw[<- hy];show AV.int (1+(i:Int))=_;congr 1;lia
   subst ey;have xi:bN (st++[Mw.lst (iL T)]++[Mw.lst (iL W)]) (.ref st.length) (.int (i:Int))=some (.int (gI T i)):=by rw[cz (bv (sT2 W)),ci,bK (by rw[hT.len];lia)]
   have st1:cA KW (.as (.ix (.v 3) (.bin .Sub (.v 7) (.i 1))) (.nm 8)) [Is nn,Rs k,Is p,Rs st.length,x1,x2,Rs (st.length+1),Is ((i+1:Nat):Int),y2,y3,y4] (st++[Mw.lst (iL T)]++[Mw.lst (iL W)])=some (.nx [Is nn,Rs k,Is p,Rs st.length,x1,x2,Rs (st.length+1),Is ((i+1:Nat):Int),Is (gI T i),y3,y4] (st++[Mw.lst (iL T)]++[Mw.lst (iL W)])):=by
    have e0:((i+1:Nat):Int)-1=(i:Int):=by lia
    have hb:bG .Sub (st++[Mw.lst (iL T)]++[Mw.lst (iL W)]) (.int ((i+1:Nat):Int)) (.int 1)=some (.int (i:Int)):=by rw[HS,e0]
    simp only[fg,xh,Gi,rq,vd,og,oe,bind_some,hb,map_some,xi];rfl
   by_cases h0:gI T i=0
   ·refine⟨_,_,_,rfl,au st1 ?_,W,Is ((i+1:Nat):Int),Is (gI T i),y3,y4,rfl,rfl,hl,fun x hx=>?_⟩
    ·simp[h0]
    ·rw[hW x hx];unfold wt;simp only[MA,h0];lia
   ·obtain⟨rr,r1,r2⟩:=H.ex (i+1) oM oM
    have hlen:=H.len (i+1) oM oM;obtain⟨sl',st',e,W',z3,z4,rfl,rfl,hl',hW'⟩:=dQ (gd:=[]) (g:=bH KW (.tu 2 (.cons (.nm 9) (.cons (.nm 10) .nil)))) (s:=aj KW (.cons (.aus .Add (.v 6) (.v 9) (.bin .Mult (.v 8) (.v 10))) .nil))
     (I:=fun j sl s=>∃W' z3 z4,s=st++[Mw.lst (iL T)]++[Mw.lst (iL W')]/\sl=[Is nn,Rs k,Is p,Rs st.length,x1,x2,Rs (st.length+1),Is ((i+1:Nat):Int),Is (gI T i),z3,z4]/\W'.length=m/\∀x,x<m->gI W' x=gI W x+if x<j then gI T i*gI (HO (i+1)) x else 0) (xs:=dX 0 (iL (HO (i+1)))) (fun _ _ _ _ _=>rfl)
     (fun j y sl s hy hI=>by
      obtain⟨W',z3,z4,rfl,rfl,hl',hW'⟩:=hI;obtain⟨x,hx',rfl⟩:=mQ hy;have hj:j<nr:=by have:=(zD.mp hx').1;simpa [hlen] using this
      rw[bK oM]at hx';injection hx' with hx';subst hx';have hc:(gI (HO (i+1)) j).natAbs<=15:=by
       refine H.bd (i+1) oM oM _ ?_;unfold gI;exact SX.getD_mem oM
      have mb:cG (gI T i) (gI (HO (i+1)) j)=true:=by
       unfold cG;have:Nat.ble (gI (HO (i+1)) j).natAbs.log2 62=true:=yO (by
        by_cases hz:(gI (HO (i+1)) j).natAbs=0
        ·rw[hz];decide
        ·exact xD ((Nat.log2_lt hz).mpr (yP hc dC)))
       rw[this];simp
      refine⟨_,_,_,rfl,au (HZ (r:=st.length+1) (q:=j) (l:=W') (x:=gI T i*gI (HO (i+1)) j) rfl rfl (by simp[bI mb]) (sW W') oM) rfl,W'.set j (gI W' j+gI T i*gI (HO (i+1)) j),_,_,sSet _ _,rfl,by simp[hl'],fun x hx=>?_⟩;rw[qu oM];by_cases e:x=j
      ·subst e;rw[yL rfl,hW' x hx,yK oM,yL oM];lia
      ·rw[yK e,hW' x hx]
       by_cases e2:x<j
       ·rw[yL e2,yL oM]
       ·rw[yK e2,yK oM]) (sl:=[Is nn,Rs k,Is p,Rs st.length,x1,x2,Rs (st.length+1),Is ((i+1:Nat):Int),Is (gI T i),y3,y4]) (st:=st++[Mw.lst (iL T)]++[Mw.lst (iL W)]) ⟨W,y3,y4,rfl,rfl,hl,fun x hx=>by simp⟩
    rw[kn,f9,hlen]at hW';refine⟨_,_,_,rfl,au st1 (au (sl':=[Is nn,Rs k,Is p,Rs st.length,x1,x2,Rs (st.length+1),Is ((i+1:Nat):Int),Is (gI T i),z3,z4]) (st':=st++[Mw.lst (iL T)]++[Mw.lst (iL W')]) ?_ rfl),W',Is ((i+1:Nat):Int),Is (gI T i),z3,z4,rfl,rfl,hl',fun x hx=>?_⟩
    ·have r1':=r1 (st++[Mw.lst (iL T)]++[Mw.lst (iL W)])
     have r2':=r2 (st++[Mw.lst (iL T)]++[Mw.lst (iL W)]);simp only[j8,tF,rq,vd,og,oe,bind_some,J7,map_some,yD h0,Bool.not_false,ite_true];refine au (sl':=[Is nn,Rs k,Is p,Rs st.length,x1,x2,Rs (st.length+1),Is ((i+1:Nat):Int),Is (gI T i),z3,z4]) (st':=st++[Mw.lst (iL T)]++[Mw.lst (iL W')]) ?_ rfl;rw[nG,JV];simp only[pB,gK,iO,rq,vd,og,oe,bind_some,Av,qg,qf];rw[r1'];simp only[bind_some];rw[r2'];simp only[bind_some,Fe,map_some];exact e
    ·rw[hW' x hx,hW x hx]
     unfold wt;simp only[MA];by_cases e:x<nr
     ·rw[yL e];lia
     ·rw[yK e]
      have:gI (HO (i+1)) x=0:=by unfold gI;rw[zF,List.getElem?_eq_none oM];rfl
      rw[this,yS];lia) (sl:=[Is nn,Rs k,Is p,Rs st.length,x1,x2,Rs (st.length+1),none,none,none,none]) (st:=st++[Mw.lst (iL T)]++[Mw.lst (iL ((T.drop w).take m))]) ⟨_,none,none,none,none,rfl,rfl,by simp[hT.len],hW0⟩
 have rl:(cF 1 w).length=w:=by unfold cF;simp
 rw[rl]at hW;refine⟨(.ref (st.length+1),st++[Mw.lst (iL T)]++[Mw.lst (iL W)]),?_,T,W,hT,hl,hW,rfl,rfl⟩;refine ak (sl':=[Is nn,Rs k,Is p,Rs st.length,x1,x2,Rs (st.length+1),y1,y2,y3,y4]) (st':=st++[Mw.lst (iL T)]++[Mw.lst (iL W)]) ?_ (by simp);have rb1:eM 1=true:=by decide
 have rb2:eM ((w:Int)+1)=true:=by
  unfold eM;refine yO ?_;rw[show((w:Int)+1).natAbs=w+1 by lia];exact xD ((Nat.log2_lt oM).mpr oM)
 rw[nG];have ei:dk KW (.r2 (.i 1) (.bin .Add (.ca true 0 (.cons (.v 0) .nil)) (.i 1))) [Is nn,Rs k,Is p,Rs st.length,x1,x2,Rs (st.length+1),none,none,none,none] (st++[Mw.lst (iL T)]++[Mw.lst (iL ((T.drop w).take m))])=some (⟨cF 1 w,[]⟩,st++[Mw.lst (iL T)]++[Mw.lst (iL ((T.drop w).take m))]):=by
  have e2:((w:Int)+1-1).toNat=w:=by lia
  simp[-List.append_assoc,AB,HA,rb1,rb2]
 rw[ei,bind_some];exact e
end
section
variable{st:aa}{k a b c g n u w m p nr:Nat}{rows:List AV}{S:Sh}{nn:Int}{HO:Nat->List Int}{v:Nat->Nat->Int}
theorem TK.bd(hT:TK S w m p T)(hp:p<m)(Q:SX.Pm w m S.h S.s)(B:S.d.natAbs<2^8900/\∀i,i<m->∀j,j<w+1->(S.t i j).natAbs<2^8900)(q:Nat):(gI T q).natAbs<2^8900:=by
 by_cases hq:q<w+m
 ·by_cases h1:∃j,j<w/\S.h j=q
  ·obtain⟨j,hj,rfl⟩:=h1
   rw[hT.hd j hj]
   have:=B.2 p hp j oM
   split
   ·exact this
   ·rw[Int.natAbs_neg];exact this
  ·by_cases h2:q=S.s p
   ·rw[h2,hT.sd]
    split
    ·rw[Int.natAbs_neg];exact B.1
    ·exact B.1
   ·rw[hT.no q hq (fun j hj z=>h1 ⟨j,hj,z⟩) h2];exact Nat.two_pow_pos _
 ·have:gI T q=0:=by unfold gI;rw[zF,List.getElem?_eq_none (by rw[hT.len];lia)];rfl
  rw[this];exact Nat.two_pow_pos _
theorem Ae(hb:∀q,(gI T q).natAbs<2^8900)(H:HOk nn w nr HO)(hw:w<=15)(x:Nat):(wt T HO w w x).natAbs<2^9000:=by
 unfold wt;have h1:=SX.abs_sum (n:=w) (f:=fun y=>gI T y*gI (HO (y+1)) x) (M:=2^8900*15) fun i hi=>by
  rw[xE];refine Nat.mul_le_mul (xD (hb i)) ?_;unfold gI;rw[zF];cases e:(HO (i+1))[x]? with
  |none=>simp
  |some z=>exact H.bd (i+1) oM oM z (zZ e)
 have h2:=hb (w+x);have h3:=Int.natAbs_add_le (gI T (w+x)) (MA w fun y=>gI T y*gI (HO (y+1)) x);have h4:w*(2^8900*15)<=15*(2^8900*15):=Nat.mul_le_mul_right _ hw;have h5:(2:Nat)^9000=2^8900*2^100:=by rw[<- Nat.pow_add]
 have h6:(2:Nat)^100=1267650600228229401496703205376:=by decide
 rw[h5,h6];generalize (2:Nat)^8900=B at *;lia
theorem yx(R:Rep st k a b c g n u rows S)(I:MI w (m+1) v S)(Hb:Bnd w (m+1) v)(hp:p<m+1)(nt:S.tn.Nodup)(ht:∀q∈S.tn,q<w+(m+1))(hw:w<=15)(hm:m+1<=400)(HA:∀st,pm ah [.int nn] st=some (.int w,st))(H:HOk nn w nr HO)(hnr:nr<=m) :
  ∃z,bj [.int nn,.ref k,.int p] st=some z/\∃X T W,GX S w w (m+1) X/\TK S w (m+1) p T/\W.length=m/\(∀x,x<m->gI W x=wt T HO w w x) /\
   z.1=.tup [.str "least",.tup [.int (gI (aG [- S.t p w,S.d]) 0),.int (gI (aG [- S.t p w,S.d]) 1)],.tup [.fz (iL ((aG (X++[S.d])).take w)),.int (gI (aG (X++[S.d])) w)],.int (gI (aG (W++[S.d])) m),.fz (iL ((aG (W++[S.d])).take m))]:=by
 have P:=I.shp;have B:=Hb.bd I;obtain⟨z,e1,T,W,hT,hl,hW,hz1,hz2⟩:=Ad R P I.pm hp nt ht oM oM HA H hnr;obtain⟨z1,z2⟩:=z;dsimp only at hz1 hz2;subst hz1;subst hz2;have R2:=(R.app (ys:=[Mw.lst (iL T)])).app (ys:=[Mw.lst (iL W)]);have wb:∀x∈W++[S.d],x.natAbs<2^9000:=fun x hx=>by
  rcases z7.mp hx with h|h
  ·obtain⟨j,hj⟩:=yC h
   have hjl:=(zD.mp hj).1;have eg:gI W j=x:=by unfold gI;rw[zF,hj];rfl
   rw[<- eg,hW j oM];exact Ae (hT.bd hp I.pm (Hb.bd8 I)) H hw j
  ·rw[zP.mp h];exact B.1
 have e2:=qb (l:=W++[S.d]) (st:=st++[Mw.lst (iL T)]++[Mw.lst (iL W)]) (by simp[hl];lia) wb;obtain⟨X,T',st3,e3,rfl,hX,R3⟩:=Am R2 P I.pm B HA oM oM;have fr:=Fz (a:=- S.t p w) (b:=S.d) (st:=st) (by rw[Int.natAbs_neg];exact B.2 p hp w oM) B.1;refine⟨(_,st3),?_,X,T,W,hX,hT,hl,hW,rfl⟩;have ll:(aG (W++[S.d])).length=m+1:=by rw[lG];simp[hl]
 rw[bj,aF];unfold eP;refine ak (sl':=[Is nn,Rs k,Is p,some (.tup [.int (gI (aG [- S.t p w,S.d]) 0),.int (gI (aG [- S.t p w,S.d]) 1)]),none]) (st':=st) (by simp[R.ins,R.line P hp,R.last P hp,fr]) ?_;refine ak (sl':=[Is nn,Rs k,Is p,some (.tup [.int (gI (aG [- S.t p w,S.d]) 0),.int (gI (aG [- S.t p w,S.d]) 1)]),Ls (aG (W++[S.d]))]) (st':=st++[Mw.lst (iL T)]++[Mw.lst (iL W)]) ?_ ?_
 ·have gW:(st++[Mw.lst (iL T)]++[Mw.lst (iL W)])[st.length+1]?=some (.lst (iL W)):=by
   have:(st++[Mw.lst (iL T)]).length=st.length+1:=by simp
   rw[<- this];exact gl
  have c:=i7 (ks:=[cE,aJ,af,aO]) (a:=.ca false 1 (.cons (.v 0) (.cons (.v 1) (.cons (.v 2) .nil)))) (b:=.nw false (.li (.cons (.fd "Sheet" "below" (.v 1)) .nil)))
   (sl:=[Is nn,Rs k,Is p,some (.tup [.int (gI (aG [- S.t p w,S.d]) 0),.int (gI (aG [- S.t p w,S.d]) 1)]),none]) (st:=st) (s1:=st++[Mw.lst (iL T)]++[Mw.lst (iL W)]) (s2:=st++[Mw.lst (iL T)]++[Mw.lst (iL W)]) (x:=.ref (st.length+1)) (y:=.fz [AV.int S.d]) (l:=W) (l':=[S.d])
   (by simp only[pB,gK,iO,rq,og,oe,bind_some,tR,qg,qf];exact e1) (by simp[-List.append_assoc,b8,R2.ins]) (bv gW) rfl (by simp[hl];lia)
  simp only[fg,pB,gK,iO,je,c,bind_some,ig,ite_true,Av,qg,qf,e2,zk];rfl
 ·have xl:bN st3 (.fz (iL (aG (W++[S.d])))) (.int (-1))=some (.int (gI (aG (W++[S.d])) m)):=by rw[cz fj,n8 (n:=m) (by simp[ll]),bK oM]
  simp[-List.append_assoc,e3,oy,ow,qI ll,xl]
end
open SX (Qt v0)
def val(w:Nat)(r:List Int)(Y:Nat->Int):Int:=MA w fun x=>gI r x*Y x
structure Kp(w:Nat)(RR:List (List Int))(gv:List Gv)(Y:Nat->Int)(e:Int):Prop where
 rule:∀r∈RR,0<=val w r Y
 eq:∀z∈gv,z.eq=true->val w z.row Y=z.num*e
 ge:∀z∈gv,z.eq=false->z.num*e<=val w z.row Y
def jy(w:Nat)(RR:List (List Int))(gv:List Gv)(goal:List Int)(t:AV):Prop :=
 ((∃W,t=.tup [.str "never",.fz (iL W)])/\∀Y e,0<e->¬Kp w RR gv Y e) \/
 (∃T d x1 x2 x3,t=.tup [.str "least",.tup [.int (gI (aG [T,d]) 0),.int (gI (aG [T,d]) 1)],x1,x2,x3]/\0<d/\(T.natAbs<2^9000/\d.natAbs<2^9000/\(rf x1&&rf x2&&rf x3)=true)/\(∃X,Kp w RR gv X d/\val w goal X=T)/\∀Y e,0<e->Kp w RR gv Y e->T*e<=val w goal Y*d) \/
 ∃x1 x2,t=.tup [.str "endless",x1,x2]/\(rf x1&&rf x2)=true/\(∃X d,0<d/\Kp w RR gv X d)/\∃Z,Kp w RR gv Z 0/\val w goal Z<0
structure AI(w nr:Nat)(gv:List Gv)(L:List (List Int))(i:Nat)(S:Sh):Prop where
 mi:MI w (nr+gv.length+1) (v0 w L) S
 un:∀x,nr+i<=x->x<nr+gv.length+1->S.s x=w+x
 g1:∀q∈S.gd,q<w+nr\/∃y z,y<i/\gv[y]?=some z/\z.eq=false/\q=w+nr+y
 g2:∀q,q<w+nr->q∈S.gd
 g3:∀y z,y<i->gv[y]?=some z->z.eq=false->w+nr+y∈S.gd
 n1:∀q∈S.nl,∃y z,y<i/\gv[y]?=some z/\z.eq=true/\q=w+nr+y
 n2:∀y z,y<i->gv[y]?=some z->z.eq=true->w+nr+y∈S.nl
 t1:∀q∈S.tn,q∈S.nl
 tn:S.tn.Nodup
 lg:S.gd.length<=w+nr+i
 ln:S.nl.length<=i
 lt:S.tn.length<=i
section
variable{w nr i:Nat}{RR:List (List Int)}{gv:List Gv}{goal:List Int}{S:Sh}{Y:Nat->Int}{e:Int}
theorem qy{c:Int}{x:Nat}(h:r.length=w):gI (r++[c]) x=if x<w then gI r x else if x=w then c else 0:=by
 unfold gI;simp only[zF];by_cases h1:x<w
 ·rw[yL h1,zQ oM]
 ·rw[yK h1,yA oM]
  by_cases h2:x=w
  ·rw[yL h2,h,h2];simp
  ·rw[yK h2,List.getElem?_eq_none (by simp;lia)];rfl
theorem dS{c:Int}{j:Nat}(hj:L[j]?=some (r++[c]))(hr:r.length=w):Qt w (v0 w L) Y e (w+j)=val w r Y+c*e:=by
 have hv:∀x,v0 w L (w+j) x=gI (r++[c]) x:=fun x=>by
  unfold v0;rw[yK oM,show w+j-w=j by lia,zF,hj];rfl
 unfold Qt val;rw[hv,qy hr,yK oM,yL rfl];congr 1;exact SX.sum_congr fun x hx=>by rw[hv,qy hr,yL hx]
theorem F1{q:Nat}(hq:q<w):Qt w (v0 w L) Y e q=Y q:=by
 have hv:∀x,v0 w L q x=if x=q then 1 else 0:=fun x=>by unfold v0;rw[yL hq]
 unfold Qt;rw[SX.sum_one hq fun x _ ne=>by rw[hv,yK ne,yT],hv,yL rfl,hv,yK oM];lia
theorem qY(hi:i<RR.length):(ag RR gv goal)[i]?=some (RR[i]++[0]):=by
 unfold ag;rw[yQ,zQ (by simpa using hi)];simp[hi]
theorem i9(hz:gv[i]?=some z):(ag RR gv goal)[RR.length+i]?=some (z.row++[- z.num]):=by
 have hi:=(zD.mp hz).1;unfold ag;rw[yQ,yA (by simp),zQ (by simp;exact hi)];simp[hz]
theorem wY:(ag RR gv goal)[RR.length+gv.length]?=some (goal.map (fun x=>- x)++[0]):=by
 unfold ag;rw[yA (by simp)];simp
theorem u5:(ag RR gv goal).length=RR.length+gv.length+1:=by simp[ag];lia
theorem nA:val w (goal.map fun x=>- x) Y=- val w goal Y:=by
 unfold val;have:∀x,gI (goal.map fun x=>- x) x=- gI goal x:=fun x=>by
  unfold gI;rw[zF,zF,zU];cases goal[x]?<;>rfl
 rw[SX.sum_congr (g:=fun x=>(-1)*(gI goal x*Y x)) fun x _=>by rw[this];grind,SX.sum_mul];lia
structure Sz(w:Nat)(RR:List (List Int))(gv:List Gv)(goal:List Int):Prop where
 r:∀l∈RR,l.length=w
 g:∀z∈gv,z.row.length=w
 o:goal.length=w
 hg:∀Y:Nat->Int,(∀r∈RR,0<=val w r Y)->∀x,x<w->0<=Y x
theorem AI.of(Z:Sz w RR gv goal)(A:AI w RR.length gv (ag RR gv goal) i S)(F:Kp w RR gv Y e):(∀q∈S.gd,0<=Qt w (v0 w (ag RR gv goal)) Y e q)/\∀q∈S.nl,Qt w (v0 w (ag RR gv goal)) Y e q=0:=by
 refine⟨fun q hq=>?_,fun q hq=>?_⟩
 ·rcases A.g1 q hq with h|⟨y,z,h1,h2,h3,rfl⟩
  ·by_cases hw:q<w
   ·rw[F1 hw];exact Z.hg Y F.rule q hw
   ·have hi:q-w<RR.length:=by lia
    have:=dS (Y:=Y) (e:=e) (qY (gv:=gv) (goal:=goal) hi) (Z.r _ (List.getElem_mem hi))
    rw[show w+(q-w)=q by lia]at this;rw[this,yT,Int.add_zero];exact F.rule _ (List.getElem_mem hi)
  ·have hm:=zZ h2
   rw[Nat.add_assoc,dS (i9 h2) (Z.g z hm)]
   have:=F.ge z hm h3
   have e1:- z.num*e=- (z.num*e):=by grind
   lia
 ·obtain⟨y,z,h1,h2,h3,rfl⟩:=A.n1 q hq
  have hm:=zZ h2;rw[Nat.add_assoc,dS (i9 h2) (Z.g z hm)]
  have:=F.eq z hm h3
  have e1:- z.num*e=- (z.num*e):=by grind
  lia
theorem AI.to(Z:Sz w RR gv goal)(A:AI w RR.length gv (ag RR gv goal) gv.length S)(h1:∀q∈S.gd,0<=Qt w (v0 w (ag RR gv goal)) Y e q)(h2:∀q∈S.nl,Qt w (v0 w (ag RR gv goal)) Y e q=0):Kp w RR gv Y e:=by
 refine⟨fun r hr=>?_,fun z hz he=>?_,fun z hz he=>?_⟩
 ·obtain⟨i,hi⟩:=yC hr
  have hl:=(zD.mp hi).1;have er:RR[i]=r:=(zD.mp hi).2
  have:=h1 (w+i) (A.g2 _ oM)
  rw[dS (qY hl) (Z.r _ (List.getElem_mem hl)),yT,Int.add_zero,er]at this;exact this
 ·obtain⟨y,hy⟩:=yC hz
  have hl:=(zD.mp hy).1
  have:=h2 _ (A.n2 y z hl hy he)
  rw[Nat.add_assoc,dS (i9 hy) (Z.g z hz)]at this;have e1:- z.num*e=- (z.num*e):=by grind
  lia
 ·obtain⟨y,hy⟩:=yC hz
  have hl:=(zD.mp hy).1
  have:=h1 _ (A.g3 y z hl hy he)
  rw[Nat.add_assoc,dS (i9 hy) (Z.g z hz)]at this;have e1:- z.num*e=- (z.num*e):=by grind
  lia
theorem Bk:∀q,q<w->∀x,x<w+1->v0 w L q x=if x=q then 1 else 0:=fun q hq x _=>by unfold v0;rw[yL hq]
theorem AI.vert(Z:Sz w RR gv goal)(A:AI w RR.length gv (ag RR gv goal) gv.length S){c:Nat}(hc:c<w+1)(hcn:c<w->S.h c∉S.nl){X:Nat->Int}(h1:∀i,i<RR.length+gv.length+1->S.s i<w->X (S.s i)=S.t i c)(h2:∀j,j<w->S.h j<w->X (S.h j)=if j=c then S.d else 0)
  (hpos:∀i,i<RR.length+gv.length+1->S.s i∈S.gd->0<=S.t i c):Kp w RR gv X (if c=w then S.d else 0)/\val w goal X=- S.t (RR.length+gv.length) c:=by
 have I:=A.mi;have tw:∀q∈S.tn,w<=q:=fun q hq=>by obtain⟨y,z,_,_,_,rfl⟩:=A.n1 q (A.t1 q hq);lia
 obtain⟨v1,v2⟩:=I.vert Bk tw hc h1 h2;have dis:∀q∈S.gd,q∉S.tn:=fun q hg ht=>by
  obtain⟨y,z,y1,y2,y3,y4⟩:=A.n1 q (A.t1 q ht);rcases A.g1 q hg with h|⟨y',z',h1,h2,h3,h4⟩
  ·lia
  ·have:y=y':=by lia
   subst this;rw[y2]at h2;cases h2;rw[y3]at h3;cases h3
 have hd:=I.lin.pos;refine⟨A.to Z (fun q hq=>?_) (fun q hq=>?_),?_⟩
 ·have hlt:q<w+(RR.length+gv.length+1):=by
   rcases A.g1 q hq with h|⟨y,z,_,h2,_,rfl⟩
   ·lia
   ·have:=(zD.mp h2).1;lia
  rcases I.pm.cov q hlt with⟨i,hi,rfl⟩|⟨j,hj,rfl⟩
  ·rw[v1 i hi,yK (dis _ hq)];exact hpos i hi hq
  ·rw[v2 j hj,yK (dis _ hq)];split<;>lia
 ·have hlt:q<w+(RR.length+gv.length+1):=by
   obtain⟨y,z,_,h2,_,rfl⟩:=A.n1 q hq
   have:=(zD.mp h2).1;lia
  rcases I.pm.cov q hlt with⟨i,hi,rfl⟩|⟨j,hj,rfl⟩
  ·obtain⟨n1,n2⟩:=I.fea.n i hi hq
   have:S.t i c=0:=by
    by_cases h:c=w
    ·rw[h];exact n1
    ·exact n2 c oM (hcn oM)
   rw[v1 i hi,this];split<;>rfl
  ·rw[v2 j hj,yK fun z=>hcn oM (by rw[<- z];exact hq)]
 ·have hs:=A.un (RR.length+gv.length) oM oM
  have h3:=v1 (RR.length+gv.length) oM;rw[hs]at h3;have hnt:w+(RR.length+gv.length)∉S.tn:=fun z=>by
   obtain⟨y,z',y1,_,_,y4⟩:=A.n1 _ (A.t1 _ z);lia
  rw[yK hnt,dS wY (by rw[zK];exact Z.o),nA,yT,Int.add_zero]at h3;lia
end
section
variable{w:Nat}{RR:List (List Int)}{gv:List Gv}{goal:List Int}{nn:Int}{HO:Nat->List Int}
theorem CG{n0:Nat}{i:Nat}(h:(dX n0 xs)[i]?=some y):∃x,xs[i]?=some x/\y=.tup [.int ((n0+i:Nat):Int),x]:=by
 unfold dX at h;rw[zU]at h;obtain⟨z,h1,rfl⟩:=zH.mp h;rw[List.getElem?_zipIdx]at h1;obtain⟨x,h2,rfl⟩:=zH.mp h1;exact⟨x,h2,rfl⟩
theorem Hz:b9 .Eq s (.str "=") (.str "=")=some true:=by kernel_rfl
theorem Hm:b9 .Eq s (.str ">") (.str "=")=some false:=by kernel_rfl
structure Qu(nn:Int)(w:Nat)(RR:List (List Int))(HO:Nat->List Int)(gv:List Gv)(goal:List Int):Prop where
 HR:∀st,pm aN [.int nn] st=some (.fz (aw RR),st)
 HA:∀st,pm ah [.int nn] st=some (.int w,st)
 H:HOk nn w RR.length HO
 Z:Sz w RR gv goal
 hw:w<=15
 hR:RR.length<=100
 hg:gv.length<=100
 B:Bnd w (RR.length+gv.length+1) (v0 w (ag RR gv goal))
theorem se(q:Qu nn w RR HO gv goal){k a b c g n u p:Nat}(R:Rep st k a b c g n u rows S)(I:MI w (RR.length+gv.length+1) (v0 w (ag RR gv goal)) S)(hp:p<RR.length+gv.length+1)(nt:S.tn.Nodup)(ht:∀x∈S.tn,x<w+(RR.length+gv.length+1)) :
  ∃st1 W st2,aJ [.int nn,.ref k,.int p] st=some (.ref (st.length+1),st1)/\pm af [.ref (st.length+1)] st1=some (.fz (iL W),st2):=by
 obtain⟨z,e1,T,W,hT,hl,hW,hz1,hz2⟩:=Ad R I.shp I.pm hp nt ht (by have:=q.hw;lia) (by have:=q.hg;have:=q.hR;lia) q.HA q.H oM;obtain⟨z1,z2⟩:=z;dsimp only at hz1 hz2;subst hz1;subst hz2;have gW:(st++[Mw.lst (iL T)]++[Mw.lst (iL W)])[st.length+1]?=some (.lst (iL W)):=by
  have:(st++[Mw.lst (iL T)]).length=st.length+1:=by simp
  rw[<- this];exact gl
 have wb:∀x∈W,x.natAbs<2^9000:=fun x hx=>by
  obtain⟨j,hj⟩:=yC hx;have hjl:=(zD.mp hj).1;have eg:gI W j=x:=by unfold gI;rw[zF,hj];rfl
  rw[<- eg,hW j oM];exact Ae (hT.bd hp I.pm (q.B.bd8 I)) q.H q.hw j
 obtain⟨st2,e2,_⟩:=jH (fn:=af) (rest:=[]) (st:=st++[Mw.lst (iL T)]++[Mw.lst (iL W)]) (x:=.ref (st.length+1)) (l:=W) (.inr ⟨_,rfl,.inl gW⟩) rfl rfl (fun s=>rfl) (o9 (by have:=q.hg;have:=q.hR;lia) wb) rfl (by simp[flat]);exact⟨_,_,st2,e1,e2⟩
theorem zz(q:Qu nn w RR HO gv goal):∃z,dM [.int nn,.fz (gv.map Gv.av),.fz (iL goal)] []=some z/\∃t,dE z.2 z.1=some t/\jy w RR gv goal t:=by
 have Z:=q.Z;obtain⟨m,hm⟩:∃m,m=RR.length+gv.length:=⟨_,rfl⟩;have hLl:(ag RR gv goal).length=m+1:=by rw[u5,hm]
 obtain⟨L,hL⟩:∃L,L=ag RR gv goal:=⟨_,rfl⟩;obtain⟨st1,e1,R1⟩:=EE (gv:=gv) (goal:=goal) q.HR q.HA q.hw q.hR Z.r q.hg Z.g Z.o;have A0:AI w RR.length gv (ag RR gv goal) 0 (SX.openS w (ag RR gv goal) (w+RR.length)):=by
  have hLen:∀l∈ag RR gv goal,l.length=w+1:=fun l hl=>by
   unfold ag at hl;simp only[z7,yG,zP]at hl;rcases hl with(⟨r,hr,rfl⟩|⟨z,hz,rfl⟩)|rfl
   ·simp[Z.r r hr]
   ·simp[Z.g z hz]
   ·simp[Z.o]
  have hI:=SX.open_MI (w:=w) (nr:=RR.length) (L:=ag RR gv goal) hLen fun i hi=>by
   rw[zF,qY hi];show gI (RR[i]++[0]) w=0;rw[qy (Z.r _ (List.getElem_mem hi)),yK oM,yL rfl]
  rw[u5]at hI;refine⟨hI,fun x _ hx=>SX.open_s (by rw[u5];exact hx),fun x hx=>.inl (List.mem_range.mp hx),fun x hx=>List.mem_range.mpr hx,fun y z h=>by lia,fun x hx=>?_,fun y z h=>by lia,fun x hx=>?_,List.nodup_nil,by simp[SX.openS],zS 0,zS 0⟩
  ·exact absurd (show x ∈ ([]:List Nat) from hx) (by simp)
  ·exact absurd (show x ∈ ([]:List Nat) from hx) (by simp)
 have sm:=q.hg;have sm2:=q.hR;have sm3:=q.hw;rw[dM];simp only[aF];unfold lR;refine ai (sl':=[Is nn,Zs (gv.map Gv.av),Ls goal,Rs 1,none,none,none,none,none]) (st':=st1) (by simp[e1]) ?_;have l2:bu st1 (.ref 2)=some (aw (ag RR gv goal)):=bv R1.ha;refine ai (sl':=[Is nn,Zs (gv.map Gv.av),Ls goal,Rs 1,Is (m:Int),none,none,none,none]) (st':=st1) (by simp[R1.ins,bW,d4,l2,hLl]) ?_
 -- the givens
 have loop:=nW (gd:=[]) (g:=bH [bA,bZ,bo,aJ,af,bn,bj,aO,bY] (.tu 2 (.cons (.nm 5) (.cons (.nm 6) .nil))))
  (s:=aj [bA,bZ,bo,aJ,af,bn,bj,aO,bY] (.cons (.as (.ife (.cmp .Eq (.ix (.v 6) (.i 1)) (.s "=")) (.ca false 1 (.cons (.v 3) (.cons (.v 5) .nil))) (.ca false 2 (.cons (.v 3) (.cons (.v 5) .nil)))) (.nm 7))
   (.cons (.iff (.no (.va (.v 7))) (.cons (.rt (.tu (.cons (.s "never") (.cons (.ca true 4 (.cons (.ca false 3 (.cons (.v 0) (.cons (.v 3) (.cons (.v 5) .nil)))) .nil)) .nil)))) .nil) .nil) .nil)))
  (I:=fun i sl s=>∃a rows S x5 x6 x7,sl=[Is nn,Zs (gv.map Gv.av),Ls goal,Rs 1,Is (m:Int),x5,x6,x7,none]/\Rep s 1 a 3 4 5 6 7 rows S/\AI w RR.length gv (ag RR gv goal) i S)
  (Post:=fun v s=>∃t,dE s v=some t/\jy w RR gv goal t) (xs:=dX RR.length (gv.map Gv.av)) (fun _ _ _ _ _=>rfl)
  (fun i y sl s hy hI=>by
   obtain⟨a,rows,S,x5,x6,x7,rfl,R,A⟩:=hI;obtain⟨x,hx,rfl⟩:=CG hy;rw[zU]at hx;obtain⟨z,hz,rfl⟩:=zH.mp hx;have hzm:=zZ hz;have hi:=(zD.mp hz).1;have hp:RR.length+i<RR.length+gv.length+1:=by lia
   have I:=A.mi;have sp:S.s (RR.length+i)=w+RR.length+i:=by rw[A.un _ (zS _) hp];lia
   have ng:S.s (RR.length+i)∉S.gd:=fun h=>by
    rcases A.g1 _ h with h|⟨y,_,h,_,_,h2⟩<;>lia
   have nn':S.s (RR.length+i)∉S.nl:=fun h=>by obtain⟨y,_,h,_,_,h2⟩:=A.n1 _ h;lia
   have nt:S.s (RR.length+i)∉S.tn:=fun h=>nn' (A.t1 _ h)
   have unk:∀T:Sh,Kj (RR.length+gv.length+1) (RR.length+i) S T->∀x,RR.length+(i+1)<=x->x<RR.length+gv.length+1->T.s x=w+x:=fun T K x h1 h2=>by
    have e:=A.un x oM h2;rw[K.si x h2 oM (by rw[e];intro h;rcases A.g1 _ h with h|⟨y,_,h,_,_,h2⟩<;>lia),e]
   have lst:∀x∈S.nl,x<w+(RR.length+gv.length+1):=fun x hx=>by
    obtain⟨y,_,h,_,_,h2⟩:=A.n1 _ hx;lia
   -- no table
   have nev:∀(T:Sh),MI w (RR.length+gv.length+1) (v0 w (ag RR gv goal)) T->T.gd=S.gd->T.nl=S.nl->(∀x∈T.tn,x∈T.nl\/x=T.s (RR.length+i))->T.s (RR.length+i)=S.s (RR.length+i)->T.t (RR.length+i) w<0->(∀j,j<w->T.h j∉T.nl->¬0<T.t (RR.length+i) j)->(z.eq=false->T.s (RR.length+i)∉T.tn)->∀Y e,0<e->¬Kp w RR gv Y e:=fun T I' hg hn ht hs low hr hzt Y e he F=>by
    obtain⟨f1,f2⟩:=A.of Z F;have d:=I'.dual hp hr ht (Y:=Y) (e:=e) (fun j hj h=>by
     rcases I'.fea.f j hj with h1|h1
     ·rw[show(T.h j∈T.gd)=(T.h j∈S.gd) by rw[hg]]at h1;exact f1 _ h1
     ·exact absurd h1 h) (fun j hj h=>by rw[hn]at h;exact f2 _ h)
    have neg:=Int.mul_neg_of_neg_of_pos low he;have qe:=dS (Y:=Y) (e:=e) (i9 (RR:=RR) (goal:=goal) hz) (Z.g z hzm);have e1:- z.num*e=- (z.num*e):=by grind
    rw[hs,sp,Nat.add_assoc,qe]at d;cases hze:z.eq with
    |true =>
     have:=F.eq z hzm hze
     rw[show val w z.row Y+- z.num*e=0 by lia]at d;split at d<;>lia
    |false =>
     have h3:=F.ge z hzm hze;have h4:=hzt hze;rw[hs,sp,Nat.add_assoc]at h4;rw[yK h4]at d
     have:=Int.mul_nonneg (Int.le_of_lt I'.lin.pos) (show 0 <= val w z.row Y + - z.num * e by lia)
     lia
   cases hze:z.eq with
   |true =>
    obtain⟨T,s2,a2,rows2,bb,e2,R2,K,hg,I2,hb⟩:=Hf q.B R I hp ng nn' nt (by have:=A.ln;lia) (by have:=A.lt;lia);have tnd:T.tn.Nodup:=by
     rcases K.tn with h|h
     ·rw[h];exact A.tn
     ·rw[h]
      rw[List.nodup_append];exact⟨A.tn,by simp,fun x hx y hy e=>nt (by rw[<- zP.mp hy,<- e];exact hx)⟩
    have es:cA [bA,bZ,bo,aJ,af,bn,bj,aO,bY] (.as (.ife (.cmp .Eq (.ix (.v 6) (.i 1)) (.s "=")) (.ca false 1 (.cons (.v 3) (.cons (.v 5) .nil))) (.ca false 2 (.cons (.v 3) (.cons (.v 5) .nil)))) (.nm 7)) [Is nn,Zs (gv.map Gv.av),Ls goal,Rs 1,Is (m:Int),Is ((RR.length+i:Nat):Int),some z.av,x7,none] s
      = some (.nx [Is nn,Zs (gv.map Gv.av),Ls goal,Rs 1,Is (m:Int),Is ((RR.length+i:Nat):Int),some z.av,some (.bl bb),none] s2):=by
     have xi:bN s z.av (.int 1)=some (.str "="):=by
      have:z.av=.tup [.fz (iL z.row),.str "=",.int z.num]:=by unfold Gv.av;rw[hze];rfl
      rw[this];rfl
     simp only[fg,Ag,tF,xh,rq,vd,Ig,og,oe,bind_some,xi,map_some,Hz,ite_true,pB,gK,iO,tR,qg,qf,e2,zk];rfl
    rcases hb with⟨rfl,hn⟩|⟨rfl,hn,hs,low,hr⟩
    ·refine⟨_,.nx [Is nn,Zs (gv.map Gv.av),Ls goal,Rs 1,Is (m:Int),Is ((RR.length+i:Nat):Int),some z.av,some (.bl true),none] s2,rfl,au es ?_,.inl ⟨_,s2,rfl,a2,rows2,T,_,_,_,rfl,R2,⟨I2,unk T K,fun x hx=>?_,fun x hx=>by rw[hg];exact A.g2 x hx,fun y z' hy h1 h2=>?_,fun x hx=>?_,fun y z' hy h1 h2=>?_,fun x hx=>?_,tnd,?_,?_,?_⟩⟩⟩
     ·simp[eJ,bu,dr]
     ·rw[hg]at hx
      rcases A.g1 x hx with h|⟨y,z',h1,h2⟩
      ·exact .inl h
      ·exact .inr ⟨y,z',by lia,h2⟩
     ·rw[hg]
      by_cases e:y=i
      ·subst e;rw[hz]at h1;cases h1;rw[hze]at h2;cases h2
      ·exact A.g3 y z' oM h1 h2
     ·rw[hn,z7,zP]at hx
      rcases hx with hx|hx
      ·obtain⟨y,z',h1,h2⟩:=A.n1 x hx;exact⟨y,z',by lia,h2⟩
      ·exact⟨i,z,by lia,hz,hze,by rw[hx,sp]⟩
     ·rw[hn,z7,zP]
      by_cases e:y=i
      ·subst e;exact .inr (by rw[sp])
      ·exact .inl (A.n2 y z' oM h1 h2)
     ·rw[hn,z7,zP]
      rcases K.tn with h|h
      ·rw[h]at hx;exact .inl (A.t1 x hx)
      ·rw[h,z7,zP]at hx
       exact hx.imp (A.t1 x) id
     ·rw[hg];have:=A.lg;lia
     ·rw[hn,zY];have:=A.ln;simp;lia
     ·rcases K.tn with h|h
      ·rw[h];have:=A.lt;lia
      ·rw[h,zY];have:=A.lt;simp;lia
    ·have tq:∀x∈T.tn,x∈T.nl\/x=T.s (RR.length+i):=fun x hx=>by
      rw[hn,hs];rcases K.tn with h|h
      ·rw[h]at hx;exact .inl (A.t1 x hx)
      ·rw[h,z7,zP]at hx
       exact hx.imp (A.t1 x) id
     obtain⟨s3,W,s4,e3,e4⟩:=se q R2 I2 hp tnd fun x hx=>by
      rcases tq x hx with h|h
      ·rw[hn]at h;exact lst x h
      ·rw[h,hs,sp];lia
     refine⟨_,.rt (.tup [.str "never",.fz (iL W)]) s4,rfl,au es ?_,.inr ⟨_,s4,rfl,_,rfl,.inl ⟨⟨W,rfl⟩,nev T I2 hg hn tq hs low hr (fun h=>by rw[hze]at h;cases h)⟩⟩⟩;rw[Int.natCast_add]at e3;simp[eJ,bu,dr,e3,e4]
   |false =>
    obtain⟨T,s2,a2,rows2,bb,e2,R2,K,ht,hn,I2,hb⟩:=He q.B R I hp ng nn' (by have:=A.lg;lia);have es:cA [bA,bZ,bo,aJ,af,bn,bj,aO,bY] (.as (.ife (.cmp .Eq (.ix (.v 6) (.i 1)) (.s "=")) (.ca false 1 (.cons (.v 3) (.cons (.v 5) .nil))) (.ca false 2 (.cons (.v 3) (.cons (.v 5) .nil)))) (.nm 7)) [Is nn,Zs (gv.map Gv.av),Ls goal,Rs 1,Is (m:Int),Is ((RR.length+i:Nat):Int),some z.av,x7,none] s
      = some (.nx [Is nn,Zs (gv.map Gv.av),Ls goal,Rs 1,Is (m:Int),Is ((RR.length+i:Nat):Int),some z.av,some (.bl bb),none] s2):=by
     have xi:bN s z.av (.int 1)=some (.str ">"):=by
      have:z.av=.tup [.fz (iL z.row),.str ">",.int z.num]:=by unfold Gv.av;rw[hze];rfl
      rw[this];rfl
     simp only[fg,Ag,tF,xh,rq,vd,Ig,og,oe,bind_some,xi,map_some,Hm,yE,ite_false,pB,gK,iO,tR,qg,qf,e2,zk];rfl
    rcases hb with⟨rfl,hg⟩|⟨rfl,hg,hs,low,hr⟩
    ·refine⟨_,.nx [Is nn,Zs (gv.map Gv.av),Ls goal,Rs 1,Is (m:Int),Is ((RR.length+i:Nat):Int),some z.av,some (.bl true),none] s2,rfl,au es ?_,.inl ⟨_,s2,rfl,a2,rows2,T,_,_,_,rfl,R2,⟨I2,unk T K,fun x hx=>?_,fun x hx=>by rw[hg];exact zO _ (A.g2 x hx),fun y z' hy h1 h2=>?_,fun x hx=>?_,fun y z' hy h1 h2=>?_,fun x hx=>by rw[ht]at hx;rw[hn];exact A.t1 x hx,by rw[ht];exact A.tn,?_,by rw[hn];have:=A.ln;lia,by rw[ht];have:=A.lt;lia⟩⟩⟩
     ·simp[eJ,bu,dr]
     ·rw[hg,z7,zP]at hx
      rcases hx with hx|hx
      ·rcases A.g1 x hx with h|⟨y,z',h1,h2⟩
       ·exact .inl h
       ·exact .inr ⟨y,z',by lia,h2⟩
      ·exact .inr ⟨i,z,by lia,hz,hze,by rw[hx,sp]⟩
     ·rw[hg,z7,zP]
      by_cases e:y=i
      ·subst e;exact .inr (by rw[sp])
      ·exact .inl (A.g3 y z' oM h1 h2)
     ·rw[hn]at hx
      obtain⟨y,z',h1,h2⟩:=A.n1 x hx;exact⟨y,z',by lia,h2⟩
     ·rw[hn]
      by_cases e:y=i
      ·subst e;rw[hz]at h1;cases h1;rw[hze]at h2;cases h2
      ·exact A.n2 y z' oM h1 h2
     ·rw[hg,zY];have:=A.lg;simp;lia
    ·have tq:∀x∈T.tn,x∈T.nl\/x=T.s (RR.length+i):=fun x hx=>.inl (by rw[ht]at hx;rw[hn];exact A.t1 x hx)
     obtain⟨s3,W,s4,e3,e4⟩:=se q R2 I2 hp (by rw[ht];exact A.tn) fun x hx=>by rw[ht]at hx;exact lst x (A.t1 x hx)
     refine⟨_,.rt (.tup [.str "never",.fz (iL W)]) s4,rfl,au es ?_,.inr ⟨_,s4,rfl,_,rfl,.inl ⟨⟨W,rfl⟩,nev T I2 hg hn tq hs low hr (fun _=>by rw[ht,hs];exact nt)⟩⟩⟩;rw[Int.natCast_add]at e3;simp[eJ,bu,dr,e3,e4]) (sl:=[Is nn,Zs (gv.map Gv.av),Ls goal,Rs 1,Is (m:Int),none,none,none,none]) (st:=st1) ⟨2,_,_,none,none,none,rfl,R1,A0⟩
 have ei:dk [bA,bZ,bo,aJ,af,bn,bj,aO,bY] (.es (.v 1) (.bin .Sub (.v 4) (.bi .len (.cons (.v 1) .nil)))) [Is nn,Zs (gv.map Gv.av),Ls goal,Rs 1,Is (m:Int),none,none,none,none] st1=some (⟨dX RR.length (gv.map Gv.av),[]⟩,st1):=by
  have h1:(m:Int)-(gv.length:Int)=(RR.length:Int):=by lia
  have h2:Nat.ble RR.length 1000000=true:=yO oM;simp[uw,bW,d4,h1];lia
 rcases loop with⟨sl',st2,e2,a,rows,S,x5,x6,x7,rfl,R,A⟩|⟨v,st2,e2,t,ht,hA⟩
 ·rw[show(dX RR.length (gv.map Gv.av)).length=gv.length by unfold dX;simp]at A
  refine ai (sl':=[Is nn,Zs (gv.map Gv.av),Ls goal,Rs 1,Is (m:Int),x5,x6,x7,none]) (st':=st2) (by rw[nG,ei,bind_some];exact e2) ?_;have hp:m<RR.length+gv.length+1:=by lia
  have spg:S.s m=w+m:=A.un m oM hp;have ng:S.s m∉S.gd:=fun h=>by rcases A.g1 _ h with h|⟨y,_,h,_,_,h2⟩<;>lia
  obtain⟨r,e3,S2,a3,rows3,R3,K,I3,sp3,h3⟩:=CH q.B R A.mi hp ng;have A3:AI w RR.length gv (ag RR gv goal) gv.length S2:=by
   refine⟨I3,fun x h1 h2=>?_,by rw[K.gd];exact A.g1,by rw[K.gd];exact A.g2,by rw[K.gd];exact A.g3,by rw[K.nl];exact A.n1,by rw[K.nl];exact A.n2,by rw[K.tn,K.nl];exact A.t1,by rw[K.tn];exact A.tn,by rw[K.gd];exact A.lg,by rw[K.nl];exact A.ln,by rw[K.tn];exact A.lt⟩;have:x=m:=by lia
   subst this;rw[sp3,spg]
  have P3:=I3.shp;have lst:∀x∈S2.tn,x<w+(RR.length+gv.length+1):=fun x hx=>by
   obtain⟨y,_,h,_,_,h2⟩:=A3.n1 _ (A3.t1 x hx);lia
  obtain⟨r1,r2⟩:=r;dsimp only at R3 h3
  -- the table
  have tb:∀X,GX S2 w w (RR.length+gv.length+1) X->Kp w RR gv (gI X) S2.d/\val w goal (gI X)=- S2.t m w:=fun X hX=>by
   have:=A3.vert Z (c:=w) oM (fun h=>by lia) (X:=gI X) hX.at_ (fun j hj h=>by
    rw[yK oM];exact hX.no _ h fun i hi=>Ne.symm (I3.pm.hs j i hj hi)) (fun i hi hg=>I3.fea.g i hi hg)
   rw[yL rfl,<- hm]at this;exact this
  rcases h3 with⟨rfl,hr⟩|⟨qq,rfl,hr,htn⟩
  ·refine ai (sl':=[Is nn,Zs (gv.map Gv.av),Ls goal,Rs 1,Is (m:Int),x5,x6,x7,some .non]) (st':=r2) (by simp[R.ins,e3]) ?_
   obtain⟨z,e4,X,T,W,hX,hT,hl,hW,hz⟩:=yx (m:=RR.length+gv.length) (p:=m) R3 I3 q.B oM A3.tn lst q.hw oM q.HA q.H oM;obtain⟨z1,z2⟩:=z;dsimp only at hz;refine⟨(z1,z2),by simp[e4],z1,by rw[hz];rfl,.inr (.inl ⟨- S2.t m w,S2.d,_,_,_,hz,I3.lin.pos,⟨by rw[Int.natAbs_neg];exact(q.B.bd I3).2 m oM w oM,(q.B.bd I3).1,rfl⟩,⟨gI X,(tb X hX).1,(tb X hX).2⟩,fun Y e he F=>?_⟩)⟩;obtain⟨f1,f2⟩:=A3.of Z F;have d:=I3.dual hp (hr.1 rfl) (fun x hx=>.inl (A3.t1 x hx)) (Y:=Y) (e:=e) (fun j hj h=>by
    rcases I3.fea.f j hj with h1|h1
    ·exact f1 _ h1
    ·exact absurd h1 h) (fun j hj h=>f2 _ h)
   have hnt:S2.s m∉S2.tn:=fun z=>by
    obtain⟨y,_,h,_,_,h2⟩:=A3.n1 _ (A3.t1 _ z);rw[sp3,spg]at h2;lia
   rw[yK hnt,sp3,spg,hm,dS wY (by rw[zK];exact Z.o),nA,yT,Int.add_zero,<- hm]at d;have e5:S2.d*- val w goal Y=- (val w goal Y*S2.d):=by grind
   have e6:- S2.t m w*e=- (S2.t m w*e):=by grind
   lia
  ·refine ai (sl':=[Is nn,Zs (gv.map Gv.av),Ls goal,Rs 1,Is (m:Int),x5,x6,x7,Is (qq:Int)]) (st':=r2) (by simp[R.ins,e3]) ?_
   obtain⟨q1,q2,q3,_⟩:=hr.2 qq rfl;obtain⟨X,T,st4,e4,_,hX,R4⟩:=Am R3 P3 I3.pm (q.B.bd I3) q.HA oM oM;obtain⟨X2,st5,e5,hX2⟩:=Gg R4 P3 I3.pm (q.B.bd I3) q.HA oM oM q1;refine⟨(.tup [.str "endless",.tup [.fz (iL T),.int (gI (aG (X++[S2.d])) w)],.fz (iL (aG (if S2.h qq<w then X2.set (S2.h qq) S2.d else X2)))],st5),by simp[e4,e5],_,rfl,.inr (.inr ⟨_,_,rfl,rfl,⟨gI X,S2.d,I3.lin.pos,(tb X hX).1⟩,fun x=>if x=S2.h qq then S2.d else gI X2 x,?_⟩)⟩
   have:=A3.vert Z (c:=qq) oM (fun _=>q2) (X:=fun x=>if x=S2.h qq then S2.d else gI X2 x) (fun i hi hs=>by
    rw[yK (Ne.symm (I3.pm.hs qq i q1 hi))];exact hX2.at_ i hi hs) (fun j hj h=>by
    by_cases e:j=qq
    ·subst e;rw[yL rfl,yL rfl]
    ·rw[yK fun z=>e (I3.pm.hi j qq hj q1 z),yK e]
     exact hX2.no _ h fun i hi=>Ne.symm (I3.pm.hs j i hj hi)) (fun i hi hg=>by have:=htn.1 rfl i hi hg;lia)
   rw[yK oM,<- hm]at this;exact⟨this.1,by rw[this.2];lia⟩
 ·refine⟨(v,st2),?_,t,ht,hA⟩
  refine nJ ?_;rw[nG,ei,bind_some];exact e2
end
noncomputable def RR2:List (List Int):=[[0,-1,1],[-1,0,1],[1,1,-1]]
noncomputable def Jg:Nat->List Int
 |1=>[1,0,1]
 |2=>[0,1,1]
 |_=>[1,1,1]
noncomputable def RR3:List (List Int):=[[0,0,0,0,0,-1,1],[0,0,0,0,-1,0,1],[0,0,-1,0,0,0,1],[1,1,-1,0,0,0,0],[0,0,0,-1,1,1,-1],[1,0,0,1,-1,0,0],[0,-1,1,0,0,1,-1],[0,1,0,1,0,-1,0],[-1,0,1,0,1,0,-1]]
noncomputable def Jf:Nat->List Int
 |1=>[1,0,0,1,0,0,1,0,0]
 |2=>[0,1,0,1,0,0,0,0,1]
 |3=>[1,1,0,1,0,0,1,0,1]
 |4=>[0,0,1,0,0,1,0,0,1]
 |5=>[1,0,1,1,0,0,1,0,1]
 |6=>[0,1,1,1,0,0,1,0,1]
 |_=>[1,1,1,1,0,0,1,0,1]
noncomputable def mk(w p m:Nat):List Int:=(List.range w).map fun i=>if p.testBit i then 1 else if m.testBit i then -1 else 0
def RR4:List (List Int):=[(16384,8192),(16384,4096),(16384,1024),(16384,64),(3,4),(48,72),(768,1152),(12288,18432),(9,16),(36,66),(2304,4224),(9216,16896),(129,256),(516,1026),(2064,4104),(8256,16416),(10,32),(20,65),(2560,8320),(5120,16640),(130,512),(260,1025),(2080,8200),(4160,16400),(136,2048),(272,4097),(544,8194),(1088,16388)].map fun z:Nat×Nat=>mk 15 z.1 z.2
def Je(g:Nat):List Int:=mk 28 ([33297,8519698,8552979,134349060,134382101,142737942,142770711,136318984,136348185,142745626,142770715,142754060,142770717,142770718,142770719].getD (g-1) 0) 0
theorem c5(hr:rfs args=true)(h:((fn args []).bind fun p=>dE p.2 p.1)=some t):pm fn args st=some (t,st):=by
 obtain⟨p,h1,h2⟩:=zA h;exact dP hr h1 h2
def KP(nn:Int)(w nr:Nat)(HO:Nat->List Int):Bool:=(List.range w).all fun g=>(match (cB [.int nn,.int ((g+1:Nat):Int),.int 0] []).bind fun p=>dE p.2 p.1 with
 |some rr=>rf rr&&(match (dz [.int nn,rr] []).bind fun p=>dE p.2 p.1 with
  |some x=>cC x (.fz (iL (HO (g+1))))
  |none=>false)
 |none=>false)&&((HO (g+1)).length==nr&&(HO (g+1)).all fun x=>Nat.ble x.natAbs 15)
theorem ph{nn:Int}{w nr:Nat}{HO:Nat->List Int}(h:KP nn w nr HO=true):HOk nn w nr HO:=by
 have at_:∀grp:Nat,1<=grp->grp<=w->(∃rr,(∀st,pm cB [.int nn,.int grp,.int 0] st=some (rr,st))/\∀st,pm dz [.int nn,rr] st=some (.fz (iL (HO grp)),st))/\(HO grp).length=nr/\∀x∈HO grp,x.natAbs<=15:=fun grp h1 h2=>by
  obtain⟨g,rfl⟩:∃g,grp=g+1:=⟨grp-1,by lia⟩;have h:=yU.mp h g (List.mem_range.mpr oM);simp only[zE]at h;obtain⟨h3,h4,h5⟩:=h;refine⟨?_,yN h4,fun x hx=>zV (yU.mp h5 x hx)⟩;split at h3
  ·rename_i rr e1
   simp only[zE]at h3;obtain⟨h6,h7⟩:=h3;split at h7
   ·rename_i x e2
    rw[sQ h7]at e2;exact⟨rr,fun st=>c5 rfl e1,fun st=>c5 (by simp[rfs,rf,h6]) e2⟩
   ·cases h7
  ·cases h3
 exact⟨fun grp h1 h2=>(at_ grp h1 h2).1,fun grp h1 h2=>(at_ grp h1 h2).2.1,fun grp h1 h2=>(at_ grp h1 h2).2.2⟩
theorem Lm:∀st,pm ah [.int 2] st=some (.int ((3:Nat):Int),st):=fun st=>c5 rfl (by kernel_rfl)
theorem Ll:∀st,pm ah [.int 3] st=some (.int ((7:Nat):Int),st):=fun st=>c5 rfl (by kernel_rfl)
theorem Lk:∀st,pm ah [.int 4] st=some (.int ((15:Nat):Int),st):=fun st=>c5 rfl (by kernel_rfl)
theorem Ld:∀st,pm aN [.int 2] st=some (.fz (aw RR2),st):=fun st=>c5 rfl (by kernel_rfl)
theorem Lc:∀st,pm aN [.int 3] st=some (.fz (aw RR3),st):=fun st=>c5 rfl (by kernel_rfl)
theorem Lb:∀st,pm aN [.int 4] st=some (.fz (aw RR4),st):=fun st=>c5 rfl (by kernel_rfl)
theorem Li:HOk 2 3 RR2.length Jg:=ph (by kernel_rfl)
theorem Lh:HOk 3 7 RR3.length Jf:=ph (by kernel_rfl)
theorem Lg:HOk 4 15 RR4.length Je:=ph (by kernel_rfl)
noncomputable def RR1:List (List Int):=[[1]]
noncomputable def Jh:Nat->List Int:=fun _=>[1]
theorem Ln:∀st,pm ah [.int 1] st=some (.int ((1:Nat):Int),st):=fun st=>c5 rfl (by kernel_rfl)
theorem Lf:∀st,pm aN [.int 1] st=some (.fz (aw RR1),st):=fun st=>c5 rfl (by kernel_rfl)
theorem Lj:HOk 1 1 RR1.length Jh:=ph (by kernel_rfl)
noncomputable def M0:Nat:=2^200
theorem FT{w:Nat}(hw:w<=15)(hR:RR.length<=100)(hg:gv.length<=100)(h1:∀l∈RR,∀x∈l,x.natAbs<=M0)(h2:∀z∈gv,(∀x∈z.row,x.natAbs<=M0)/\z.num.natAbs<=M0)(h3:∀x∈goal,x.natAbs<=M0):Bnd w (RR.length+gv.length+1) (v0 w (ag RR gv goal)):=by
 refine⟨⟨M0,Nat.one_le_two_pow,fun q x hx=>?_,?_⟩,by lia,by lia⟩
 ·have hM:1<=M0:=Nat.one_le_two_pow
  unfold v0;split
  ·split<;>simp[hM]
  ·unfold gI
   rw[zF,zF];cases e:(ag RR gv goal)[q-w]? with
   |none=>simp
   |some l =>
    have hl:=zZ e;simp only[Option.getD_some];cases e2:l[x]? with
    |none=>simp
    |some y =>
     have hy:=zZ e2;simp only[Option.getD_some];unfold ag at hl;simp only[z7,yG,zP]at hl;rcases hl with(⟨r,hr,rfl⟩|⟨z,hz,rfl⟩)|rfl
     ·rcases z7.mp hy with h|h
      ·exact h1 r hr y h
      ·rw[zP.mp h];simp
     ·rcases z7.mp hy with h|h
      ·exact(h2 z hz).1 y h
      ·rw[zP.mp h,Int.natAbs_neg];exact(h2 z hz).2
     ·rcases z7.mp hy with h|h
      ·obtain⟨u,hu,rfl⟩:=yG.mp h
       rw[Int.natAbs_neg];exact h3 u hu
      ·rw[zP.mp h];simp
 ·have f:SX.fct (w+1)<=2^45:=by
   have:w=0\/w=1\/w=2\/w=3\/w=4\/w=5\/w=6\/w=7\/w=8\/w=9\/w=10\/w=11\/w=12\/w=13\/w=14\/w=15:=by lia
   rcases this with rfl|rfl|rfl|rfl|rfl|rfl|rfl|rfl|rfl|rfl|rfl|rfl|rfl|rfl|rfl|rfl<;>decide
  have p:M0^(w+1)<=2^3200:=by
   unfold M0;rw[<- Nat.pow_mul];exact Nat.pow_le_pow_right dC oM
  refine yP (Nat.mul_le_mul f p) ?_;rw[<- Nat.pow_add];exact Nat.pow_lt_pow_right dC dC
def jj(cs:List Int)(RR:List (List Int))(x:Nat):Int:=((cs.zip RR).map fun z=>z.1*gI z.2 x).sum
theorem sk{w:Nat}{Y:Nat->Int}:∀(cs:List Int)(RR:List (List Int)),MA w (fun x=>jj cs RR x*Y x)=((cs.zip RR).map fun z=>z.1*val w z.2 Y).sum
 |[],_=>by simp[jj];exact SX.sum_zero fun _ _=>rfl
 |_::_,[]=>by simp[jj];exact SX.sum_zero fun _ _=>rfl
 |c::cs,r::RR=>by
  rw[List.zip_cons_cons,zR,List.sum_cons,<- sk cs RR];unfold val;rw[<- SX.sum_mul,<- SX.sum_add];refine SX.sum_congr fun x _=>?_
  show jj (c::cs) (r::RR) x*Y x=_;have:jj (c::cs) (r::RR) x=c*gI r x+jj cs RR x:=by simp[jj]
  rw[this];grind
theorem E6{w:Nat}{Y:Nat->Int}{cs:List Int}{RR:List (List Int)}(hc:∀c∈cs,0<=c)(h:∀r∈RR,0<=val w r Y):0<=((cs.zip RR).map fun z=>z.1*val w z.2 Y).sum:=by
 have:∀l:List (Int×List Int),(∀z∈l,0<=z.1/\0<=val w z.2 Y)->0<=(l.map fun z=>z.1*val w z.2 Y).sum:=fun l=>by
  induction l with
  |nil=>intro _;simp
  |cons z l ih =>
   intro h;rw[zR,List.sum_cons];have h1:=Int.mul_nonneg (h z yB).1 (h z yB).2;have h2:=ih fun y hy=>h y (zT _ hy)
   lia
 exact this _ fun z hz=>⟨hc _ (List.of_mem_zip hz).1,h _ (List.of_mem_zip hz).2⟩
def IC(w:Nat)(RR:List (List Int))(HO:Nat->List Int):Bool:=(List.range w).all fun g=>(HO (g+1)).all (fun c=>decide (0<=c))&&(List.range w).all fun x=>jj (HO (g+1)) RR x==if x=g then 1 else 0
theorem tX{w:Nat}{RR:List (List Int)}{HO:Nat->List Int}(hb:IC w RR HO=true):∀Y:Nat->Int,(∀r∈RR,0<=val w r Y)->∀x,x<w->0<=Y x:=fun Y h g hg=>by
 have hb:=yU.mp hb g (List.mem_range.mpr hg);rw[zE]at hb;have hc:∀c∈HO (g+1),0<=c:=fun c hc=>of_decide_eq_true (yU.mp hb.1 c hc)
 have hx:∀x,x<w->jj (HO (g+1)) RR x=if x=g then 1 else 0:=fun x hx=>yN (yU.mp hb.2 x (List.mem_range.mpr hx))
 have e:=sk (w:=w) (Y:=Y) (HO (g+1)) RR;rw[SX.sum_one hg fun x h1 h2=>by rw[hx x h1,yK h2,yT],hx g hg,yL rfl,Int.one_mul]at e;rw[e];exact E6 hc h
def fE(n:Nat):Prop:=n=1\/n=2\/n=3\/n=4
def gA(n:Nat):List (List Int):=if n=1 then RR1 else if n=2 then RR2 else if n=3 then RR3 else RR4
def Jd(n:Nat):Nat->List Int:=if n=1 then Jh else if n=2 then Jg else if n=3 then Jf else Je
theorem At{n:Nat}{gv:List Gv}{goal:List Int}(hn:fE n)(hg:gv.length<=100)(h2:∀z∈gv,z.row.length=2^n-1/\(∀x∈z.row,x.natAbs<=M0)/\z.num.natAbs<=M0)(h3:goal.length=2^n-1/\∀x∈goal,x.natAbs<=M0):Qu n (2^n-1) (gA n) (Jd n) gv goal:=by
 have h1:∀l∈gA n,l.length=2^n-1/\∀x∈l,x.natAbs<=1:=by rcases hn with rfl|rfl|rfl|rfl<;>decide +kernel
 have hR:(gA n).length<=100:=by rcases hn with rfl|rfl|rfl|rfl<;>decide
 have hw:2^n-1<=15:=by rcases hn with rfl|rfl|rfl|rfl<;>decide
 have hM:1<=M0:=Nat.one_le_two_pow;have hb:IC (2^n-1) (gA n) (Jd n)=true:=by rcases hn with rfl|rfl|rfl|rfl<;>kernel_rfl
 have B:=FT hw hR hg (fun l hl x hx=>z9 ((h1 l hl).2 x hx) hM) (fun z hz=>(h2 z hz).2) h3.2;have Z:Sz (2^n-1) (gA n) gv goal:=⟨fun l hl=>(h1 l hl).1,fun z hz=>(h2 z hz).1,h3.1,tX hb⟩;rcases hn with rfl|rfl|rfl|rfl
 ·exact⟨Lf,Ln,Lj,Z,hw,hR,hg,B⟩
 ·exact⟨Ld,Lm,Li,Z,hw,hR,hg,B⟩
 ·exact⟨Lc,Ll,Lh,Z,hw,hR,hg,B⟩
 ·exact⟨Lb,Lk,Lg,Z,hw,hR,hg,B⟩
theorem mZ{nn:Int}{w:Nat}{RR:List (List Int)}{HO:Nat->List Int}{gv:List Gv}{goal:List Int}(q:Qu nn w RR HO gv goal):∃t,(∀st,pm dM [.int nn,.fz (gv.map Gv.av),.fz (iL goal)] st=some (t,st))/\jy w RR gv goal t:=by
 obtain⟨z,e,t,h,A⟩:=zz q;exact⟨t,fun st=>dP rfl e h,A⟩
theorem jh{a b:Int}(h:a.natAbs<2^62):cG a b=true:=by
 unfold cG;have:Nat.ble a.natAbs.log2 62=true:=yO (by
  by_cases hz:a.natAbs=0
  ·rw[hz];decide
  ·exact xD ((Nat.log2_lt hz).mpr h))
 rw[this];simp
theorem o8{a b:Int}(h:b.natAbs<2^62):cG a b=true:=by
 unfold cG;have:Nat.ble b.natAbs.log2 62=true:=yO (by
  by_cases hz:b.natAbs=0
  ·rw[hz];decide
  ·exact xD ((Nat.log2_lt hz).mpr h))
 rw[this];simp
theorem ki{a b:Int}(h:0<b):oF a b=a%b:=yL h
theorem AE{a b:Int}(h:0<b):sK a b=a/b:=yL h
theorem mq{a b:Int}(h:0<b):0<=a%b/\a%b<b:=⟨Int.emod_nonneg _ oM,Int.emod_lt_of_pos _ h⟩
theorem G3{c:Int}{k:Nat}(hk:k<=1000):∃m:Int,pm cJ [.int c,.int k] st=some (.int m,st)/\0<=m/\m<2147483629:=by
 have hkk:((k:Int)*(k:Int)).natAbs<2^62:=by
  rw[xE,Int.natAbs_natCast];have:k*k<=1000*1000:=Nat.mul_le_mul hk hk;exact yP this dC
 obtain⟨x,hx⟩:∃x,x=(c%2147483647+(k:Int)*(k:Int)*7919+104729)*48271%2147483647:=⟨_,rfl⟩;have xr:=mq (a:=(c%2147483647+(k:Int)*(k:Int)*7919+104729)*48271) (b:=2147483647) dC;rw[<- hx]at xr;have xs:x.natAbs<2^62:=by have:(2:Nat)^62=4611686018427387904:=dC;lia
 refine⟨(x*x+69621*(k:Int))%2147483629,dP rfl (v:=.int ((x*x+69621*(k:Int))%2147483629)) (st':=[]) ?_ rfl,(mq dC).1,(mq dC).2⟩;have m1:cG (k:Int) (k:Int)=true:=jh (by rw[Int.natAbs_natCast];exact yP hk dC);have m2:cG ((k:Int)*(k:Int)) 7919=true:=o8 dC;have m3:cG (c%2147483647+(k:Int)*(k:Int)*7919+104729) 48271=true:=o8 dC;have m4:cG x x=true:=jh xs;have m5:cG 69621 (k:Int)=true:=jh dC;rw[cJ,aF];unfold ju;refine ak (sl':=[Is c,Is (k:Int),Is x]) (st':=[]) ?_ ?_
 ·simp [gG (show (2147483647:Int) ≠ 0 by decide),ki (show (0:Int) < 2147483647 by decide),bI m1,bI m2,bI m3,<- hx]
 ·simp [gG (show (2147483629:Int) ≠ 0 by decide),ki (show (0:Int) < 2147483629 by decide),bI m4,bI m5]
theorem tQ:bG .Pow st (.int 10) (.int 18)=some (.int 1000000000000000000):=by kernel_rfl
theorem CI(hn:ns.length<=63):∃A B D,dN [.fz (iL ns),.int 1,.int 300] []=some (.ref 2,[A,B,Mw.lst (iL D)])/\D.length=300/\∀x∈D,0<=x/\x<2147483587:=by
 obtain⟨C,hC⟩:∃C,C=ns++[1]:=⟨_,rfl⟩;have lC:C.length=ns.length+1:=by rw[hC];simp
 obtain⟨sl',st',e,lf,fd,y6,y7,y8,rfl,rfl,h1,h2,h3⟩:=dQ (gd:=[]) (g:=bH [cJ] (.nm 6)) (s:=aj [cJ] (.cons (.as (.bin .Mod (.v 6) (.bi .len (.cons (.v 3) .nil))) (.nm 7))
 (.cons (.as (.ca true 0 (.cons (.ix (.v 3) (.v 7)) (.cons (.v 6) .nil))) (.nm 8))
 (.cons (.as (.bin .Mod (.bin .Add (.bin .Mult (.v 8) (.v 8)) (.bin .Mult (.i 7) (.v 6))) (.i 2147483587)) (.nm 8))
 (.cons (.iff (.an (.cmp .GtE (.ix (.v 3) (.v 7)) (.bin .Pow (.i 10) (.i 18))) (.cmp .Gt (.ix (.v 4) (.v 7)) (.i 0)))
 (.cons (.as (.bin .Mod (.ix (.v 4) (.v 7)) (.i 2147483587)) (.nm 8))
 (.cons (.as (.bin .FloorDiv (.ix (.v 4) (.v 7)) (.i 2147483587)) (.su (.v 4) (.v 7)))
 .nil))
 .nil)
 (.cons (.ex (.mt .app (.v 5) (.cons (.v 8) .nil)))
 .nil))))))
  (I:=fun i sl s=>∃lf fd y6 y7 y8,s=[Mw.lst (iL lf),Mw.lst (iL fd)]/\sl=[Ls ns,Is 1,Is 300,Ls C,Rs 0,Rs 1,y6,y7,y8]/\lf.length=C.length/\fd.length=i/\∀x∈fd,0<=x/\x<2147483587) (xs:=cF 0 301) (fun _ _ _ _ _=>rfl)
  (fun i y sl s hy hI=>by
   obtain⟨lf,fd,y6,y7,y8,rfl,rfl,h1,h2,h3⟩:=hI;rw[ma]at hy;have hi:i<301:=by have:=(zD.mp hy).1;simpa using this
   have ey:y=.int ((i:Nat):Int):=by
    rw[fL (by simpa using hi)]at hy;injection hy with hy;rw[<- hy];simp[zF,hi]
   subst ey;obtain⟨q,hq⟩:∃q,q=i%C.length:=⟨_,rfl⟩;have ql:q<C.length:=by rw[hq];exact Nat.mod_lt _ oM
   obtain⟨m,em,m0,m1⟩:=G3 (c:=gI C q) (k:=i) oM (st:=[Mw.lst (iL lf),Mw.lst (iL fd)]);have xC:bN [Mw.lst (iL lf),Mw.lst (iL fd)] (.fz (iL C)) (.int (q:Int))=some (.int (gI C q)):=by rw[cz fj,ci,bK ql]
   have xL:bN [Mw.lst (iL lf),Mw.lst (iL fd)] (.ref 0) (.int (q:Int))=some (.int (gI lf q)):=by rw[cz (bv rfl),ci,bK oM]
   have mm:cG m m=true:=jh (by have:(2:Nat)^62=4611686018427387904:=dC;lia);have m7:cG 7 (i:Int)=true:=jh dC;have am:oF ((i:Nat):Int) ((C.length:Nat):Int)=((q:Nat):Int):=by rw[ki oM,hq];simp
   have P0:(0:Int)<2147483587:=by decide
   -- the number
   have app:∀(lf':List Int)(x:Int)(z8:Option AV),cA [cJ] (.ex (.mt .app (.v 5) (.cons (.v 8) .nil))) [Ls ns,Is 1,Is 300,Ls C,Rs 0,Rs 1,Is (i:Int),Is (q:Int),Is x] [Mw.lst (iL lf'),Mw.lst (iL fd)]=some (.nx [Ls ns,Is 1,Is 300,Ls C,Rs 0,Rs 1,Is (i:Int),Is (q:Int),Is x] [Mw.lst (iL lf'),Mw.lst (iL (fd++[x]))]):=fun lf' x _=>by
    rw[xI,AT (k:=1) (xs:=iL fd) (y:=.int x) rfl rfl rfl (by simp;lia),Fj,wx];rfl
   by_cases hc:1000000000000000000<=gI C q/\0<gI lf q
   ·refine⟨_,[Ls ns,Is 1,Is 300,Ls C,Rs 0,Rs 1,Is (i:Int),Is (q:Int),Is (gI lf q%2147483587)],[Mw.lst (iL (lf.set q (gI lf q/2147483587))),Mw.lst (iL (fd++[gI lf q%2147483587]))],rfl,?_,_,_,_,_,_,rfl,rfl,by simp[h1],by simp[h2],fun x hx=>?_⟩
    ·refine au (sl':=[Ls ns,Is 1,Is 300,Ls C,Rs 0,Rs 1,Is (i:Int),Is (q:Int),y8]) (st':=[Mw.lst (iL lf),Mw.lst (iL fd)]) ?_ ?_
     ·simp [bW,d4,gG (show ((C.length:Nat):Int) ≠ 0 by lia),am]
     refine au (sl':=[Ls ns,Is 1,Is 300,Ls C,Rs 0,Rs 1,Is (i:Int),Is (q:Int),Is m]) (st':=[Mw.lst (iL lf),Mw.lst (iL fd)]) (by simp[xC,em]) ?_;refine au (sl':=[Ls ns,Is 1,Is 300,Ls C,Rs 0,Rs 1,Is (i:Int),Is (q:Int),Is ((m*m+7*(i:Int))%2147483587)]) (st':=[Mw.lst (iL lf),Mw.lst (iL fd)]) ?_ ?_
     ·simp [bI mm,bI m7,gG (show (2147483587:Int) ≠ 0 by decide),ki P0]
     refine au (sl':=[Ls ns,Is 1,Is 300,Ls C,Rs 0,Rs 1,Is (i:Int),Is (q:Int),Is (gI lf q%2147483587)]) (st':=[Mw.lst (iL (lf.set q (gI lf q/2147483587))),Mw.lst (iL fd)]) ?_ (au (app _ _ none) rfl);have dv:dB 2147483587=true:=by decide
     have hs:=cQ (st:=[Mw.lst (iL lf),Mw.lst (iL fd)]) (k:=0) (q:=q) (xs:=iL lf) (x:=.int (gI lf q / 2147483587)) rfl (by simp;lia);rw [eC] at hs;simp [xC,xL,tQ,hc.1,hc.2,gG (show (2147483587:Int) ≠ 0 by decide),ki P0,kx dv,AE P0,hs]
    ·rcases z7.mp hx with h|h
     ·exact h3 x h
     ·rw[zP.mp h];exact mq P0
   ·refine⟨_,[Ls ns,Is 1,Is 300,Ls C,Rs 0,Rs 1,Is (i:Int),Is (q:Int),Is ((m*m+7*(i:Int))%2147483587)],[Mw.lst (iL lf),Mw.lst (iL (fd++[(m*m+7*(i:Int))%2147483587]))],rfl,?_,_,_,_,_,_,rfl,rfl,h1,by simp[h2],fun x hx=>?_⟩
    ·refine au (sl':=[Ls ns,Is 1,Is 300,Ls C,Rs 0,Rs 1,Is (i:Int),Is (q:Int),y8]) (st':=[Mw.lst (iL lf),Mw.lst (iL fd)]) ?_ ?_
     ·simp [bW,d4,gG (show ((C.length:Nat):Int) ≠ 0 by lia),am]
     refine au (sl':=[Ls ns,Is 1,Is 300,Ls C,Rs 0,Rs 1,Is (i:Int),Is (q:Int),Is m]) (st':=[Mw.lst (iL lf),Mw.lst (iL fd)]) (by simp[xC,em]) ?_;refine au (sl':=[Ls ns,Is 1,Is 300,Ls C,Rs 0,Rs 1,Is (i:Int),Is (q:Int),Is ((m*m+7*(i:Int))%2147483587)]) (st':=[Mw.lst (iL lf),Mw.lst (iL fd)]) ?_ ?_
     ·simp [bI mm,bI m7,gG (show (2147483587:Int) ≠ 0 by decide),ki P0]
     refine au (sl':=[Ls ns,Is 1,Is 300,Ls C,Rs 0,Rs 1,Is (i:Int),Is (q:Int),Is ((m*m+7*(i:Int))%2147483587)]) (st':=[Mw.lst (iL lf),Mw.lst (iL fd)]) ?_ (au (app _ _ none) rfl);by_cases hc1:1000000000000000000<=gI C q
     ·have hc2:¬0<gI lf q:=fun z=>hc ⟨hc1,z⟩
      simp[xC,xL,tQ,hc1,hc2]
     ·simp[xC,tQ,hc1]
    ·rcases z7.mp hx with h|h
     ·exact h3 x h
     ·rw[zP.mp h];exact mq P0) (sl:=[Ls ns,Is 1,Is 300,Ls C,Rs 0,Rs 1,none,none,none]) (st:=[Mw.lst (iL (C.map fun x=>x/100000)),Mw.lst (iL [])]) ⟨_,[],none,none,none,rfl,rfl,by simp,rfl,by simp⟩
 have rl:(cF 0 301).length=301:=by decide
 rw[rl]at h2;refine⟨Mw.lst (iL lf),Mw.lst (iL fd),fd.drop 1,?_,by simp[h2],fun x hx=>h3 x (List.mem_of_mem_drop hx)⟩;rw[dN,aF];unfold hU;refine ak (sl':=[Ls ns,Is 1,Is 300,Ls C,none,none,none,none,none]) (st':=[]) ?_ ?_
 ·have cu:cut (iL ns) none (some 63)=iL ns:=by
   unfold cut;have:HT.MG (iL ns).length (iL ns).length (some 63)=(iL ns).length:=by
    rw[show(63:Int)=((63:Nat):Int) from rfl,HT.sIx_nat,f9];lia
   rw[this,HT.sIx_none,List.drop_zero,Nat.sub_zero,List.take_length]
  have c:=i7 (ks:=[cJ]) (a:=.nw false (.sl (.v 0) .no (.so (.i 63)))) (b:=.nw false (.li (.cons (.v 1) .nil))) (sl:=[Ls ns,Is 1,Is 300,none,none,none,none,none,none]) (st:=[]) (s1:=[]) (s2:=[]) (x:=.fz (iL ns)) (y:=.fz [AV.int 1]) (l:=ns) (l':=[1]) (by simp[oy,ow,cu]) (by simp[b8]) rfl rfl (by simp;lia);simp[-t0,c,hC]
 refine ak (sl':=[Ls ns,Is 1,Is 300,Ls C,Rs 0,none,none,none,none]) (st':=[Mw.lst (iL (C.map fun x=>x/100000))]) ?_ ?_
 ·have dv:dB 100000=true:=by decide
  simp [bL (show C.length <= 1000 by lia)];rw [jk (F:=fun x=>x / 100000) fb fun x hx=>⟨_,rfl,rfl,by simp [kx dv,AE (show (0:Int) < 100000 by decide)]⟩];simp
 refine ak (sl':=[Ls ns,Is 1,Is 300,Ls C,Rs 0,Rs 1,none,none,none]) (st':=[Mw.lst (iL (C.map fun x=>x/100000)),Mw.lst (iL [])]) (by simp[b8,iL]) ?_;refine ak (sl':=[Ls ns,Is 1,Is 300,Ls C,Rs 0,Rs 1,y6,y7,y8]) (st':=[Mw.lst (iL lf),Mw.lst (iL fd)]) ?_ ?_
 ·have rb:eM 301=true:=by decide
  have:dk [cJ] (.r1 (.bin .Add (.v 1) (.v 2))) [Ls ns,Is 1,Is 300,Ls C,Rs 0,Rs 1,none,none,none] [Mw.lst (iL (C.map fun x=>x/100000)),Mw.lst (iL [])]=some (⟨cF 0 301,[]⟩,[Mw.lst (iL (C.map fun x=>x/100000)),Mw.lst (iL [])]):=by
   simp[ww,rb]
  rw[nG,this,bind_some];exact e
 ·have cu:cut (iL fd) (some 1) none=iL (fd.drop 1):=by
   unfold cut;rw[HT.sIx_none,show(1:Int)=((1:Nat):Int) from rfl,HT.sIx_nat,f9,h2,sE];rw[List.take_of_length_le (by simp[h2])];rfl
  have l1:bu [Mw.lst (iL lf),Mw.lst (iL fd)] (.ref 1)=some (iL fd):=bv rfl;simp[oy,ow,l1,cu]
theorem o7{r:Nat}{x:Int}(h:st[r]?=some (.lst (iL (D++[x])))):ar [.ref r] st=some (.int x,st.set r (.lst (iL D))):=by
 have hp:∀l:List Int,bE (cL 8 st) (iL l)=some (l.map PyData.int):=fun l=>fN (f:=cL 8 st) (i:=AV.int) (g:=PyData.int) (fun _=>rfl) l
 have hl:∀l:List Int,PyData.canLayAll0 (l.map PyData.int)=true:=fun l=>by
  induction l with
  |nil=>rfl
  |cons a l ih=>simp only[zR,PyData.canLayAll0,PyData.canLay0,ih,Bool.and_self]
 have c:b9 .Eq st (.ref r) (.fz [])=some false:=by
  show kT st (.ref r) (.fz [])=_;unfold kT;have p1:cL 9 st (.ref r)=some (.list ((D++[x]).map PyData.int)):=by
   unfold cL;simp only[h,hp,map_some]
  have p2:cL 9 st (.fz [])=some (.list []):=rfl;rw[p1,p2,bind_some,bind_some,yL ?_]
  ·rw[List.map_append]
   cases D.map PyData.int<;>rfl
  ·have h1:(PyData.list ((D++[x]).map PyData.int)).canLay0=true:=by unfold PyData.canLay0;exact hl _
   have h2:(PyData.list []).canLay0=true:=rfl;have h3:min (PyData.list ((D++[x]).map PyData.int)).depth (PyData.list []).depth<=50:=z9 (Nat.min_le_right _ _) dC;unfold DD.pyOk;rw[h1,h2,yZ h3];rfl
 have e1:(iL (D++[x]))[D.length]?=some (.int x):=by unfold iL;simp
 have e2:(iL (D++[x])).dropLast=iL D:=by unfold iL;simp
 simp[ar,aF,jt,b8,c,k9,p7,p6,pD,bv h,ui,gF,h,e1,e2];exact(zD.mp e1).2
section
variable{ks:List Fn}{sl:Sl}{st:aa}{ss:MK}{P:AV×aa->Prop}
theorem fJ{s:Sx}{v:AV}{st':aa}(h:cA ks s sl st=some (.rt v st'))(hp:P (v,st')):∃r,(aj ks (.cons s ss) sl st).bind ay=some r/\P r:=⟨_,nJ h,hp⟩
theorem l7{α:Type}{em:α->AV}{it:Ix}{t:Tg}{b:MK}{xs:List α}{gd:Gd}{st0:aa}(I:Nat->Sl->aa->Prop)(hi:dk ks it sl st=some (⟨xs.map em,gd⟩,st0))(hg:∀i sl st,I i sl st->bQ gd st=true)(h0:I 0 sl st0)
  (h:∀i x sl st,xs[i]?=some x->I i sl st->∃p sl2 st2,bH ks t (em x) sl st=some p/\aj ks b p.1 p.2=some (.nx sl2 st2)/\I (i+1) sl2 st2)
  (hr:∀sl' st',I xs.length sl' st'->∃r,(aj ks ss sl' st').bind ay=some r/\P r):∃r,(aj ks (.cons (.fo it t b) ss) sl st).bind ay=some r/\P r:=by
 obtain⟨sl',st',e,hI⟩:=dQ (gd:=gd) (g:=bH ks t) (s:=aj ks b) (I:=I) (xs:=xs.map em) (fun i sl st _ hI=>hg i sl st hI) (fun i y sl st hy hI=>by
  rw[zU]at hy;obtain⟨x,hx,rfl⟩:=zH.mp hy;exact h i x sl st hx hI) h0
 rw[zK]at hI;obtain⟨r,e2,hp⟩:=hr sl' st' hI;exact⟨r,ak (by rw[nG,hi,bind_some];exact e) e2,hp⟩
end
theorem De{f:AV->AV->Option AV}{h:Nat->Nat->Nat} (t:∀x:Nat,x<16->∀y:Nat,y<16->(match f (.int x) (.int y) with
  |some (.int b)=>decide (b=(h x y:Int))
  |_=>false)=true) {x y:Nat} (hx:x<16) (hy:y<16):f (.int (x:Int)) (.int (y:Int))=some (.int (h x y:Int)):=by
 have t:=t x hx y hy;split at t
 ·rename_i b e
  rw[of_decide_eq_true t]at e;exact e
 ·cases t
section
variable{st:aa}{os:List Nat}{n g k j:Nat}{D:List Int}
theorem tU{x y:Nat}(hx:x<16)(hy:y<16):bG .BitOr st (.int (x:Int)) (.int (y:Int))=some (.int ((x ||| y:Nat):Int)):=by
 show bG .BitOr [] (.int (x:Int)) (.int (y:Int))=_;exact De (f:=bG .BitOr []) (h:=fun x y=>x ||| y) (by decide +kernel) hx hy
theorem j9{ks:List Fn}{a:Ex}{sl:Sl}{n:Nat}(h:ev ks a sl st=some (.int (n:Int),st))(hn:n<=1000):dk ks (.r1 a) sl st=some (⟨(List.range n).map fun q:Nat=>AV.int (q:Int),[]⟩,st):=by
 show(ev ks a sl st).bind _=_;rw[h,bind_some];dsimp only;have:eM (n:Int)=true:=by
  unfold eM;refine yO ?_;rw[Int.natAbs_natCast];by_cases hz:n=0
  ·subst hz;decide
  ·exact xD ((Nat.log2_lt hz).mpr (yP hn dC))
 rw[yL this,Int.toNat_natCast,ma];rfl
theorem H0{ks:List Fn}{a e:Ex}{sl:Sl}{y:AV}{xs:List AV}{k:Nat}(h1:ev ks a sl st=some (.ref k,st))(h2:ev ks e sl st=some (y,st))(h3:st[k]?=some (.lst xs))(hl:xs.length<=1000):cA ks (.ex (.mt .app a (.cons e .nil))) sl st=some (.nx sl (st.set k (.lst (xs++[y])))):=by
 simp[k9,p7,p6,h1,pD,bv h3,h2,qa,gF,h3,bL hl]
theorem ul{α:Type}{ks:List Fn}{k:Nat}{it:Ix}{t:Tg}{c:Cx'}{e:Ex}{sl:Sl}{gd:Gd}{em:α->AV}{B:α->Bool}{F:α->AV}{xs:List α}(hi:dk ks it sl st=some (⟨xs.map em,gd⟩,st))(hg:bQ gd st=true)(hz:xs.length<=1000)
  (h:∀x∈xs,∃sl1,bH ks t (em x) (sl++List.replicate k none) st=some (sl1,st)/\iu ks c sl1 st=some (B x,st)/\(B x=true->ev ks e sl1 st=some (F x,st))):iq ks (.lc k it t c e) sl st=some ((xs.filter B).map F,st):=by
 rw[EO,hi,bind_some];dsimp only;rw[yL (bL (by rw[zK];exact hz))];exact fO hg h
theorem E1{m:Nat}{l:List Int}:bE (cL (m+1) st) (iL l)=some (l.map PyData.int):=fN (f:=cL (m+1) st) (i:=AV.int) (g:=PyData.int) (fun _=>rfl) l
theorem gD(h:D≠[]):∃D' x,D=D'++[x]:=⟨D.dropLast,D.getLast h,(List.dropLast_concat_getLast h).symm⟩
end
section
variable{st:aa}{os:List Nat}{n g k j:Nat}{A B O:Mw}{D T:List Int}
def okD(D:List Int):Prop:=∀x∈D,0<=x/\x<2147483587
theorem okD.at{D:List Int}{x:Int}(h:okD (D++[x])):0<=x/\okD D:=⟨(h x (by simp)).1,fun y hy=>h y (by simp[hy])⟩
theorem oB{i:Nat}(hi:i<T.length):bN st (.fz (iL T)) (.int (i:Int))=some (.int (SX.gI T i)):=by rw[cz fj,ci,bK hi]
theorem xz{c:Int}(h:c.natAbs<=100):c.natAbs<2^62:=yP h dC
theorem mO{z c:Int}(hc:dB c=true)(h0:0<c):bG .FloorDiv st (.int z) (.int c)=some (.int (z/c)):=by rw[kx hc];exact congrArg (fun q=>some (AV.int q)) (yL h0)
theorem eA{z c:Int}(h0:0<c):bG .Mod st (.int z) (.int c)=some (.int (z%c)):=by rw[gG oM];exact congrArg (fun q=>some (AV.int q)) (yL h0)
theorem J8{x y:Nat}:bG .BitAnd st (.int (x:Int)) (.int (y:Int))=some (.int ((x &&& y:Nat):Int)):=by
 show some (AV.int (Builtin.bitAnd (x:Int) (y:Int)))=_;rfl
theorem uk{l:List Int}:bW d4 [.fz (iL l)] st=some (.int ((l.length:Nat):Int),st):=by
 show some (AV.int ((iL l).length:Int),st)=_;rw[f9]
theorem pj{l:List AV}{i:Int}(h0:0<=i)(h1:i<l.length):∃x∈l,bN st (.fz l) (.int i)=some x:=by
 obtain⟨q,rfl⟩:∃q:Nat,i=(q:Int):=⟨i.toNat,by lia⟩;have hq:q<l.length:=by lia
 refine⟨l[q],List.getElem_mem hq,?_⟩;rw[cz fj,ci,zI hq]
end
section
variable{st:aa}{n k:Nat}{A B:Mw}{D T:List Int}{R:aa}
theorem jG{x:Int}:ar [.ref 2] (A::B::.lst (iL (D++[x]))::R)=some (.int x,A::B::.lst (iL D)::R):=o7 (st:=A::B::.lst (iL (D++[x]))::R) (r:=2) rfl
theorem wj{P:Int->Prop}{ks:List Fn}{k:Nat}{it:Ix}{t:Tg}{e:Ex}{sl:Sl}{N:Nat}(hi:dk ks it sl st=some (⟨(List.range N).map fun q:Nat=>AV.int (q:Int),[]⟩,st))(hz:N<=1000)(h:∀q,q<N->∃sl1 v,P v/\bH ks t (.int (q:Int)) (sl++List.replicate k none) st=some (sl1,st)/\ev ks e sl1 st=some (.int v,st)):∃L:List Int,(L.length=N/\∀x∈L,P x)/\ev ks (.nw false (.lc k it t .no e)) sl st=some (.fz (iL L),st):=by
 have hc:∀q,∃v:Int,q<N->P v/\∃sl1,bH ks t (.int (q:Int)) (sl++List.replicate k none) st=some (sl1,st)/\ev ks e sl1 st=some (.int v,st):=fun q=>by
  by_cases hq:q<N
  ·obtain⟨sl1,v,h0,h1,h2⟩:=h q hq;exact⟨v,fun _=>⟨h0,sl1,h1,h2⟩⟩
  ·exact⟨0,fun z=>absurd z hq⟩
 obtain⟨f,hf⟩:=Classical.axiomOfChoice hc;refine⟨(List.range N).map f,⟨by simp,fun x hx=>?_⟩,?_⟩
 ·obtain⟨q,hq,rfl⟩:=yG.mp hx
  exact(hf q (List.mem_range.mp hq)).1
 have e:=ul (c:=.no) (B:=fun _=>true) (F:=fun q:Nat=>AV.int (f q)) hi rfl (by simpa using hz) fun q hq=>by
  obtain⟨_,sl1,h1,h2⟩:=hf q (List.mem_range.mp hq);exact⟨sl1,h1,rfl,fun _=>h2⟩
 rw[List.filter_eq_self.mpr (fun _ _=>rfl)]at e;have:(List.range N).map (fun q=>AV.int (f q))=iL ((List.range N).map f):=by unfold iL;rw[List.map_map];rfl
 rw[this]at e;rw[je,e,bind_some,yL ig]
theorem wf{f:Int->Int}{ks:List Fn}{it:Ix}{e:Ex}{sl:Sl}{s:Nat}{N:Nat}(hi:∀st,dk ks it sl st=some (⟨(List.range N).map fun q:Nat=>AV.int (q:Int),[]⟩,st))(hz:N<=1000)(hs:sl.length=s)(h:∀q D x,0<=x->x<2147483587->ev ks e (sl++[Is (q:Int)]) (A::B::.lst (iL (D++[x]))::R)=some (.int (f x),A::B::.lst (iL D)::R))(hD:N<=D.length)(hd:okD D) :
  ∃D' L,ev ks (.nw false (.lc 1 it (.nm s) .no e)) sl (A::B::.lst (iL D)::R)=some (.fz (iL L),A::B::.lst (iL D')::R)/\okD D'/\D.length=D'.length+N/\L.length=N/\∀x∈L,∃y,0<=y/\y<2147483587/\x=f y:=by
 have gm:∀(q:Nat)(st:aa),bH ks (.nm s) (.int (q:Int)) (sl++[none]) st=some (sl++[Is (q:Int)],st):=fun q st=>by
  show some ((sl++[none]).set s (some (.int (q:Int))),st)=_;rw[<- hs,List.set_append_right _ _ (zS _),Nat.sub_self];rfl
 obtain⟨st',e1,j1,j2⟩:=we (gd:=[]) (g:=bH ks (.nm s)) (t:=iu ks .no) (f:=ev ks e) (sl:=sl++[none]) (xs:=(List.range N).map fun q:Nat=>AV.int (q:Int))
  (J:=fun i st=>i<=N/\st=A::B::.lst (iL (D.take (D.length-i)))::R) (F:=fun i=>.int (f (SX.gI D (D.length-1-i)))) (fun _ _ _ _=>rfl) (fun i x st hx hq0=>by
   obtain⟨hi1,hst⟩:=hq0;rw[zU]at hx;obtain⟨q,hq,rfl⟩:=zH.mp hx;have hi2:i<N:=by have:=(zD.mp hq).1;simpa using this
   subst hst;have hl:D.length-1-i<D.length:=by lia
   have e2:D.take (D.length-i)=D.take (D.length-(i+1))++[SX.gI D (D.length-1-i)]:=by
    rw[show D.length-i=(D.length-1-i)+1 by lia,List.take_add_one,show D.length-(i+1)=D.length-1-i by lia,zI hl];congr 2;simp[SX.gI,zF,zI hl]
   have hm:SX.gI D (D.length-1-i)∈D:=by
    unfold SX.gI;rw[zF,zI hl];exact List.getElem_mem hl
   refine⟨_,_,gm q _,rfl,?_,by lia,rfl⟩;rw[e2];exact h q _ _ (hd _ hm).1 (hd _ hm).2) (st:=A::B::.lst (iL D)::R) ⟨Nat.zero_le _,by rw[Nat.sub_zero,List.take_length]⟩
 rw[zK,List.length_range]at e1 j1 j2;refine⟨D.take (D.length-N),(List.range N).map fun i=>f (SX.gI D (D.length-1-i)),?_,fun x hx=>hd x (List.mem_of_mem_take hx),by rw[List.length_take];lia,by simp,fun x hx=>?_⟩
 ·rw[je,EO,hi,bind_some]
  dsimp only;rw[yL (bL (by simpa using hz))];show((f8 [] _ _ _ (sl++[none]) _ _).bind _)=_;rw[e1,bind_some,j2];dsimp only;have:(List.range N).map (fun i=>AV.int (f (SX.gI D (D.length-1-i))))=iL ((List.range N).map fun i=>f (SX.gI D (D.length-1-i))):=by unfold iL;rw[List.map_map];rfl
  rw[this,yL ig]
 ·obtain⟨i,hi,rfl⟩:=yG.mp hx
  have hi:=List.mem_range.mp hi;have hl:D.length-1-i<D.length:=by lia
  have hm:SX.gI D (D.length-1-i)∈D:=by
   unfold SX.gI;rw[zF,zI hl];exact List.getElem_mem hl
  exact⟨_,(hd _ hm).1,(hd _ hm).2,rfl⟩
end
section
variable{st:aa}
theorem G7{l:List Int}:lsI st (.fz (iL l))=some l:=by
 unfold lsI;rw[fj,bind_some];unfold kh;rw[show iL l=l.map AV.int from rfl,fN (i:=AV.int) (g:=id) (fun _=>rfl),List.map_id]
theorem AR:∀l:List Gv,rfs (l.map Gv.av)=true:=fun l=>gN fun x hx=>by
 obtain⟨z,_,rfl⟩:=yG.mp hx;simp[Gv.av,rf,rfs,ig]
variable{w:Nat}{RR:List (List Int)}{gv:List Gv}{X Y Z:Nat->Int}{e:Int}{goal:List Int}
theorem j7{r:List Int}:val w r (fun x=>X x+Z x)=val w r X+val w r Z:=by
 unfold val;rw[<- SX.sum_add];exact SX.sum_congr fun x _=>by grind
theorem Kp.add(h:Kp w RR gv X e)(h0:Kp w RR gv Z 0):Kp w RR gv (fun x=>X x+Z x) e:=by
 refine⟨fun r hr=>?_,fun z hz he=>?_,fun z hz he=>?_⟩
 ·have:=h.rule r hr;have:=h0.rule r hr;rw[j7];lia
 ·have h1:=h.eq z hz he;have h2:=h0.eq z hz he;rw[j7];rw[yS]at h2;lia
 ·have h1:=h.ge z hz he;have h2:=h0.ge z hz he;rw[j7];rw[yS]at h2;lia
theorem CU{T d:Int}(hd:0<d)(hX:Kp w RR gv X d/\val w goal X=T)(h:∀Y e,0<e->Kp w RR gv Y e->T*e<=val w goal Y*d)(hZ:Kp w RR gv Z 0):0<=val w goal Z:=by
 have:=h _ d hd (hX.1.add hZ)
 rw[j7,hX.2]at this
 have:=Int.le_of_mul_le_mul_right this hd
 lia
theorem E4{T d:Int}(hd:0<d):∃q:Int,0<q/\T=gI (aG [T,d]) 0*q/\d=gI (aG [T,d]) 1*q/\0<gI (aG [T,d]) 1:=by
 have hg:gL [T,d]=Nat.gcd T.natAbs d.natAbs:=by
  show Nat.gcd (Nat.gcd 0 T.natAbs) d.natAbs=_;rw[Nat.gcd_zero_left]
 have hp:0<Nat.gcd T.natAbs d.natAbs:=Nat.gcd_pos_of_pos_right _ oM;have e:aG [T,d]=[T/(Nat.gcd T.natAbs d.natAbs:Int),d/(Nat.gcd T.natAbs d.natAbs:Int)]:=by
  unfold aG;rw[yK (by rw[hg];lia),hg];rfl
 have d1:((Nat.gcd T.natAbs d.natAbs:Nat):Int) ∣ T:=Int.dvd_natAbs.mp (Int.natCast_dvd_natCast.mpr (Nat.gcd_dvd_left _ _));have d2:((Nat.gcd T.natAbs d.natAbs:Nat):Int) ∣ d:=Int.dvd_natAbs.mp (Int.natCast_dvd_natCast.mpr (Nat.gcd_dvd_right _ _));rw[e];refine⟨(Nat.gcd T.natAbs d.natAbs:Nat),by lia,(Int.ediv_mul_cancel d1).symm,(Int.ediv_mul_cancel d2).symm,?_⟩;show 0<d / _;have h2:=Int.ediv_mul_cancel d2;rcases Int.lt_trichotomy 0 (d/((Nat.gcd T.natAbs d.natAbs:Nat):Int)) with h|h|h
 ·exact h
 ·rw[<- h]at h2;lia
 ·have:=Int.mul_neg_of_neg_of_pos h (show (0:Int) < ((Nat.gcd T.natAbs d.natAbs:Nat):Int) by lia);lia
theorem G0{a b q:Int}{m:Nat}(h:b=a*q)(hq:0<q)(hb:b.natAbs<2^m):a.natAbs<2^m:=by
 refine yP ?_ hb;rw[h,xE];exact Nat.le_mul_of_pos_right _ oM
end
section
variable{n w:Nat}{Y:Nat->Int}{ts:List (Nat×Int)}{L:List Int}{a b c k j g:Nat}
noncomputable def HH(Y:Nat->Int)(g:Nat):Int:=if g=0 then 0 else Y (g-1)
def dA(L:List Int)(t:Nat×Int):List Int:=if t.1=0 then L else L.set (t.1-1) (gI L (t.1-1)+t.2)
def dF(n:Nat)(ts:List (Nat×Int)):List Int:=ts.foldl dA (List.replicate (2^n-1) 0)
theorem Bj{q:Nat}{x:Int}(hL:L.length=w)(hq:q<w):val w (L.set q (gI L q+x)) Y=val w L Y+x*Y q:=by
 have e:val w (L.set q (gI L q+x)) Y=MA w fun i=>gI L i*Y i+(if i=q then x*Y q else 0):=SX.sum_congr fun i hi=>by
  by_cases h:i=q
  ·subst h;rw[SX.gI_set_at oM,yL rfl];grind
  ·rw[SX.gI_set_ne h,yK h];lia
 rw[e,SX.sum_add,SX.sum_one hq fun i _ h=>yK h,yL rfl];rfl
theorem pM{t:Nat×Int}:(dA L t).length=L.length:=by unfold dA;split<;>simp
theorem lL:∀(ts:List (Nat×Int))(L:List Int),(ts.foldl dA L).length=L.length
 |[],_=>rfl
 |t::ts,L=>by rw[List.foldl_cons,lL ts,pM]
theorem pL:(dF n ts).length=2^n-1:=by unfold dF;rw[lL];simp
theorem qA(hw:w+1=2^n):∀(ts:List (Nat×Int))(L:List Int),L.length=w->(∀t∈ts,t.1<2^n)->val w (ts.foldl dA L) Y=val w L Y+(ts.map fun t=>t.2*HH Y t.1).sum
 |[],L,_,_=>by simp
 |t::ts,L,hL,h=>by
  rw[List.foldl_cons,qA hw ts _ (by rw[pM];exact hL) fun x hx=>h x (zT _ hx),zR,List.sum_cons];have ht:=h t yB;have:val w (dA L t) Y=val w L Y+t.2*HH Y t.1:=by
   unfold dA HH;by_cases h0:t.1=0
   ·rw[yL h0,yL h0];lia
   ·rw[yK h0,yK h0,Bj hL oM]
  lia
theorem jb(h:∀t∈ts,t.1<2^n):val (2^n-1) (dF n ts) Y=(ts.map fun t=>t.2*HH Y t.1).sum:=by
 have:=Nat.two_pow_pos n
 unfold dF;rw[qA oM ts _ (by simp) h];have:val (2^n-1) (List.replicate (2^n-1) 0) Y=0:=SX.sum_zero fun i _=>by rw[qw];exact yT _
 lia
theorem rV{m:Nat}(h:∀t∈ts,t.2.natAbs<=1)(hl:ts.length<=m):∀x∈dF n ts,x.natAbs<=m:=by
 have go:∀(ts:List (Nat×Int))(L:List Int)(b:Nat),(∀t∈ts,t.2.natAbs<=1)->(∀x∈L,x.natAbs<=b)->∀x∈ts.foldl dA L,x.natAbs<=b+ts.length:=fun ts=>by
  induction ts with
  |nil=>intro L b _ h x hx;exact h x hx
  |cons t ts ih =>
   intro L b h1 h2 x hx
   have:=ih (dA L t) (b+1) (fun y hy=>h1 y (zT _ hy)) (fun y hy=>by
    unfold dA at hy;split at hy
    ·have:=h2 y hy;lia
    ·rcases List.mem_or_eq_of_mem_set hy with h|h
     ·have:=h2 y h;lia
     ·have h3:(gI L (t.1-1)).natAbs<b+1:=mK (fun x hx=>Nat.lt_succ_of_le (h2 x hx)) (Nat.succ_pos b) _
      have:=h1 t yB
      rw[h];lia) x hx
   rw[xB];lia
 intro x hx
 have:=go ts _ 0 h (fun x hx=>by rw[List.eq_of_mem_replicate hx];decide) x hx
 lia
noncomputable def pH(a b c:Nat):List (Nat×Int):=[(a ||| c,1),(b ||| c,1),(a ||| b ||| c,-1),(c,-1)]
def IH(Y:Nat->Int)(a b c:Nat):Int:=HH Y (a ||| c)+HH Y (b ||| c)-HH Y (a ||| b ||| c)-HH Y c
theorem vc(ha:a<2^n)(hb:b<2^n)(hc:c<2^n):val (2^n-1) (dF n (pH a b c)) Y=IH Y a b c:=by
 have l1:a ||| c<2^n:=Nat.or_lt_two_pow ha hc;have l2:b ||| c<2^n:=Nat.or_lt_two_pow hb hc;have l3:a ||| b ||| c<2^n:=Nat.or_lt_two_pow (Nat.or_lt_two_pow ha hb) hc;rw[jb (by simp only[pH,zW,z5,or_false];rintro t (rfl|rfl|rfl|rfl)<;>assumption)];simp only[pH,zR,List.map_nil,List.sum_cons,List.sum_nil,IH];lia
def eB(n:Nat):Bool:=(List.range n).all fun k=>(List.range n).all fun j=>(List.range (2^n)).all fun c=>k==j||c.testBit k||c.testBit j||(gA n).contains (dF n (pH (2^k) (2^j) c))
def lB(n:Nat):Bool:=(List.range n).all fun k=>(gA n).contains (dF n [(2^n-1,1),(2^n-1-2^k,-1)])
theorem HC(hn:fE n):eB n=true:=by rcases hn with rfl|rfl|rfl|rfl<;>decide +kernel
theorem Hd(hn:fE n):lB n=true:=by rcases hn with rfl|rfl|rfl|rfl<;>decide +kernel
theorem jI(h:c.testBit k=true):2^k ||| c=c:=by
 apply Nat.eq_of_testBit_eq;intro i;rw[Nat.testBit_or,Nat.testBit_two_pow];by_cases e:k=i
 ·subst e;simp[h]
 ·simp[e]
theorem Be{x y:Nat}:IH Y (x ||| y) b c=IH Y x b c+IH Y y b (x ||| c):=by
 unfold IH;rw[show x ||| y ||| c=y ||| (x ||| c) by ac_rfl,show x ||| y ||| b ||| c=y ||| b ||| (x ||| c) by ac_rfl,show x ||| b ||| c=b ||| (x ||| c) by ac_rfl];lia
theorem kB:IH Y a b c=IH Y b a c:=by
 unfold IH;rw[Nat.or_comm a b];lia
theorem td:IH Y 0 b c=0:=by
 unfold IH;rw[Nat.zero_or,Nat.zero_or];lia
theorem gQ:IH Y a a c=HH Y (a ||| c)-HH Y c:=by
 unfold IH;rw[Nat.or_self];lia
theorem CF:∀a,a<16->a=(a &&& 1) ||| ((a &&& 2) ||| ((a &&& 4) ||| (a &&& 8))):=by decide
theorem zm:∀a,a<16->∀k,k<4->a &&& 2^k=0\/(a &&& 2^k=2^k/\∀n,n<=4->a<2^n->k<n):=by decide
theorem lN{P:Nat->Prop}(hn:n<=4)(h0:P 0)(h1:∀k,k<n->P (2^k))(h2:∀x y,x<2^n->y<2^n->P x->P y->P (x ||| y))(ha:a<2^n):P a:=by
 have h16:(2:Nat)^n<=16:=Nat.pow_le_pow_right (n:=2) dC hn;have a16:a<16:=by lia
 have hb:∀k,k<4->P (a &&& 2^k)/\a &&& 2^k<2^n:=fun k hk=>by
  rcases zm a a16 k hk with h|⟨h,h3⟩
  ·rw[h];exact⟨h0,Nat.two_pow_pos n⟩
  ·rw[h];exact⟨h1 k (h3 n hn ha),Nat.pow_lt_pow_right dC (h3 n hn ha)⟩
 have b0:=hb 0 dC;have b1:=hb 1 dC;have b2:=hb 2 dC;have b3:=hb 3 dC;rw[CF a a16];have l2:=Nat.or_lt_two_pow b2.2 b3.2;exact h2 _ _ b0.2 (Nat.or_lt_two_pow b1.2 l2) b0.1 (h2 _ _ b1.2 l2 b1.1 (h2 _ _ b2.2 b3.2 b2.1 b3.1))
theorem Ie(hn:fE n)(h:∀r∈gA n,0<=val (2^n-1) r Y)(ha:a<2^n)(hb:b<2^n)(hc:c<2^n):0<=IH Y a b c:=by
 have h4:n<=4:=by unfold fE at hn;lia
 have p2:∀{k},k<n->2^k<2^n:=fun h=>Nat.pow_lt_pow_right dC h
 have el:∀k j c,k<n->j<n->k≠j->c<2^n->0<=IH Y (2^k) (2^j) c:=fun k j c hk hj hkj hc=>by
  by_cases b1:c.testBit k=true
  ·unfold IH
   rw[jI b1,show 2^k ||| 2^j ||| c=2^j ||| (2^k ||| c) by ac_rfl,jI b1];lia
  by_cases b2:c.testBit j=true
  ·unfold IH
   rw[jI b2,show 2^k ||| 2^j ||| c=2^k ||| (2^j ||| c) by ac_rfl,jI b2];lia
  have e:=yU.mp (yU.mp (yU.mp (HC hn) k (List.mem_range.mpr hk)) j (List.mem_range.mpr hj)) c (List.mem_range.mpr hc);simp only[Bool.not_eq_true]at b1 b2;rw[b1,b2,show(k==j)=false from beq_eq_false_iff_ne.mpr hkj]at e;simp only[Bool.false_or,List.contains_iff_mem]at e;rw[<- vc (p2 hk) (p2 hj) hc];exact h _ e
 -- one name alone
 have mono:∀k c,k<n->c<2^n->0<=IH Y (2^k) (2^k) c:=fun k c hk hc=>by
  have st:∀j c,j<n->j≠k->c<2^n->IH Y (2^k) (2^k) (2^j ||| c)<=IH Y (2^k) (2^k) c:=fun j c hj hjk hc=>by
   have:=el k j c hk hj (Ne.symm hjk) hc
   rw[gQ,gQ];unfold IH at this;rw[show 2^k ||| 2^j ||| c=2^k ||| (2^j ||| c) by ac_rfl]at this;lia
  have ay:∀g,g<2^n->g.testBit k=false->∀c,c<2^n->IH Y (2^k) (2^k) (g ||| c)<=IH Y (2^k) (2^k) c:=fun g hg=>by
   refine lN (P:=fun g=>g.testBit k=false->∀c,c<2^n->IH Y (2^k) (2^k) (g ||| c)<=IH Y (2^k) (2^k) c) h4 (fun _ c _=>by rw[Nat.zero_or];exact Int.le_refl _) (fun j hj hb c hc=>st j c hj (fun e=>by rw[e,Nat.testBit_two_pow]at hb;simp at hb) hc) (fun x y hx hy px py hb c hc=>?_) hg;rw[Nat.testBit_or,Bool.or_eq_false_iff]at hb;rw[Nat.or_assoc];exact Int.le_trans (px hb.1 _ (Nat.or_lt_two_pow hy hc)) (py hb.2 c hc)
  by_cases b1:c.testBit k=true
  ·rw[gQ,jI b1];lia
  obtain⟨g,hg⟩:∃g,g=2^n-1-2^k:=⟨_,rfl⟩;have gl:g<2^n:=by rw[hg];exact yP (Nat.sub_le _ _) (Nat.sub_lt (Nat.two_pow_pos n) dC)
  have f16:∀n,n<=4->∀k,k<n->(2^n-1-2^k).testBit k=false/\(∀c,c<2^n->c.testBit k=false->(2^n-1-2^k) ||| c=2^n-1-2^k)/\2^k ||| (2^n-1-2^k)=2^n-1:=by decide
  obtain ⟨f1,f2,f3⟩:=f16 n h4 k hk;have e1:=ay g gl (hg ▸ f1) c hc;rw [hg,f2 c hc (by simpa using b1),gQ,f3] at e1;have e2:=h _ (List.contains_iff_mem.mp (yU.mp (Hd hn) k (List.mem_range.mpr hk)));rw [jb (by simp only [zW,z5,or_false];rintro t (rfl | rfl) <;> (dsimp only;lia))] at e2;simp only [zR,List.map_nil,List.sum_cons,List.sum_nil] at e2;lia
 have one:∀k j c,k<n->j<n->c<2^n->0<=IH Y (2^k) (2^j) c:=fun k j c hk hj hc=>by
  by_cases e:k=j
  ·subst e;exact mono k c hk hc
  ·exact el k j c hk hj e hc
 have two:∀k b c,k<n->b<2^n->c<2^n->0<=IH Y b (2^k) c:=fun k b c hk hb=>by
  refine lN (P:=fun b=>∀c,c<2^n->0<=IH Y b (2^k) c) h4 (fun c _=>by rw[td];exact Int.le_refl _) (fun j hj c hc=>one j k c hj hk hc) (fun x y hx hy px py c hc=>?_) hb c;rw[Be]
  have:=px c hc
  have:=py (x ||| c) (Nat.or_lt_two_pow hx hc)
  lia
 refine lN (P:=fun b=>∀c,c<2^n->0<=IH Y a b c) h4 (fun c _=>by rw[kB,td];exact Int.le_refl _) (fun j hj c hc=>two j a c hj ha hc) (fun x y hx hy px py c hc=>?_) hb c hc;rw[kB,Be,kB (a:=x),kB (a:=y)]
 have:=px c hc
 have:=py (x ||| c) (Nat.or_lt_two_pow hx hc)
 lia
end
section
variable{w:Nat}{r X:List Int}
theorem CW{M N:Nat}(hr:r.length=w)(hX:X.length=w)(hw:w<=15)(br:∀x∈r,x.natAbs<2^M)(bX:∀x∈X,x.natAbs<2^N):(val w r (gI X)).natAbs<2^(M+N+4):=by
 have h:=SX.abs_sum (n:=w) (f:=fun x=>gI r x*gI X x) (M:=2^(M+N)) fun i hi=>by
  rw[xE,Nat.pow_add];exact Nat.mul_le_mul (xD (mK br (Nat.two_pow_pos _) i)) (xD (mK bX (Nat.two_pow_pos _) i))
 have h2:w*2^(M+N)<=15*2^(M+N):=Nat.mul_le_mul_right _ hw;have hp:=Nat.two_pow_pos (M+N);unfold val;rw[Nat.pow_add _ (M+N)];generalize 2^(M+N)=B at *;lia
theorem FW{x:Int}{M:Nat}(h:x.natAbs<2^M)(hM:M<=9000):x.natAbs<2^9000:=zM h (Nat.pow_le_pow_right dC hM)
end
section
variable{st:aa}{n g k j:Nat}{A B:Mw}{R:aa}{D T:List Int}
theorem tO{ks:List Fn}{r:Sl}(hn:fE n):dk ks (.r1 (.bin .Sub (.bin .LShift (.i 1) (.v 0)) (.i 1))) (some (.int (n:Int))::r) st=some (⟨(List.range (2^n-1)).map fun q:Nat=>AV.int (q:Int),[]⟩,st):=by
 rcases hn with rfl|rfl|rfl|rfl<;>rfl
theorem mJ{T:List Int}{q:Nat}(h:q<T.length):SX.gI T q∈T:=by
 unfold SX.gI;rw[zF,zI h];exact List.getElem_mem h
end
noncomputable def du(m:Nat):Nat:=(m%2)+(m/2%2)+(m/4%2)+(m/8%2)
def cf(a:Int)(m q:Nat):Int:=if(du (m &&& (q+1)):Int)<a then(du (m &&& (q+1)):Int) else a
def fr(p:Int)(q:Nat):Int:=gI [2,3,4,4] (du (q+1)-1)+if((q+1:Nat):Int)=p then 1 else 0
theorem AQ:∀m,m<16->du m<=4/\(0<m->1<=du m):=by decide
def Jn(n:Nat):Bool:=(List.range (2^n)).all fun m=>[1,2,3].all fun a=>(gA n).all fun r=>decide (0<=val (2^n-1) r (cf a m))
theorem Bv{n:Nat}(hn:fE n):Jn n=true:=by rcases hn with rfl|rfl|rfl|rfl<;>decide +kernel
theorem FC:([3,5,6,9,10,12]:List Int).all (fun p=>(gA 4).all fun r=>decide (0<=val 15 r (fr p)))=true:=by decide +kernel
structure TbK(n:Nat)(T:List Int)(b:Int):Prop where
 len:T.length=2^n-1
 bd:∀x∈T,0<=x/\x<=b
 ru:∀r∈gA n,0<=val (2^n-1) r (gI T)
section
variable{st:aa}
def IS(m:Nat):Bool:=match (aX [.int m] []).bind fun p=>dE p.2 p.1 with
 |some (.int b)=>decide (b=(du m:Int))
 |_=>false
theorem FS:(List.range 16).all IS=true:=by kernel_rfl
theorem wQ{m:Nat}(hm:m<16):pm aX [.int (m:Int)] st=some (.int (du m:Int),st):=by
 have h:=yU.mp FS m (List.mem_range.mpr hm);unfold IS at h;split at h
 ·rename_i b e
  rw[of_decide_eq_true h]at e;exact c5 rfl e
 ·cases h
theorem fu{N:Nat}{f:Nat->Int}{q:Nat}(h:q<N):gI ((List.range N).map f) q=f q:=by
 unfold gI;rw[zF,zU,List.getElem?_range h];rfl
theorem pe{f:Nat->Int}{ks:List Fn}{k:Nat}{it:Ix}{t:Tg}{e:Ex}{sl:Sl}{N:Nat}(hi:dk ks it sl st=some (⟨(List.range N).map fun q:Nat=>AV.int (q:Int),[]⟩,st))(hz:N<=1000)(h:∀q,q<N->∃sl1,bH ks t (.int (q:Int)) (sl++List.replicate k none) st=some (sl1,st)/\ev ks e sl1 st=some (.int (f q),st)):ev ks (.nw false (.lc k it t .no e)) sl st=some (.fz (iL ((List.range N).map f)),st):=by
 have e:=ul (c:=.no) (B:=fun _=>true) (F:=fun q:Nat=>AV.int (f q)) hi rfl (by simpa using hz) fun q hq=>by
  obtain⟨sl1,h1,h2⟩:=h q (List.mem_range.mp hq);exact⟨sl1,h1,rfl,fun _=>h2⟩
 rw[List.filter_eq_self.mpr (fun _ _=>rfl)]at e;have:(List.range N).map (fun q=>AV.int (f q))=iL ((List.range N).map f):=by unfold iL;rw[List.map_map];rfl
 rw[this]at e;rw[je,e,bind_some,yL ig]
theorem TbK.step{n:Nat}{T:List Int}{b c:Int}{f:Nat->Int}{tm:Int}(hT:TbK n T b)(htm:0<=tm)(hf:∀q,q<2^n-1->0<=tm*f q/\tm*f q<=c)(hr:∀r∈gA n,0<=val (2^n-1) r f):TbK n ((List.range (2^n-1)).map fun q=>gI T q+tm*f q) (b+c):=by
 refine⟨by simp,fun x hx=>?_,fun r hr'=>?_⟩
 ·obtain⟨q,hq,rfl⟩:=yG.mp hx
  have hq:=List.mem_range.mp hq
  have:=hT.bd _ (mJ (T:=T) (q:=q) (by rw[hT.len];exact hq))
  have:=hf q hq
  lia
 ·have e:val (2^n-1) r (gI ((List.range (2^n-1)).map fun q=>gI T q+tm*f q))=val (2^n-1) r (gI T)+tm*val (2^n-1) r f:=by
   unfold val;rw[<- SX.sum_mul,<- SX.sum_add];exact SX.sum_congr fun q hq=>by rw[fu hq];grind
  rw[e]
  have:=hT.ru r hr'
  have:=Int.mul_nonneg htm (hr r hr')
  lia
end
section
variable{st:aa}{n g k j:Nat}{A B:Mw}{R:aa}{D T:List Int}
theorem turnT(hn:fE n){b0:Int}(hT:TbK n T b0){z:Int}(hz:0<=z)(hz1:z<2147483587){x3 x5 x6 x7 x8 x9:Option AV}{S:aa}:∃T' y5 y6 y7,TbK n T' (b0+1000000000)/\aj [ar,aX] (.cons (.as (.bin .Mod (.v 4) (.bin .LShift (.i 1) (.v 0))) (.nm 5))
 (.cons (.as (.bin .Add (.i 1) (.bin .Mod (.bin .FloorDiv (.v 4) (.i 16)) (.i 3))) (.nm 6))
 (.cons (.as (.ix (.nw false (.li (.cons (.i 1) (.cons (.i 2) (.cons (.bin .Add (.i 1) (.bin .Mod (.bin .FloorDiv (.v 4) (.i 48)) (.i 5))) (.cons (.bin .Add (.i 1) (.bin .FloorDiv (.v 4) (.i 48))) .nil)))))) (.bin .Mod (.bin .FloorDiv (.v 4) (.i 240)) (.i 4))) (.nm 7))
 (.cons (.as (.nw false (.lc 1 (.r1 (.bi .len (.cons (.v 2) .nil))) (.nm 10) .no (.bin .Add (.ix (.v 2) (.v 10)) (.bin .Mult (.v 7) (.bi .min (.cons (.v 6) (.cons (.ca true 1 (.cons (.bin .BitAnd (.v 5) (.bin .Add (.v 10) (.i 1))) .nil)) .nil))))))) (.nm 2))
 .nil)))) [Is n,Rs 2,Ls T,x3,Is z,x5,x6,x7,x8,x9] S=some (.nx [Is n,Rs 2,Ls T',x3,Is z,y5,y6,y7,x8,x9] S):=by
 obtain⟨m,m16,em⟩:∃m:Nat,m<16/\z%2^n=(m:Int):=by
  have hp:(0:Int)<2^n:=by rcases hn with rfl|rfl|rfl|rfl<;>decide
  have h1:=Int.emod_nonneg z (show (2:Int) ^ n ≠ 0 by lia);have h2:=Int.emod_lt_of_pos z hp;have h3:(2:Int) ^ n <= 16:=by rcases hn with rfl | rfl | rfl | rfl <;> decide
  exact⟨(z%2^n).toNat,by lia,by lia⟩
 have sh:bG .LShift S (.int 1) (.int (n:Int))=some (.int (2^n)):=by rcases hn with rfl|rfl|rfl|rfl<;>rfl
 have hp:(0:Int)<2^n:=by rcases hn with rfl|rfl|rfl|rfl<;>decide
 have q1:=Int.emod_nonneg (z / 16) (show (3:Int) ≠ 0 by decide);have q2:=Int.emod_lt_of_pos (z / 16) (show (0:Int) < 3 by decide);have w1:=Int.emod_nonneg (z / 240) (show (4:Int) ≠ 0 by decide);have w2:=Int.emod_lt_of_pos (z / 240) (show (0:Int) < 4 by decide);obtain ⟨v,hv,ev⟩:=pj (st:=S) (l:=[.int 1,.int 2,.int (1 + z / 48 % 5),.int (1 + z / 48)]) w1 w2;obtain ⟨tm,rfl,tm0,tm1⟩:∃ tm:Int,v=.int tm/\1 <= tm/\tm <= 50000000:=by
  simp only[zW,z5,or_false]at hv;rcases hv with rfl|rfl|rfl|rfl<;>exact⟨_,rfl,by lia,by lia⟩
 have hN:2^n-1<=15:=by rcases hn with rfl|rfl|rfl|rfl<;>decide
 have am:1+z/16%3=1\/1+z/16%3=2\/1+z/16%3=3:=by lia
 have cb:∀q,q<2^n-1->0<=cf (1+z/16%3) m q/\cf (1+z/16%3) m q<=4:=fun q _=>by
  have:=(AQ _ (yP (Nat.and_le_left (m:=q+1)) m16)).1
  unfold cf;split<;>lia
 have mn:m<2^n:=by
  have h2:=Int.emod_lt_of_pos z hp;have:((2^n:Nat):Int)=2^n:=by simp
  lia
 have eL:=pe (f:=fun q=>gI T q+tm*cf (1+z/16%3) m q) (ks:=[ar,aX]) (k:=1) (st:=S) (it:=.r1 (.bi .len (.cons (.v 2) .nil))) (t:=.nm 10) (e:=.bin .Add (.ix (.v 2) (.v 10)) (.bin .Mult (.v 7) (.bi .min (.cons (.v 6) (.cons (.ca true 1 (.cons (.bin .BitAnd (.v 5) (.bin .Add (.v 10) (.i 1))) .nil)) .nil)))))
  (sl:=[Is n,Rs 2,Ls T,x3,Is z,Is (m:Int),Is (1+z/16%3),Is tm,x8,x9]) (N:=2^n-1) (j9 (by simp[uk,hT.len]) oM) oM fun q hq=>by
   have eb:=wQ (st:=S) (m:=m &&& (q+1)) (yP Nat.and_le_left m16);have ec:bW p4 [.int (1+z/16%3),.int (du (m &&& (q+1)):Int)] S=some (.int (cf (1+z/16%3) m q),S):=rfl;have cq:=cb q hq;generalize cf (1+z/16%3) m q=c at *;have mm:bG .Mult S (.int tm) (.int c)=some (.int (tm*c)):=bI (o8 (xz oM));have ix:=oB (st:=S) (T:=T) (i:=q) (by rw[hT.len];exact hq);have an:=J8 (st:=S) (x:=m) (y:=q+1);have c1:((q:Int)+1)=((q+1:Nat):Int):=by lia
   generalize du (m &&& (q+1))=bb at *;generalize ((m &&& (q+1):Nat):Int)=u at an eb;generalize ((q+1:Nat):Int)=u1 at an c1;exact⟨[Is n,Rs 2,Ls T,x3,Is z,Is (m:Int),Is (1+z/16%3),Is tm,x8,x9,Is (q:Int)],rfl,by simp[ix,c1,an,eb,ec,mm]⟩
 have hL:=hT.step (f:=cf (1+z/16%3) m) (tm:=tm) (c:=1000000000) oM (fun q hq=>by
   have cq:=cb q hq;generalize cf (1+z/16%3) m q=c at *;have:c=0\/c=1\/c=2\/c=3\/c=4:=by lia
   rcases this with rfl|rfl|rfl|rfl|rfl<;>lia) fun r hr=>by
    have h:=yU.mp (yU.mp (Bv hn) m (List.mem_range.mpr mn)) (1+z/16%3) (by rcases am with h|h|h<;>rw[h]<;>simp);exact of_decide_eq_true (yU.mp h r hr)
 generalize (List.range (2 ^ n - 1)).map (fun q=>gI T q + tm * cf (1 + z / 16 % 3) m q)=L at eL hL;refine ⟨L,Is (m:Int),Is (1 + z / 16 % 3),Is tm,hL,?_⟩;refine au (sl':=[Is n,Rs 2,Ls T,x3,Is z,Is (m:Int),x6,x7,x8,x9]) (st':=S) (by simp [sh,eA hp,em]) ?_;refine au (sl':=[Is n,Rs 2,Ls T,x3,Is z,Is (m:Int),Is (1 + z / 16 % 3),x7,x8,x9]) (st':=S) (by simp [mO (show dB 16=true from rfl),eA (show (0:Int) < 3 by decide)]) ?_;refine au (sl':=[Is n,Rs 2,Ls T,x3,Is z,Is (m:Int),Is (1 + z / 16 % 3),Is tm,x8,x9]) (st':=S) (by simp [mO (show dB 48=true from rfl),mO (show dB 240=true from rfl),eA (show (0:Int) < 5 by decide),eA (show (0:Int) < 4 by decide),b8,rfs,rf,ev]) ?_;refine au (sl':=[Is n,Rs 2,Ls L,x3,Is z,Is (m:Int),Is (1 + z / 16 % 3),Is tm,x8,x9]) (st':=S) ?_ rfl;rw [fg,eL];rfl
theorem Bu(hn:fE n)(hD:50<=D.length)(hd:okD D):∃D' T,di [.int n,.ref 2] (A::B::.lst (iL D)::R)=some (.fz (iL T),(A::B::.lst (iL D')::R))/\TbK n T 10000000000/\okD D'/\D.length<=D'.length+6:=by
 have key:∃r,di [.int n,.ref 2] (A::B::.lst (iL D)::R)=some r/\∃D' T,r=(.fz (iL T),(A::B::.lst (iL D')::R))/\TbK n T 10000000000/\okD D'/\D.length<=D'.length+6:=by
  have hN:2^n-1<=15:=by rcases hn with rfl|rfl|rfl|rfl<;>decide
  rw[di,aF];show ∃r,(aj [ar,aX] fB [Is n,Rs 2,none,none,none,none,none,none,none,none] (A::B::.lst (iL D)::R)).bind ay=some r/\_;unfold fB;have e0:=pe (f:=fun _=>0) (ks:=[ar,aX]) (k:=1) (st:=(A::B::.lst (iL D)::R)) (t:=.nm 10) (e:=.i 0) (sl:=[Is n,Rs 2,none,none,none,none,none,none,none,none]) (tO hn) oM fun q hq=>⟨_,rfl,rfl⟩
  have hT0:TbK n ((List.range (2^n-1)).map fun _=>(0:Int)) 0:=⟨by simp,fun x hx=>by
   obtain⟨q,_,rfl⟩:=yG.mp hx;decide,fun r _=>by
   have:val (2^n-1) r (gI ((List.range (2^n-1)).map fun _=>(0:Int)))=0:=SX.sum_zero fun q hq=>by rw[fu hq];exact yS _
   lia⟩
  generalize (List.range (2^n-1)).map (fun _=>(0:Int))=T0 at e0 hT0;refine ai (sl':=[Is n,Rs 2,Ls T0,none,none,none,none,none,none,none]) (st':=(A::B::.lst (iL D)::R)) (by rw[fg,e0];rfl) ?_;obtain⟨D1,x,rfl⟩:=gD (D:=D) (fun z=>by rw[z]at hD;simp at hD);obtain⟨hx0,hd1⟩:=hd.at;simp only[zY,List.length_singleton]at hD ⊢;have p:=o7 (st:=(A::B::Mw.lst (iL (D1++[x]))::R)) (r:=2) (D:=D1) (x:=x) rfl;obtain⟨c,hc,hm⟩:∃c:Nat,c<=4/\x%5=(c:Int):=by
   have h1:=Int.emod_nonneg x (show (5:Int) ≠ 0 by decide);have h2:=Int.emod_lt_of_pos x (show (0:Int) < 5 by decide);exact ⟨(x % 5).toNat,by lia,by lia⟩
  have it:dk [ar,aX] (.r1 (.bin .Mod (.ca false 0 (.cons (.v 1) .nil)) (.i 5))) [Is n,Rs 2,Ls T0,none,none,none,none,none,none,none] (A::B::.lst (iL (D1++[x]))::R)=some (⟨(List.range c).map fun q:Nat=>AV.int (q:Int),[]⟩,(A::B::.lst (iL D1)::R)):=by
   have e:ev [ar,aX] (.bin .Mod (.ca false 0 (.cons (.v 1) .nil)) (.i 5)) [Is n,Rs 2,Ls T0,none,none,none,none,none,none,none] (A::B::.lst (iL (D1++[x]))::R)=some (.int (c:Int),(A::B::.lst (iL D1)::R)):=by
    simp [p,eA (show (0:Int) < 5 by decide),hm,dW]
   show(ev _ _ _ _).bind _=_;rw[e];exact j9 (ks:=[]) (a:=.i c) (sl:=[]) rfl oM
  refine l7 (em:=fun q:Nat=>.int (q:Int)) (xs:=List.range c) (gd:=[]) (st0:=(A::B::.lst (iL D1)::R)) (fun i sl s=>∃D' T,s=(A::B::.lst (iL D')::R)/\D'.length+i=D1.length/\okD D'/\TbK n T ((i:Int)*1000000000)/\∃x3 x4 x5 x6 x7 x8 x9,sl=[Is n,Rs 2,Ls T,x3,x4,x5,x6,x7,x8,x9]) it (fun _ _ _ _=>rfl) ⟨D1,T0,rfl,by lia,hd1,(by rw[Int.ofNat_zero,yT];exact hT0),_,_,_,_,_,_,_,rfl⟩ ?_ ?_
  ·rintro i q sl s hq ⟨D',T,rfl,hl,hd',hT,x3,x4,x5,x6,x7,x8,x9,rfl⟩
   have hi:i<c:=by have:=(zD.mp hq).1;simpa using this
   obtain⟨D2,z,rfl⟩:=gD (D:=D') (fun e=>by rw[e]at hl;simp at hl;lia);obtain⟨hz0,hd2⟩:=hd'.at;have hz1:=(hd' z (by simp)).2;have p2:=o7 (st:=(A::B::Mw.lst (iL (D2++[z]))::R)) (r:=2) (D:=D2) (x:=z) rfl;obtain⟨T',y5,y6,y7,hT',e⟩:=turnT hn hT hz0 hz1 (x3:=some (.int (q:Int))) (x5:=x5) (x6:=x6) (x7:=x7) (x8:=x8) (x9:=x9) (S:=(A::B::.lst (iL D2)::R));exact⟨_,_,_,rfl,au (sl':=[Is n,Rs 2,Ls T,Is (q:Int),Is z,x5,x6,x7,x8,x9]) (st':=(A::B::.lst (iL D2)::R)) (by simp[p2,dW]) e,D2,T',rfl,by simp at hl;lia,hd2,(by rw[show((i+1:Nat):Int)*1000000000=(i:Int)*1000000000+1000000000 by lia];exact hT'),_,_,_,_,_,_,_,rfl⟩
  ·rintro sl s ⟨D',T,rfl,hl,hd',hT,x3,x4,x5,x6,x7,x8,x9,rfl⟩
   simp only[List.length_range]at hl hT;obtain⟨D2,z,rfl⟩:=gD (D:=D') (fun e=>by rw[e]at hl;simp at hl;lia);obtain⟨hz0,hd2⟩:=hd'.at;have hz1:=(hd' z (by simp)).2;simp only[zY,List.length_singleton]at hl;have p2:=o7 (st:=(A::B::Mw.lst (iL (D2++[z]))::R)) (r:=2) (D:=D2) (x:=z) rfl;refine ai (sl':=[Is n,Rs 2,Ls T,x3,Is z,x5,x6,x7,x8,x9]) (st':=(A::B::.lst (iL D2)::R)) (by simp[p2,dW]) ?_;have fin':∀(T':List Int)(y8 y9:Option AV),TbK n T' 10000000000->∃r,(aj [ar,aX] (.cons (.rt (.v 2)) .nil) [Is n,Rs 2,Ls T',x3,Is z,x5,x6,x7,y8,y9] (A::B::.lst (iL D2)::R)).bind ay=some r/\∃D' T,r=(.fz (iL T),(A::B::.lst (iL D')::R))/\TbK n T 10000000000/\okD D'/\D1.length+1<=D'.length+6:=fun T' y8 y9 h=>⟨_,rfl,D2,T',rfl,h,hd2,by lia⟩
   by_cases hc4:n=4/\z%3=0
   ·obtain⟨rfl,h3⟩:=hc4
    have w1:=Int.emod_nonneg (z / 3) (show (6:Int) ≠ 0 by decide);have w2:=Int.emod_lt_of_pos (z / 3) (show (0:Int) < 6 by decide);obtain ⟨v,hv,ev⟩:=pj (st:=(A::B::.lst (iL D2)::R)) (l:=[.int 3,.int 5,.int 6,.int 9,.int 10,.int 12]) w1 w2;obtain ⟨pr,rfl,hpr⟩:∃ pr:Int,v=.int pr/\pr ∈ ([3,5,6,9,10,12]:List Int):=by
     simp only[zW,z5,or_false]at hv;rcases hv with rfl|rfl|rfl|rfl|rfl|rfl<;>exact⟨_,rfl,by simp⟩
    have eQ:=pe (f:=fr pr) (ks:=[ar,aX]) (k:=1) (st:=(A::B::.lst (iL D2)::R)) (it:=.r1 (.i 15)) (t:=.nm 10) (e:=.bin .Add (.ix (.nw false (.li (.cons (.i 2) (.cons (.i 3) (.cons (.i 4) (.cons (.i 4) .nil)))))) (.bin .Sub (.ca true 1 (.cons (.bin .Add (.v 10) (.i 1)) .nil)) (.i 1))) (.bi .int (.cons (.cmp .Eq (.bin .Add (.v 10) (.i 1)) (.v 8)) .nil)))
     (sl:=[Is ((4:Nat):Int),Rs 2,Ls T,x3,Is z,x5,x6,x7,Is pr,x9]) (N:=15) rfl oM fun q hq=>by
      have eb:=wQ (st:=(A::B::.lst (iL D2)::R)) (m:=q+1) oM;have b1:=AQ (q+1) oM;have eu:=oB (st:=(A::B::.lst (iL D2)::R)) (T:=[2,3,4,4]) (i:=du (q+1)-1) (by simp;lia);have c1:((q:Int)+1)=((q+1:Nat):Int):=by lia
      have c2:(du (q+1):Int)-1=((du (q+1)-1:Nat):Int):=by have:=b1.2 oM;lia
      have eu:bN (A::B::.lst (iL D2)::R) (.fz [.int 2,.int 3,.int 4,.int 4]) (.int ((du (q+1)-1:Nat):Int))=some (.int (gI [2,3,4,4] (du (q+1)-1))):=eu;have ef:fr pr q=gI [2,3,4,4] (du (q+1)-1)+if((q+1:Nat):Int)=pr then 1 else 0:=rfl
      rw[ef];rw[<- c2]at eu;generalize gI [2,3,4,4] (du (q+1)-1)=uu at *;generalize (du (q+1):Int)=bb at *;generalize ((q+1:Nat):Int)=u1 at eb c1 ⊢;exact⟨[Is ((4:Nat):Int),Rs 2,Ls T,x3,Is z,x5,x6,x7,Is pr,x9,Is (q:Int)],rfl,by simp[c1,eb,eu,b8,rfs,rf,bW,lI]⟩
    obtain⟨Q,hQ⟩:∃Q,Q=(List.range 15).map (fr pr):=⟨_,rfl⟩;rw[<- hQ]at eQ;have lQ:Q.length=15:=by rw[hQ];simp
    have eL:=pe (f:=fun q=>gI T q+1*gI Q q) (ks:=[ar,aX]) (k:=1) (st:=(A::B::.lst (iL D2)::R)) (it:=.r1 (.i 15)) (t:=.nm 10) (e:=.bin .Add (.ix (.v 2) (.v 10)) (.ix (.v 9) (.v 10)))
     (sl:=[Is ((4:Nat):Int),Rs 2,Ls T,x3,Is z,x5,x6,x7,Is pr,Ls Q]) (N:=15) rfl oM fun q hq=>by
      have i1:=oB (st:=(A::B::.lst (iL D2)::R)) (T:=T) (i:=q) (by rw[hT.len];exact hq);have i2:=oB (st:=(A::B::.lst (iL D2)::R)) (T:=Q) (i:=q) oM;exact⟨[Is ((4:Nat):Int),Rs 2,Ls T,x3,Is z,x5,x6,x7,Is pr,Ls Q,Is (q:Int)],rfl,by rw[Int.one_mul];simp[i1,i2]⟩
    have frb:∀p∈([3,5,6,9,10,12]:List Int),∀q,q<15->0<=1*fr p q/\1*fr p q<=5:=by decide +kernel
    have hL:=hT.step (f:=gI Q) (tm:=1) (c:=5) dC (fun q hq=>by rw[hQ,fu hq];exact frb pr hpr q hq) fun r hr=>by
     have h:=of_decide_eq_true (yU.mp (yU.mp FC pr hpr) r hr);have:val 15 r (gI Q)=val 15 r (fr pr):=SX.sum_congr fun q hq=>by rw[hQ,fu hq]
     show 0<=val 15 r (gI Q);rw[this];exact h
    have hL:TbK 4 ((List.range 15).map fun q=>gI T q+1*gI Q q) 10000000000:=⟨hL.len,fun x hx=>by have:=hL.bd x hx;lia,hL.ru⟩;generalize (List.range 15).map (fun q=>gI T q+1*gI Q q)=L at eL hL;refine ai (sl':=[Is ((4:Nat):Int),Rs 2,Ls L,x3,Is z,x5,x6,x7,Is pr,Ls Q]) (st':=(A::B::.lst (iL D2)::R)) ?_ (fin' L _ _ hL);have t1:tv [ar,aX] (.an (.cmp .Eq (.v 0) (.i 4)) (.cmp .Eq (.bin .Mod (.v 4) (.i 3)) (.i 0))) [Is ((4:Nat):Int),Rs 2,Ls T,x3,Is z,x5,x6,x7,x8,x9] (A::B::.lst (iL D2)::R)=some (true,(A::B::.lst (iL D2)::R)):=by
     simp [eA (show (0:Int) < 3 by decide),h3]
    rw [j8,t1,bind_some];show aj _ _ _ _=_;refine au (sl':=[Is ((4:Nat):Int),Rs 2,Ls T,x3,Is z,x5,x6,x7,Is pr,x9]) (st':=(A::B::.lst (iL D2)::R)) (by simp [mO (show dB 3=true from rfl),eA (show (0:Int) < 6 by decide),b8,rfs,rf,ev]) ?_;refine au (sl':=[Is ((4:Nat):Int),Rs 2,Ls T,x3,Is z,x5,x6,x7,Is pr,Ls Q]) (st':=(A::B::.lst (iL D2)::R)) (by rw [fg,eQ];rfl) ?_;refine au (sl':=[Is ((4:Nat):Int),Rs 2,Ls L,x3,Is z,x5,x6,x7,Is pr,Ls Q]) (st':=(A::B::.lst (iL D2)::R)) (by rw [fg,eL];rfl) rfl
   ·refine ai (sl':=[Is n,Rs 2,Ls T,x3,Is z,x5,x6,x7,x8,x9]) (st':=(A::B::.lst (iL D2)::R)) ?_ (fin' T _ _ ⟨hT.len,fun x hx=>by have:=hT.bd x hx;lia,hT.ru⟩)
    by_cases h4:n=4
    ·have h3:¬z%3=0:=fun e=>hc4 ⟨h4,e⟩
     simp [eA (show (0:Int) < 3 by decide),h3,h4]
    ·simp[show ¬(n:Int)=4 by lia]
 obtain⟨r,e,D',T,rfl,h1,h2⟩:=key;exact⟨D',T,e,h1,h2⟩
end
section
variable{st:aa}{n g k j:Nat}{A B:Mw}{R:aa}{D T:List Int}
noncomputable def fD(z:Nat×Int):AV:=.tup [.int (z.1:Int),.int z.2]
def EI(n:Nat)(ts:List (Nat×Int)):Prop:=ts.length<=4/\∀z∈ts,z.1<2^n/\(z.2=1\/z.2=-1)
theorem Gj:∀l:List (Nat×Int),rfs (l.map fD)=true:=fun l=>gN fun x hx=>by
 obtain⟨z,_,rfl⟩:=yG.mp hx;rfl
theorem rQ(hn:fE n){ts:List (Nat×Int)}(ht:∀t∈ts,t.1<2^n):pm aK [.int n,.fz (ts.map fD)] st=some (.fz (iL (dF n ts)),st):=by
 have hN:2^n-1<=15:=by rcases hn with rfl|rfl|rfl|rfl<;>decide
 have key:∃r,aK [.int n,.fz (ts.map fD)] []=some r/\dE r.2 r.1=some (.fz (iL (dF n ts))):=by
  rw[aK,aF];show ∃r,(aj [] eF [Is n,Zs (ts.map fD),none,none,none] []).bind ay=some r/\_;unfold eF;refine ai (sl':=[Is n,Zs (ts.map fD),Rs 0,none,none]) (st':=[.lst (iL (List.replicate (2^n-1) 0))]) (by rcases hn with rfl|rfl|rfl|rfl<;>rfl) ?_;refine l7 (em:=fD) (xs:=ts) (gd:=[]) (st0:=[.lst (iL (List.replicate (2^n-1) 0))]) (fun i sl s=>s=[.lst (iL ((ts.take i).foldl dA (List.replicate (2^n-1) 0)))]/\∃x y,sl=[Is n,Zs (ts.map fD),Rs 0,x,y]) rfl (fun _ _ _ _=>rfl) ⟨rfl,_,_,rfl⟩ ?_ ?_
  ·rintro i ⟨g,c⟩ sl s hz ⟨rfl,x,y,rfl⟩
   have hg:=ht _ (zZ hz);have hL:((ts.take i).foldl dA (List.replicate (2^n-1) 0)).length=2^n-1:=by rw[lL];simp
   have e1:(ts.take (i+1)).foldl dA (List.replicate (2^n-1) 0)=dA ((ts.take i).foldl dA (List.replicate (2^n-1) 0)) (g,c):=by
    rw[List.take_add_one,hz,Option.toList_some,List.foldl_append];rfl
   rw[e1];generalize (ts.take i).foldl dA (List.replicate (2^n-1) 0)=L at *;refine⟨([Is n,Zs (ts.map fD),Rs 0,Is (g:Int),Is c],[.lst (iL L)]),[Is n,Zs (ts.map fD),Rs 0,Is (g:Int),Is c],[.lst (iL (dA L (g,c)))],rfl,?_,rfl,_,_,rfl⟩;unfold dA;dsimp only at hg ⊢;refine au (s:=.iff _ _ _) ?_ rfl;by_cases h0:g=0
   ·rw[yL h0];subst h0;rfl
   ·rw[yK h0]
    have hg':g-1<L.length:=by lia
    have ix:bN [.lst (iL L)] (.ref 0) (.int ((g-1:Nat):Int))=some (.int (SX.gI L (g-1))):=by rw[cz (bv (xs:=iL L) rfl),ci,bK hg']
    have hs:=cQ (st:=[.lst (iL L)]) (k:=0) (q:=g-1) (xs:=iL L) (x:=.int (SX.gI L (g-1)+c)) rfl (by rw[f9];exact hg');rw[eC]at hs;have e1:(g:Int)-1=((g-1:Nat):Int):=by lia
    simp [eq_true (show 0 < g by lia),e1,ix,hs]
  ·rintro sl s ⟨rfl,x,y,rfl⟩
   rw[List.take_length];exact⟨_,rfl,nK rfl⟩
 obtain⟨r,e1,e2⟩:=key;exact dP (by simp[rfs,rf,Gj]) e1 e2
theorem BE(hn:fE n){ts:List (Nat×Int)}(ht:EI n ts):∃L,pm aK [.int n,.fz (ts.map fD)] st=some (.fz (iL L),st)/\L.length=2^n-1/\∀x∈L,-4<=x/\x<=4 :=
 ⟨_,rQ hn fun t h=>(ht.2 t h).1,pL,fun x hx=>by have:=rV (m:=4) (fun t h=>by rcases(ht.2 t h).2 with h|h<;>rw[h]<;>decide) ht.1 x hx;lia⟩
def wF(n:Nat)(ts:List (Nat×Int)):Prop:=∃a b c,(a<2^n/\0<a)/\(b<2^n/\0<b)/\c<2^n/\(ts=[(a,1)]\/ts=[(a ||| c,1),(c,-1)]\/ts=pH a b c)
theorem rJ(hn:fE n)(hD:0<D.length)(hd:okD D):∃D' ts,aP [.int n,.ref 2] (A::B::.lst (iL D)::R)=some (.fz (ts.map fD),A::B::.lst (iL D')::R)/\EI n ts/\okD D'/\D.length=D'.length+1/\wF n ts:=by
 obtain⟨D1,z,rfl⟩:=gD (D:=D) (fun e=>by rw[e]at hD;simp at hD);obtain⟨hz,hd1⟩:=hd.at;obtain⟨w,hw,w0,w16⟩:∃w:Nat,w=2^n-1/\0<w/\w<=15:=⟨_,rfl,by rcases hn with rfl|rfl|rfl|rfl<;>decide,by rcases hn with rfl|rfl|rfl|rfl<;>decide⟩;have hp:2^n=w+1:=by rw[hw];rcases hn with rfl|rfl|rfl|rfl<;>rfl
 have p:=jG (A:=A) (B:=B) (R:=R) (D:=D1) (x:=z);obtain⟨S,hS⟩:∃S,S=A::B::Mw.lst (iL D1)::R:=⟨_,rfl⟩;rw[<- hS]at p;have ew:ev [ar] (.bin .Sub (.bin .LShift (.i 1) (.v 0)) (.i 1)) [Is n,Rs 2,none,none,none,none,none] (A::B::.lst (iL (D1++[z]))::R)=some (.int (w:Int),A::B::.lst (iL (D1++[z]))::R):=by
  rw[hw];rcases hn with rfl|rfl|rfl|rfl<;>rfl
 obtain⟨a,ha,ea⟩:∃a:Nat,(1<=a/\a<=w)/\1+z%(w:Int)=(a:Int):=by
  have h1:=Int.emod_nonneg z (show (w:Int) ≠ 0 by lia);have h2:=Int.emod_lt_of_pos z (show (0:Int) < w by lia);exact ⟨(1 + z % (w:Int)).toNat,by lia,by lia⟩
 obtain⟨b,hb,eb⟩:∃b:Nat,(1<=b/\b<=w)/\1+z/16%(w:Int)=(b:Int):=by
  have h1:=Int.emod_nonneg (z / 16) (show (w:Int) ≠ 0 by lia);have h2:=Int.emod_lt_of_pos (z / 16) (show (0:Int) < w by lia);exact ⟨(1 + z / 16 % (w:Int)).toNat,by lia,by lia⟩
 obtain⟨c,hc,ec⟩:∃c:Nat,c<=w/\z/256%((w:Int)+1)=(c:Int):=by
  have h1:=Int.emod_nonneg (z / 256) (show ((w:Int) + 1) ≠ 0 by lia);have h2:=Int.emod_lt_of_pos (z / 256) (show (0:Int) < (w:Int) + 1 by lia);exact ⟨(z / 256 % ((w:Int) + 1)).toNat,by lia,by lia⟩
 have o1:=tU (st:=S) (x:=a) (y:=c) oM oM;have o2:=tU (st:=S) (x:=b) (y:=c) oM oM;have o3:=tU (st:=S) (x:=a) (y:=b) oM oM;have l1:a ||| c<2^n:=Nat.or_lt_two_pow oM oM;have l2:b ||| c<2^n:=Nat.or_lt_two_pow oM oM;have l3:a ||| b<2^n:=Nat.or_lt_two_pow oM oM;have l4:a ||| b ||| c<2^n:=Nat.or_lt_two_pow l3 oM;have o4:=tU (st:=S) (x:=a ||| b) (y:=c) oM oM;have ng:lU .USub S (.int 1)=some (.int (-1)):=rfl;have f3:bG .FloorDiv S (.int z) (.int 4096)=some (.int (z/4096)):=mO rfl dC;have m3:bG .Mod S (.int (z/4096)) (.int 3)=some (.int (z/4096%3)):=eA dC;have key:∃r,aP [.int n,.ref 2] (A::B::.lst (iL (D1++[z]))::R)=some r/\∃ts,r=(.fz (ts.map fD),S)/\EI n ts/\wF n ts:=by
  rw [aP,aF];show ∃ r,(aj [ar] fA [Is n,Rs 2,none,none,none,none,none] (A::B::.lst (iL (D1++[z]))::R)).bind ay=some r/\_;unfold fA;refine ai (sl':=[Is n,Rs 2,Is (w:Int),none,none,none,none]) (st':=A::B::.lst (iL (D1++[z]))::R) (by rw [fg,ew];rfl) ?_;refine ai (sl':=[Is n,Rs 2,Is (w:Int),Is z,none,none,none]) (st':=S) (by simp [p,dW]) ?_;refine ai (sl':=[Is n,Rs 2,Is (w:Int),Is z,Is (a:Int),none,none]) (st':=S) (by simp [eA (show (0:Int) < (w:Int) by lia),ea]) ?_;refine ai (sl':=[Is n,Rs 2,Is (w:Int),Is z,Is (a:Int),Is (b:Int),none]) (st':=S) (by simp [mO (show dB 16=true from rfl),eA (show (0:Int) < (w:Int) by lia),eb]) ?_;refine ai (sl':=[Is n,Rs 2,Is (w:Int),Is z,Is (a:Int),Is (b:Int),Is (c:Int)]) (st':=S) (by simp [mO (show dB 256=true from rfl),eA (show (0:Int) < (w:Int) + 1 by lia),ec]) ?_;have h0:=Int.emod_nonneg (z / 4096) (show (3:Int) ≠ 0 by decide);have fm:∀ ts,(ts=[(a,1)]\/ts=[(a ||| c,1),(c,-1)]\/ts=pH a b c)->wF n ts:=fun ts h=>⟨a,b,c,⟨by lia,by lia⟩,⟨by lia,by lia⟩,by lia,h⟩
  have fm2:=fm _ (.inr (.inl rfl));have fm3:=fm _ (.inr (.inr rfl));simp only[pH]at fm3;by_cases e0:z/4096%3=0
  ·refine fJ (v:=.fz ([(a,1)].map fD)) (st':=S) ?_ ⟨_,rfl,?_⟩
   ·simp[f3,m3,e0,b8,rfs,rf,fD,ox]
   ·exact⟨⟨by simp,by simp only[zP];rintro z rfl;exact⟨by dsimp only;lia,.inl rfl⟩⟩,fm _ (.inl rfl)⟩
  ·refine ai (sl':=[Is n,Rs 2,Is (w:Int),Is z,Is (a:Int),Is (b:Int),Is (c:Int)]) (st':=S) (by simp[f3,m3,e0]) ?_
   generalize hq1:a ||| c=q1 at *;generalize hq2:b ||| c=q2 at *;generalize hq4:a ||| b ||| c=q4 at *;generalize hq3:a ||| b=q3 at *;by_cases e1:z/4096%3=1
   ·refine fJ (v:=.fz ([(q1,1),(c,-1)].map fD)) (st':=S) ?_ ⟨_,rfl,⟨by simp,?_⟩,fm2⟩
    ·simp[f3,m3,e1,b8,rfs,rf,fD,o1,ng,ox]
    ·simp only[zW,z5,or_false]
     rintro z (rfl|rfl)
     ·exact⟨l1,.inl rfl⟩
     ·exact⟨by dsimp only;lia,.inr rfl⟩
   ·refine ai (sl':=[Is n,Rs 2,Is (w:Int),Is z,Is (a:Int),Is (b:Int),Is (c:Int)]) (st':=S) (by simp[f3,m3,e1]) ?_
    refine fJ (v:=.fz ([(q1,1),(q2,1),(q4,-1),(c,-1)].map fD)) (st':=S) ?_ ⟨_,rfl,⟨by simp,?_⟩,fm3⟩
    ·simp[b8,rfs,rf,fD,o1,o2,o3,o4,ng]
    ·simp only[zW,z5,or_false]
     rintro z (rfl|rfl|rfl|rfl)
     ·exact⟨l1,.inl rfl⟩
     ·exact⟨l2,.inl rfl⟩
     ·exact⟨l4,.inr rfl⟩
     ·exact⟨by dsimp only;lia,.inr rfl⟩
 obtain⟨r,e,ts,rfl,h⟩:=key;rw[hS]at e;exact⟨D1,ts,e,h.1,hd1,by simp,h.2⟩
end
section
variable{st:aa}{n g k j:Nat}{A B:Mw}{R:aa}{D T:List Int}
def sR(L:List Int):Prop:=∀x∈L,x.natAbs<=10000000000000000000000
theorem KH:bG .Pow st (.int 10) (.int 12)=some (.int 1000000000000):=by kernel_rfl
theorem KF:bG .Pow st (.int 10) (.int 21)=some (.int 1000000000000000000000):=by kernel_rfl
theorem Aq(hn:fE n)(hD:20<=D.length)(hd:okD D):∃D' L,dU [.int n,.ref 2] (A::B::.lst (iL D)::R)=some (.fz (iL L),A::B::.lst (iL D')::R)/\L.length=2^n-1/\sR L/\okD D'/\D.length<=D'.length+17:=by
 have hN:2^n-1<=15:=by rcases hn with rfl|rfl|rfl|rfl<;>decide
 have key:∃r,dU [.int n,.ref 2] (A::B::.lst (iL D)::R)=some r/\∃D' L,r=(.fz (iL L),A::B::.lst (iL D')::R)/\L.length=2^n-1/\sR L/\okD D'/\D.length<=D'.length+17:=by
  rw[dU,aF];show ∃r,(aj [ar,aP,aK] gH [Is n,Rs 2,none,none,none,none,none] (A::B::.lst (iL D)::R)).bind ay=some r/\_;unfold gH;obtain⟨D1,z,rfl⟩:=gD (D:=D) (fun e=>by rw[e]at hD;simp at hD);obtain⟨hz,hd1⟩:=hd.at;simp only[zY,List.length_singleton]at hD ⊢;have p:=jG (A:=A) (B:=B) (R:=R) (D:=D1) (x:=z);refine ai (sl':=[Is n,Rs 2,Is z,none,none,none,none]) (st':=A::B::.lst (iL D1)::R) (by simp[p,dW]) ?_;have m8:bG .Mod (A::B::.lst (iL D1)::R) (.int z) (.int 8)=some (.int (z%8)):=eA dC;have m64:bG .Mod (A::B::.lst (iL D1)::R) (.int z) (.int 64)=some (.int (z%64)):=eA dC;by_cases h8:z%8=0
  ·obtain⟨D2,L,e,hd2,hl,hL,hb⟩:=wf (A:=A) (B:=B) (R:=R) (D:=D1) (f:=fun x=>x%7-3) (ks:=[ar,aP,aK]) (it:=.r1 (.bin .Sub (.bin .LShift (.i 1) (.v 0)) (.i 1))) (e:=.bin .Sub (.bin .Mod (.ca false 0 (.cons (.v 1) .nil)) (.i 7)) (.i 3)) (sl:=[Is n,Rs 2,Is z,none,none,none,none]) (s:=7) (N:=2^n-1) (fun st=>tO hn) oM rfl (fun q D x _ _=>by
    simp[jG,dW,eA (show(0:Int)<7 by decide)]) oM hd1
   refine fJ (v:=.fz (iL L)) (st':=A::B::.lst (iL D2)::R) ?_ ⟨D2,L,rfl,hL,fun x hx=>?_,hd2,by lia⟩
   ·rw[j8]
    have t1:tv [ar,aP,aK] (.cmp .Eq (.bin .Mod (.v 2) (.i 8)) (.i 0)) [Is n,Rs 2,Is z,none,none,none,none] (A::B::.lst (iL D1)::R)=some (true,A::B::.lst (iL D1)::R):=by simp[m8,h8]
    rw[t1,bind_some];show aj _ _ _ _=_;refine u8 ?_;rw[xH,e];rfl
   ·obtain⟨y,_,_,rfl⟩:=hb x hx
    have:=Int.emod_nonneg y (show (7:Int) ≠ 0 by decide)
    have:=Int.emod_lt_of_pos y (show (0:Int) < 7 by decide)
    lia
  refine ai (sl':=[Is n,Rs 2,Is z,none,none,none,none]) (st':=A::B::.lst (iL D1)::R) (by simp[m8,h8]) ?_;by_cases h64:z%64=1
  ·obtain⟨D2,L,e,hd2,hl,hL,hb⟩:=wf (A:=A) (B:=B) (R:=R) (D:=D1) (f:=fun x=>x*1000000000000-1000000000000000000000) (ks:=[ar,aP,aK]) (it:=.r1 (.bin .Sub (.bin .LShift (.i 1) (.v 0)) (.i 1))) (e:=.bin .Sub (.bin .Mult (.ca false 0 (.cons (.v 1) .nil)) (.bin .Pow (.i 10) (.i 12))) (.bin .Pow (.i 10) (.i 21))) (sl:=[Is n,Rs 2,Is z,none,none,none,none]) (s:=7) (N:=2^n-1) (fun st=>tO hn) oM rfl (fun q D x _ _=>by
    have mm:bG .Mult (A::B::.lst (iL D)::R) (.int x) (.int 1000000000000)=some (.int (x*1000000000000)):=bI (o8 dC);simp[jG,dW,KH,KF,mm]) oM hd1
   refine fJ (v:=.fz (iL L)) (st':=A::B::.lst (iL D2)::R) ?_ ⟨D2,L,rfl,hL,fun x hx=>?_,hd2,by lia⟩
   ·rw[j8]
    have t1:tv [ar,aP,aK] (.cmp .Eq (.bin .Mod (.v 2) (.i 64)) (.i 1)) [Is n,Rs 2,Is z,none,none,none,none] (A::B::.lst (iL D1)::R)=some (true,A::B::.lst (iL D1)::R):=by simp[m64,h64]
    rw[t1,bind_some];show aj _ _ _ _=_;refine u8 ?_;rw[xH,e];rfl
   ·obtain⟨y,y0,y1,rfl⟩:=hb x hx
    lia
  refine ai (sl':=[Is n,Rs 2,Is z,none,none,none,none]) (st':=A::B::.lst (iL D1)::R) (by simp[m64,h64]) ?_;obtain⟨L0,hL0,e0⟩:=wj (P:=fun v=>v=0) (ks:=[ar,aP,aK]) (k:=1) (st:=A::B::.lst (iL D1)::R) (t:=.nm 7) (e:=.i 0) (sl:=[Is n,Rs 2,Is z,none,none,none,none]) (tO hn) oM fun q hq=>⟨_,0,rfl,rfl,rfl⟩
  refine ai (sl':=[Is n,Rs 2,Is z,Ls L0,none,none,none]) (st':=A::B::.lst (iL D1)::R) (by rw[fg,e0];rfl) ?_;obtain⟨c,hc,ec⟩:∃c:Nat,c<=3/\1+z/64%3=(c:Int):=by
   have h1:=Int.emod_nonneg (z / 64) (show (3:Int) ≠ 0 by decide);have h2:=Int.emod_lt_of_pos (z / 64) (show (0:Int) < 3 by decide);exact ⟨(1 + z / 64 % 3).toNat,by lia,by lia⟩
  have it:dk [ar,aP,aK] (.r1 (.bin .Add (.i 1) (.bin .Mod (.bin .FloorDiv (.v 2) (.i 64)) (.i 3)))) [Is n,Rs 2,Is z,Ls L0,none,none,none] (A::B::.lst (iL D1)::R)=some (⟨(List.range c).map fun q:Nat=>AV.int (q:Int),[]⟩,A::B::.lst (iL D1)::R):=j9 (by simp [mO (show dB 64=true from rfl),eA (show (0:Int) < 3 by decide),ec]) oM;refine l7 (em:=fun q:Nat=>.int (q:Int)) (xs:=List.range c) (gd:=[]) (st0:=A::B::.lst (iL D1)::R) (fun i sl s=>∃ D' L,s=A::B::.lst (iL D')::R/\D1.length=D'.length + 2 * i/\okD D'/\L.length=2 ^ n - 1/\(∀ x ∈ L,-(12 * (i:Int)) <= x/\x <= 12 * (i:Int))/\∃ x4 x5 x6,sl=[Is n,Rs 2,Is z,Ls L,x4,x5,x6]) it (fun _ _ _ _=>rfl) ⟨D1,L0,rfl,by lia,hd1,hL0.1,fun x hx=>by have:=hL0.2 x hx;lia,_,_,_,rfl⟩ ?_ ?_
  ·rintro i q sl s hq ⟨D',L,rfl,hl,hd',hL,hb,x4,x5,x6,rfl⟩
   have hi:i<c:=by have:=(zD.mp hq).1;simpa using this
   obtain ⟨D2,ts,e1,ht,hd2,hl2,_⟩:=rJ (A:=A) (B:=B) (R:=R) (D:=D') hn oM hd';obtain ⟨M,e2,hM,hMb⟩:=BE (st:=A::B::.lst (iL D2)::R) hn ht;obtain ⟨D3,y,rfl⟩:=gD (D:=D2) (fun e=>by rw [e] at hl2;simp at hl2;lia);obtain ⟨hy,hd3⟩:=hd2.at;simp only [zY,List.length_singleton] at hl2;have w1:=Int.emod_nonneg y (show (6:Int) ≠ 0 by decide);have w2:=Int.emod_lt_of_pos y (show (0:Int) < 6 by decide);obtain ⟨v,hv,ev⟩:=pj (st:=A::B::.lst (iL D3)::R) (l:=[.int 1,.int 1,.int (-1),.int 2,.int 3,.int (-2)]) w1 w2;obtain ⟨tm,rfl,tmv⟩:∃ tm:Int,v=.int tm/\(tm=1\/tm=-1\/tm=2\/tm=3\/tm=-2):=by
    simp only[zW,z5,or_false]at hv;rcases hv with rfl|rfl|rfl|rfl|rfl|rfl<;>exact⟨_,rfl,by lia⟩
   have n1:∀st,lU .USub st (.int 1)=some (.int (-1)):=fun _=>rfl
   have n2:∀st,lU .USub st (.int 2)=some (.int (-2)):=fun _=>rfl
   obtain⟨L2,hL2,eL2⟩:=wj (P:=fun v=>-(12*((i+1:Nat):Int))<=v/\v<=12*((i+1:Nat):Int)) (ks:=[ar,aP,aK]) (k:=1) (st:=A::B::.lst (iL D3)::R) (it:=.r1 (.bi .len (.cons (.v 3) .nil))) (t:=.nm 7) (e:=.bin .Add (.ix (.v 3) (.v 7)) (.bin .Mult (.v 6) (.ix (.v 5) (.v 7)))) (sl:=[Is n,Rs 2,Is z,Ls L,Is (q:Int),Ls M,Is tm]) (N:=2^n-1) (j9 (by simp[uk,hL]) oM) oM fun g hg=>by
    have i1:=oB (st:=A::B::.lst (iL D3)::R) (T:=L) (i:=g) oM;have i2:=oB (st:=A::B::.lst (iL D3)::R) (T:=M) (i:=g) oM;have b1:=hb _ (mJ (T:=L) (q:=g) oM);have b2:=hMb _ (mJ (T:=M) (q:=g) oM);have mm:bG .Mult (A::B::.lst (iL D3)::R) (.int tm) (.int (SX.gI M g))=some (.int (tm*SX.gI M g)):=bI (jh (xz oM));exact⟨[Is n,Rs 2,Is z,Ls L,Is (q:Int),Ls M,Is tm,Is (g:Int)],SX.gI L g+tm*SX.gI M g,by rcases tmv with rfl|rfl|rfl|rfl|rfl<;>lia,rfl,by simp[i1,i2,mm]⟩
   refine ⟨_,[Is n,Rs 2,Is z,Ls L2,Is (q:Int),Ls M,Is tm],A::B::.lst (iL D3)::R,rfl,?_,D3,L2,rfl,by lia,hd3,hL2.1,hL2.2,_,_,_,rfl⟩;refine au (sl':=[Is n,Rs 2,Is z,Ls L,Is (q:Int),Ls M,x6]) (st':=A::B::.lst (iL (D3++[y]))::R) (by simp [e1,e2,dW]) ?_;refine au (sl':=[Is n,Rs 2,Is z,Ls L,Is (q:Int),Ls M,Is tm]) (st':=A::B::.lst (iL D3)::R) (by simp [n1,n2,jG,dW,eA (show (0:Int) < 6 by decide),b8,rfs,rf,ev]) ?_;refine au (sl':=[Is n,Rs 2,Is z,Ls L2,Is (q:Int),Ls M,Is tm]) (st':=A::B::.lst (iL D3)::R) (by rw [fg,eL2];rfl) rfl
  ·rintro sl s ⟨D',L,rfl,hl,hd',hL,hb,x4,x5,x6,rfl⟩
   simp only[List.length_range]at hl hb;exact⟨_,rfl,D',L,rfl,hL,fun x hx=>by have:=hb x hx;lia,hd',by lia⟩
 obtain⟨r,e,D',L,rfl,h⟩:=key;exact⟨D',L,e,h⟩
end
section
variable{st:aa}{n:Nat}{r T:List Int}
theorem G6(hr:r.length<=15)(hT:T.length=r.length)(br:∀x∈r,x.natAbs<2^9000)(bT:∀x∈T,x.natAbs<2^9000):pm dh [.fz (iL r),.fz (iL T)] st=some (.int (val r.length r (gI T)),st):=by
 have e:=ul (st:=[]) (ks:=[]) (k:=1) (it:=.r1 (.bi .len (.cons (.v 0) .nil))) (t:=.nm 2) (c:=.no) (e:=.bin .Mult (.ix (.v 0) (.v 2)) (.ix (.v 1) (.v 2))) (sl:=[Ls r,Ls T]) (gd:=[]) (em:=fun q:Nat=>AV.int (q:Int)) (xs:=List.range r.length) (B:=fun _=>true) (F:=fun q=>AV.int (gI r q*gI T q)) (j9 (by simp[uk]) oM) rfl (by simp;lia) fun q hq=>by
  have hq:=List.mem_range.mp hq;have i1:=oB (st:=[]) (T:=r) (i:=q) hq;have i2:=oB (st:=[]) (T:=T) (i:=q) oM;exact⟨[Ls r,Ls T,Is (q:Int)],rfl,rfl,fun _=>by
   have mm:bG .Mult [] (.int (gI r q)) (.int (gI T q))=some (.int (gI r q*gI T q)):=bI (dy (br _ (mJ hq)) (bT _ (mJ (show q<T.length by lia))));simp[i1,i2,mm]⟩
 rw[List.filter_eq_self.mpr (fun _ _=>rfl),show(List.range r.length).map (fun q=>AV.int (gI r q*gI T q))=iL ((List.range r.length).map fun q=>gI r q*gI T q) by unfold iL;rw[List.map_map];rfl]at e;have e2:ev [] (.nw false (.lc 1 (.r1 (.bi .len (.cons (.v 0) .nil))) (.nm 2) .no (.bin .Mult (.ix (.v 0) (.v 2)) (.ix (.v 1) (.v 2))))) [Ls r,Ls T] []=some (.fz (iL ((List.range r.length).map fun q=>gI r q*gI T q)),[]):=by
  rw[je,e,bind_some,yL ig]
 have es:∀n (f:Nat->Int),((List.range n).map f).sum=MA n f:=fun n f=>by
  induction n with
  |zero=>rfl
  |succ n ih=>rw[List.range_succ,List.map_append,List.sum_append,ih];simp[MA]
 refine dP (by simp[rfs,rf,ig]) (v:=.int (val r.length r (gI T))) (st':=[]) ?_ rfl;rw[dh,aF];show(aj [] g9 [Ls r,Ls T] []).bind ay=_;refine nJ ?_;simp only[xH,Ji,gK,iO,e2,bind_some,FV,bW,pE,G7,map_some];rw[es];rfl
end
section
variable{st:aa}{n a b c:Nat}{ts:List (Nat×Int)}{Y:Nat->Int}{L l l':List Int}{w:Nat}{RR:List (List Int)}{gv:List Gv}{goal:List Int}{t:AV}
theorem JK{fn:Fn}{x y t:AV}{G:List Gv}{A B C:Mw}(hx:rf x=true)(hy:rf y=true)(sx:∀st,dE st x=some x)(sy:∀st,dE st y=some y)(h:∀st,pm fn [x,.fz (G.map Gv.av),y] st=some (t,st)):∃c,pm fn [x,.ref 3,y] [A,B,C,.lst (G.map Gv.av)]=some (t,[A,B,C,c])/\∀D,bu [A,B,D,c] (.ref 3)=some (G.map Gv.av):=by
 have key:=h [];have rG:rfs (G.map Gv.av)=true:=AR _;have rr:rfs [x,.fz (G.map Gv.av),y]=true:=by simp[rfs,rf,hx,hy,rG]
 unfold pm at key ⊢;rw[yL rr]at key;obtain⟨⟨v,s'⟩,e1,e2⟩:=zA key;obtain⟨t',e3,e4⟩:=zH.mp e2;simp only[Prod.mk.injEq,and_true]at e4;subst e4;have m1:dE [A,B,C,.lst (G.map Gv.av)] (.ref 3)=some (.fz (G.map Gv.av)):=by
  have:bE (c4 5 [A,B,C,.lst (G.map Gv.av)]) (G.map Gv.av)=some (G.map Gv.av):=fN (f:=c4 5 _) (i:=Gv.av) (g:=Gv.av) (fun z=>rfl) G;show c4 6 _ (.ref 3)=_;unfold c4;simp only[List.getElem?_cons_succ,List.getElem?_cons_zero,this,map_some]
 have z1:io [A,B,C,.lst (G.map Gv.av)] (.ref 3)=some (.fz (G.map Gv.av),[A,B,C,.al (.fz (G.map Gv.av))]):=by simp[io,rf,rG]
 have z2:∀st,io st x=some (x,st):=fun st=>by unfold io;rw[yL hx]
 have z3:∀st,io st y=some (y,st):=fun st=>by unfold io;rw[yL hy]
 rw[yK (by simp[rfs,rf])];cases ft:flat t' with
 |true=>exact⟨.lst (G.map Gv.av),by simp only[bE,sx,sy,m1,bind_some,map_some,e1,e3,ft,↓reduceIte],fun D=>bv rfl⟩
 |false=>exact⟨.al (.fz (G.map Gv.av)),by simp only[bE,sx,sy,m1,bind_some,map_some,e1,e3,ft,kS,z1,z2,z3,yE,↓reduceIte],fun D=>rfl⟩
theorem Hy:b9 .Eq st (.fz (iL l)) (.fz (iL l'))=some (decide (l=l')):=by
 have hl:∀l:List Int,(PyData.list (l.map PyData.int)).canLay0=true:=fun l=>by
  simp only[PyData.canLay0]
  induction l with
  |nil=>rfl
  |cons x l ih=>simp only[zR,PyData.canLayAll0,PyData.canLay0,ih,Bool.and_self]
 have dp:(PyData.list (l.map PyData.int)).depth<=50:=by
  have:∀l:List Int,PyData.depthAll (l.map PyData.int)=0:=fun l=>by
   induction l with
   |nil=>rfl
   |cons x l ih=>simp only[zR,PyData.depthAll,PyData.depth,ih,Nat.max_self]
  simp only[PyData.depth,this];decide
 show kT st _ _=_;unfold kT;have py:∀l:List Int,cL 9 st (.fz (iL l))=some (.list (l.map PyData.int)):=fun l=>by show(bE (cL 8 st) _).map _=_;rw[E1];rfl
 rw[py,py,bind_some,bind_some,yL (by
  unfold DD.pyOk;rw[hl,hl,yZ (z9 (Nat.min_le_left _ _) dp)];rfl)]
 congr 1;simp only[PyData.eqv];clear dp py hl
 induction l generalizing l' with
 |nil=>cases l'<;>simp[PyData.eqvAll]
 |cons x l ih =>
  cases l' with
  |nil=>simp[PyData.eqvAll]
  |cons y l' =>
   have e:(x==y)=decide (x=y):=by by_cases h:x=y<;>simp[h]
   simp[PyData.eqvAll,PyData.eqv,ih,e]
theorem FF(hf:wF n ts):∃a b c,a<2^n/\b<2^n/\c<2^n/\∀Y,val (2^n-1) (dF n ts) Y=IH Y a b c:=by
 obtain⟨a,b,c,⟨ha,_⟩,⟨hb,_⟩,hc,rfl|rfl|rfl⟩:=hf
 ·refine⟨a,a,0,ha,ha,Nat.two_pow_pos n,fun Y=>?_⟩
  rw[jb (by simp only[zP];rintro t rfl;exact ha),gQ,Nat.or_zero];simp[HH]
 ·refine⟨a,a,c,ha,ha,hc,fun Y=>?_⟩
  have l1:=Nat.or_lt_two_pow ha hc;rw[jb (by simp only[zW,z5,or_false];rintro t (rfl|rfl)<;>assumption),gQ];simp only[zR,List.map_nil,List.sum_cons,List.sum_nil];lia
 ·exact⟨a,b,c,ha,hb,hc,fun Y=>vc ha hb hc⟩
def hz(g:Nat):Int:=(du g:Int)*(9-(du g:Int))
def zB(n:Nat):Bool:=(gA n).all fun r=>decide (0<=val (2^n-1) r fun q=>hz (q+1))
theorem Gf(hn:fE n):zB n=true:=by rcases hn with rfl|rfl|rfl|rfl<;>decide +kernel
def zC(a:Nat):Bool:=(List.range 16).all fun b=>(List.range 16).all fun c=>a ||| c==c||b ||| c==c||decide (0<hz (a ||| c)+hz (b ||| c)-hz (a ||| b ||| c)-hz c)
theorem Gc:(List.range 16).all zC=true:=by decide +kernel
theorem ux{g:Nat}:HH (fun q=>hz (q+1)) g=hz g:=by
 unfold HH;by_cases h:g=0
 ·subst h;rfl
 ·rw[yK h]
  show hz (g-1+1)=hz g;rw[show g-1+1=g by lia]
theorem yy(hn:fE n)(h:a<2^n):a<16:=zM h (by rcases hn with rfl|rfl|rfl|rfl<;>decide)
theorem FG(hn:fE n)(hf:wF n ts):(∀Y,(∀r∈gA n,0<=val (2^n-1) r Y)->0<=val (2^n-1) (dF n ts) Y)/\((∀Y,val (2^n-1) (dF n ts) Y=0)\/∃Y,(∀r∈gA n,0<=val (2^n-1) r Y)/\0<val (2^n-1) (dF n ts) Y):=by
 obtain⟨a,b,c,ha,hb,hc,ev⟩:=FF hf;refine⟨fun Y h=>by rw[ev];exact Ie hn h ha hb hc,?_⟩;have z:=yU.mp (yU.mp (yU.mp Gc a (List.mem_range.mpr (yy hn ha))) b (List.mem_range.mpr (yy hn hb))) c (List.mem_range.mpr (yy hn hc));simp only[Bool.or_eq_true,beq_iff_eq]at z;rcases z with(z|z)|z
 ·refine .inl fun Y=>?_
  rw[ev];unfold IH;rw[show a ||| b ||| c=b ||| (a ||| c) by ac_rfl,z];lia
 ·refine .inl fun Y=>?_
  rw[ev];unfold IH;rw[Nat.or_assoc,z];lia
 ·refine .inr ⟨fun q=>hz (q+1),fun r hr=>of_decide_eq_true (yU.mp (Gf hn) r hr),?_⟩
  rw[ev];unfold IH;rw[ux,ux,ux,ux];exact of_decide_eq_true z
theorem Co(hL:L.length=w)(h:∀Y,val w L Y=0):L=List.replicate w 0:=by
 refine List.ext_getElem? fun q=>?_
 by_cases hq:q<w
 ·have:MA w (fun x=>gI L x*if x=q then 1 else 0)=0:=h fun x=>if x=q then 1 else 0
  rw [SX.sum_one hq fun x _ e=>by rw [yK e];exact yS _,yL rfl,Int.mul_one] at this;unfold gI at this;rw [zF,zI (show q < L.length by lia)] at this;rw [zI (show q < L.length by lia)];simp only [Option.getD_some] at this;rw [this];simp [hq]
 ·rw[List.getElem?_eq_none oM,List.getElem?_eq_none (by simp;lia)]
theorem v8{K d:Int}(hd:0<d):aG [K*d,d]=[K,1]:=by
 have hg:gL [K*d,d]=d.natAbs:=by
  show Nat.gcd (Nat.gcd 0 (K*d).natAbs) d.natAbs=d.natAbs;rw[Nat.gcd_zero_left,xE,Nat.gcd_comm,Nat.gcd_mul_left_right]
 unfold aG;rw[yK (by rw[hg];lia),hg];have e:((d.natAbs:Nat):Int)=d:=by lia
 rw[e];simp only[zR,List.map_nil];rw[Int.mul_ediv_cancel _ oM,Int.ediv_self oM]
theorem Ic(A:jy w RR gv goal t)(K:Kp w RR gv Y 1):(∃x1 x2,t=.tup [.str "endless",x1,x2])\/∃p q x1 x2 x3,t=.tup [.str "least",.tup [.int p,.int q],x1,x2,x3]/\p<=val w goal Y*q/\q.natAbs<2^9000:=by
 rcases A with⟨⟨W,rfl⟩,h⟩|⟨T,d,x1,x2,x3,rfl,hd,⟨bT,bd,hr⟩,⟨X,fX,vX⟩,h⟩|⟨x1,x2,rfl,hr,⟨X,d,hd,fX⟩,Z,fZ,vZ⟩
 ·exact absurd K (h Y 1 dC)
 ·obtain⟨c,hc,e1,e2,hq⟩:=E4 (T:=T) hd
  have bq:=G0 e2 hc bd;refine .inr ⟨_,_,_,_,_,rfl,?_,bq⟩
  have:=h Y 1 dC K
  generalize gI (aG [T,d]) 0=p at *;generalize gI (aG [T,d]) 1=q at *;rw[e1,e2,Int.mul_one]at this;exact Int.le_of_mul_le_mul_right (a:=c) (by rw[show val w goal Y*q*c=val w goal Y*(q*c) by grind];exact this) hc
 ·exact .inl ⟨_,_,rfl⟩
theorem Ia(A:jy w RR gv goal t)(h:∀Y e,0<e->¬Kp w RR gv Y e):∃x,t=.tup [.str "never",x]:=by
 rcases A with⟨⟨W,rfl⟩,_⟩|⟨T,d,x1,x2,x3,rfl,hd,_,⟨X,fX,vX⟩,_⟩|⟨x1,x2,rfl,hr,⟨X,d,hd,fX⟩,_⟩
 ·exact⟨_,rfl⟩
 ·exact absurd fX (h _ _ hd)
 ·exact absurd fX (h _ _ hd)
theorem zc:Kp w RR [] (fun _=>0) 1:=⟨fun r _=>Int.le_of_eq (SX.sum_zero fun q _=>yS _).symm,fun z hz=>(nomatch hz),fun z hz=>(nomatch hz)⟩
theorem AU(A:jy w RR [] goal t)(h:∀Y,(∀r∈RR,0<=val w r Y)->0<=val w goal Y):∃x1 x2 x3,t=.tup [.str "least",.tup [.int 0,.int 1],x1,x2,x3]:=by
 rcases A with⟨⟨W,rfl⟩,hn⟩|⟨T,d,x1,x2,x3,rfl,hd,_,⟨X,fX,vX⟩,hm⟩|⟨x1,x2,rfl,hr,_,Z,fZ,vZ⟩
 ·exact absurd zc (hn _ 1 dC)
 ·have h1:=hm _ 1 dC zc
  have h2:=h X fX.rule;have h3:val w goal (fun _=>0)=0:=SX.sum_zero fun q _=>yS _
  rw[h3,yT,Int.mul_one]at h1;have:T=0*d:=by lia
  rw[this,v8 hd];exact⟨_,_,_,rfl⟩
 ·have:=h Z fZ.rule;lia
theorem Ib(A:jy w RR [] goal t)(hr:∀r∈RR,0<=val w r Y)(h:val w goal Y<0):∃x1 x2,t=.tup [.str "endless",x1,x2]:=by
 rcases A with⟨⟨W,rfl⟩,hn⟩|⟨T,d,x1,x2,x3,rfl,hd,_,hX,hm⟩|⟨x1,x2,rfl,hr,_⟩
 ·exact absurd zc (hn _ 1 dC)
 ·obtain⟨X,hX⟩:=hX
  have:=CU hd hX hm (Z:=Y) ⟨hr,fun z hz=>(nomatch hz),fun z hz=>(nomatch hz)⟩
  lia
 ·exact⟨_,_,rfl⟩
end
abbrev KL:List Fn:=[dN,ar,di,dU,dh,dM,aP,aK]
noncomputable def cW(l:List Int):List Int:=l.map fun x=>0-x
section
variable{ns:List Int}
theorem G9(hns:ns.length<=63):∃st,nk [.fz (iL ns)] []=some (.bl true,st):=by
 have key:∃r,nk [.fz (iL ns)] []=some r/\r.1=.bl true:=by
  obtain ⟨A,B,D0,e1,hD,hd⟩:=CI hns;have hd:okD D0:=hd;obtain ⟨D1,x,rfl⟩:=gD (D:=D0) (fun z=>by rw [z] at hD;simp at hD);obtain ⟨hx,hd1⟩:=hd.at;simp only [zY,List.length_singleton] at hD;have p:=jG (A:=A) (B:=B) (R:=[]) (D:=D1) (x:=x);have w1:=Int.emod_nonneg x (show (6:Int) ≠ 0 by decide);have w2:=Int.emod_lt_of_pos x (show (0:Int) < 6 by decide);obtain ⟨v,hv,xv⟩:=pj (st:=[A,B,.lst (iL D1)]) (l:=[.int 1,.int 2,.int 3,.int 3,.int 3,.int 4]) w1 w2;obtain ⟨n,rfl,hn⟩:∃ n:Nat,v=.int (n:Int)/\fE n:=by
   unfold fE;simp only[zW,z5,or_false]at hv;rcases hv with rfl|rfl|rfl|rfl|rfl|rfl
   ·exact⟨1,rfl,by decide⟩
   ·exact⟨2,rfl,by decide⟩
   ·exact⟨3,rfl,by decide⟩
   ·exact⟨3,rfl,by decide⟩
   ·exact⟨3,rfl,by decide⟩
   ·exact⟨4,rfl,by decide⟩
  have hN:2^n-1<=15:=by rcases hn with rfl|rfl|rfl|rfl<;>decide
  have M1:10000000000000000000000000000000010<=M0:=by unfold M0;decide
  obtain⟨D2,T,e2,hT,hd2,hl2⟩:=Bu (A:=A) (B:=B) (R:=[]) (D:=D1) hn oM hd1;have bT:∀x∈T,x.natAbs<2^34:=fun x hx=>yP (m:=10000000000) (by have:=hT.bd x hx;lia) dC
  have b74:∀{r:List Int},sR r->∀x∈r,x.natAbs<2^74:=fun h x hx=>yP (h x hx) dC
  obtain⟨VV,hVV⟩:∃VV:List Int->Int,VV=fun r=>val (2^n-1) r (gI T):=⟨_,rfl⟩
  have vv:∀r:List Int,r.length=2^n-1->sR r->∀st,pm dh [.fz (iL r),.fz (iL T)] st=some (.int (VV r),st):=fun r hr hb st=>by
   have:=G6 (st:=st) (r:=r) (T:=T) oM (by rw[hT.len];exact hr.symm) (fun x hx=>FW (b74 hb x hx) dC) (fun x hx=>FW (bT x hx) dC)
   rw[hr]at this;rw[hVV];exact this
  have vb:∀r:List Int,r.length=2^n-1->sR r->(VV r).natAbs<2^112:=fun r hr hb=>by rw[hVV];exact CW hr hT.len hN (b74 hb) bT
  obtain⟨D3,y,rfl⟩:=gD (D:=D2) (fun z=>by rw[z]at hl2;simp at hl2;lia);obtain⟨hy,hd3⟩:=hd2.at;simp only[zY,List.length_singleton]at hl2;have p3:=jG (A:=A) (B:=B) (R:=[.lst (([]:List Gv).map Gv.av)]) (D:=D3) (x:=y);obtain⟨c,hc,ec⟩:∃c:Nat,c<=5/\y%6=(c:Int):=by
   have h1:=Int.emod_nonneg y (show (6:Int) ≠ 0 by decide);have h2:=Int.emod_lt_of_pos y (show (0:Int) < 6 by decide);exact ⟨(y % 6).toNat,by lia,by lia⟩
  rw [nk,aF];show ∃ r,(aj KL pi [Ls ns,none,none,none,none,none,none,none,none,none,none,none,none] []).bind ay=some r/\_;unfold pi;refine ai (sl':=[Ls ns,Rs 2,none,none,none,none,none,none,none,none,none,none,none]) (st':=[A,B,.lst (iL (D1++[x]))]) (by simp [e1,dW]) ?_;refine ai (sl':=[Ls ns,Rs 2,Is n,none,none,none,none,none,none,none,none,none,none]) (st':=[A,B,.lst (iL D1)]) (by simp [p,dW,eA (show (0:Int) < 6 by decide),xv,b8,rfs,rf]) ?_;refine ai (sl':=[Ls ns,Rs 2,Is n,Ls T,none,none,none,none,none,none,none,none,none]) (st':=[A,B,.lst (iL (D3++[y]))]) (by simp [e2,dW]) ?_;refine ai (sl':=[Ls ns,Rs 2,Is n,Ls T,Rs 3,none,none,none,none,none,none,none,none]) (st':=[A,B,.lst (iL (D3++[y])),.lst (([]:List Gv).map Gv.av)]) rfl ?_;have it:dk KL (.r1 (.bin .Mod (.ca false 1 (.cons (.v 1) .nil)) (.i 6))) [Ls ns,Rs 2,Is n,Ls T,Rs 3,none,none,none,none,none,none,none,none] [A,B,.lst (iL (D3++[y])),.lst (([]:List Gv).map Gv.av)]=some (⟨(List.range c).map fun q:Nat=>AV.int (q:Int),[]⟩,[A,B,.lst (iL D3),.lst (([]:List Gv).map Gv.av)]):=by
   have e:ev KL (.bin .Mod (.ca false 1 (.cons (.v 1) .nil)) (.i 6)) [Ls ns,Rs 2,Is n,Ls T,Rs 3,none,none,none,none,none,none,none,none] [A,B,.lst (iL (D3++[y])),.lst (([]:List Gv).map Gv.av)]=some (.int (c:Int),[A,B,.lst (iL D3),.lst (([]:List Gv).map Gv.av)]):=by
    generalize ([]:List Gv).map Gv.av=GG at *;simp [p3,eA (show (0:Int) < 6 by decide),ec,dW]
   show(ev _ _ _ _).bind _=_;rw[e];exact j9 (ks:=[]) (a:=.i c) (sl:=[]) rfl oM
  refine l7 (em:=fun q:Nat=>.int (q:Int)) (xs:=List.range c) (gd:=[]) (st0:=[A,B,.lst (iL D3),.lst (([]:List Gv).map Gv.av)]) (fun i sl s=>∃(D':List Int)(G:List Gv)(x5 x6 x7 x8:Option AV),s=[A,B,.lst (iL D'),.lst (G.map Gv.av)]/\sl=[Ls ns,Rs 2,Is n,Ls T,Rs 3,x5,x6,x7,x8,none,none,none,none]/\D3.length<=D'.length+18*i/\okD D'/\G.length=i/\∀z∈G,(z.row.length=2^n-1/\sR z.row/\z.num.natAbs<=M0)/\z.num<=VV z.row/\(z.eq=true->VV z.row=z.num)) it (fun _ _ _ _=>rfl) ⟨D3,[],_,_,_,_,rfl,rfl,by lia,hd3,rfl,fun z hz=>(nomatch hz)⟩ ?_ ?_
  ·rintro i q sl s hq ⟨D',G,x5,x6,x7,x8,rfl,rfl,hl,hd',hG,hz⟩
   have hi:i<c:=by have:=(zD.mp hq).1;simpa using this
   obtain ⟨D4,r,e4,hr,hrb,hd4,hl4⟩:=Aq (A:=A) (B:=B) (R:=[.lst (G.map Gv.av)]) (D:=D') hn oM hd';obtain ⟨D5,z,rfl⟩:=gD (D:=D4) (fun z=>by rw [z] at hl4;simp at hl4;lia);obtain ⟨hz0,hd5⟩:=hd4.at;simp only [zY,List.length_singleton] at hl4;have p5:=jG (A:=A) (B:=B) (R:=[.lst (G.map Gv.av)]) (D:=D5) (x:=z);obtain ⟨S,hS⟩:∃ S,S=[A,B,Mw.lst (iL D5),.lst (G.map Gv.av)]:=⟨_,rfl⟩;have xr:=vv r hr hrb S;have vbr:=vb r hr hrb;have q1:=Int.emod_nonneg (z / 2) (show (3:Int) ≠ 0 by decide);have q2:=Int.emod_lt_of_pos (z / 2) (show (0:Int) < 3 by decide);have f2:bG .FloorDiv S (.int z) (.int 2)=some (.int (z / 2)):=mO rfl dC;have m3:bG .Mod S (.int (z / 2)) (.int 3)=some (.int (z / 2 % 3)):=eA dC;have m2:bG .Mod S (.int z) (.int 2)=some (.int (z % 2)):=eA dC;have mm:bG .Mult S (.int (z / 2 % 3)) (.int (z % 2))=some (.int (z / 2 % 3 * (z % 2))):=bI (jh (xz oM));obtain ⟨sg,ls,es,els,hls,hsg⟩:∃ (sg:Bool) (ls:Int),bN S (.fz [.str "=",.str ">"]) (.int (z % 2))=some (.str (if sg=true then "=" else ">"))/\z / 2 % 3 * (z % 2)=ls/\(0 <= ls/\ls <= 2)/\(sg=true->ls=0):=by
    rcases Int.emod_two_eq z with h|h<;>rw[h]
    ·exact⟨true,0,rfl,by lia,by lia,fun _=>rfl⟩
    ·exact⟨false,z/2%3,rfl,by lia,by lia,fun h=>(nomatch h)⟩
   rw[els]at mm;have nb:(VV r-ls).natAbs<=M0:=by
    have:(2:Nat)^112<=10000000000000000000000000000000000:=by decide
    lia
   refine⟨_,[Ls ns,Rs 2,Is n,Ls T,Rs 3,Is (q:Int),Ls r,Is z,Is ls,none,none,none,none],[A,B,.lst (iL D5),.lst ((G++[(⟨r,sg,VV r-ls⟩:Gv)]).map Gv.av)],rfl,?_,D5,_,_,_,_,_,rfl,rfl,by lia,hd5,by simp[hG],fun y hy=>?_⟩
   ·refine au (sl':=[Ls ns,Rs 2,Is n,Ls T,Rs 3,Is (q:Int),Ls r,x7,x8,none,none,none,none]) (st':=[A,B,.lst (iL (D5++[z])),.lst (G.map Gv.av)]) (by simp[e4,dW]) ?_
    refine au (sl':=[Ls ns,Rs 2,Is n,Ls T,Rs 3,Is (q:Int),Ls r,Is z,x8,none,none,none,none]) (st':=S) (by simp[p5,dW,hS]) ?_;refine au (sl':=[Ls ns,Rs 2,Is n,Ls T,Rs 3,Is (q:Int),Ls r,Is z,Is ls,none,none,none,none]) (st':=S) (by simp[f2,m3,m2,mm]) ?_;have ap:=H0 (ks:=KL) (a:=.v 4) (e:=.tu (.cons (.v 6) (.cons (.ix (.nw false (.li (.cons (.s "=") (.cons (.s ">") .nil)))) (.bin .Mod (.v 7) (.i 2))) (.cons (.bin .Sub (.ca true 4 (.cons (.v 6) (.cons (.v 3) .nil))) (.v 8)) .nil)))) (y:=(⟨r,sg,VV r-ls⟩:Gv).av) (k:=3) (xs:=G.map Gv.av) (sl:=[Ls ns,Rs 2,Is n,Ls T,Rs 3,Is (q:Int),Ls r,Is z,Is ls,none,none,none,none]) (st:=S) rfl (by simp[m2,es,xr,b8,rfs,rf,Gv.av]) (by rw[hS];rfl) (by simp;lia);refine au ap ?_;rw[hS];show some _=some _;simp
   ·rcases z7.mp hy with h|h
    ·exact hz y h
    ·rw[zP.mp h];exact⟨⟨hr,hrb,nb⟩,by dsimp only;lia,fun h=>by have:=hsg h;dsimp only;lia⟩
  rintro sl s ⟨D',G,x5,x6,x7,x8,rfl,rfl,hl,hd',hG,hz⟩;rw[List.length_range]at hl hG;obtain⟨D4,goal,e4,hg,hgb,hd4,hl4⟩:=Aq (A:=A) (B:=B) (R:=[.lst (G.map Gv.av)]) (D:=D') hn oM hd';have bg:∀x∈goal,x.natAbs<=M0:=fun x hx=>z9 (hgb x hx) (z9 dC M1)
  have bz:∀z∈G,z.row.length=2^n-1/\(∀x∈z.row,x.natAbs<=M0)/\z.num.natAbs<=M0:=fun z h=>⟨(hz z h).1.1,fun x hx=>z9 ((hz z h).1.2.1 x hx) (z9 dC M1),(hz z h).1.2.2⟩
  have KT:Kp (2^n-1) (gA n) G (gI T) 1:=by
   rw[hVV]at hz;exact⟨hT.ru,fun z h he=>by rw[Int.mul_one];exact(hz z h).2.2 he,fun z h _=>by rw[Int.mul_one];exact(hz z h).2.1⟩
  obtain⟨t1,a1,A1⟩:=mZ (At (goal:=goal) hn oM bz ⟨hg,bg⟩);have A1:=Ic A1 KT;have vg:=vv goal hg hgb;have vbg:=vb goal hg hgb;have eVg:VV goal=val (2^n-1) goal (gI T):=by rw[hVV]
  rw [<- eVg] at A1;obtain ⟨C,a1,lC⟩:=JK (A:=A) (B:=B) (C:=.lst (iL D4)) (G:=G) rfl (show rf (.fz (iL goal))=true by simp [rf]) (fun _=>rfl) (fun _=>rfl) a1;obtain ⟨D5,ts,e5,ht,hd5,hl5,hf⟩:=rJ (A:=A) (B:=B) (R:=[C]) (D:=D4) hn oM hd4;obtain ⟨nn0,tw⟩:=FG hn hf;have er:=fun st=>rQ (st:=st) hn fun t h=>(ht.2 t h).1
  have lP:(dF n ts).length=2^n-1:=pL;have bP:∀x∈dF n ts,x.natAbs<=4:=rV (fun t h=>by rcases(ht.2 t h).2 with h|h<;>rw[h]<;>decide) ht.1;generalize hP:dF n ts=P at *;have M4:4<=M0:=by lia
  have vO:∀Y,val (2^n-1) (cW P) Y=- val (2^n-1) P Y:=fun Y=>by
   have:cW P=P.map fun x=>- x:=by unfold cW;simp
   rw[this];exact nA
  have lO:(cW P).length=2^n-1:=by simp[cW,lP]
  have bO:∀x∈cW P,x.natAbs<=4:=fun x hx=>by
   obtain⟨y,hy,rfl⟩:=yG.mp hx
   have:=bP y hy
   lia
  obtain⟨t2,a2,A2⟩:=mZ (At (gv:=G++[⟨cW P,false,1⟩]) (goal:=goal) hn (by simp;lia) (fun y h=>by
   rcases z7.mp h with h|h
   ·exact bz y h
   ·rw[zP.mp h];exact⟨lO,fun x hx=>z9 (bO x hx) M4,by show 1<=M0;lia⟩) ⟨hg,bg⟩)
  obtain⟨y2,rfl⟩:=Ia A2 fun Y e he K=>by
   have h1:=K.ge ⟨cW P,false,1⟩ (by simp) rfl;have h2:=nn0 Y K.rule;dsimp only at h1;rw[vO]at h1;lia
  obtain⟨t3,a3,A3⟩:=mZ (At (gv:=[]) (goal:=P) hn (by simp) (fun y h=>(nomatch h)) ⟨lP,fun x hx=>z9 (bP x hx) M4⟩);obtain⟨z1,z2,z3,rfl⟩:=AU A3 nn0;obtain⟨t4,a4,A4⟩:=mZ (At (gv:=[]) (goal:=cW P) hn (by simp) (fun y h=>(nomatch h)) ⟨lO,fun x hx=>z9 (bO x hx) M4⟩);have A4:(cW P=P/\∃s,t4=.tup s/\∀S,bN S (.tup s) (.int 0)=some (.str "least"))\/(¬cW P=P/\∃s,t4=.tup s/\∀S,bN S (.tup s) (.int 0)=some (.str "endless")):=by
   rcases tw with h|⟨Y,hr,hY⟩
   ·have e0:P=List.replicate (2^n-1) 0:=Co lP h
    have:cW P=P:=by rw[e0];simp[cW]
    obtain⟨x1,x2,x3,e⟩:=AU A4 fun Y _=>by rw[vO,h];decide
    exact .inl ⟨this,_,e,fun _=>rfl⟩
   ·have:¬cW P=P:=fun e=>by have:=vO Y;rw[e]at this;lia
    obtain⟨x1,x2,e⟩:=Ib A4 hr (by rw[vO];lia);exact .inr ⟨this,_,e,fun _=>rfl⟩
  obtain⟨S,hS⟩:∃S,S=[A,B,.lst (iL D5),C]:=⟨_,rfl⟩;have lS:bu S (.ref 3)=some (G.map Gv.av):=by rw[hS];exact lC _
  have eG:(G++[(⟨cW P,false,1⟩:Gv)]).map Gv.av=G.map Gv.av++[.tup [.fz (iL (cW P)),.str ">",.int 1]]:=by simp[Gv.av]
  have rG2:rfs (G.map Gv.av++[.tup [.fz (iL (cW P)),.str ">",.int 1]])=true:=by rw[<- eG];exact AR _
  have zG:b8 ((G.map Gv.av).length+1)=true:=bL (by simp;lia);have a2:=a2 S;rw[eG]at a2;have a3:pm dM [.int n,.fz [],.fz (iL P)] S=_:=a3 S;have a4:pm dM [.int n,.fz [],.fz (iL (cW P))] S=_:=a4 S;have er:=er S;rw[<- hS]at e5;generalize hGA:G.map Gv.av=GA at *;refine ai (sl':=[Ls ns,Rs 2,Is n,Ls T,Rs 3,x5,x6,x7,x8,Ls goal,none,none,none]) (st':=[A,B,.lst (iL D4),.lst GA]) (by simp[e4,dW]) ?_;refine ai (sl':=[Ls ns,Rs 2,Is n,Ls T,Rs 3,x5,x6,x7,x8,Ls goal,some t1,none,none]) (st':=[A,B,.lst (iL D4),C]) (by simp[a1]) ?_;have vg:=vg [A,B,.lst (iL D4),C];have c1:tv KL (.or (.cmp .Eq (.ix (.v 10) (.i 0)) (.s "never")) (.an (.cmp .Eq (.ix (.v 10) (.i 0)) (.s "least")) (.cmp .Gt (.ix (.ix (.v 10) (.i 1)) (.i 0)) (.bin .Mult (.ca true 4 (.cons (.v 9) (.cons (.v 3) .nil))) (.ix (.ix (.v 10) (.i 1)) (.i 1)))))) [Ls ns,Rs 2,Is n,Ls T,Rs 3,x5,x6,x7,x8,Ls goal,some t1,none,none] [A,B,.lst (iL D4),C]=some (false,[A,B,.lst (iL D4),C]):=by
   generalize [A,B,Mw.lst (iL D4),C]=S at *;have q1:b9 .Eq S (.str "endless") (.str "never")=some false:=by kernel_rfl
   have q2:b9 .Eq S (.str "endless") (.str "least")=some false:=by kernel_rfl
   have q3:b9 .Eq S (.str "least") (.str "never")=some false:=by kernel_rfl
   have q4:b9 .Eq S (.str "least") (.str "least")=some true:=by kernel_rfl
   rcases A1 with⟨u1,u2,rfl⟩|⟨pp,qq,u1,u2,u3,rfl,hle,bq⟩
   ·have i0:bN S (.tup [.str "endless",u1,u2]) (.int 0)=some (.str "endless"):=rfl
    simp[i0,q1,q2]
   ·have i0:bN S (.tup [.str "least",.tup [.int pp,.int qq],u1,u2,u3]) (.int 0)=some (.str "least"):=rfl
    have i1:bN S (.tup [.str "least",.tup [.int pp,.int qq],u1,u2,u3]) (.int 1)=some (.tup [.int pp,.int qq]):=rfl;have j0:bN S (.tup [.int pp,.int qq]) (.int 0)=some (.int pp):=rfl;have j1:bN S (.tup [.int pp,.int qq]) (.int 1)=some (.int qq):=rfl;have mm:bG .Mult S (.int (VV goal)) (.int qq)=some (.int (VV goal*qq)):=bI (dy (FW vbg dC) bq);have hle:¬VV goal*qq<pp:=by lia
    simp[i0,i1,j0,j1,q3,q4,vg,mm,hle]
  refine ai (sl':=[Ls ns,Rs 2,Is n,Ls T,Rs 3,x5,x6,x7,x8,Ls goal,some t1,none,none]) (st':=[A,B,.lst (iL D4),C]) (by rw[j8,c1];rfl) ?_;refine ai (sl':=[Ls ns,Rs 2,Is n,Ls T,Rs 3,x5,x6,x7,x8,Ls goal,some t1,Ls P,none]) (st':=S) (by simp[e5,er,dW]) ?_;have eo:ev KL (.nw false (.lc 1 (.e (.v 11)) (.nm 13) .no (.bin .Sub (.i 0) (.v 13)))) [Ls ns,Rs 2,Is n,Ls T,Rs 3,x5,x6,x7,x8,Ls goal,some t1,Ls P,none] S=some (.fz (iL (cW P)),S):=by
   have e:=ul (st:=S) (ks:=KL) (k:=1) (it:=.e (.v 11)) (t:=.nm 13) (c:=.no) (e:=.bin .Sub (.i 0) (.v 13)) (sl:=[Ls ns,Rs 2,Is n,Ls T,Rs 3,x5,x6,x7,x8,Ls goal,some t1,Ls P,none]) (gd:=[]) (em:=AV.int) (xs:=P) (B:=fun _=>true) (F:=fun x=>AV.int (0-x)) rfl rfl oM fun x hx=>⟨[Ls ns,Rs 2,Is n,Ls T,Rs 3,x5,x6,x7,x8,Ls goal,some t1,Ls P,none]++[Is x],rfl,rfl,fun _=>rfl⟩
   rw[List.filter_eq_self.mpr (fun _ _=>rfl),show P.map (fun x=>AV.int (0-x))=iL (cW P) by unfold iL cW;rw[List.map_map];rfl]at e;rw[je,e,bind_some,yL ig]
  refine ai (sl':=[Ls ns,Rs 2,Is n,Ls T,Rs 3,x5,x6,x7,x8,Ls goal,some t1,Ls P,Ls (cW P)]) (st':=S) (by rw[fg,eo];rfl) ?_;have eqO:=Hy (st:=S) (l:=cW P) (l':=P);have q5:b9 .NotEq S (.str "never") (.str "never")=some false:=by kernel_rfl
  have i5:bN S (.tup [.str "never",y2]) (.int 0)=some (.str "never"):=rfl;generalize AV.tup [.str "never",y2]=t2 at *;refine ai (sl':=[Ls ns,Rs 2,Is n,Ls T,Rs 3,x5,x6,x7,x8,Ls goal,some t1,Ls P,Ls (cW P)]) (st':=S) (by simp[pY,lS,zG,show b8 1=true from rfl,rfs,rf,rG2,a2,i5,q5]) ?_;have q6:b9 .NotEq S (.tup [.str "least",.tup [.int 0,.int 1]]) (.tup [.str "least",.tup [.int 0,.int 1]])=some false:=by kernel_rfl
  have e3:ev KL (.slt (.ca true 5 (.cons (.v 2) (.cons (.nw false (.li .nil)) (.cons (.v 11) .nil)))) .no (.so (.i 2))) [Ls ns,Rs 2,Is n,Ls T,Rs 3,x5,x6,x7,x8,Ls goal,some t1,Ls P,Ls (cW P)] S=some (.tup [.str "least",.tup [.int 0,.int 1]],S):=by
   rw[Gh];have:ev KL (.ca true 5 (.cons (.v 2) (.cons (.nw false (.li .nil)) (.cons (.v 11) .nil)))) [Ls ns,Rs 2,Is n,Ls T,Rs 3,x5,x6,x7,x8,Ls goal,some t1,Ls P,Ls (cW P)] S=some (.tup [.str "least",.tup [.int 0,.int 1],z1,z2,z3],S):=by simp[b8,rfs,rf,a3]
   unfold uW;rw[this,bind_some];rfl
  have c3:tv KL (.cmp .NotEq (.slt (.ca true 5 (.cons (.v 2) (.cons (.nw false (.li .nil)) (.cons (.v 11) .nil)))) .no (.so (.i 2))) (.tu (.cons (.s "least") (.cons (.tu (.cons (.i 0) (.cons (.i 1) .nil))) .nil)))) [Ls ns,Rs 2,Is n,Ls T,Rs 3,x5,x6,x7,x8,Ls goal,some t1,Ls P,Ls (cW P)] S=some (false,S):=by
   generalize hq:Ex.slt (.ca true 5 (.cons (.v 2) (.cons (.nw false (.li .nil)) (.cons (.v 11) .nil)))) .no (.so (.i 2))=qx at *;simp[e3,b8,q6]
  refine ai (sl':=[Ls ns,Rs 2,Is n,Ls T,Rs 3,x5,x6,x7,x8,Ls goal,some t1,Ls P,Ls (cW P)]) (st':=S) (by rw[j8,c3];rfl) ?_;refine fJ (v:=.bl true) (st':=S) ?_ rfl;have k0:bN S (.fz [.str "endless",.str "least"]) (.int 0)=some (.str "endless"):=rfl;have k1:bN S (.fz [.str "endless",.str "least"]) (.int 1)=some (.str "least"):=rfl;have q7:b9 .Eq S (.str "endless") (.str "endless")=some true:=by kernel_rfl
  have q8:b9 .Eq S (.str "least") (.str "least")=some true:=by kernel_rfl
  rcases A4 with⟨h,tl,rfl,i4⟩|⟨h,tl,rfl,i4⟩
  ·rw[yZ h]at eqO
   have i4:=i4 S;generalize AV.tup tl=t4 at *;simp[b8,rfs,rf,a4,i4,eqO,bW,lI,k1,q8]
  ·rw[yD h]at eqO
   have i4:=i4 S;generalize AV.tup tl=t4 at *;simp[b8,rfs,rf,a4,i4,eqO,bW,lI,k0,q7]
 obtain⟨⟨v,s⟩,e,h⟩:=key;have h:v=.bl true:=h;subst h;exact⟨s,e⟩
theorem JD:Room e_law.d callerA:=⟨rfl,by decide,by decide,rfl⟩
theorem Bt:∀t∈(My.tb:List (Addr×Pos×Str)),t.1∈([(114,112)]:List (Addr×Addr)).map (·.2):=by
 intro t ht;have:t=(112,⟨79,30,79,63⟩,("Sheet.raising_column":Str)++".<locals>."++"<lambda>"):=zP.mp ht;rw[this];exact zP.mpr rfl
theorem holds:∀ns:List Int,ns.length<=63->∃st,IQ [.fz (ns.map .int)] []=some (.bl true,st):=fun _ h=>G9 h
end
end LW
namespace PySem.W.Fast
def tw4294324025042216520:=()
def tw623120789742688325:=()
def tw4349330952557047744:=()
def tw3252601014161801432:=()
def tw12757350945220983595:=()
def tw6962690758119332925:=()
def tw14508681391305764379:=()
def tw16578914792932019700:=()
def tw14520849425616932231:=()
def tw5458476932211875891:=()
def tw13683066195305929865:=()
def tw2369792311754887540:=()
def tw9843431675545810614:=()
def tw16284722215060493316:=()
def tw9291896758332502235:=()
def tw12010651068322384820:=()
def tw12203612401202463315:=()
def tw4606157771827621168:=()
def tw2855594971238460663:=()
def tw11844218272928464521:=()
def tw11587202663767898935:=()
def tw6400287516072761605:=()
def tw14268006060200392937:=()
def tw11779001404053752736:=()
def tw18158528489453211579:=()
def tw11954219742764482677:=()
def tw18200180616044405214:=()
def tw1910480149949707404:=()
def tw14079849068024834514:=()
def tw12720970610600802464:=()
def tw11529928133555359274:=()
def tw12760285393710712797:=()
def tw12690693730792251813:=()
def tw17039514412114044714:=()
def tw17315559954262345538:=()
def tw966397256046581174:=()
def tw16333053643468635912:=()
def tw6691392472963376106:=()
def tw7926147252454596046:=()
def tw11608862263488407902:=()
def tw14687116464892068230:=()
def tw13152642398232020655:=()
def tw10900101532064284898:=()
def tw8880058992548650267:=()
def tw15592809916925858752:=()
def tw16258574067440094400:=()
def tw8982187577121649767:=()
def tw17506109399290880805:=()
def tw7164582972559895413:=()
def tw11792500896453722398:=()
def tw10883399040081274436:=()
def tw2638425546000174123:=()
def tw15664709034482659236:=()
def tw11957552499888901855:=()
def tw10978801546055965055:=()
def tw1095683615649844617:=()
def tw12398920345020826057:=()
def tw14597080635123208217:=()
def tw12097392271467256432:=()
def tw10282663934771603391:=()
def tw4818365943556616627:=()
def tw16548855753313564266:=()
def tw6734961318994503443:=()
def tw6293180857161750993:=()
def tw14888839609005144281:=()
def tw12238113972879213738:=()
def tw16660685603027720324:=()
def tw8303624859283090116:=()
def tw15074860937447926193:=()
def tw5202247854412932124:=()
def tw18339629078638336477:=()
def tw15069661576108729087:=()
def tw9014787065888698136:=()
def tw8742165715819793198:=()
def tw5479726981129248297:=()
def tw10199965392790521211:=()
def tw4449181657451295005:=()
def tw6598482616866608468:=()
def tw17274808103402795414:=()
def tw2983677076388094139:=()
def tw12307574037694689:=()
def tw12100805357929459888:=()
def tw12339818345305106417:=()
def tw12918768701054350277:=()
def tw1038257293012181961:=()
def tw2622271054299972000:=()
def tw8204004325835344087:=()
def tw7050695299331909250:=()
def tw881628114627960542:=()
def tw12826564427471412099:=()
def tw18306425432857563088:=()
def tw13442011878326527565:=()
def tw3766662062111679673:=()
def tw9839813097029401018:=()
def tw5775711481752424057:=()
def tw14032177591979967006:=()
def tw5780933583123394310:=()
def tw6778081501679628736:=()
def tw16956954874283169833:=()
def tw16039733273882525904:=()
def tw7386225519091162235:=()
def tw16955990727361089571:=()
def tw15687960663000438964:=()
def tw6795113406018325508:=()
def tw2461418320108251210:=()
def tw9401816491321961360:=()
def tw16715822961571545350:=()
def tw403305556476452919:=()
def tw16496004771971603710:=()
def tw11295379995186761618:=()
def tw14004085376591340473:=()
def tw9516958532081889434:=()
def tw15273414191518435129:=()
def tw18419115073981818037:=()
def tw10073478184143848880:=()
def tw631738614221859185:=()
def tw1018883198337595845:=()
def tw9498711000317305218:=()
def tw11905045469268322011:=()
def tw15524876312486807024:=()
def tw11251308175637866226:=()
def tw15753260251081429408:=()
def tw1868351701623061164:=()
def tw9337699274845098172:=()
def tw15125375781930635722:=()
def tw1162835268294917221:=()
def tw3411852152591131136:=()
def tw8603775322180567631:=()
def tw8790267306774530662:=()
def tw13770343806476403767:=()
def tw16730886285903744677:=()
def tw6184365468365034039:=()
def tw16085168301051163184:=()
def tw4023621201817097547:=()
def tw13076211308961214992:=()
def tw17552895885286359421:=()
def tw5430945919961057057:=()
def tw8638717385970449398:=()
def tw18228499185805249628:=()
def tw15190848689416571125:=()
def tw14989120802579984366:=()
def tw14808006959895754110:=()
def tw11538455388021611111:=()
def tw603406408740031506:=()
def tw6945324682279283272:=()
def tw3570630282558087800:=()
def tw6404470194068864296:=()
def tw12101641060718451555:=()
def tw7914381084875282817:=()
def tw3607267814860371901:=()
def tw8434409209913261987:=()
def tw1801897675688442375:=()
def tw15270624074726116945:=()
def tw13714119285961432121:=()
def tw9861222357805993870:=()
def tw18382472888384163234:=()
def tw17276246310676557582:=()
def tw14961028769375704644:=()
def tw10150497069770068061:=()
def tw17707633562604949707:=()
def tw1728210849387507843:=()
def tw15331871370039930819:=()
def tw1399087642757637391:=()
def tw5257280795657567441:=()
def tw13801741418678771025:=()
def tw2617711486052954797:=()
def tw3742339179571771410:=()
def tw8963877547729129948:=()
def tw7678050341777663172:=()
def tw7030856336691415261:=()
def tw6480966656194210992:=()
def tw5599290740090051587:=()
def tw5294064479373138129:=()
def tw2261335614037490736:=()
def tw16780817366274058342:=()
def tw14328560283798103726:=()
def tw10395341514975105160:=()
def tw17804064129351792441:=()
def tw9708294467233268072:=()
def tw349426753239658579:=()
def tw15923326854559051138:=()
def tw13659857357274804718:=()
def tw11563903822559922884:=()
def tw1424303971419626525:=()
def tw3191110781381813065:=()
def tw9707119914989655361:=()
def tw8293860507748704977:=()
def tw7450109052795616316:=()
def tw4451081270158605698:=()
def tw17305082337078348600:=()
def tw7254082647920075453:=()
def tw13699899183277054686:=()
def tw1765846486129500038:=()
def tw17297390169050224935:=()
def tw9295994551091039649:=()
def tw9150257778802406495:=()
def tw9033029241711258312:=()
def tw8978613382104236773:=()
def tw5834537266303968302:=()
def tw5752810841351887942:=()
def tw57341899083869672:=()
def tw5637695193462811844:=()
def tw464768802916371657:=()
def tw4388916094995118686:=()
def tw3583734686647754919:=()
def tw17681135666637773333:=()
def tw17601716564630680177:=()
def tw17565274537466772499:=()
def tw16833574464884704959:=()
def tw16667700985563294509:=()
def tw16285287580536716997:=()
def tw15636387191055750401:=()
def tw15315645068276063237:=()
def tw14583538554445459416:=()
def tw13460277074329467955:=()
def tw1154434318456376974:=()
def tw11038905362585499196:=()
def tw2592416163664885426:=()
def tw5356956318746455209:=()
def tw6016380392175668427:=()
def tw8263535383821755823:=()
def tw4077363797288240159:=()
def tw2758657074374981074:=()
def tw16857748375581958725:=()
def tw18063934793058730546:=()
def tw12197420156457792932:=()
def tw17060685172005468441:=()
def tw11316645373955925918:=()
def tw4744547096919507469:=()
def tw9737293918022224175:=()
def tw9347724007197229022:=()
def tw8670755010228909269:=()
def tw6782905129336378212:=()
def tw6271573587187209955:=()
def tw6230293773171668971:=()
def tw5964262312866069926:=()
def tw5939227270015747730:=()
def tw5913554913722604976:=()
def tw5280504556406052594:=()
def tw4302911341455068923:=()
def tw3235339909475774975:=()
def tw2480122502215619587:=()
def tw2259078027064354917:=()
def tw18108122031998282515:=()
def tw17979952217577661604:=()
def tw16630847151474360831:=()
def tw15470138016356949876:=()
def tw15161626553772849754:=()
def tw14196980194289045687:=()
def tw12362346394064388431:=()
end PySem.W.Fast
open PySem PySem.W PyProof.Rows
set_option maxRecDepth 100000 in
set_option maxHeartbeats 0 in
theorem PySem.Challenge.cw_telltight_k08_whole_kinds_of_answers_holds : PySem.Challenge.rw_telltight_k08_whole_kinds_of_answers.Holds := by
 w_on; o_law; k_head; (case hw => w_witness2)
 k_fill
 refine R.walk_R (l := PySem.Challenge.rw_telltight_k08_whole_kinds_of_answers) (k := LW.e_law.d) (fn := LW.IQ) (tabs := [(114, 112)]) rfl rfl ?hrr (fun w h Y => ⟨km_in_of Y, fun q hq => km_tabs_of Y q.2 (by simp only [zP] at hq ⊢; rw [hq])⟩) ?hcc ?hKK ?htt LW.holds ?F
 case hrr => exact LW.JD
 case hcc => intro w q hq; simp only [zP] at hq; rw [hq]; kernel_rfl
 case hKK => intro w; kernel_rfl
 case htt => intro t ht; exact LW.Bt t ht
 case F =>
  intro w mg fa h KX G hmg;refine R.law_F (gs := LW.gs) (cl := LW.cl) (pre := LW.pre) (e := LW.e_law) KX G hmg ?nb ?gs ?cl LW.CM LW.CN rfl ?fs ?law rfl LW.Ha
  case nb => kernel_rfl
  case gs => intro p hp; simp only [LW.gs, zW, z5, or_false] at hp
  case cl => intro p hp; simp only [LW.cl, zW, z5, or_false] at hp; rcases hp with rfl <;> exact ⟨⟨_, by k_is, by kernel_rfl, by kernel_rfl, by kernel_rfl, by kernel_rfl⟩, ⟨_, by k_is, by kernel_rfl⟩⟩
  case law => exact ⟨_, _, _, _, _, _, _, _, _, _, by k_is, by k_is, by kernel_rfl, by k_is, .inl rfl⟩
  case fs =>
   repeat' refine And.intro ?_ ?_
   all_goals first | trivial | exact ⟨_, _, _, _, _, _, _, _, _, _, by k_is, by k_is, by kernel_rfl, by k_is, .inl rfl⟩ | exact ⟨_, _, _, _, _, _, _, _, _, _, _, by k_is, by k_is, by k_is, by kernel_rfl, by k_is, by k_is, .inl rfl⟩ | exact ⟨_, _, _, _, _, _, _, _, _, _, _, by k_is, by k_is, by k_is, by kernel_rfl, by k_is, by k_is, .inr ⟨_, _, _, rfl, rfl, by kernel_rfl, rfl⟩⟩ | exact ⟨_, by k_is, by kernel_rfl, by kernel_rfl⟩
#print axioms PySem.Challenge.cw_telltight_k08_whole_kinds_of_answers_holds
